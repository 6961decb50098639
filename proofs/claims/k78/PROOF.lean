import PyProof.Rows.All
import Wide.All
import OpenK.AllK
import Wide.FinOn
import HandS.Evl
import HandS.More
import HandS.Text
import HandS.Iter
import HandS.Comp
import HandS.Words
import HandS.WordsList
import HandS.Exc
import HandS.ExcOwn
import HandS.ExcIs
import HandS.SetFor
import HandS.Strs
import PyProof.NeKinds
import PyProof.EqKinds
import PyProof.EqAt
import HandS.TupAny
import HandS.IsInst
import HandS.WordsExc
import HandS.Lambda
import HandS.Deep
import HandS.Dict
import HandS.TupLe
import PyProof.TupleCall
import KE.SortData
import HandS.Sort
import HandS.Steps
import HandS.EndTab
import KE.KNestM
import PySem.Challenge.RW_housekept_k78_ways_and_cuts
set_option Elab.async false
set_option linter.all false
set_option maxRecDepth 100000
set_option maxHeartbeats 1000000
namespace Kx
open PySem PySem.Spec PyProof.Rows L2 Evl

/-! ## Data: what the law's values are -/
inductive D where
  | non | bl (b : Bool) | int (i : Int) | str (s : Str) | tup (ds : List D) | lst (ds : List D) | dic
/-- a tuple whose object is known to have no dict of its own -/
def TupS (H : Hp) (a : Addr) (vs : List V) : Prop := ∃ o : Obj, o.dict = none ∧ H a = some (.frz o (.tup vs))
theorem TupS.up {H H' : Hp} {a : Addr} {vs : List V} (h : TupS H a vs) (e : Ex H H') : TupS H' a vs := let ⟨o, h1, h2⟩ := h; ⟨o, h1, e _ _ h2⟩
theorem TupS.sq {K : PySem.W.Frag} {H : Hp} {a : Addr} {vs : List V} (h : TupS H a vs) : SqT K H a vs := let ⟨o, _, h2⟩ := h; .inl (.inr ⟨o, h2⟩)
mutual
inductive Rep (H : Hp) : V → D → Prop
  | non : Rep H .non .non
  | bl (b : Bool) : Rep H (.bl b) (.bl b)
  | int (i : Int) : Rep H (.int i) (.int i)
  | str (s : Str) : Rep H (.str s) (.str s)
  | tup {a : Addr} {vs : List V} {ds : List D} : TupS H a vs → Reps H vs ds → Rep H (.ref a) (.tup ds)
  | lst {a : Addr} {vs : List V} {ds : List D} : H a = some (.lst vs) → Reps H vs ds → Rep H (.ref a) (.lst ds)
  | dic {a : Addr} : H a = some (.dK []) → Rep H (.ref a) .dic
inductive Reps (H : Hp) : List V → List D → Prop
  | nil : Reps H [] []
  | cons {v : V} {vs : List V} {d : D} {ds : List D} : Rep H v d → Reps H vs ds → Reps H (v :: vs) (d :: ds)
end
mutual
theorem Rep.mono {H H' : Hp} (e : Ex H H') : ∀ (d : D) (v : V), Rep H v d → Rep H' v d
  | _, _, .non => .non
  | _, _, .bl b => .bl b
  | _, _, .int i => .int i
  | _, _, .str s => .str s
  | _, _, .tup h r => .tup (h.up e) (Reps.mono e _ _ r)
  | _, _, .lst h r => .lst (e _ _ h) (Reps.mono e _ _ r)
  | _, _, .dic h => .dic (e _ _ h)
theorem Reps.mono {H H' : Hp} (e : Ex H H') : ∀ (ds : List D) (vs : List V), Reps H vs ds → Reps H' vs ds
  | _, _, .nil => .nil
  | _, _, .cons r t => .cons (Rep.mono e _ _ r) (Reps.mono e _ _ t)
end
theorem Rep.up {H H' : Hp} {v : V} {d : D} (r : Rep H v d) (e : Ex H H') : Rep H' v d := r.mono e
theorem Reps.up {H H' : Hp} {vs : List V} {ds : List D} (r : Reps H vs ds) (e : Ex H H') : Reps H' vs ds := r.mono e
theorem Reps.length {H : Hp} : ∀ {vs : List V} {ds : List D}, Reps H vs ds → vs.length = ds.length
  | _, _, .nil => rfl
  | _, _, .cons _ t => by rw [List.length_cons, List.length_cons, Reps.length t]
theorem Reps.get {H : Hp} : ∀ {vs : List V} {ds : List D} {j : Nat} {v : V}, Reps H vs ds → vs[j]? = some v → ∃ d, ds[j]? = some d ∧ Rep H v d
  | _, _, _, _, .nil, h => by simp at h
  | _, _, 0, _, .cons r _, h => by
    have h2 := Option.some.inj h
    subst h2
    exact ⟨_, rfl, r⟩
  | _, _, j + 1, _, .cons _ t, h => Reps.get (j := j) t h
theorem Reps.getD {H : Hp} : ∀ {vs : List V} {ds : List D} {j : Nat} {d : D}, Reps H vs ds → ds[j]? = some d → ∃ v, vs[j]? = some v ∧ Rep H v d
  | _, _, _, _, .nil, h => by simp at h
  | _, _, 0, _, .cons r _, h => by
    have h2 := Option.some.inj h
    subst h2
    exact ⟨_, rfl, r⟩
  | _, _, j + 1, _, .cons _ t, h => Reps.getD (j := j) t h
theorem Reps.append {H : Hp} : ∀ {vs ws : List V} {ds es : List D}, Reps H vs ds → Reps H ws es → Reps H (vs ++ ws) (ds ++ es)
  | _, _, _, _, .nil, s => s
  | _, _, _, _, .cons r t, s => .cons r (Reps.append t s)
theorem Reps.take {H : Hp} : ∀ {vs : List V} {ds : List D} (n : Nat), Reps H vs ds → Reps H (vs.take n) (ds.take n)
  | _, _, 0, _ => .nil
  | _, _, _ + 1, .nil => .nil
  | _, _, n + 1, .cons r t => .cons r (Reps.take n t)
theorem Reps.drop {H : Hp} : ∀ {vs : List V} {ds : List D} (n : Nat), Reps H vs ds → Reps H (vs.drop n) (ds.drop n)
  | _, _, 0, r => r
  | _, _, _ + 1, .nil => .nil
  | _, _, n + 1, .cons _ t => Reps.drop n t
def sv (ss : List Str) : List V := ss.map V.str
theorem reps_strs {H : Hp} : ∀ ss : List Str, Reps H (sv ss) (ss.map D.str)
  | [] => .nil
  | s :: r => .cons (.str s) (reps_strs r)
theorem strs_of_reps {H : Hp} : ∀ {ss : List Str} {vs : List V}, Reps H vs (ss.map D.str) → vs = sv ss
  | [], _, .nil => rfl
  | s :: r, _, .cons h t => by
    cases h
    rw [strs_of_reps t]
    rfl

/-- the type's name -/
def D.ty : D → String
  | .non => "NoneType" | .bl _ => "bool" | .int _ => "int" | .str _ => "str" | .tup _ => "tuple" | .lst _ => "list" | .dic => "dict"
theorem Rep.tyB {K : PySem.W.Frag} {H : Hp} {v : V} {d : D} (r : Rep H v d) : TyB K H v d.ty := by
  cases r with
  | non => exact .non
  | bl b => exact .bl b
  | int i => exact .int i
  | str s => exact .str s
  | tup h _ => exact .tup h.sq
  | lst h _ => exact .lst (.of h)
  | dic h => exact .dK h
section
variable {K : PySem.W.Frag} {σ : L2.St} {H H' : Hp} {ta tb tc te tl : TE} {x y z v : V} {r r' : R2}
theorem ev_type {d : D} (h : Ev ta σ H v) (q : Rep H v d) : Ev (tCB (rTyp K) (tCons ta tNil)) σ H (.ty d.ty) :=
  ev_cb (ea_cons h ea_nil) fun H1 e Q k => ⟨v, d.ty, rfl, (q.up e).tyB, k H1 (Ex.refl _)⟩
theorem rv_isTy {a b : String} : RV (fun x y H Q => ∃ a b, x = V.ty a ∧ y = V.ty b ∧ Q (.bl (decide (a = b))) H) (.ty a) (.ty b) H (.bl (decide (a = b))) :=
  fun H1 e Q k => ⟨a, b, rfl, rfl, k H1 (Ex.refl _)⟩
theorem rv_notTy {a b : String} : RV rNT (.ty a) (.ty b) H (.bl (!decide (a = b))) := fun H1 e Q k => ⟨a, b, rfl, rfl, k H1 (Ex.refl _)⟩
/-- a op b op' c -/
theorem ev_chain {b1 b2 : Bool} (ha : Ev ta σ H x) (hb : Ev tb σ H y) (h1 : RV r x y H (.bl b1)) (hc : b1 = true → Ev tc σ H z) (h2 : b1 = true → RV r' y z H (.bl b2)) :
    Ev (tChain r r' ta tb tc) σ H (.bl (b1 && b2)) := fun H1 e1 Q q => ha H1 e1 _ fun H2 e2 => hb H2 (e1.trans e2) _ fun H3 e3 => h1 H3 ((e1.trans e2).trans e3) _ fun H4 e4 => ⟨b1, rfl, by
      have e14 := (e2.trans e3).trans e4
      have E := e1.trans e14
      cases b1 with
      | false => exact q H4 e14
      | true => exact hc rfl H4 E _ fun H5 e5 => h2 rfl H5 (E.trans e5) _ fun H6 e6 => q H6 ((e14.trans e5).trans e6)⟩
theorem et_val {b : Bool} (h : Ev te σ H (.bl b)) : EvT (fun σ H Q => te σ H fun x H1 => ∃ k, x = .bl k ∧ Q k H1) σ H b := fun H1 e Q q => h H1 e _ fun H2 e2 => ⟨b, rfl, q H2 e2⟩
theorem ev_chainT {b : Bool} (h : Ev te σ H (.bl b)) : EvT (tTest te) σ H b := et_test h
/-- all(..) of a new list of truths -/
theorem ev_all {bs : List Bool} (h : EvL te σ H (bs.map V.bl)) : Ev (tCB (rAll K) (tCons te tNil)) σ H (.bl (bs.all id)) := fun H1 e Q q =>
  h H1 e _ fun p H2 _ e2 hp => ⟨p, bs, rfl, .of hp, q H2 e2⟩
/-- [te for x in a tuple] -/
theorem el_lcT {i : Nat} {a : Addr} {xs ys : List V} (h : Ev tl σ H (.ref a)) (hx : SqT K H a xs) (hl : ys.length = xs.length) (hz : xs.length < 100000)
    (hy : ∀ (j : Nat) (x y : V), xs[j]? = some x → ys[j]? = some y → Ev te ((σ.set i none).set i (some x)) H y) : EvL (tLc (iTup K tl) (gName i) tYes te [i]) σ H ys := fun H1 e Q q =>
  h H1 e _ fun H2 e2 => ⟨a, rfl, ⟨xs, ex_t (e.trans e2) hx⟩, fun D hD =>
    lc_tup (xs := xs) (fun j H' => Ex H2 H' ∧ H' D = some (.lst (ys.take j))) ⟨Ex.new hD, upd_same⟩ (fun j H' _ p => ex_t ((e.trans e2).trans p.1) hx)
      (fun j x H' hj p => ⟨by show (((σ.set i none).set i (some x)).set i none) = (σ.set i none); rw [List.set_set, List.set_set], by
        have hlt : j < xs.length := (List.getElem?_eq_some_iff.mp hj).1
        have hlt2 : j < ys.length := by omega
        have gy : ys[j]? = some ys[j] := List.getElem?_eq_getElem hlt2
        refine hy j x _ hj gy H' ((e.trans e2).trans p.1) _ fun H3 e3 => ⟨ys.take j, e3 _ _ p.2, ?_, (p.1.trans e3).mut hD, ?_⟩
        · rw [List.length_take]
          exact sz_lt (Nat.lt_of_le_of_lt (Nat.min_le_right _ _) (by omega))
        · rw [upd_same, List.take_add_one, gy]
          rfl⟩)
      (fun H' p => q D H' (fresh_back e2 hD) (e2.trans p.1) (by rw [p.2, List.take_of_length_le (by omega)]))⟩
theorem el_lcL {i : Nat} {a : Addr} {xs ys : List V} (h : Ev tl σ H (.ref a)) (hx : SqL K H a xs) (hl : ys.length = xs.length) (hz : xs.length < 100000)
    (hy : ∀ (j : Nat) (x y : V), xs[j]? = some x → ys[j]? = some y → Ev te ((σ.set i none).set i (some x)) H y) : EvL (tLc (iList K tl) (gName i) tYes te [i]) σ H ys := fun H1 e Q q =>
  h H1 e _ fun H2 e2 => ⟨a, rfl, ⟨xs, ex_l (e.trans e2) hx⟩, fun D hD =>
    lc_list (xs := xs) (fun j H' => Ex H2 H' ∧ H' D = some (.lst (ys.take j))) ⟨Ex.new hD, upd_same⟩ (fun j H' _ p => ex_l ((e.trans e2).trans p.1) hx)
      (fun j x H' hj p => ⟨by show (((σ.set i none).set i (some x)).set i none) = (σ.set i none); rw [List.set_set, List.set_set], by
        have hlt : j < xs.length := (List.getElem?_eq_some_iff.mp hj).1
        have hlt2 : j < ys.length := by omega
        have gy : ys[j]? = some ys[j] := List.getElem?_eq_getElem hlt2
        refine hy j x _ hj gy H' ((e.trans e2).trans p.1) _ fun H3 e3 => ⟨ys.take j, e3 _ _ p.2, ?_, (p.1.trans e3).mut hD, ?_⟩
        · rw [List.length_take]
          exact sz_lt (Nat.lt_of_le_of_lt (Nat.min_le_right _ _) (by omega))
        · rw [upd_same, List.take_add_one, gy]
          rfl⟩)
      (fun H' p => q D H' (fresh_back e2 hD) (e2.trans p.1) (by rw [p.2, List.take_of_length_le (by omega)]))⟩
end
end Kx

set_option Elab.async false
set_option linter.all false
set_option maxRecDepth 100000
set_option maxHeartbeats 1000000
namespace Kx
open PySem PySem.Spec PyProof.Rows L2 Evl
def topK (i : Nat) : Stmt := PySem.Challenge.pw_housekept_k78_ways_and_cuts.main.body.getD i (.Pass ⟨0, 0, 0, 0⟩)
abbrev s_is_between : Stmt := topK 8
abbrev s_is_row : Stmt := topK 9
abbrev s_is_tuple : Stmt := topK 10
abbrev s_is_among : Stmt := topK 11
abbrev s_is_ascending : Stmt := topK 12
abbrev s_are_unlike : Stmt := topK 13
abbrev s_lots_below : Stmt := topK 14
abbrev s_is_name : Stmt := topK 16
abbrev s_are_names : Stmt := topK 17
abbrev s_is_door : Stmt := topK 18
abbrev s_are_doors : Stmt := topK 19
abbrev s_is_right : Stmt := topK 20
abbrev s_are_rights : Stmt := topK 21
abbrev s_is_building : Stmt := topK 22
abbrev s_areas_of : Stmt := topK 23
abbrev s_doors_of : Stmt := topK 24
abbrev s_door_names : Stmt := topK 25
abbrev s_check_building : Stmt := topK 26
abbrev s_check_area : Stmt := topK 27
abbrev s_check_free : Stmt := topK 29
abbrev s_steps_from : Stmt := topK 30
abbrev s_reached_from : Stmt := topK 31
abbrev s_all_ways : Stmt := topK 32
abbrev s_areas_joined : Stmt := topK 33
abbrev s_joined : Stmt := topK 34
abbrev s_least_way : Stmt := topK 35
abbrev s_check_ends : Stmt := topK 36
abbrev s_disjoint_ways : Stmt := topK 37
abbrev s_parting : Stmt := topK 38
abbrev s_narrows : Stmt := topK 39
abbrev s_law_begun : Stmt := topK 41
abbrev s_law_mixed : Stmt := topK 42
abbrev s_law_draw : Stmt := topK 43
abbrev s_law_pick : Stmt := topK 44
abbrev s_law_shuffled : Stmt := topK 45
abbrev s_law_caught : Stmt := topK 46
abbrev s_law_house : Stmt := topK 47
abbrev s_law_all_ways : Stmt := topK 48
abbrev s_law_least : Stmt := topK 49
abbrev s_law_parting_right : Stmt := topK 50
abbrev s_law_narrow : Stmt := topK 51
abbrev s_law_pair_right : Stmt := topK 52
abbrev s_law_joined_right : Stmt := topK 53
abbrev s_law_refusals_right : Stmt := topK 54
abbrev s_law : Stmt := topK 55
theorem sc_is_between : FnScope ["value", "low", "high"] ["value", "low", "high"] (defScope s_is_between) := ⟨rfl, rfl, rfl, by decide +kernel, rfl, by decide +kernel, by decide +kernel⟩
theorem sc_is_row : FnScope ["value"] ["value"] (defScope s_is_row) := ⟨rfl, rfl, rfl, by decide +kernel, rfl, by decide +kernel, by decide +kernel⟩
theorem sc_is_tuple : FnScope ["value", "least", "most"] ["value", "least", "most"] (defScope s_is_tuple) := ⟨rfl, rfl, rfl, by decide +kernel, rfl, by decide +kernel, by decide +kernel⟩
theorem sc_is_among : FnScope ["value", "names"] ["value", "names"] (defScope s_is_among) := ⟨rfl, rfl, rfl, by decide +kernel, rfl, by decide +kernel, by decide +kernel⟩
theorem sc_is_ascending : FnScope ["row", "at"] ["row"] (defScope s_is_ascending) := ⟨rfl, rfl, rfl, by decide +kernel, rfl, by decide +kernel, by decide +kernel⟩
theorem sc_are_unlike : FnScope ["row"] ["row"] (defScope s_are_unlike) := ⟨rfl, rfl, rfl, by decide +kernel, rfl, by decide +kernel, by decide +kernel⟩
theorem sc_lots_below : FnScope ["many", "found", "layer", "lot", "at"] ["many"] (defScope s_lots_below) := ⟨rfl, rfl, rfl, by decide +kernel, rfl, by decide +kernel, by decide +kernel⟩
theorem sc_is_name : FnScope ["value", "sign"] ["value"] (defScope s_is_name) := ⟨rfl, rfl, rfl, by decide +kernel, rfl, by decide +kernel, by decide +kernel⟩
theorem sc_are_names : FnScope ["value", "least", "most", "item"] ["value", "least", "most"] (defScope s_are_names) := ⟨rfl, rfl, rfl, by decide +kernel, rfl, by decide +kernel, by decide +kernel⟩
theorem sc_is_door : FnScope ["value", "areas"] ["value", "areas"] (defScope s_is_door) := ⟨rfl, rfl, rfl, by decide +kernel, rfl, by decide +kernel, by decide +kernel⟩
theorem sc_are_doors : FnScope ["value", "areas", "item"] ["value", "areas"] (defScope s_are_doors) := ⟨rfl, rfl, rfl, by decide +kernel, rfl, by decide +kernel, by decide +kernel⟩
theorem sc_is_right : FnScope ["value", "names", "kinds"] ["value", "names", "kinds"] (defScope s_is_right) := ⟨rfl, rfl, rfl, by decide +kernel, rfl, by decide +kernel, by decide +kernel⟩
theorem sc_are_rights : FnScope ["value", "doors", "kinds", "names", "door", "item", "kind", "side"] ["value", "doors", "kinds"] (defScope s_are_rights) := ⟨rfl, rfl, rfl, by decide +kernel, rfl, by decide +kernel, by decide +kernel⟩
theorem sc_is_building : FnScope ["value", "areas", "doors", "kinds", "rights"] ["value"] (defScope s_is_building) := ⟨rfl, rfl, rfl, by decide +kernel, rfl, by decide +kernel, by decide +kernel⟩
theorem sc_areas_of : FnScope ["building"] ["building"] (defScope s_areas_of) := ⟨rfl, rfl, rfl, by decide +kernel, rfl, by decide +kernel, by decide +kernel⟩
theorem sc_doors_of : FnScope ["building"] ["building"] (defScope s_doors_of) := ⟨rfl, rfl, rfl, by decide +kernel, rfl, by decide +kernel, by decide +kernel⟩
theorem sc_door_names : FnScope ["building", "door"] ["building"] (defScope s_door_names) := ⟨rfl, rfl, rfl, by decide +kernel, rfl, by decide +kernel, by decide +kernel⟩
theorem sc_check_building : FnScope ["building"] ["building"] (defScope s_check_building) := ⟨rfl, rfl, rfl, by decide +kernel, rfl, by decide +kernel, by decide +kernel⟩
theorem sc_check_area : FnScope ["building", "area"] ["building", "area"] (defScope s_check_area) := ⟨rfl, rfl, rfl, by decide +kernel, rfl, by decide +kernel, by decide +kernel⟩
theorem sc_check_free : FnScope ["building", "free", "names", "item"] ["building", "free"] (defScope s_check_free) := ⟨rfl, rfl, rfl, by decide +kernel, rfl, by decide +kernel, by decide +kernel⟩
theorem sc_steps_from : FnScope ["building", "free", "area", "steps", "name", "one", "other", "_"] ["building", "free", "area"] (defScope s_steps_from) := ⟨rfl, rfl, rfl, by decide +kernel, rfl, by decide +kernel, by decide +kernel⟩
theorem sc_reached_from : FnScope ["building", "free", "area", "reached", "at", "here", "_", "behind", "item"] ["building", "free", "area"] (defScope s_reached_from) := ⟨rfl, rfl, rfl, by decide +kernel, rfl, by decide +kernel, by decide +kernel⟩
theorem sc_all_ways : FnScope ["building", "free", "area", "other", "found", "layer", "going", "way", "doors", "met", "name", "behind"] ["building", "free", "area", "other"] (defScope s_all_ways) := ⟨rfl, rfl, rfl, by decide +kernel, rfl, by decide +kernel, by decide +kernel⟩
theorem sc_areas_joined : FnScope ["building", "free", "groups", "area", "group"] ["building", "free"] (defScope s_areas_joined) := ⟨rfl, rfl, rfl, by decide +kernel, rfl, by decide +kernel, by decide +kernel⟩
theorem sc_joined : FnScope ["building", "free"] ["building", "free"] (defScope s_joined) := ⟨rfl, rfl, rfl, by decide +kernel, rfl, by decide +kernel, by decide +kernel⟩
theorem sc_least_way : FnScope ["building", "free", "area", "other", "found"] ["building", "free", "area", "other"] (defScope s_least_way) := ⟨rfl, rfl, rfl, by decide +kernel, rfl, by decide +kernel, by decide +kernel⟩
theorem sc_check_ends : FnScope ["building", "free", "area", "other"] ["building", "free", "area", "other"] (defScope s_check_ends) := ⟨rfl, rfl, rfl, by decide +kernel, rfl, by decide +kernel, by decide +kernel⟩
theorem sc_disjoint_ways : FnScope ["ways", "many", "at", "rest", "found", "way"] ["ways", "many"] (defScope s_disjoint_ways) := ⟨rfl, rfl, rfl, by decide +kernel, rfl, by decide +kernel, by decide +kernel⟩
theorem sc_parting : FnScope ["building", "free", "area", "other", "ways", "names", "lot", "cut", "doors", "_", "name", "at", "way", "door"] ["building", "free", "area", "other"] (defScope s_parting) := ⟨rfl, rfl, rfl, by decide +kernel, rfl, by decide +kernel, by decide +kernel⟩
theorem sc_narrows : FnScope ["building", "free", "area", "other", "found", "between", "item"] ["building", "free", "area", "other"] (defScope s_narrows) := ⟨rfl, rfl, rfl, by decide +kernel, rfl, by decide +kernel, by decide +kernel⟩
theorem sc_law_begun : FnScope ["script", "great", "cell"] ["script"] (defScope s_law_begun) := ⟨rfl, rfl, rfl, by decide +kernel, rfl, by decide +kernel, by decide +kernel⟩
theorem sc_law_mixed : FnScope ["state", "turn", "found", "prime", "blend", "cell"] ["state"] (defScope s_law_mixed) := ⟨rfl, rfl, rfl, by decide +kernel, rfl, by decide +kernel, by decide +kernel⟩
theorem sc_law_draw : FnScope ["state", "room", "found"] ["state", "room"] (defScope s_law_draw) := ⟨rfl, rfl, rfl, by decide +kernel, rfl, by decide +kernel, by decide +kernel⟩
theorem sc_law_pick : FnScope ["state", "some"] ["state", "some"] (defScope s_law_pick) := ⟨rfl, rfl, rfl, by decide +kernel, rfl, by decide +kernel, by decide +kernel⟩
theorem sc_law_shuffled : FnScope ["state", "some", "left", "found"] ["state", "some"] (defScope s_law_shuffled) := ⟨rfl, rfl, rfl, by decide +kernel, rfl, by decide +kernel, by decide +kernel⟩
theorem sc_law_caught : FnScope ["action", "found", "error"] ["action"] (defScope s_law_caught) := ⟨rfl, rfl, rfl, by decide +kernel, rfl, by decide +kernel, by decide +kernel⟩
theorem sc_law_house : FnScope ["state", "areas", "doors", "name", "one", "other"] ["state"] (defScope s_law_house) := ⟨rfl, rfl, rfl, by decide +kernel, rfl, by decide +kernel, by decide +kernel⟩
theorem sc_law_all_ways : FnScope ["house", "open_ones", "here", "goal", "been", "found", "name", "one", "other", "sort", "start", "there", "doors", "areas"] ["house", "open_ones", "here", "goal", "been"] (defScope s_law_all_ways) := ⟨rfl, rfl, rfl, by decide +kernel, rfl, by decide +kernel, by decide +kernel⟩
theorem sc_law_least : FnScope ["house", "every", "names", "rows", "door", "doors", "areas", "name", "at"] ["house", "every"] (defScope s_law_least) := ⟨rfl, rfl, rfl, by decide +kernel, rfl, by decide +kernel, by decide +kernel⟩
theorem sc_law_parting_right : FnScope ["house", "open_ones", "every", "told", "cut", "rows", "names", "used", "one", "door", "name", "doors", "areas"] ["house", "open_ones", "every", "told"] (defScope s_law_parting_right) := ⟨rfl, rfl, rfl, by decide +kernel, rfl, by decide +kernel, by decide +kernel⟩
theorem sc_law_narrow : FnScope ["every", "first", "area"] ["every"] (defScope s_law_narrow) := ⟨rfl, rfl, rfl, by decide +kernel, rfl, by decide +kernel, by decide +kernel⟩
theorem sc_law_pair_right : FnScope ["state", "house", "open_ones", "area", "other", "every", "told", "caught"] ["state", "house", "open_ones"] (defScope s_law_pair_right) := ⟨rfl, rfl, rfl, by decide +kernel, rfl, by decide +kernel, by decide +kernel⟩
theorem sc_law_joined_right : FnScope ["house", "open_ones", "due", "area", "some", "told", "one"] ["house", "open_ones"] (defScope s_law_joined_right) := ⟨rfl, rfl, rfl, by decide +kernel, rfl, by decide +kernel, by decide +kernel⟩
theorem sc_law_refusals_right : FnScope ["state", "house", "open_ones", "name", "bad", "odd", "caught", "one"] ["state", "house", "open_ones"] (defScope s_law_refusals_right) := ⟨rfl, rfl, rfl, by decide +kernel, rfl, by decide +kernel, by decide +kernel⟩
theorem sc_law : FnScope ["script", "state", "lap", "house", "names", "open_ones", "turn", "door"] ["script"] (defScope s_law) := ⟨rfl, rfl, rfl, by decide +kernel, rfl, by decide +kernel, by decide +kernel⟩
/-- an own class of errors at C -/
structure ExK (K : PySem.W.Frag) (mg : Str → Option Value) (x : Str) (C : Addr) : Prop where
  g : mg x = some (.ref C)
  q : PySem.W.excIn K C [.type "ValueError", .type "Exception", .type "BaseException", .type "object"] "ValueError.__new__" = true
  kp : PySem.W.keepIn K (.ref C) = true
  bx : PySem.W.subIn K (.ref C) (.type "BaseException") = some true
  ty : PySem.W.typeIn K (.ref C) = some (.type "type")
  ex : ExcC K C
/-- where the text's defs and classes stand -/
structure Txt (K : PySem.W.Frag) (mg : Str → Option Value) where
  a_is_between : Addr
  d_is_between : FuncData
  F_is_between : Fun K "is_between" "is_between" s_is_between a_is_between d_is_between
  g_is_between : mg "is_between" = some (.ref a_is_between)
  a_is_row : Addr
  d_is_row : FuncData
  F_is_row : Fun K "is_row" "is_row" s_is_row a_is_row d_is_row
  g_is_row : mg "is_row" = some (.ref a_is_row)
  a_is_tuple : Addr
  d_is_tuple : FuncData
  F_is_tuple : Fun K "is_tuple" "is_tuple" s_is_tuple a_is_tuple d_is_tuple
  g_is_tuple : mg "is_tuple" = some (.ref a_is_tuple)
  a_is_among : Addr
  d_is_among : FuncData
  F_is_among : Fun K "is_among" "is_among" s_is_among a_is_among d_is_among
  g_is_among : mg "is_among" = some (.ref a_is_among)
  a_is_ascending : Addr
  d_is_ascending : FuncData
  F_is_ascending : Fun K "is_ascending" "is_ascending" s_is_ascending a_is_ascending d_is_ascending
  g_is_ascending : mg "is_ascending" = some (.ref a_is_ascending)
  a_are_unlike : Addr
  d_are_unlike : FuncData
  F_are_unlike : Fun K "are_unlike" "are_unlike" s_are_unlike a_are_unlike d_are_unlike
  g_are_unlike : mg "are_unlike" = some (.ref a_are_unlike)
  a_lots_below : Addr
  d_lots_below : FuncData
  F_lots_below : Fun K "lots_below" "lots_below" s_lots_below a_lots_below d_lots_below
  g_lots_below : mg "lots_below" = some (.ref a_lots_below)
  a_is_name : Addr
  d_is_name : FuncData
  F_is_name : Fun K "is_name" "is_name" s_is_name a_is_name d_is_name
  g_is_name : mg "is_name" = some (.ref a_is_name)
  a_are_names : Addr
  d_are_names : FuncData
  F_are_names : Fun K "are_names" "are_names" s_are_names a_are_names d_are_names
  g_are_names : mg "are_names" = some (.ref a_are_names)
  a_is_door : Addr
  d_is_door : FuncData
  F_is_door : Fun K "is_door" "is_door" s_is_door a_is_door d_is_door
  g_is_door : mg "is_door" = some (.ref a_is_door)
  a_are_doors : Addr
  d_are_doors : FuncData
  F_are_doors : Fun K "are_doors" "are_doors" s_are_doors a_are_doors d_are_doors
  g_are_doors : mg "are_doors" = some (.ref a_are_doors)
  a_is_right : Addr
  d_is_right : FuncData
  F_is_right : Fun K "is_right" "is_right" s_is_right a_is_right d_is_right
  g_is_right : mg "is_right" = some (.ref a_is_right)
  a_are_rights : Addr
  d_are_rights : FuncData
  F_are_rights : Fun K "are_rights" "are_rights" s_are_rights a_are_rights d_are_rights
  g_are_rights : mg "are_rights" = some (.ref a_are_rights)
  a_is_building : Addr
  d_is_building : FuncData
  F_is_building : Fun K "is_building" "is_building" s_is_building a_is_building d_is_building
  g_is_building : mg "is_building" = some (.ref a_is_building)
  a_areas_of : Addr
  d_areas_of : FuncData
  F_areas_of : Fun K "areas_of" "areas_of" s_areas_of a_areas_of d_areas_of
  g_areas_of : mg "areas_of" = some (.ref a_areas_of)
  a_doors_of : Addr
  d_doors_of : FuncData
  F_doors_of : Fun K "doors_of" "doors_of" s_doors_of a_doors_of d_doors_of
  g_doors_of : mg "doors_of" = some (.ref a_doors_of)
  a_door_names : Addr
  d_door_names : FuncData
  F_door_names : Fun K "door_names" "door_names" s_door_names a_door_names d_door_names
  g_door_names : mg "door_names" = some (.ref a_door_names)
  a_check_building : Addr
  d_check_building : FuncData
  F_check_building : Fun K "check_building" "check_building" s_check_building a_check_building d_check_building
  g_check_building : mg "check_building" = some (.ref a_check_building)
  a_check_area : Addr
  d_check_area : FuncData
  F_check_area : Fun K "check_area" "check_area" s_check_area a_check_area d_check_area
  g_check_area : mg "check_area" = some (.ref a_check_area)
  a_check_free : Addr
  d_check_free : FuncData
  F_check_free : Fun K "check_free" "check_free" s_check_free a_check_free d_check_free
  g_check_free : mg "check_free" = some (.ref a_check_free)
  a_steps_from : Addr
  d_steps_from : FuncData
  F_steps_from : Fun K "steps_from" "steps_from" s_steps_from a_steps_from d_steps_from
  g_steps_from : mg "steps_from" = some (.ref a_steps_from)
  a_reached_from : Addr
  d_reached_from : FuncData
  F_reached_from : Fun K "reached_from" "reached_from" s_reached_from a_reached_from d_reached_from
  g_reached_from : mg "reached_from" = some (.ref a_reached_from)
  a_all_ways : Addr
  d_all_ways : FuncData
  F_all_ways : Fun K "all_ways" "all_ways" s_all_ways a_all_ways d_all_ways
  g_all_ways : mg "all_ways" = some (.ref a_all_ways)
  a_areas_joined : Addr
  d_areas_joined : FuncData
  F_areas_joined : Fun K "areas_joined" "areas_joined" s_areas_joined a_areas_joined d_areas_joined
  g_areas_joined : mg "areas_joined" = some (.ref a_areas_joined)
  a_joined : Addr
  d_joined : FuncData
  F_joined : Fun K "joined" "joined" s_joined a_joined d_joined
  g_joined : mg "joined" = some (.ref a_joined)
  a_least_way : Addr
  d_least_way : FuncData
  F_least_way : Fun K "least_way" "least_way" s_least_way a_least_way d_least_way
  g_least_way : mg "least_way" = some (.ref a_least_way)
  a_check_ends : Addr
  d_check_ends : FuncData
  F_check_ends : Fun K "check_ends" "check_ends" s_check_ends a_check_ends d_check_ends
  g_check_ends : mg "check_ends" = some (.ref a_check_ends)
  a_disjoint_ways : Addr
  d_disjoint_ways : FuncData
  F_disjoint_ways : Fun K "disjoint_ways" "disjoint_ways" s_disjoint_ways a_disjoint_ways d_disjoint_ways
  g_disjoint_ways : mg "disjoint_ways" = some (.ref a_disjoint_ways)
  a_parting : Addr
  d_parting : FuncData
  F_parting : Fun K "parting" "parting" s_parting a_parting d_parting
  g_parting : mg "parting" = some (.ref a_parting)
  a_narrows : Addr
  d_narrows : FuncData
  F_narrows : Fun K "narrows" "narrows" s_narrows a_narrows d_narrows
  g_narrows : mg "narrows" = some (.ref a_narrows)
  a_law_begun : Addr
  d_law_begun : FuncData
  F_law_begun : Fun K "_law_begun" "_law_begun" s_law_begun a_law_begun d_law_begun
  g_law_begun : mg "_law_begun" = some (.ref a_law_begun)
  a_law_mixed : Addr
  d_law_mixed : FuncData
  F_law_mixed : Fun K "_law_mixed" "_law_mixed" s_law_mixed a_law_mixed d_law_mixed
  g_law_mixed : mg "_law_mixed" = some (.ref a_law_mixed)
  a_law_draw : Addr
  d_law_draw : FuncData
  F_law_draw : Fun K "_law_draw" "_law_draw" s_law_draw a_law_draw d_law_draw
  g_law_draw : mg "_law_draw" = some (.ref a_law_draw)
  a_law_pick : Addr
  d_law_pick : FuncData
  F_law_pick : Fun K "_law_pick" "_law_pick" s_law_pick a_law_pick d_law_pick
  g_law_pick : mg "_law_pick" = some (.ref a_law_pick)
  a_law_shuffled : Addr
  d_law_shuffled : FuncData
  F_law_shuffled : Fun K "_law_shuffled" "_law_shuffled" s_law_shuffled a_law_shuffled d_law_shuffled
  g_law_shuffled : mg "_law_shuffled" = some (.ref a_law_shuffled)
  a_law_caught : Addr
  d_law_caught : FuncData
  F_law_caught : Fun K "_law_caught" "_law_caught" s_law_caught a_law_caught d_law_caught
  g_law_caught : mg "_law_caught" = some (.ref a_law_caught)
  a_law_house : Addr
  d_law_house : FuncData
  F_law_house : Fun K "_law_house" "_law_house" s_law_house a_law_house d_law_house
  g_law_house : mg "_law_house" = some (.ref a_law_house)
  a_law_all_ways : Addr
  d_law_all_ways : FuncData
  F_law_all_ways : Fun K "_law_all_ways" "_law_all_ways" s_law_all_ways a_law_all_ways d_law_all_ways
  g_law_all_ways : mg "_law_all_ways" = some (.ref a_law_all_ways)
  a_law_least : Addr
  d_law_least : FuncData
  F_law_least : Fun K "_law_least" "_law_least" s_law_least a_law_least d_law_least
  g_law_least : mg "_law_least" = some (.ref a_law_least)
  a_law_parting_right : Addr
  d_law_parting_right : FuncData
  F_law_parting_right : Fun K "_law_parting_right" "_law_parting_right" s_law_parting_right a_law_parting_right d_law_parting_right
  g_law_parting_right : mg "_law_parting_right" = some (.ref a_law_parting_right)
  a_law_narrow : Addr
  d_law_narrow : FuncData
  F_law_narrow : Fun K "_law_narrow" "_law_narrow" s_law_narrow a_law_narrow d_law_narrow
  g_law_narrow : mg "_law_narrow" = some (.ref a_law_narrow)
  a_law_pair_right : Addr
  d_law_pair_right : FuncData
  F_law_pair_right : Fun K "_law_pair_right" "_law_pair_right" s_law_pair_right a_law_pair_right d_law_pair_right
  g_law_pair_right : mg "_law_pair_right" = some (.ref a_law_pair_right)
  a_law_joined_right : Addr
  d_law_joined_right : FuncData
  F_law_joined_right : Fun K "_law_joined_right" "_law_joined_right" s_law_joined_right a_law_joined_right d_law_joined_right
  g_law_joined_right : mg "_law_joined_right" = some (.ref a_law_joined_right)
  a_law_refusals_right : Addr
  d_law_refusals_right : FuncData
  F_law_refusals_right : Fun K "_law_refusals_right" "_law_refusals_right" s_law_refusals_right a_law_refusals_right d_law_refusals_right
  g_law_refusals_right : mg "_law_refusals_right" = some (.ref a_law_refusals_right)
  a_law : Addr
  d_law : FuncData
  F_law : Fun K "law" "law" s_law a_law d_law
  g_law : mg "law" = some (.ref a_law)
  c_KeptError : Addr
  E_KeptError : ExK K mg "KeptError" c_KeptError
  u_KeptError : PySem.W.subIn K (.ref c_KeptError) (.ref c_KeptError) = some true
  c_BadArea : Addr
  E_BadArea : ExK K mg "BadArea" c_BadArea
  u_BadArea : PySem.W.subIn K (.ref c_BadArea) (.ref c_KeptError) = some true
  c_BadBuilding : Addr
  E_BadBuilding : ExK K mg "BadBuilding" c_BadBuilding
  u_BadBuilding : PySem.W.subIn K (.ref c_BadBuilding) (.ref c_KeptError) = some true
  c_BadDoors : Addr
  E_BadDoors : ExK K mg "BadDoors" c_BadDoors
  u_BadDoors : PySem.W.subIn K (.ref c_BadDoors) (.ref c_KeptError) = some true
  c_NoWay : Addr
  E_NoWay : ExK K mg "NoWay" c_NoWay
  u_NoWay : PySem.W.subIn K (.ref c_NoWay) (.ref c_KeptError) = some true
  c_SameArea : Addr
  E_SameArea : ExK K mg "SameArea" c_SameArea
  u_SameArea : PySem.W.subIn K (.ref c_SameArea) (.ref c_KeptError) = some true
  q_BadArea : PySem.W.kitOne K (.ref c_BadArea) (.ref c_BadArea) = some true
  q_BadDoors : PySem.W.kitOne K (.ref c_BadDoors) (.ref c_BadDoors) = some true
  q_NoWay : PySem.W.kitOne K (.ref c_NoWay) (.ref c_NoWay) = some true
  q_SameArea : PySem.W.kitOne K (.ref c_SameArea) (.ref c_SameArea) = some true
  z_type : mg "type" = none
  z_int : mg "int" = none
  z_str : mg "str" = none
  z_bool : mg "bool" = none
  z_tuple : mg "tuple" = none
  z_list : mg "list" = none
  z_len : mg "len" = none
  z_all : mg "all" = none
  z_any : mg "any" = none
  z_set : mg "set" = none
  z_range : mg "range" = none
  z_isinstance : mg "isinstance" = none
  z_abs : mg "abs" = none
  z_min : mg "min" = none
  z_sorted : mg "sorted" = none
theorem bo_type : bootBuiltins "type" = some (.type "type") := by decide +kernel
theorem bo_int : bootBuiltins "int" = some (.type "int") := by decide +kernel
theorem bo_str : bootBuiltins "str" = some (.type "str") := by decide +kernel
theorem bo_bool : bootBuiltins "bool" = some (.type "bool") := by decide +kernel
theorem bo_tuple : bootBuiltins "tuple" = some (.type "tuple") := by decide +kernel
theorem bo_list : bootBuiltins "list" = some (.type "list") := by decide +kernel
theorem bo_set : bootBuiltins "set" = some (.type "set") := by decide +kernel
theorem bo_range : bootBuiltins "range" = some (.type "range") := by decide +kernel
theorem bo_len : bootBuiltins "len" = some (.builtin "len") := by decide +kernel
theorem bo_all : bootBuiltins "all" = some (.builtin "all") := by decide +kernel
theorem bo_any : bootBuiltins "any" = some (.builtin "any") := by decide +kernel
theorem bo_isinstance : bootBuiltins "isinstance" = some (.builtin "isinstance") := by decide +kernel
theorem bo_abs : bootBuiltins "abs" = some (.builtin "abs") := by decide +kernel
theorem bo_min : bootBuiltins "min" = some (.builtin "min") := by decide +kernel
theorem bo_sorted : bootBuiltins "sorted" = some (.builtin "sorted") := by decide +kernel
variable {K : PySem.W.Frag} {mg : Str → Option Value}
theorem b_is_between (T : Txt K mg) : Binds K T.d_is_between ["value", "low", "high"] [] := T.F_is_between.binds (ps := ["value", "low", "high"]) fun _ _ _ _ _ _ us hl => match us, hl with | [_, _, _], _ => rfl
theorem b_is_row (T : Txt K mg) : Binds K T.d_is_row ["value"] [] := T.F_is_row.binds (ps := ["value"]) fun _ _ _ _ _ _ us hl => match us, hl with | [_], _ => rfl
theorem b_is_tuple (T : Txt K mg) : Binds K T.d_is_tuple ["value", "least", "most"] [] := T.F_is_tuple.binds (ps := ["value", "least", "most"]) fun _ _ _ _ _ _ us hl => match us, hl with | [_, _, _], _ => rfl
theorem b_is_among (T : Txt K mg) : Binds K T.d_is_among ["value", "names"] [] := T.F_is_among.binds (ps := ["value", "names"]) fun _ _ _ _ _ _ us hl => match us, hl with | [_, _], _ => rfl
theorem b_is_ascending (T : Txt K mg) : Binds K T.d_is_ascending ["row"] [] := T.F_is_ascending.binds (ps := ["row"]) fun _ _ _ _ _ _ us hl => match us, hl with | [_], _ => rfl
theorem b_are_unlike (T : Txt K mg) : Binds K T.d_are_unlike ["row"] [] := T.F_are_unlike.binds (ps := ["row"]) fun _ _ _ _ _ _ us hl => match us, hl with | [_], _ => rfl
theorem b_lots_below (T : Txt K mg) : Binds K T.d_lots_below ["many"] [] := T.F_lots_below.binds (ps := ["many"]) fun _ _ _ _ _ _ us hl => match us, hl with | [_], _ => rfl
theorem b_is_name (T : Txt K mg) : Binds K T.d_is_name ["value"] [] := T.F_is_name.binds (ps := ["value"]) fun _ _ _ _ _ _ us hl => match us, hl with | [_], _ => rfl
theorem b_are_names (T : Txt K mg) : Binds K T.d_are_names ["value", "least", "most"] [] := T.F_are_names.binds (ps := ["value", "least", "most"]) fun _ _ _ _ _ _ us hl => match us, hl with | [_, _, _], _ => rfl
theorem b_is_door (T : Txt K mg) : Binds K T.d_is_door ["value", "areas"] [] := T.F_is_door.binds (ps := ["value", "areas"]) fun _ _ _ _ _ _ us hl => match us, hl with | [_, _], _ => rfl
theorem b_are_doors (T : Txt K mg) : Binds K T.d_are_doors ["value", "areas"] [] := T.F_are_doors.binds (ps := ["value", "areas"]) fun _ _ _ _ _ _ us hl => match us, hl with | [_, _], _ => rfl
theorem b_is_right (T : Txt K mg) : Binds K T.d_is_right ["value", "names", "kinds"] [] := T.F_is_right.binds (ps := ["value", "names", "kinds"]) fun _ _ _ _ _ _ us hl => match us, hl with | [_, _, _], _ => rfl
theorem b_are_rights (T : Txt K mg) : Binds K T.d_are_rights ["value", "doors", "kinds"] [] := T.F_are_rights.binds (ps := ["value", "doors", "kinds"]) fun _ _ _ _ _ _ us hl => match us, hl with | [_, _, _], _ => rfl
theorem b_is_building (T : Txt K mg) : Binds K T.d_is_building ["value"] [] := T.F_is_building.binds (ps := ["value"]) fun _ _ _ _ _ _ us hl => match us, hl with | [_], _ => rfl
theorem b_areas_of (T : Txt K mg) : Binds K T.d_areas_of ["building"] [] := T.F_areas_of.binds (ps := ["building"]) fun _ _ _ _ _ _ us hl => match us, hl with | [_], _ => rfl
theorem b_doors_of (T : Txt K mg) : Binds K T.d_doors_of ["building"] [] := T.F_doors_of.binds (ps := ["building"]) fun _ _ _ _ _ _ us hl => match us, hl with | [_], _ => rfl
theorem b_door_names (T : Txt K mg) : Binds K T.d_door_names ["building"] [] := T.F_door_names.binds (ps := ["building"]) fun _ _ _ _ _ _ us hl => match us, hl with | [_], _ => rfl
theorem b_check_building (T : Txt K mg) : Binds K T.d_check_building ["building"] [] := T.F_check_building.binds (ps := ["building"]) fun _ _ _ _ _ _ us hl => match us, hl with | [_], _ => rfl
theorem b_check_area (T : Txt K mg) : Binds K T.d_check_area ["building", "area"] [] := T.F_check_area.binds (ps := ["building", "area"]) fun _ _ _ _ _ _ us hl => match us, hl with | [_, _], _ => rfl
theorem b_check_free (T : Txt K mg) : Binds K T.d_check_free ["building", "free"] [] := T.F_check_free.binds (ps := ["building", "free"]) fun _ _ _ _ _ _ us hl => match us, hl with | [_, _], _ => rfl
theorem b_steps_from (T : Txt K mg) : Binds K T.d_steps_from ["building", "free", "area"] [] := T.F_steps_from.binds (ps := ["building", "free", "area"]) fun _ _ _ _ _ _ us hl => match us, hl with | [_, _, _], _ => rfl
theorem b_reached_from (T : Txt K mg) : Binds K T.d_reached_from ["building", "free", "area"] [] := T.F_reached_from.binds (ps := ["building", "free", "area"]) fun _ _ _ _ _ _ us hl => match us, hl with | [_, _, _], _ => rfl
theorem b_all_ways (T : Txt K mg) : Binds K T.d_all_ways ["building", "free", "area", "other"] [] := T.F_all_ways.binds (ps := ["building", "free", "area", "other"]) fun _ _ _ _ _ _ us hl => match us, hl with | [_, _, _, _], _ => rfl
theorem b_areas_joined (T : Txt K mg) : Binds K T.d_areas_joined ["building", "free"] [] := T.F_areas_joined.binds (ps := ["building", "free"]) fun _ _ _ _ _ _ us hl => match us, hl with | [_, _], _ => rfl
theorem b_joined (T : Txt K mg) : Binds K T.d_joined ["building", "free"] [] := T.F_joined.binds (ps := ["building", "free"]) fun _ _ _ _ _ _ us hl => match us, hl with | [_, _], _ => rfl
theorem b_least_way (T : Txt K mg) : Binds K T.d_least_way ["building", "free", "area", "other"] [] := T.F_least_way.binds (ps := ["building", "free", "area", "other"]) fun _ _ _ _ _ _ us hl => match us, hl with | [_, _, _, _], _ => rfl
theorem b_check_ends (T : Txt K mg) : Binds K T.d_check_ends ["building", "free", "area", "other"] [] := T.F_check_ends.binds (ps := ["building", "free", "area", "other"]) fun _ _ _ _ _ _ us hl => match us, hl with | [_, _, _, _], _ => rfl
theorem b_disjoint_ways (T : Txt K mg) : Binds K T.d_disjoint_ways ["ways", "many"] [] := T.F_disjoint_ways.binds (ps := ["ways", "many"]) fun _ _ _ _ _ _ us hl => match us, hl with | [_, _], _ => rfl
theorem b_parting (T : Txt K mg) : Binds K T.d_parting ["building", "free", "area", "other"] [] := T.F_parting.binds (ps := ["building", "free", "area", "other"]) fun _ _ _ _ _ _ us hl => match us, hl with | [_, _, _, _], _ => rfl
theorem b_narrows (T : Txt K mg) : Binds K T.d_narrows ["building", "free", "area", "other"] [] := T.F_narrows.binds (ps := ["building", "free", "area", "other"]) fun _ _ _ _ _ _ us hl => match us, hl with | [_, _, _, _], _ => rfl
theorem b_law_begun (T : Txt K mg) : Binds K T.d_law_begun ["script"] [] := T.F_law_begun.binds (ps := ["script"]) fun _ _ _ _ _ _ us hl => match us, hl with | [_], _ => rfl
theorem b_law_mixed (T : Txt K mg) : Binds K T.d_law_mixed ["state"] [] := T.F_law_mixed.binds (ps := ["state"]) fun _ _ _ _ _ _ us hl => match us, hl with | [_], _ => rfl
theorem b_law_draw (T : Txt K mg) : Binds K T.d_law_draw ["state", "room"] [] := T.F_law_draw.binds (ps := ["state", "room"]) fun _ _ _ _ _ _ us hl => match us, hl with | [_, _], _ => rfl
theorem b_law_pick (T : Txt K mg) : Binds K T.d_law_pick ["state", "some"] [] := T.F_law_pick.binds (ps := ["state", "some"]) fun _ _ _ _ _ _ us hl => match us, hl with | [_, _], _ => rfl
theorem b_law_shuffled (T : Txt K mg) : Binds K T.d_law_shuffled ["state", "some"] [] := T.F_law_shuffled.binds (ps := ["state", "some"]) fun _ _ _ _ _ _ us hl => match us, hl with | [_, _], _ => rfl
theorem b_law_caught (T : Txt K mg) : Binds K T.d_law_caught ["action"] [] := T.F_law_caught.binds (ps := ["action"]) fun _ _ _ _ _ _ us hl => match us, hl with | [_], _ => rfl
theorem b_law_house (T : Txt K mg) : Binds K T.d_law_house ["state"] [] := T.F_law_house.binds (ps := ["state"]) fun _ _ _ _ _ _ us hl => match us, hl with | [_], _ => rfl
theorem b_law_all_ways (T : Txt K mg) : Binds K T.d_law_all_ways ["house", "open_ones", "here", "goal", "been"] [] := T.F_law_all_ways.binds (ps := ["house", "open_ones", "here", "goal", "been"]) fun _ _ _ _ _ _ us hl => match us, hl with | [_, _, _, _, _], _ => rfl
theorem b_law_least (T : Txt K mg) : Binds K T.d_law_least ["house", "every"] [] := T.F_law_least.binds (ps := ["house", "every"]) fun _ _ _ _ _ _ us hl => match us, hl with | [_, _], _ => rfl
theorem b_law_parting_right (T : Txt K mg) : Binds K T.d_law_parting_right ["house", "open_ones", "every", "told"] [] := T.F_law_parting_right.binds (ps := ["house", "open_ones", "every", "told"]) fun _ _ _ _ _ _ us hl => match us, hl with | [_, _, _, _], _ => rfl
theorem b_law_narrow (T : Txt K mg) : Binds K T.d_law_narrow ["every"] [] := T.F_law_narrow.binds (ps := ["every"]) fun _ _ _ _ _ _ us hl => match us, hl with | [_], _ => rfl
theorem b_law_pair_right (T : Txt K mg) : Binds K T.d_law_pair_right ["state", "house", "open_ones"] [] := T.F_law_pair_right.binds (ps := ["state", "house", "open_ones"]) fun _ _ _ _ _ _ us hl => match us, hl with | [_, _, _], _ => rfl
theorem b_law_joined_right (T : Txt K mg) : Binds K T.d_law_joined_right ["house", "open_ones"] [] := T.F_law_joined_right.binds (ps := ["house", "open_ones"]) fun _ _ _ _ _ _ us hl => match us, hl with | [_, _], _ => rfl
theorem b_law_refusals_right (T : Txt K mg) : Binds K T.d_law_refusals_right ["state", "house", "open_ones"] [] := T.F_law_refusals_right.binds (ps := ["state", "house", "open_ones"]) fun _ _ _ _ _ _ us hl => match us, hl with | [_, _, _], _ => rfl
theorem b_law (T : Txt K mg) : Binds K T.d_law ["script"] [] := T.F_law.binds (ps := ["script"]) fun _ _ _ _ _ _ us hl => match us, hl with | [_], _ => rfl
end Kx

set_option Elab.async false
set_option linter.all false
set_option maxRecDepth 100000
set_option maxHeartbeats 1000000
namespace Kx
open PySem PySem.Spec PyProof.Rows L2 Evl
/-! ## promises of defs that only read -/
abbrev OkF := List V → Hp → V → Prop
def spX (ok : OkF) : Sp := fun vs H Q _ => ∃ z, ok vs H z ∧ ∀ H', Ex H H' → Q z H'
def Stb (ok : OkF) : Prop := ∀ (vs : List V) (H H' : Hp) (z : V), Ex H H' → ok vs H z → ok vs H' z
theorem spv {ok : OkF} (st : Stb ok) {vs : List V} {H : Hp} {z : V} (h : ok vs H z) : SpV (spX ok) vs H z := fun _ e Q q E => ⟨z, st _ _ _ _ e h, fun H2 e2 => q H2 e2⟩
/-- type(e) is T -/
abbrev tTyIs (K : PySem.W.Frag) (te : TE) (T : String) : TE := tOp (fun x y H Q => ∃ a b, x = V.ty a ∧ y = V.ty b ∧ Q (.bl (decide (a = b))) H) (tCB (rTyp K) (tCons te tNil)) (tC (.ty T))
abbrev tTyNo (K : PySem.W.Frag) (te : TE) (T : String) : TE := tOp rNT (tCB (rTyp K) (tCons te tNil)) (tC (.ty T))
section
variable {X : Cx} {e : Expr} {te : TE} {n : Str} {N : String} {p1 p2 p3 pos : Pos}
theorem pe_tyIs (hz : X.mg "type" = none) (hn : X.mg n = none) (hb : bootBuiltins n = some (.type N)) (he : PE X e te) (g1 : Gl X "type" := by rfl) (g2 : Gl X n := by rfl)
    (na : starEach [e] X.env = (false, eval e X.env) :: starEach [] X.env := by rfl) (nm : n ≠ "__name__" := by decide) (nd : (n == ("__debug__" : Str)) = false := by decide) :
    PE X (.Compare (.Call (.Name "type" p1) [e] [] p2) [.Is] [.Name n p3] pos) (tTyIs X.K te N) :=
  pe_cmpR op_isTyB (pe_callTy call_type1 g1 hz bo_type (pa_cons he pa_nil na) (he := na)) (pe_bltn g2 hn hb rfl nm nd) (nomark _)
theorem pe_tyNo (hz : X.mg "type" = none) (hn : X.mg n = none) (hb : bootBuiltins n = some (.type N)) (he : PE X e te) (g1 : Gl X "type" := by rfl) (g2 : Gl X n := by rfl)
    (na : starEach [e] X.env = (false, eval e X.env) :: starEach [] X.env := by rfl) (nm : n ≠ "__name__" := by decide) (nd : (n == ("__debug__" : Str)) = false := by decide) :
    PE X (.Compare (.Call (.Name "type" p1) [e] [] p2) [.IsNot] [.Name n p3] pos) (tTyNo X.K te N) :=
  pe_cmpR op_notTyB (pe_callTy call_type1 g1 hz bo_type (pa_cons he pa_nil na) (he := na)) (pe_bltn g2 hn hb rfl nm nd) (nomark _)
theorem pt_tyIs (hz : X.mg "type" = none) (hn : X.mg n = none) (hb : bootBuiltins n = some (.type N)) (he : PE X e te) (g1 : Gl X "type" := by rfl) (g2 : Gl X n := by rfl)
    (na : starEach [e] X.env = (false, eval e X.env) :: starEach [] X.env := by rfl) (nm : n ≠ "__name__" := by decide) (nd : (n == ("__debug__" : Str)) = false := by decide) :
    PT X (.Compare (.Call (.Name "type" p1) [e] [] p2) [.Is] [.Name n p3] pos) (tTest (tTyIs X.K te N)) :=
  pt_cmpR op_isTyB (pe_callTy call_type1 g1 hz bo_type (pa_cons he pa_nil na) (he := na)) (pe_bltn g2 hn hb rfl nm nd) (nomark _)
theorem pt_tyNo (hz : X.mg "type" = none) (hn : X.mg n = none) (hb : bootBuiltins n = some (.type N)) (he : PE X e te) (g1 : Gl X "type" := by rfl) (g2 : Gl X n := by rfl)
    (na : starEach [e] X.env = (false, eval e X.env) :: starEach [] X.env := by rfl) (nm : n ≠ "__name__" := by decide) (nd : (n == ("__debug__" : Str)) = false := by decide) :
    PT X (.Compare (.Call (.Name "type" p1) [e] [] p2) [.IsNot] [.Name n p3] pos) (tTest (tTyNo X.K te N)) :=
  pt_cmpR op_notTyB (pe_callTy call_type1 g1 hz bo_type (pa_cons he pa_nil na) (he := na)) (pe_bltn g2 hn hb rfl nm nd) (nomark _)
end
section
variable {K : PySem.W.Frag} {σ : L2.St} {H : Hp} {te : TE} {v : V} {d : D} {T : String}
theorem ev_tyIs (h : Ev te σ H v) (q : Rep H v d) : Ev (tTyIs K te T) σ H (.bl (decide (d.ty = T))) := ev_op (ev_type h q) ev_c rv_isTy
theorem ev_tyNo (h : Ev te σ H v) (q : Rep H v d) : Ev (tTyNo K te T) σ H (.bl (!decide (d.ty = T))) := ev_op (ev_type h q) ev_c rv_notTy
end
theorem ty_int : ∀ {d : D}, d.ty = "int" → ∃ i, d = .int i
  | .int i, _ => ⟨i, rfl⟩
  | .non, h | .bl _, h | .str _, h | .tup _, h | .lst _, h | .dic, h => by simp [D.ty] at h
theorem ty_tup : ∀ {d : D}, d.ty = "tuple" → ∃ ds, d = .tup ds
  | .tup ds, _ => ⟨ds, rfl⟩
  | .non, h | .bl _, h | .str _, h | .int _, h | .lst _, h | .dic, h => by simp [D.ty] at h
theorem ty_str : ∀ {d : D}, d.ty = "str" → ∃ s, d = .str s
  | .str s, _ => ⟨s, rfl⟩
  | .non, h | .bl _, h | .tup _, h | .int _, h | .lst _, h | .dic, h => by simp [D.ty] at h
theorem Rep.tupD {H : Hp} {v : V} {ds : List D} (r : Rep H v (.tup ds)) : ∃ a vs, v = .ref a ∧ TupS H a vs ∧ Reps H vs ds := by
  cases r with
  | tup h s => exact ⟨_, _, rfl, h, s⟩
theorem Rep.lstD {H : Hp} {v : V} {ds : List D} (r : Rep H v (.lst ds)) : ∃ a vs, v = .ref a ∧ H a = some (.lst vs) ∧ Reps H vs ds := by
  cases r with
  | lst h s => exact ⟨_, _, rfl, h, s⟩
theorem Rep.strD {H : Hp} {v : V} {s : Str} (r : Rep H v (.str s)) : v = .str s := by
  cases r
  rfl
theorem Rep.intD {H : Hp} {v : V} {i : Int} (r : Rep H v (.int i)) : v = .int i := by
  cases r
  rfl
/-! ## mirrors -/
def isBetw (d : D) (lo hi : Int) : Bool := match d with
  | .int i => decide (lo ≤ i) && decide (i ≤ hi)
  | _ => false
def isTup (d : D) (lo hi : Int) : Bool := match d with
  | .tup ds => decide (lo ≤ (ds.length : Int)) && decide ((ds.length : Int) ≤ hi)
  | _ => false
def isAmong (d : D) (ns : List Str) : Bool := match d with
  | .str s => ns.contains s
  | _ => false
def okBetw : OkF := fun vs H z => ∃ v d lo hi, vs = [v, .int lo, .int hi] ∧ Rep H v d ∧ z = .bl (isBetw d lo hi)
def okTup : OkF := fun vs H z => ∃ v d lo hi, vs = [v, .int lo, .int hi] ∧ Rep H v d ∧ z = .bl (isTup d lo hi)
theorem stb_betw : Stb okBetw := fun _ _ _ _ e ⟨v, d, lo, hi, h1, h2, h3⟩ => ⟨v, d, lo, hi, h1, h2.up e, h3⟩
theorem stb_tup : Stb okTup := fun _ _ _ _ e ⟨v, d, lo, hi, h1, h2, h3⟩ => ⟨v, d, lo, hi, h1, h2.up e, h3⟩
section
variable {P : Program} {w : World} {K : PySem.W.Frag} {mg : Str → Option Value} {base : Heap} (T : Txt K mg)
theorem ok_is_between : FnOk P w K mg base CX0 1 T.a_is_between T.d_is_between ["value", "low", "high"] (spX okBetw) := by
  refine T.F_is_between.ok sc_is_between (fun vs H Q E h => ?_) (fun cdv A outer s H vs Q E hr h => ?_)
  · obtain ⟨z, ⟨v, d, lo, hi, rfl, _⟩, _⟩ := h
    rfl
  · obtain ⟨z, ⟨v, d, lo, hi, rfl, hv, rfl⟩, q⟩ := h
    refine ⟨_, pss_one (ps_ret (pe_and (pe_tyIs T.z_type T.z_int bo_int (pv 0)) (pe_one (pe_chain op_le op_le (pv 1) (pv 0) (pv 2))))), ?_⟩
    refine s_ret (v := .bl (isBetw d lo hi)) ?_ q
    refine ev_is (ev_andV (b := isBetw d lo hi) (ev_tyIs (ev_var rfl) hv) fun ht => ?_) ?_
    · obtain ⟨i, rfl⟩ := ty_int (of_decide_eq_true ht)
      cases hv
      exact ev_chain (ev_var rfl) (ev_var rfl) rv_I0 (fun _ => ev_var rfl) (fun _ => rv_I0)
    · cases d <;> first | rfl | (simp [D.ty, isBetw])
theorem ok_is_tuple : FnOk P w K mg base CX0 1 T.a_is_tuple T.d_is_tuple ["value", "least", "most"] (spX okTup) := by
  refine T.F_is_tuple.ok sc_is_tuple (fun vs H Q E h => ?_) (fun cdv A outer s H vs Q E hr h => ?_)
  · obtain ⟨z, ⟨v, d, lo, hi, rfl, _⟩, _⟩ := h
    rfl
  · obtain ⟨z, ⟨v, d, lo, hi, rfl, hv, rfl⟩, q⟩ := h
    refine ⟨_, pss_one (ps_ret (pe_and (pe_tyIs T.z_type T.z_tuple bo_tuple (pv 0)) (pe_one (pe_chain op_le op_le (pv 1) (pe_callB call_len_seq (by rfl) T.z_len bo_len (pa_cons (pv 0) pa_nil)) (pv 2))))), ?_⟩
    refine s_ret (v := .bl (isTup d lo hi)) ?_ q
    refine ev_is (ev_andV (b := isTup d lo hi) (ev_tyIs (ev_var rfl) hv) fun ht => ?_) ?_
    · obtain ⟨ds, rfl⟩ := ty_tup (of_decide_eq_true ht)
      obtain ⟨a, vs, rfl, ha, hs⟩ := hv.tupD
      refine ev_chain (ev_var rfl) (ev_cb (ea_cons (ev_var rfl) ea_nil) fun H1 e Q k => ⟨a, vs, rfl, .inr (ha.up e).sq, by rw [hs.length]; exact k H1 (Ex.refl _)⟩) rv_I0 (fun _ => ev_var rfl) (fun _ => rv_I0)
    · cases d <;> first | rfl | (simp [D.ty, isTup])
end
end Kx

set_option Elab.async false
set_option linter.all false
set_option maxRecDepth 100000
set_option maxHeartbeats 3200000
namespace Kx
open PySem PySem.Spec PyProof.Rows L2
/-! ## set(v), v a list or a tuple: one rule, whatever the loop promises -/
/-- the object of a set that holds nothing yet -/
def set0 (w : World) : Obj := { cls := .type "set", dict := none, data := .set #[] 0 (.fresh 0 0 (!w.params.followText "set-order")) }
section
variable {P : Program} {w : World} {A : Around} {E : Value → Shared → Prop} {s : Shared}
/-- s, and behind its objects an empty set -/
abbrev born (w : World) (s : Shared) : Shared := { s with heap := s.heap.push (set0 w) }
/-- the wish for a call of set's own beginning: None, and then Q of the set -/
abbrev Filled (S : Addr) (Q E : Value → Shared → Prop) : Result → Shared → Prop := wants (fun r u => r = .none ∧ Q (.ref S) u) E
theorem set_by {v : Value} {Q : Value → Shared → Prop}
    (fill : codeAny (model P w) A.in1 (.call (.builtin "set.__init__") ⟨[.ref s.heap.objs.size, v], []⟩) (Filled s.heap.objs.size Q E) (born w s)) :
    wpAny (model P w) A (call (.type "set") [v]) Q E s := by
  have mk : codeAny (model P w) A.in1 (.call (.builtin "set.__new__") ⟨[.type "set", v], []⟩) (wants (fun y u => y = .ref s.heap.objs.size ∧ u = born w s) E) s :=
    code_set_led1 v ⟨rfl, rfl⟩
  have isS : (born w s).TypeIs (.ref s.heap.objs.size) "set" := ⟨set0 w, Heap.get?_push_size _ rfl, rfl⟩
  have T := F.called_set
  have t1 := T.notType
  have t2 := T.canCreate
  have t3 := T.made
  have t4 := T.sub
  have t5 := F.typeCall_set_1 v
  have t6 := T.init.lookup
  have t7 := T.init.bind (.ref s.heap.objs.size)
  have ⟨top, rest, t8⟩ := T.mro
  apply wpAny_call
  apply codeAny_of_tree
  show wpAny _ A.in1 (callAny (.type "set") ⟨[v], []⟩) _ _ s
  apply wpAny_pure
  refine And.intro (Code.quiet_builtin _ (by decide +kernel)) (codeAny_builtin F.entry_type_call ?_)
  rw [show A.under (.builtin "type.__call__" ⟨[.type "set", v], []⟩) = A.in1 from Around.under_plain (weight_type_call_type "set" [v] []) rfl]
  repeat (any_goals (first | assumption | wp_step))
  refine codeAny_mono mk fun r u hr => ?_
  match r, hr with
  | .error e, hr => exact hr
  | .ok (.ret y), hr =>
    obtain ⟨e1, e2⟩ := hr
    subst e1 e2
    repeat (any_goals (first | assumption | wp_step))
    refine codeAny_mono fill fun r2 u2 h2 => ?_
    match r2, h2 with
    | .error e, h2 => exact h2
    | .ok (.ret z), h2 =>
      obtain ⟨e3, q⟩ := h2
      subst e3
      repeat (any_goals (first | assumption | wp_step))
  | .ok (.next), hr => exact hr.elim
/-- what an iterator over the items of a list or of a tuple T at l does: its steps -/
structure Steps (P : Program) (w : World) (A : Around) (s : Shared) (T : String) (l : Addr) (items : Array Value) : Prop where
  typ : ∀ h : Heap, (∀ b o, s.heap.get? b = some o → h.get? b = some o) → ∃ o, h.get? l = some o ∧ o.cls = .type T
  noS : isSubtype (.type T) (.type "set") = pure false
  noF : isSubtype (.type T) (.type "frozenset") = pure false
  noD : (Value.type T == Value.type "dict") = false
  ite : ∀ (B : Around) (u : Shared) (Q : Value → Shared → Prop) (E : Value → Shared → Prop), (∀ b o, s.heap.get? b = some o → u.heap.get? b = some o) → s.heap.objs.size < u.heap.objs.size →
    (∀ (o : Obj) (St : Nat → Shared → Prop), (∀ C : Around, C.handled = A.handled → WalksS P w C u.heap.objs.size [u.heap.objs.size, l] [u.heap.objs.size] (fun a b => b = a) items.size (fun i v => items[i]? = some v) St) →
      St 0 { u with heap := u.heap.push o } → Q (.ref u.heap.objs.size) { u with heap := u.heap.push o }) → wpAny (model P w) B (pyIter (.ref l)) Q E u
theorem steps_list {l : Addr} {items : Array Value} (hh : A.handled = none) (hl : s.heap.IsList l items) : Steps P w A s "list" l items where
  typ := fun h k => let ⟨o, ho, hc, _⟩ := hl; ⟨o, k _ _ ho, hc⟩
  noS := F.sub_list_set
  noF := F.sub_list_frozenset
  noD := by decide
  ite := fun B u Q E k hz q => wpAny_pyIter_list (hl.at fun o e => k _ _ e) (by
    have hlt : l < u.heap.objs.size := let ⟨o, ho, _⟩ := hl; Nat.lt_trans (Heap.lt_size ho) hz
    exact q _ _ (fun C hC => (Walks.list (hC.trans hh) _ l (Nat.ne_of_lt hlt) items).toS) ⟨⟨_, Heap.get?_push_size _ rfl, rfl, rfl⟩, (hl.at fun o e => k _ _ e).push _⟩)
theorem steps_tuple {l : Addr} {items : Array Value} (hh : A.handled = none) (hl : s.heap.IsTuple l items) : Steps P w A s "tuple" l items where
  typ := fun h k => let ⟨o, ho, hc, _⟩ := hl; ⟨o, k _ _ ho, hc⟩
  noS := F.sub_tuple_set
  noF := F.sub_tuple_frozenset
  noD := by decide
  ite := fun B u Q E k hz q => wpAny_pyIter_tuple (hl.at fun o e => k _ _ e) (by
    have hlt : l < u.heap.objs.size := let ⟨o, ho, _⟩ := hl; Nat.lt_trans (Heap.lt_size ho) hz
    exact q _ _ (fun C hC => (Walks.tuple (hC.trans hh) _ l (Nat.ne_of_lt hlt) items).toS) ⟨⟨_, Heap.get?_push_size _ rfl, rfl, rfl⟩, (hl.at fun o e => k _ _ e).push _⟩)
/-- set(l) of a list or a tuple at l, by any promise of the loop that fills it -/
theorem set_seq {T : String} {l : Addr} {items : Array Value} {Q : Value → Shared → Prop} (Pp : Heap → Prop) (hh : A.handled = none) (hl : l < s.heap.objs.size) (I : Steps P w A s T l items)
    (loop : ∀ (A1 : Around) (It : Addr) (G : Array GenState → Array GenState → Prop) (St : Nat → Shared → Prop) (u0 : Shared) (R : Result → Shared → Prop),
      WalksS P w A1.in1 It [It, l] [It] G items.size (fun i v => items[i]? = some v) St → s.heap.objs.size ∉ [It, l] → St 0 u0 → u0.heap.get? s.heap.objs.size = some (set0 w) →
      (∀ u1, Moved [s.heap.objs.size, It] G u0 u1 → Pp u1.heap → R (.ok (.ret .none)) u1) → codeAny (model P w) A1 (.builtin "set.update.loop" ⟨[.ref s.heap.objs.size, .ref It], []⟩) R u0)
    (h : ∀ (h' : Heap) (tk : Nat), Pp h' → (∀ b o, s.heap.get? b = some o → h'.get? b = some o) → Q (.ref s.heap.objs.size) { s with heap := h', toks := tk }) :
    wpAny (model P w) A (call (.type "set") [.ref l]) Q E s := by
  have old : ∀ b o, s.heap.get? b = some o → (born w s).heap.get? b = some o := fun b o e => Heap.get?_push_of_some _ e
  have isS : (born w s).heap.get? s.heap.objs.size = some (set0 w) := Heap.get?_push_size _ rfl
  have big : (born w s).heap.objs.size = s.heap.objs.size + 1 := Heap.size_push ..
  have ⟨⟨cl, dd, da, sl⟩, at_l, cl_l⟩ := I.typ _ old
  dsimp only at cl_l
  subst cl_l
  have n1 := I.noS
  have n2 := I.noF
  have n3 := I.noD
  refine set_by (codeAny_call_builtin F.called_set.init.plain F.entry_set_init (check_set_init_1 ⟨_, isS, rfl⟩ ?_))
  obtain ⟨hp, gn, dr, tk, os⟩ := s
  unfold Builtin.«set.__init__» Builtin.Frozenset.updateFrom noKeywords
  generalize ep : pyIter = pit
  wp_walk
  subst ep
  refine I.ite _ (born w ⟨hp, gn, dr, tk, os⟩) _ _ old (by rw [big]; exact Nat.lt_succ_self _) fun o St W st0 => wpAny_bind (wpAny_runValue ?_)
  have nS : hp.objs.size ∉ [(born w ⟨hp, gn, dr, tk, os⟩).heap.objs.size, l] := fun z => by
    rw [big] at z
    rcases List.mem_cons.mp z with z | z
    · exact absurd z (Nat.ne_of_lt (Nat.lt_succ_self _))
    · exact absurd (List.mem_singleton.mp z) (Nat.ne_of_gt hl)
  refine loop _ _ _ St _ _ (W _ (by simp)) nS st0 (Heap.get?_push_of_some _ isS) fun ⟨h1, g1, d1, t1, o1⟩ mv pp => ?_
  obtain rfl : g1 = gn := mv.gens
  obtain rfl : d1 = dr := mv.drawn
  obtain rfl : o1 = os := mv.os
  refine wpAny_pure (wpAny_pure ⟨rfl, h h1 t1 pp fun b ob e => mv.heap b ob (fun z => ?_) (Heap.get?_push_of_some _ (old b ob e))⟩)
  have lt : b < hp.objs.size := Heap.lt_size e
  rcases List.mem_cons.mp z with z | z
  · exact absurd z (Nat.ne_of_lt lt)
  · rw [List.mem_singleton.mp z, big] at lt
    exact absurd lt (Nat.not_lt.mpr (Nat.le_succ _))
/-- set(l), l a list of these items -/
theorem call_set_list {l : Addr} {items : Array Value} {Q : Value → Shared → Prop} (Pp : Heap → Prop) (hh : A.handled = none) (hl : s.heap.IsList l items)
    (loop : ∀ (A1 : Around) (It : Addr) (G : Array GenState → Array GenState → Prop) (St : Nat → Shared → Prop) (u0 : Shared) (R : Result → Shared → Prop),
      WalksS P w A1.in1 It [It, l] [It] G items.size (fun i v => items[i]? = some v) St → s.heap.objs.size ∉ [It, l] → St 0 u0 → u0.heap.get? s.heap.objs.size = some (set0 w) →
      (∀ u1, Moved [s.heap.objs.size, It] G u0 u1 → Pp u1.heap → R (.ok (.ret .none)) u1) → codeAny (model P w) A1 (.builtin "set.update.loop" ⟨[.ref s.heap.objs.size, .ref It], []⟩) R u0)
    (h : ∀ (h' : Heap) (tk : Nat), Pp h' → (∀ b o, s.heap.get? b = some o → h'.get? b = some o) → Q (.ref s.heap.objs.size) { s with heap := h', toks := tk }) :
    wpAny (model P w) A (call (.type "set") [.ref l]) Q E s := set_seq Pp hh (let ⟨_, ho, _⟩ := hl; Heap.lt_size ho) (steps_list hh hl) loop h
/-- set(l), l a tuple of these items -/
theorem call_set_tuple {l : Addr} {items : Array Value} {Q : Value → Shared → Prop} (Pp : Heap → Prop) (hh : A.handled = none) (hl : s.heap.IsTuple l items)
    (loop : ∀ (A1 : Around) (It : Addr) (G : Array GenState → Array GenState → Prop) (St : Nat → Shared → Prop) (u0 : Shared) (R : Result → Shared → Prop),
      WalksS P w A1.in1 It [It, l] [It] G items.size (fun i v => items[i]? = some v) St → s.heap.objs.size ∉ [It, l] → St 0 u0 → u0.heap.get? s.heap.objs.size = some (set0 w) →
      (∀ u1, Moved [s.heap.objs.size, It] G u0 u1 → Pp u1.heap → R (.ok (.ret .none)) u1) → codeAny (model P w) A1 (.builtin "set.update.loop" ⟨[.ref s.heap.objs.size, .ref It], []⟩) R u0)
    (h : ∀ (h' : Heap) (tk : Nat), Pp h' → (∀ b o, s.heap.get? b = some o → h'.get? b = some o) → Q (.ref s.heap.objs.size) { s with heap := h', toks := tk }) :
    wpAny (model P w) A (call (.type "set") [.ref l]) Q E s := set_seq Pp hh (let ⟨_, ho, _⟩ := hl; Heap.lt_size ho) (steps_tuple hh hl) loop h
/-! ### the loop: a turn, and all turns -/
variable {R : Result → Shared → Prop} {S It : Addr} {u : Shared}
/-- one turn: the next item is put in, then the loop again; with no item left it is over -/
theorem loop_enter (h : wpAny (model P w) A.in1 (pyNext (.ref It)) (fun o t => match o with
      | none => R (.ok (.ret .none)) t
      | some x => wpAny (model P w) A.in1 (setAdd S x) (fun _ t2 => codeAny (model P w) A (.builtin "set.update.loop" ⟨[.ref S, .ref It], []⟩) R t2) (fun e t2 => R (.error e) t2) t) (fun e t => R (.error e) t) u) :
    codeAny (model P w) A (.builtin "set.update.loop" ⟨[.ref S, .ref It], []⟩) R u := by
  apply codeAny_builtin F.entry_set_update_loop
  rw [show A.under (.builtin "set.update.loop" ⟨[.ref S, .ref It], []⟩) = A.in1 from Around.under_plainId F.plain_set_update_loop _]
  apply wpAny_bind
  apply wpAny_mono h (fun o t ht => ?_) fun _ _ z => z
  match o, ht with
  | none, ht => exact wpAny_pure ht
  | some x, ht => exact wpAny_bind (wpAny_holding (wpAny_mono ht (fun _ t2 h2 => wpAny_pure (And.intro (plainId_quiet F.plain_set_update_loop _) h2)) fun _ _ z => z))
/-- all turns: J i, what is known of the set when i items are in -/
theorem loop_by {fp wr : List Addr} {G : Array GenState → Array GenState → Prop} {n : Nat} {Pv : Nat → Value → Prop} {St : Nat → Shared → Prop} (W : WalksS P w A.in1 It fp wr G n Pv St) (off : S ∉ fp) (J : Nat → Heap → Prop)
    (see : ∀ i h h', J i h → (∀ o, h.get? S = some o → h'.get? S = some o) → J i h')
    (put : ∀ (i : Nat) (v : Value) (t : Shared) (Q : Bool → Shared → Prop) (E : Value → Shared → Prop), i < n → Pv i v → J i t.heap → (∀ h' tk b, t.toks ≤ tk → Heap.SameBut S t.heap h' → J (i + 1) h' → Q b { t with heap := h', toks := tk }) → wpAny (model P w) A.in1 (setAdd S v) Q E t) :
    ∀ (left i : Nat) (u : Shared), left + i = n → St i u → J i u.heap → (∀ t, Moved (S :: wr) G u t → J n t.heap → R (.ok (.ret .none)) t) → codeAny (model P w) A (.builtin "set.update.loop" ⟨[.ref S, .ref It], []⟩) R u := by
  have wide : ∀ b ∈ wr, b ∈ S :: wr := fun b hb => List.mem_cons_of_mem S hb
  have apart : S ∉ wr := fun z => off (W.sub S z)
  intro left
  induction left with
  | zero =>
    intro i u sum st j fin
    have e : i = n := (Nat.zero_add i).symm.trans sum
    subst e
    exact loop_enter (W.done u _ _ st fun t mv => fin t (mv.mono wide) (see i _ _ j fun o z => mv.heap S o apart z))
  | succ left more =>
    intro i u sum st j fin
    have lt : i < n := by omega
    refine loop_enter (W.item i u _ _ lt st fun v t pv st1 mv => ?_)
    refine put i v t _ _ lt pv (see i _ _ j fun o z => mv.heap S o apart z) fun h' tk b le same j1 => ?_
    have else_ : ∀ c o, c ∉ S :: wr → t.heap.get? c = some o → h'.get? c = some o := fun c o out z => (same.2 c fun q => out (q ▸ List.mem_cons_self)).trans z
    refine more (i + 1) _ (by omega) (W.frame (i + 1) t h' tk st1 le fun c cin o z => (same.2 c fun q => off (q ▸ cin)).trans z) j1 fun t2 mv2 j2 => ?_
    exact fin t2 (Moved.trans W.gtrans ((mv.mono wide).then_heap le fun c o out z => else_ c o out z) mv2) j2
end
end Kx

set_option Elab.async false
set_option linter.all false
set_option maxRecDepth 100000
set_option maxHeartbeats 1000000
namespace Kx
open PySem PySem.Spec PyProof.Rows L2 Evl
/-! ## len(set(xs)), xs texts -/
def fstep (σ : List Str) (x : Str) : List Str := if σ.any (fun y => decide (y = x)) then σ else σ ++ [x]
def fm (xs : List Str) : List Str := xs.foldl fstep []
def tLenSetS (K : PySem.W.Frag) (ta : TE) : TE := fun σ H Q => ta σ H fun x H1 => ∃ (l : Addr) (xs : List Str), x = .ref l ∧ (SqL K H1 l (sv xs) ∨ SqT K H1 l (sv xs)) ∧ xs.length ≤ 1000 ∧ Q (.int ((fm xs).length : Nat)) H1
theorem fm_mem (xs : List Str) : ∀ (σ : List Str), (∀ y, y ∈ xs.foldl fstep σ ↔ y ∈ σ ∨ y ∈ xs) := by
  induction xs with
  | nil => intro σ y; simp
  | cons x r ih =>
    intro σ y
    rw [List.foldl_cons, ih]
    unfold fstep
    split
    · rename_i h
      obtain ⟨z, hz, e⟩ := List.any_eq_true.mp h
      have e := of_decide_eq_true e
      subst e
      constructor
      · rintro (h | h)
        · exact .inl h
        · exact .inr (List.mem_cons_of_mem _ h)
      · rintro (h | h)
        · exact .inl h
        · rcases List.mem_cons.mp h with h | h
          · subst h; exact .inl hz
          · exact .inr h
    · simp [or_assoc]
theorem fm_len (xs : List Str) : ∀ (σ : List Str), (xs.foldl fstep σ).length ≤ σ.length + xs.length ∧ ((xs.foldl fstep σ).length = σ.length + xs.length ↔ (xs.Nodup ∧ ∀ x ∈ xs, x ∉ σ)) := by
  induction xs with
  | nil => intro σ; simp
  | cons x r ih =>
    intro σ
    rw [List.foldl_cons]
    obtain ⟨h1, h2⟩ := ih (fstep σ x)
    by_cases hx : x ∈ σ
    · have e : fstep σ x = σ := if_pos (List.any_eq_true.mpr ⟨x, hx, decide_eq_true rfl⟩)
      rw [e] at h1 h2 ⊢
      refine ⟨by rw [List.length_cons]; omega, fun h => ?_, fun h => absurd hx (h.2 x List.mem_cons_self)⟩
      rw [List.length_cons] at h
      omega
    · have e : fstep σ x = σ ++ [x] := if_neg fun h => by
        obtain ⟨z, hz, e⟩ := List.any_eq_true.mp h
        have e := of_decide_eq_true e
        subst e
        exact hx hz
      rw [e] at h1 h2 ⊢
      rw [List.length_append, List.length_singleton] at h1 h2
      rw [List.length_cons]
      refine ⟨by omega, ?_⟩
      rw [show σ.length + (r.length + 1) = σ.length + 1 + r.length by omega, h2, List.nodup_cons]
      constructor
      · rintro ⟨a, b⟩
        refine ⟨⟨fun hm => b x hm (by simp), a⟩, fun y hy => ?_⟩
        rcases List.mem_cons.mp hy with rfl | hy
        · exact hx
        · exact fun hs => b y hy (by simp [hs])
      · rintro ⟨⟨a, b⟩, c⟩
        refine ⟨b, fun y hy hs => ?_⟩
        rcases List.mem_append.mp hs with hs | hs
        · exact c y (List.mem_cons_of_mem _ hy) hs
        · rw [List.mem_singleton] at hs
          subst hs
          exact a hy
theorem fm_nodup (xs : List Str) : (fm xs).length = xs.length ↔ xs.Nodup := by
  have h := (fm_len xs []).2
  rw [List.length_nil, Nat.zero_add] at h
  exact h.trans ⟨fun a => a.1, fun a => ⟨a, fun _ _ => by simp⟩⟩
theorem fm_le (xs : List Str) : (fm xs).length ≤ xs.length := by
  have h := (fm_len xs []).1
  rw [List.length_nil, Nat.zero_add] at h
  exact h
theorem fm_next {xs : List Str} {i : Nat} (h : i < xs.length) : fm (xs.take (i + 1)) = fstep (fm (xs.take i)) (xs.getD i Str.empty) := by
  unfold fm
  rw [List.take_add_one, List.getElem?_eq_getElem h, List.foldl_append, List.getD, List.getElem?_eq_getElem h]
  rfl
theorem any_eqv (ys : List Str) (k : Str) : ys.any (fun y => decide (y = k)) = ys.any (· == k) := by
  congr 1
theorem strsOf : ∀ {xs : List Str} {us : List Value}, Vals (sv xs) us → StrsAre us xs
  | [], _, .nil => .nil
  | x :: r, _, .cons h t => by
    obtain ⟨k, rfl⟩ := h
    exact .cons x k (strsOf t)
section
variable {P : Program} {w : World} {A : Around} {E : Value → Shared → Prop}
/-- the set at S holds just the first i of xs, each once -/
def Held (P : Program) (w : World) (S : Addr) (xs : List Str) (i : Nat) (h : Heap) : Prop := h.SetOf (PySem.strKind P w) S (fun k => (fm (xs.take i)).any (· == k)) (fm (xs.take i)).length
theorem Held.at {S : Addr} {xs : List Str} {i : Nat} {h h' : Heap} (x : Held P w S xs i h) (k : ∀ o, h.get? S = some o → h'.get? S = some o) : Held P w S xs i h' := match x with
  | ⟨o, es, ep, tb, ho, more⟩ => ⟨o, es, ep, tb, k o ho, more⟩
/-- the next one is put in -/
theorem Held.put {S : Addr} {xs : List Str} {i : Nat} {v : Value} {u : Shared} {Q : Bool → Shared → Prop} (few : xs.length + 1 < scanBound) (lt : i < xs.length) (hv : ∃ t, v = .str (xs.getD i Str.empty) t) (x : Held P w S xs i u.heap)
    (q : ∀ h' tk b, u.toks ≤ tk → Heap.SameBut S u.heap h' → Held P w S xs (i + 1) h' → Q b { u with heap := h', toks := tk }) : wpAny (model P w) A (setAdd S v) Q E u := by
  obtain ⟨t, rfl⟩ := hv
  have le := fm_le (xs.take i)
  rw [List.length_take] at le
  unfold setAdd
  refine wpAny_holding (wpAny_bind ((PySem.strKind P w).pyHash (strKind_is _ _ (xs.getD i Str.empty) t) ?_))
  refine wpAny_setAddHashed_of (knd := PySem.strKind P w) (s := { u with toks := u.toks + 1 }) (strKind_is _ _ _ _) rfl x (by omega) fun h' same y => q h' _ _ (Nat.le_succ _) same ?_
  unfold Held
  rw [fm_next lt, fstep]
  by_cases m : (fm (xs.take i)).any (fun z => decide (z = xs.getD i Str.empty)) = true
  · rw [if_pos m]
    rw [any_eqv] at m
    rw [m] at y
    refine SetOf_congr y (fun k => ?_) rfl
    by_cases e : k = xs.getD i Str.empty
    · rw [e, m, Bool.true_or]
    · rw [decide_eq_false e, Bool.or_false]
  · rw [if_neg m]
    rw [any_eqv] at m
    rw [Bool.not_eq_true] at m
    rw [m] at y
    refine SetOf_congr y (fun k => ?_) (by rw [if_neg Bool.false_ne_true, List.length_append]; rfl)
    rw [List.any_append]
    refine congrArg _ ?_
    show decide (k = xs.getD i Str.empty) = ((xs.getD i Str.empty == k) || false)
    rw [Bool.or_false, Bool.eq_iff_iff, decide_eq_true_iff, beq_iff_eq]
    exact eq_comm
end
/-- an empty set, filled by the loop over these texts, holds them all -/
theorem texts_in {P : Program} {w : World} {its : List Value} {xs : List Str} {S l It : Addr} {A1 : Around} {G : Array GenState → Array GenState → Prop} {St : Nat → Shared → Prop} {u0 : Shared} {R : Result → Shared → Prop} (rv : Vals (sv xs) its) (few : xs.length ≤ 1000)
    (W : WalksS P w A1.in1 It [It, l] [It] G its.toArray.size (fun i v => its.toArray[i]? = some v) St) (off : S ∉ [It, l]) (st : St 0 u0) (none_yet : u0.heap.get? S = some (set0 w))
    (fin : ∀ u1, Moved [S, It] G u0 u1 → Held P w S xs xs.length u1.heap → R (.ok (.ret .none)) u1) : codeAny (model P w) A1 (.builtin "set.update.loop" ⟨[.ref S, .ref It], []⟩) R u0 := by
  have size : its.toArray.size = xs.length := by rw [List.size_toArray, ← rv.length]; exact List.length_map _
  have room : xs.length + 1 < scanBound := by unfold scanBound; omega
  refine loop_by W off (Held P w S xs) (fun i h h' x k => x.at k) (fun i v t Q E lt pv x q => x.put room (size ▸ lt) ?_ q) its.toArray.size 0 u0 (Nat.add_zero _) st ?_ (size.symm ▸ fin)
  · exact SS.strs_at (strsOf rv) i v (by simpa using pv)
  · exact SetOf_congr ((PyProof.Rows.setObjOf_fresh (knd := PySem.strKind P w) _).setOf none_yet (by omega)) (fun _ => rfl) rfl
theorem pe_lenSetS {X : Cx} {a : Expr} {ta : TE} {p p2 q pos : Pos} (hc : X.calm = true) (hm : X.mg "len" = none) (hm2 : X.mg "set" = none) (ha : PE X a ta) (hg : Gl X "len" := by rfl) (hg2 : Gl X "set" := by rfl)
    (na : starEach [a] X.env = (false, eval a X.env) :: starEach [] X.env := by rfl) : PE X (.Call (.Name "len" p) [.Call (.Name "set" p2) [a] [] q] [] pos) (tLenSetS X.K ta) where
  run := fun pins s σ H Q I h => by
    have inner : wpAny (model X.prog X.w) X.A (eval (.Call (.Name "set" p2) [a] [] q) X.env) (fun v s2 => wpAny (model X.prog X.w) X.A (call (.builtin "len") [v]) (EP X pins σ Q) X.xe s2) X.xe s := by
      refine Call_ (ld_blt I hg2 hm2 PyProof.Rows.boot_set (PyProof.Rows.callWith_type1 (PyProof.Rows.args_cons (thn (ha.run pins s σ H _ I h) fun v s1 got => PyProof.Rows.args_nil ?_) na) na rfl))
      obtain ⟨x, H1, J, rx, l, xs, rfl, seq, few, want⟩ := got
      cases rx
      have full : ∀ (h' : Heap) (tk : Nat), Held X.prog X.w s1.heap.objs.size xs xs.length h' → (∀ b o, s1.heap.get? b = some o → h'.get? b = some o) → wpAny (model X.prog X.w) X.A (call (.builtin "len") [.ref s1.heap.objs.size]) (EP X pins σ Q) X.xe { s1 with heap := h', toks := tk } := by
        rintro h' tk ⟨o, es, ep, tb, ho, exact_, data, _, _, below, fits, count⟩ kept
        rw [List.take_length] at count
        have J2 : Inv X pins σ H1 { s1 with heap := h', toks := tk } := J.kept kept
        have le := fm_le xs
        exact call_len_set ho exact_ data fits (by omega) ⟨.int ((fm xs).length : Nat), H1, J2.tok _, ⟨_, by rw [count]⟩, want⟩
      match seq with
      | .inl sl => exact match J.list sl with
        | ⟨its, rv, pl, _⟩ => call_set_list (P := X.prog) (w := X.w) (s := s1) _ (J.ok.hd hc) pl.isList (fun A1 It G St u0 R W off st n fin => texts_in rv few W off st n fin) full
      | .inr st => exact match J.tuple st with
        | ⟨its, rv, pl, _⟩ => call_set_tuple (P := X.prog) (w := X.w) (s := s1) _ (J.ok.hd hc) pl (fun A1 It G St u0 R W off st n fin => texts_in rv few W off st n fin) full
    exact Call_ (ld_blt I hg hm PySem.boot_len (PyProof.Rows.callWith_builtin1 (PyProof.Rows.args_cons (wpAny_mono inner (fun _ _ z => PyProof.Rows.args_nil z) fun _ _ z => z) rfl) rfl rfl))
theorem ev_lenSetS {K : PySem.W.Frag} {σ : L2.St} {H : Hp} {ta : TE} {l : Addr} {xs : List Str} (h : Ev ta σ H (.ref l)) (hx : SqL K H l (sv xs) ∨ SqT K H l (sv xs)) (hz : xs.length ≤ 1000) :
    Ev (tLenSetS K ta) σ H (.int ((fm xs).length : Nat)) := fun H1 e Q q => h H1 e _ fun H2 e2 =>
  ⟨l, xs, rfl, hx.elim (fun z => .inl (ex_l (e.trans e2) z)) (fun z => .inr (ex_t (e.trans e2) z)), hz, q H2 e2⟩
end Kx

set_option Elab.async false
set_option linter.all false
set_option maxRecDepth 100000
set_option maxHeartbeats 1000000
namespace Kx
open PySem PySem.Spec PyProof.Rows L2 Evl
/-! ## more of evaluation -/
section
variable {K : PySem.W.Frag} {σ : L2.St} {H : Hp} {ta tb te tl : TE} {v : V}
/-- [te for sign in a text] -/
theorem el_lcS {i : Nat} {s : Str} {ys : List V} (h : Ev tl σ H (.str s)) (hl : ys.length = s.cps.size) (hz : s.cps.size < 100000)
    (hy : ∀ (j : Nat) (c : Nat) (y : V), s.cps[j]? = some c → ys[j]? = some y → Ev te ((σ.set i none).set i (some (.str ⟨#[c]⟩))) H y) : EvL (tLc (iStr tl) (gName i) tYes te [i]) σ H ys := fun H1 e Q q =>
  h H1 e _ fun H2 e2 => ⟨s, rfl, fun D hD => ⟨fun j m H' => m = ys.length - j ∧ j ≤ ys.length ∧ Ex H2 H' ∧ H' D = some (.lst (ys.take j)), ⟨ys.length, by simp, Nat.zero_le _, Ex.new hD, upd_same⟩, fun j m H' p => by
    obtain ⟨rfl, hj, x1, x2⟩ := p
    by_cases hlt : j < ys.length
    · refine .inr ⟨by show j < s.cps.size; omega, fun H'' => Ex H2 H'' ∧ H'' D = some (.lst (ys.take (j + 1))), fun H'' p => ⟨ys.length - (j + 1), by omega, rfl, hlt, p⟩, fun x H'' y => ?_⟩
      obtain ⟨rfl, c, hc, rfl⟩ := y
      refine ⟨by show (((σ.set i none).set i (some (.str ⟨#[c]⟩))).set i none) = (σ.set i none); rw [List.set_set, List.set_set], ?_⟩
      have gy : ys[j]? = some ys[j] := List.getElem?_eq_getElem hlt
      refine hy j c _ hc gy H'' ((e.trans e2).trans x1) _ fun H3 e3 => ⟨ys.take j, e3 _ _ x2, ?_, (x1.trans e3).mut hD, ?_⟩
      · rw [List.length_take]
        exact sz_lt (Nat.lt_of_le_of_lt (Nat.min_le_right _ _) (by omega))
      · rw [upd_same, List.take_add_one, gy]
        rfl
    · refine .inl ⟨by show s.cps.size ≤ j; omega, q D H' (fresh_back e2 hD) (e2.trans x1) (by rw [x2, List.take_of_length_le (by omega)])⟩⟩⟩
theorem rv_leS {a b : Str} : RV (fun x y H Q => ∃ i j, x = V.str i ∧ y = V.str j ∧ Q (.bl (!decide (j.cps.toList < i.cps.toList))) H) (.str a) (.str b) H (.bl (!decide (b.cps.toList < a.cps.toList))) :=
  fun H1 e Q k => ⟨a, b, rfl, rfl, k H1 (Ex.refl _)⟩
def amg (s : Str) (ns : List Str) : Bool := ns.any fun y => y == s
theorem amg_iff {s : Str} {ns : List Str} : amg s ns = true ↔ s ∈ ns := by
  unfold amg
  rw [List.any_eq_true]
  exact ⟨fun ⟨y, hy, e⟩ => (eq_of_beq e) ▸ hy, fun h => ⟨s, h, beq_self_eq_true s⟩⟩
theorem inV_sv (s : Str) (ns : List Str) : inV (.str s) (sv ns) = amg s ns := by
  unfold inV sv amg
  rw [List.any_map]
  rfl
theorem flat_sv (ns : List Str) : (sv ns).all flatV = true := by
  unfold sv
  rw [List.all_map, List.all_eq_true]
  exact fun _ _ => rfl
/-- the address holds these texts, as a list or as a tuple -/
def Txs (H : Hp) (a : Addr) (ns : List Str) : Prop := H a = some (.lst (sv ns)) ∨ Rd H a (.tup (sv ns))
theorem Txs.up {H H' : Hp} {a : Addr} {ns : List Str} (h : Txs H a ns) (e : Ex H H') : Txs H' a ns := h.elim (fun z => .inl (e _ _ z)) (fun z => .inr (ex_rd e z))
theorem Txs.sq {H : Hp} {a : Addr} {ns : List Str} (h : Txs H a ns) : SqL K H a (sv ns) ∨ SqT K H a (sv ns) := h.elim (fun z => .inl (.of z)) (fun z => .inr (.inl z))
theorem _root_.Kx.TupS.rd {a : Addr} {vs : List V} (h : TupS H a vs) : Rd H a (.tup vs) := let ⟨o, _, h2⟩ := h; .inr ⟨o, h2⟩
theorem rv_inTx {a : Addr} {s : Str} {ns : List Str} (h : Txs H a ns) : RV (rIn K false) (.str s) (.ref a) H (.bl (amg s ns)) := fun H1 e Q q =>
  ⟨a, sv ns, rfl, (h.up e).sq, rfl, flat_sv ns, by rw [inV_sv]; exact q H1 (Ex.refl _)⟩
theorem rv_niTx {a : Addr} {s : Str} {ns : List Str} (h : Txs H a ns) : RV (rIn K true) (.str s) (.ref a) H (.bl (!amg s ns)) := fun H1 e Q q =>
  ⟨a, sv ns, rfl, (h.up e).sq, rfl, flat_sv ns, by rw [inV_sv]; exact q H1 (Ex.refl _)⟩
theorem ev_lenT {a : Addr} {xs : List V} (h : Ev ta σ H (.ref a)) (hx : H a = some (.lst xs) ∨ Rd H a (.tup xs)) : Ev (tCB (rLenS K) (tCons ta tNil)) σ H (.int (xs.length : Int)) :=
  ev_cb (ea_cons h ea_nil) fun H1 e Q q => ⟨a, xs, rfl, hx.elim (fun z => .inl (.of (e _ _ z))) (fun z => .inr (.inl (ex_rd e z))), q H1 (Ex.refl _)⟩
theorem ev_lenS {s : Str} (h : Ev ta σ H (.str s)) (hz : s.length ≤ 100000) : Ev (tCB (fun xs H Q => ∃ x n, xs = [x] ∧ LenV K x H n ∧ Q (.int n) H) (tCons ta tNil)) σ H (.int (s.length : Int)) :=
  ev_cb (ea_cons h ea_nil) fun H1 e Q q => ⟨.str s, s.length, rfl, ⟨sz_of hz, rfl⟩, q H1 (Ex.refl _)⟩
end
/-! ## mirrors -/
def lowc (c : Nat) : Bool := decide (97 ≤ c) && decide (c ≤ 122)
def nmS (s : Str) : Bool := (decide (1 ≤ s.length) && decide (s.length ≤ 8)) && !decide (s = "any") && s.cps.toList.all lowc
def D.nm : D → Bool
  | .str s => nmS s
  | _ => false
def amD (d : D) (ns : List Str) : Bool := match d with
  | .str s => amg s ns
  | _ => false
def okUnlike : OkF := fun vs H z => ∃ a xs, vs = [.ref a] ∧ Txs H a xs ∧ xs.length ≤ 1000 ∧ z = .bl (decide xs.Nodup)
def okRow : OkF := fun vs H z => ∃ v d, vs = [v] ∧ Rep H v d ∧ z = .bl (decide (d.ty = "list") || decide (d.ty = "tuple"))
def okAmong : OkF := fun vs H z => ∃ v d a ns, vs = [v, .ref a] ∧ Rep H v d ∧ Txs H a ns ∧ z = .bl (amD d ns)
def szD : D → Nat
  | .str s => s.length
  | _ => 0
def okName : OkF := fun vs H z => ∃ v d, vs = [v] ∧ Rep H v d ∧ szD d ≤ 1000 ∧ z = .bl d.nm
theorem stb_unlike : Stb okUnlike := fun _ _ _ _ e ⟨a, xs, h1, h2, h3, h4⟩ => ⟨a, xs, h1, h2.up e, h3, h4⟩
theorem stb_row : Stb okRow := fun _ _ _ _ e ⟨v, d, h1, h2, h3⟩ => ⟨v, d, h1, h2.up e, h3⟩
theorem stb_among : Stb okAmong := fun _ _ _ _ e ⟨v, d, a, ns, h1, h2, h3, h4⟩ => ⟨v, d, a, ns, h1, h2.up e, h3.up e, h4⟩
theorem stb_name : Stb okName := fun _ _ _ _ e ⟨v, d, h1, h2, h3, h4⟩ => ⟨v, d, h1, h2.up e, h3, h4⟩
theorem sign_lo (c : Nat) : (!decide (([c] : List Nat) < [97])) = decide (97 ≤ c) := by
  have h : (([c] : List Nat) < [97]) ↔ c < 97 := by simp [List.cons_lt_cons_iff]
  rw [decide_eq_decide.mpr h]
  by_cases q : c < 97
  · rw [decide_eq_true q, decide_eq_false (by omega)]; rfl
  · rw [decide_eq_false q, decide_eq_true (by omega)]; rfl
theorem sign_hi (c : Nat) : (!decide (([122] : List Nat) < [c])) = decide (c ≤ 122) := by
  have h : (([122] : List Nat) < [c]) ↔ 122 < c := by simp [List.cons_lt_cons_iff]
  rw [decide_eq_decide.mpr h]
  by_cases q : 122 < c
  · rw [decide_eq_true q, decide_eq_false (by omega)]; rfl
  · rw [decide_eq_false q, decide_eq_true (by omega)]; rfl
section
variable {P : Program} {w : World} {K : PySem.W.Frag} {mg : Str → Option Value} {base : Heap} (T : Txt K mg)
theorem ok_is_row : FnOk P w K mg base CX0 1 T.a_is_row T.d_is_row ["value"] (spX okRow) := by
  refine T.F_is_row.ok sc_is_row (fun vs H Q E h => ?_) (fun cdv A outer s H vs Q E hr h => ?_)
  · obtain ⟨z, ⟨v, d, rfl, _⟩, _⟩ := h
    rfl
  · obtain ⟨z, ⟨v, d, rfl, hv, rfl⟩, q⟩ := h
    refine ⟨_, pss_one (ps_ret (pe_or (pe_tyIs T.z_type T.z_list bo_list (pv 0)) (pe_one (pe_tyIs T.z_type T.z_tuple bo_tuple (pv 0))))), ?_⟩
    exact s_ret (ev_orV (ev_tyIs (ev_var rfl) hv) fun _ => ev_tyIs (ev_var rfl) hv) q
theorem ok_is_among : FnOk P w K mg base CX0 1 T.a_is_among T.d_is_among ["value", "names"] (spX okAmong) := by
  refine T.F_is_among.ok sc_is_among (fun vs H Q E h => ?_) (fun cdv A outer s H vs Q E hr h => ?_)
  · obtain ⟨z, ⟨v, d, a, ns, rfl, _⟩, _⟩ := h
    rfl
  · obtain ⟨z, ⟨v, d, a, ns, rfl, hv, ha, rfl⟩, q⟩ := h
    refine ⟨_, pss_one (ps_ret (pe_and (pe_tyIs T.z_type T.z_str bo_str (pv 0)) (pe_one (pe_cmpR op_in_seq (pv 0) (pv 1) (by rfl))))), ?_⟩
    refine s_ret (v := .bl (amD d ns)) ?_ q
    refine ev_is (ev_andV (b := amD d ns) (ev_tyIs (ev_var rfl) hv) fun ht => ?_) ?_
    · obtain ⟨x, rfl⟩ := ty_str (of_decide_eq_true ht)
      obtain rfl := hv.strD
      exact ev_op (ev_var rfl) (ev_var rfl) (rv_inTx ha)
    · cases d <;> first | rfl | (simp [D.ty, amD])
theorem ok_are_unlike : FnOk P w K mg base CX0 1 T.a_are_unlike T.d_are_unlike ["row"] (spX okUnlike) := by
  refine T.F_are_unlike.ok sc_are_unlike (fun vs H Q E h => ?_) (fun cdv A outer s H vs Q E hr h => ?_)
  · obtain ⟨z, ⟨a, xs, rfl, _⟩, _⟩ := h
    rfl
  · obtain ⟨z, ⟨a, xs, rfl, ha, hz, rfl⟩, q⟩ := h
    refine ⟨_, pss_one (ps_ret (pe_cmpR op_eq (pe_lenSetS rfl T.z_len T.z_set (pv 0)) (pe_callB call_len_seq (by rfl) T.z_len bo_len (pa_cons (pv 0) pa_nil)) (nomark _))), ?_⟩
    refine s_ret (v := .bl (decide xs.Nodup)) ?_ q
    refine ev_is (ev_op (ev_lenSetS (ev_var rfl) ha.sq hz) (ev_lenT (ev_var rfl) ha) (rv_eq rfl)) ?_
    rw [show (sv xs).length = xs.length from List.length_map _]
    have e : (V.int ((fm xs).length : Nat) = V.int (xs.length : Nat)) ↔ xs.Nodup := by
      rw [← fm_nodup]
      exact ⟨fun h => by have h2 := V.int.inj h; omega, fun h => by rw [h]⟩
    rw [decide_eq_decide.mpr e]
theorem ok_is_name : FnOk P w K mg base CX0 1 T.a_is_name T.d_is_name ["value"] (spX okName) := by
  refine T.F_is_name.ok sc_is_name (fun vs H Q E h => ?_) (fun cdv A outer s H vs Q E hr h => ?_)
  · obtain ⟨z, ⟨v, d, rfl, _⟩, _⟩ := h
    rfl
  · obtain ⟨z, ⟨v, d, rfl, hv, hz, rfl⟩, q⟩ := h
    refine ⟨_, pss_cons (ps_if (PW.pt (pw_or (pt_tyNo T.z_type T.z_str bo_str (pv 0)) (pw_or (pt_not (pt_chain op_le op_le pe_int (pe_callB call_len (by rfl) T.z_len bo_len (pa_cons (pv 0) pa_nil)) pe_int))
        (pw_or1 (pt_cmpR op_eq (pv 0) pe_str (nomark _)))))) (pss_one (ps_ret pe_bl)) pss_nil)
      (pss_one (ps_ret (pe_callB (cr_all rfl) (by rfl) T.z_all bo_all (pa_cons (pe_lc (own := [("sign", 1)]) (g := gName 1) (tt := tYes) (by rfl) sc_is_name.nd (pi_str (pv 0)) (blkOk_by (N := ["value", "sign"]) (sc := defScope s_is_name) (by decide +kernel))
        (fun _ _ _ _ _ => pg_name (i := 1) sc_is_name.nd rfl (.inl rfl)) (fun _ _ _ _ _ => pts_nil) (fun _ _ _ _ _ => pe_chain op_le_str op_le_str pe_str (pv 1) pe_str)) pa_nil)))), ?_⟩
    by_cases ht : d.ty = "str"
    · obtain ⟨x, rfl⟩ := ty_str ht
      obtain rfl := hv.strD
      have hz : x.length ≤ 1000 := hz
      refine s_if (b := !(decide (1 ≤ x.length) && decide (x.length ≤ 8)) || decide (x = "any")) ?_ (fun hb H1 e => ?_) (fun hb H1 e => ?_)
      · refine et_is (et_or (et_test (ev_tyNo (ev_var rfl) hv)) fun _ => et_or (et_not (et_test (ev_chain ev_c (ev_lenS (ev_var rfl) (by omega)) rv_I0 (fun _ => ev_c) (fun _ => rv_I0)))) fun _ => et_test (ev_op (ev_var rfl) ev_c (rv_eq rfl))) ?_
        have e1 : decide (V.str x = V.str "any") = decide (x = "any") := decide_eq_decide.mpr ⟨V.str.inj, fun h => h ▸ rfl⟩
        rw [e1]
        have e2 : ∀ n : Nat, decide ((n : Int) ≤ (x.length : Int)) = decide (n ≤ x.length) := fun n => decide_eq_decide.mpr (by omega)
        have e3 : ∀ n : Nat, decide ((x.length : Int) ≤ (n : Int)) = decide (x.length ≤ n) := fun n => decide_eq_decide.mpr (by omega)
        simp only [D.ty, decide_true, Bool.not_true, Bool.false_or]
        have a1 := e2 1
        have a2 := e3 8
        rw [show ((1 : Nat) : Int) = 1 from rfl] at a1
        rw [show ((8 : Nat) : Int) = 8 from rfl] at a2
        rw [a1, a2]
      · refine s_ret (v := .bl false) ev_c fun H2 e2 => ?_
        have z : nmS x = false := by
          unfold nmS
          cases h1 : decide (1 ≤ x.length) <;> cases h2 : decide (x.length ≤ 8) <;> cases h3 : decide (x = "any") <;> simp_all
        have q2 := q H2 (e.trans e2)
        rw [show (D.str x).nm = nmS x from rfl, z] at q2
        exact q2
      · refine s_ret (v := .bl (nmS x)) (ev_is (ev_all (bs := x.cps.toList.map lowc) (el_lcS (s := x) (ev_var rfl) (by simp) (Nat.lt_of_le_of_lt hz (by decide)) fun j c y hc hy => ?_)) ?_) fun H2 e2 => q H2 (e.trans e2)
        · have ey : y = .bl (lowc c) := by
            rw [List.getElem?_map, List.getElem?_map, Array.getElem?_toList, hc] at hy
            exact (Option.some.inj hy).symm
          subst ey
          refine ev_is (ev_chain ev_c (ev_var rfl) rv_leS (fun _ => ev_c) (fun _ => rv_leS)) ?_
          show V.bl ((!decide (([c] : List Nat) < [97])) && (!decide (([122] : List Nat) < [c]))) = _
          rw [sign_lo, sign_hi]
          rfl
        · rw [List.all_map]
          unfold nmS
          cases h1 : decide (1 ≤ x.length) <;> cases h2 : decide (x.length ≤ 8) <;> cases h3 : decide (x = "any") <;> simp_all
    · refine s_if (b := true) ?_ (fun hb H1 e => ?_) (fun hb => by cases hb)
      · refine et_is (et_or (b := false) (et_test (ev_tyNo (ev_var rfl) hv)) fun hh => ?_) ?_
        · rw [decide_eq_false ht] at hh
          cases hh
        · rw [decide_eq_false ht]
          rfl
      · refine s_ret (v := .bl false) ev_c fun H2 e2 => ?_
        have z : d.nm = false := by cases d <;> first | rfl | exact absurd rfl ht
        have q2 := q H2 (e.trans e2)
        rw [z] at q2
        exact q2
end
end Kx

set_option Elab.async false
set_option linter.all false
set_option maxRecDepth 100000
set_option maxHeartbeats 1000000
namespace Kx
open PySem PySem.Spec PyProof.Rows PySem.SeqAt L2 Evl
open MeetsSeq MeetsSeq2 MeetsSeq3 SeqRoads2
/-! ## == and != of a dict beside a text, a number -/
section
variable {A : Around} {s : Shared}
/-- a dict's object -/
def DictAt (s : Shared) (a : Addr) : Prop := ∃ o es ep, s.heap.get? a = some o ∧ o.cls = .type "dict" ∧ o.data = .dict es ep
theorem dict_eq_no (l : Addr) (es : Array DictEntry) (ep : Nat) (dd : Option Addr) (sl : Array (Option Value)) (b : Str) (u : Tok) :
    Meets (Builtin.«dict.__eq__» ⟨[.ref l, .str b u], []⟩) (fun _ R s => s.heap.get? l = some ⟨.type "dict", dd, .dict es ep, sl⟩ ∧ R (.ok (.ret .notImplemented)) s) :=
  .of_wp fun prog w A R s h => by
    obtain ⟨hp, g, d, tk, os⟩ := s
    obtain ⟨hl, h⟩ := h
    have f1 := PySem.F.sub_str_dict
    wp_walk using wpAny_loadPart' hl
    exact ⟨_, rfl, h⟩
theorem dict_eq_noI (l : Addr) (es : Array DictEntry) (ep : Nat) (dd : Option Addr) (sl : Array (Option Value)) (b : Int) (u : Tok) :
    Meets (Builtin.«dict.__eq__» ⟨[.ref l, .int b u], []⟩) (fun _ R s => s.heap.get? l = some ⟨.type "dict", dd, .dict es ep, sl⟩ ∧ R (.ok (.ret .notImplemented)) s) :=
  .of_wp fun prog w A R s h => by
    obtain ⟨hp, g, d, tk, os⟩ := s
    obtain ⟨hl, h⟩ := h
    have f1 := PySem.F.sub_int_dict
    wp_walk using wpAny_loadPart' hl
    exact ⟨_, rfl, h⟩
theorem dict_ne_no (l : Addr) (es : Array DictEntry) (ep : Nat) (dd : Option Addr) (sl : Array (Option Value)) (b : Str) (u : Tok) :
    Meets (Builtin.«dict.__ne__» ⟨[.ref l, .str b u], []⟩) (fun _ R s => s.heap.get? l = some ⟨.type "dict", dd, .dict es ep, sl⟩ ∧ R (.ok (.ret .notImplemented)) s) :=
  .of_wp fun prog w A R s h => by
    obtain ⟨hp, g, d, tk, os⟩ := s
    obtain ⟨hl, h⟩ := h
    have f1 := PySem.F.sub_str_dict
    wp_walk using wpAny_loadPart' hl
    exact ⟨_, rfl, h⟩
theorem str_eq_no (b : Str) (u : Tok) (l : Addr) (o : Obj) :
    Meets (Builtin.«str.__eq__» ⟨[.str b u, .ref l], []⟩) (fun _ R s => s.heap.get? l = some o ∧ (∃ es ep, o.data = .dict es ep) ∧ R (.ok (.ret .notImplemented)) s) :=
  .of_wp fun prog w A R s h => by
    obtain ⟨hp, g, d, tk, os⟩ := s
    obtain ⟨hl, ⟨es, ep, e⟩, h⟩ := h
    obtain ⟨c, dd, dt, sl⟩ := o
    dsimp only at e
    subst e
    wp_walk using wpAny_loadPart' hl, wpAny_load hl
    exact ⟨_, rfl, h⟩
theorem str_ne_no (b : Str) (u : Tok) (l : Addr) (o : Obj) :
    Meets (Builtin.«str.__ne__» ⟨[.str b u, .ref l], []⟩) (fun _ R s => s.heap.get? l = some o ∧ (∃ es ep, o.data = .dict es ep) ∧ R (.ok (.ret .notImplemented)) s) :=
  .of_wp fun prog w A R s h => by
    obtain ⟨hp, g, d, tk, os⟩ := s
    obtain ⟨hl, ⟨es, ep, e⟩, h⟩ := h
    obtain ⟨c, dd, dt, sl⟩ := o
    dsimp only at e
    subst e
    wp_walk using wpAny_loadPart' hl, wpAny_load hl
    exact ⟨_, rfl, h⟩
theorem int_eq_no (b : Int) (u : Tok) (l : Addr) (o : Obj) :
    Meets (Builtin.«int.__eq__» ⟨[.int b u, .ref l], []⟩) (fun _ R s => s.heap.get? l = some o ∧ (∃ es ep, o.data = .dict es ep) ∧ R (.ok (.ret .notImplemented)) s) :=
  .of_wp fun prog w A R s h => by
    obtain ⟨hp, g, d, tk, os⟩ := s
    obtain ⟨hl, ⟨es, ep, e⟩, h⟩ := h
    obtain ⟨c, dd, dt, sl⟩ := o
    dsimp only at e
    subst e
    wp_walk using wpAny_loadPart' hl, wpAny_load hl
    exact ⟨_, rfl, h⟩
theorem ne_dict_str {l : Addr} (b : Str) (u : Tok) (hl : DictAt s l) (hu : A.units < cLine) : RcNeAt A s (.ref l) (.str b u) true := fun prog w E Q h => by
  obtain ⟨⟨c, dd, dt, sl⟩, es, ep, ho, hc, hd⟩ := hl
  dsimp only at hc hd
  subst hc hd
  refine rc_ne_decline_or (k := false) ⟨_, ho, rfl⟩ (typeIs_str s b u) (by decide) PySem.F.sub_str_dict PySem.F.slot_dict_ne PySem.F.slot_str_ne_refl ?_ ?_ ?_ (.inr hu) h
  · exact fun _ hq => call_meets PySem.F.slot_dict_ne ⟨_, ho, rfl⟩ PySem.F.entry_dict_ne (PySem.F.args_dict_ne_2 _ _) (dict_ne_no l es ep dd sl b u) ⟨ho, hq⟩
  · exact fun _ hq => call_meets PySem.F.slot_str_ne_refl (typeIs_str s b u) PySem.F.entry_str_ne (PySem.F.args_str_ne_2 _ _) (str_ne_no b u l _) ⟨ho, ⟨es, ep, rfl⟩, hq⟩
  · exact fun _ hq => wpAny_of_eq (rfl : isSame (.ref l) (.str b u) = pure false) hq
theorem eq_str_dict {l : Addr} (b : Str) (u : Tok) (hl : DictAt s l) (hu : A.units < cLine) : EqAt A s (.str b u) (.ref l) false := fun prog w E Q h => by
  obtain ⟨⟨c, dd, dt, sl⟩, es, ep, ho, hc, hd⟩ := hl
  dsimp only at hc hd
  subst hc hd
  unfold eqBool
  refine wpAny_holding (wpAny_ite_split (fun hab => absurd (eq_of_beq hab) nofun) fun _ => wpAny_bind ?_)
  refine rc_eq_decline_or (k := false) (typeIs_str s b u) ⟨_, ho, rfl⟩ (by decide) PySem.F.sub_dict_str PySem.F.slot_str_eq PySem.F.slot_dict_eq_refl ?_ ?_ ?_ (.inr hu) (wpAny_truthy_bool h)
  · exact fun _ hq => call_meets PySem.F.slot_str_eq (typeIs_str s b u) PySem.F.entry_str_eq (PySem.F.args_str_eq_2 _ _) (str_eq_no b u l _) ⟨ho, ⟨es, ep, rfl⟩, hq⟩
  · exact fun _ hq => call_meets PySem.F.slot_dict_eq_refl ⟨_, ho, rfl⟩ PySem.F.entry_dict_eq (PySem.F.args_dict_eq_2 _ _) (dict_eq_no l es ep dd sl b u) ⟨ho, hq⟩
  · exact fun _ hq => wpAny_of_eq (rfl : isSame (.str b u) (.ref l) = pure false) hq
theorem eq_int_dict {l : Addr} (b : Int) (u : Tok) (hl : DictAt s l) (hu : A.units < cLine) : EqAt A s (.int b u) (.ref l) false := fun prog w E Q h => by
  obtain ⟨⟨c, dd, dt, sl⟩, es, ep, ho, hc, hd⟩ := hl
  dsimp only at hc hd
  subst hc hd
  unfold eqBool
  refine wpAny_holding (wpAny_ite_split (fun hab => absurd (eq_of_beq hab) nofun) fun _ => wpAny_bind ?_)
  refine rc_eq_decline_or (k := false) (typeIs_int s b u) ⟨_, ho, rfl⟩ (by decide) PySem.F.sub_dict_int PySem.F.slot_int_eq PySem.F.slot_dict_eq_refl ?_ ?_ ?_ (.inr hu) (wpAny_truthy_bool h)
  · exact fun _ hq => call_meets PySem.F.slot_int_eq (typeIs_int s b u) PySem.F.entry_int_eq (PySem.F.args_int_eq_2 _ _) (int_eq_no b u l _) ⟨ho, ⟨es, ep, rfl⟩, hq⟩
  · exact fun _ hq => call_meets PySem.F.slot_dict_eq_refl ⟨_, ho, rfl⟩ PySem.F.entry_dict_eq (PySem.F.args_dict_eq_2 _ _) (dict_eq_noI l es ep dd sl b u) ⟨ho, hq⟩
  · exact fun _ hq => wpAny_of_eq (rfl : isSame (.int b u) (.ref l) = pure false) hq
end
/-! ## a text beside any datum -/
def D.isS (d : D) (s : Str) : Bool := match d with
  | .str t => t == s
  | _ => false
section
variable {X : Cx}
theorem dict_of {pins : List (Addr × Obj)} {σ : L2.St} {H : Hp} {s : Shared} {a : Addr} (I : Inv X pins σ H s) (h : H a = some (.dK [])) : DictAt s a := by
  obtain ⟨_, _, vs, _, o, es, ep, h1, h2, h3, _⟩ := (show ObjOk X.prog X.w H s.heap a (.dK []) from I.hok a _ h)
  exact ⟨o, es, ep, h1, h2.1, h3⟩
def rNeS : R2 := fun x y H Q => ∃ d t, Rep H x d ∧ y = .str t ∧ Q (.bl (!d.isS t)) H
theorem op_neS (hu : X.A.units < cLine) : OpR X (compareOp .NotEq) rNeS := by
  intro pins s σ H x y v u Q I rx ry h
  obtain ⟨d, t, hd, rfl, q⟩ := h
  obtain ⟨k, rfl⟩ := ry
  have fin : EP X pins σ Q (.bool (!d.isS t)) s := ⟨.bl _, H, I, rfl, q⟩
  cases hd with
  | non => cases rx; exact RcNeAt.none_str t k X.prog X.w _ _ fin
  | bl b => cases rx; exact RcNeAt.bool_str b t k X.prog X.w _ _ fin
  | int i => obtain ⟨j, rfl⟩ := rx; exact RcNeAt.int_str i j t k X.prog X.w _ _ fin
  | str z => obtain ⟨j, rfl⟩ := rx; exact RcNeAt.str_str z j t k X.prog X.w _ _ fin
  | @tup a vs ds ha hs =>
    cases rx
    obtain ⟨its, rv, tp, _⟩ := I.tuple ha.sq
    exact RcNeAt.tuple_str t k tp hu X.prog X.w _ _ fin
  | @lst a vs ds ha hs =>
    cases rx
    obtain ⟨its, rv, tp, _⟩ := I.list (.of ha)
    exact RcNeAt.list_str t k tp.isList hu X.prog X.w _ _ fin
  | dic ha => cases rx; exact ne_dict_str t k (dict_of I ha) hu X.prog X.w _ _ fin
end
theorem rv_neS {H : Hp} {x : V} {d : D} {t : Str} (r : Rep H x d) : RV rNeS x (.str t) H (.bl (!d.isS t)) := fun H1 e Q q => ⟨d, t, r.up e, rfl, q H1 (Ex.refl _)⟩
end Kx

set_option Elab.async false
set_option linter.all false
set_option maxRecDepth 100000
set_option maxHeartbeats 1000000
namespace Kx
open PySem PySem.Spec PyProof.Rows L2 Evl
/-! ## sizes -/
mutual
def D.Sz : D → Prop
  | .str s => s.length ≤ 1000
  | .tup ds => ds.length ≤ 1000 ∧ Szs ds
  | .lst ds => ds.length ≤ 1000 ∧ Szs ds
  | _ => True
def Szs : List D → Prop
  | [] => True
  | d :: r => d.Sz ∧ Szs r
end
theorem szD_of {d : D} (h : d.Sz) : szD d ≤ 1000 := by
  cases d <;> first | exact Nat.zero_le _ | (unfold D.Sz at h; exact h)
theorem Szs.get : ∀ {ds : List D} {j : Nat} {d : D}, Szs ds → ds[j]? = some d → d.Sz
  | [], _, _, _, h => by simp at h
  | x :: r, 0, d, h, e => by
    have := Option.some.inj e
    subst this
    unfold Szs at h
    exact h.1
  | x :: r, j + 1, d, h, e => by
    unfold Szs at h
    exact Szs.get (j := j) h.2 e
theorem Szs.mem {ds : List D} {d : D} (h : Szs ds) (m : d ∈ ds) : d.Sz := by
  obtain ⟨j, hj⟩ := List.mem_iff_getElem?.mp m
  exact h.get hj
theorem D.Sz.tup {ds : List D} (h : (D.tup ds).Sz) : ds.length ≤ 1000 ∧ Szs ds := by
  unfold D.Sz at h
  exact h
theorem not_t {b : Bool} (h : (!b) = true) : b = false := by cases b <;> first | rfl | cases h
theorem not_f {b : Bool} (h : (!b) = false) : b = true := by cases b <;> first | rfl | cases h
section
variable {K : PySem.W.Frag} {σ : L2.St} {H : Hp} {ta tb te tl : TE} {v x z : V}
theorem ev_sp {ok : OkF} (st : Stb ok) {ta : TA} {vs : List V} {E : XK} (h : EvA ta σ H vs) (k : ok vs H z) : Ev (tCall (spX ok) [] E ta) σ H z :=
  ev_call h (by rw [List.append_nil]; exact spv st k)
theorem s_ifX {D : Ends} {t : TT} {tu u : TS} {b : Bool} (h : EvT t σ H b) (h1 : b = true → ∀ H1, Ex H H1 → tu { D with nx := u D } σ H1) (h2 : b = false → ∀ H1, Ex H H1 → u D σ H1) : tSeq (tIfS t tu tNext) u D σ H := s_if h h1 h2
/-- a call whose last argument is a new tuple, a new list -/
theorem ev_spU {ok : OkF} {xs : List V} {E : XK} (ha : Ev ta σ H x) (hb : EvU tb σ H xs) (k : ∀ p H1, H1 p = some (.tup xs) → Ex H H1 → ok [x, .ref p] H1 z) : Ev (tCall (spX ok) [] E (tCons ta (tCons tb tNil))) σ H z :=
  fun H1 e Q q => ha H1 e _ fun H2 e2 => hb H2 (e.trans e2) _ fun p H3 _ e3 hp => ⟨z, k p H3 hp ((e.trans e2).trans e3), fun H4 e4 => q H4 ((e2.trans e3).trans e4)⟩
theorem ev_spL {ok : OkF} {xs : List V} {E : XK} (hb : EvL tb σ H xs) (k : ∀ p H1, H1 p = some (.lst xs) → Ex H H1 → ok [.ref p] H1 z) : Ev (tCall (spX ok) [] E (tCons tb tNil)) σ H z :=
  fun H1 e Q q => hb H1 e _ fun p H3 _ e3 hp => ⟨z, k p H3 hp (e.trans e3), fun H4 e4 => q H4 (e3.trans e4)⟩
theorem ev_ixT {a : Addr} {vs : List V} {j : Nat} (h : Ev ta σ H (.ref a)) (ha : TupS H a vs) (hj : vs[j]? = some v) : Ev (tOp (rIxT K) ta (tC (.int (j : Int)))) σ H v :=
  ev_op h ev_c (rv_ixT ha.sq (atI_nat hj))
/-- all([f(item) for item in a tuple]) -/
theorem ev_allT {i : Nat} {a : Addr} {vs : List V} {ds : List D} {f : D → Bool} (h : Ev tl σ H (.ref a)) (ha : TupS H a vs) (hs : Reps H vs ds) (hz : ds.length ≤ 1000)
    (hf : ∀ (j : Nat) (v : V) (d : D), ds[j]? = some d → Rep H v d → Ev te ((σ.set i none).set i (some v)) H (.bl (f d))) :
    Ev (tCB (rAll K) (tCons (tLc (iTup K tl) (gName i) tYes te [i]) tNil)) σ H (.bl (ds.all f)) := by
  refine ev_is (ev_all (bs := ds.map f) (el_lcT h ha.sq (by rw [List.length_map, List.length_map, hs.length]) (by rw [hs.length]; omega) fun j x y hx hy => ?_)) (by rw [List.all_map]; rfl)
  obtain ⟨d, hd, r⟩ := hs.get hx
  rw [List.getElem?_map, List.getElem?_map, hd] at hy
  have ey : y = .bl (f d) := (Option.some.inj hy).symm
  subst ey
  exact hf j x d hd r
end
/-! ## mirrors -/
def D.txt : D → Str
  | .str s => s
  | _ => Str.empty
def D.fst : D → D
  | .tup (x :: _) => x
  | _ => .non
def D.nms (d : D) (lo hi : Int) : Bool := match d with
  | .tup ds => (decide (lo ≤ (ds.length : Int)) && decide ((ds.length : Int) ≤ hi)) && (ds.all D.nm && decide ((ds.map D.txt).Nodup))
  | _ => false
def leafs : List Str := ["leaf", "gate"]
def D.dr (as : List Str) (d : D) : Bool := match d with
  | .tup [n, a, b, s] => (n.nm && (amD a as && amD b as)) && (!decide (a.txt = b.txt) && amD s leafs)
  | _ => false
def D.drs (as : List Str) (d : D) : Bool := match d with
  | .tup ds => (decide ((1 : Int) ≤ (ds.length : Int)) && decide ((ds.length : Int) ≤ 6)) && (ds.all (D.dr as) && decide ((ds.map fun x => x.fst.txt).Nodup))
  | _ => false
def D.rt (ns ks : List Str) (d : D) : Bool := match d with
  | .tup [k, n, s] => amD k ks && (amD n ns && isBetw s 0 1)
  | _ => false
theorem nms_tup (ds : List D) (lo hi : Int) : D.nms (.tup ds) lo hi = (isTup (.tup ds) lo hi && (ds.all D.nm && decide ((ds.map D.txt).Nodup))) := rfl
theorem dr_4 (as : List Str) (n a b s : D) : D.dr as (.tup [n, a, b, s]) = ((n.nm && (amD a as && amD b as)) && (!decide (a.txt = b.txt) && amD s leafs)) := rfl
theorem nm_str : ∀ {d : D}, d.nm = true → d = .str d.txt
  | .str s, _ => rfl
  | .non, h | .bl _, h | .tup _, h | .int _, h | .lst _, h | .dic, h => by simp [D.nm] at h
theorem am_str : ∀ {d : D} {ns : List Str}, amD d ns = true → d = .str d.txt ∧ d.txt ∈ ns
  | .str s, ns, h => ⟨rfl, amg_iff.mp h⟩
  | .non, _, h | .bl _, _, h | .tup _, _, h | .int _, _, h | .lst _, _, h | .dic, _, h => by simp [amD] at h
theorem all_nm {ds : List D} (h : ds.all D.nm = true) : ds = (ds.map D.txt).map D.str := by
  rw [List.map_map]
  have : ∀ d ∈ ds, (D.str ∘ D.txt) d = d := fun d hd => (nm_str (List.all_eq_true.mp h d hd)).symm
  exact (List.map_id ds).symm.trans (List.map_congr_left fun d hd => (this d hd).symm)
def okNames : OkF := fun vs H z => ∃ v d lo hi, vs = [v, .int lo, .int hi] ∧ Rep H v d ∧ d.Sz ∧ z = .bl (d.nms lo hi)
def okDoor : OkF := fun vs H z => ∃ v d a as, vs = [v, .ref a] ∧ Rep H v d ∧ d.Sz ∧ Txs H a as ∧ z = .bl (d.dr as)
theorem stb_names : Stb okNames := fun _ _ _ _ e ⟨v, d, lo, hi, h1, h2, h3⟩ => ⟨v, d, lo, hi, h1, h2.up e, h3⟩
theorem stb_door : Stb okDoor := fun _ _ _ _ e ⟨v, d, a, as, h1, h2, h3, h4, h5⟩ => ⟨v, d, a, as, h1, h2.up e, h3, h4.up e, h5⟩
section
variable {P : Program} {w : World} {K : PySem.W.Frag} {mg : Str → Option Value} {base : Heap} (T : Txt K mg)
theorem ok_are_names : FnOk P w K mg base CX0 2 T.a_are_names T.d_are_names ["value", "least", "most"] (spX okNames) := by
  refine T.F_are_names.ok sc_are_names (fun vs H Q E h => ?_) (fun cdv A outer s H vs Q E hr h => ?_)
  · obtain ⟨z, ⟨v, d, lo, hi, rfl, _⟩, _⟩ := h
    rfl
  · obtain ⟨z, ⟨v, d, lo, hi, rfl, hv, hz, rfl⟩, q⟩ := h
    refine ⟨_, pss_cons (ps_if (pt_not (pt_val (pe_call (ok_is_tuple T) hr (by rfl) T.g_is_tuple T.F_is_tuple.kp (b_is_tuple T) .nil pass0 (pa_cons (pv 0) (pa_cons (pv 1) (pa_cons (pv 2) pa_nil))))))
        (pss_one (ps_ret pe_bl)) pss_nil)
      (pss_one (ps_ret (pe_and (pe_callB (cr_all rfl) (by rfl) T.z_all bo_all (pa_cons (pe_lc (own := [("item", 3)]) (g := gName 3) (tt := tYes) (by rfl) sc_are_names.nd (pi_tup (pv 0)) (blkOk_by (N := ["value", "least", "most", "item"]) (sc := defScope s_are_names) (by decide +kernel))
          (fun _ _ _ _ _ => pg_name (i := 3) sc_are_names.nd rfl (.inl rfl)) (fun _ _ _ _ _ => pts_nil) (fun _ _ _ _ _ => pe_call (ok_is_name T) hr (by rfl) T.g_is_name T.F_is_name.kp (b_is_name T) .nil pass0 (pa_cons (pv 3) pa_nil))) pa_nil))
        (pe_one (pe_call (ok_are_unlike T) hr (by rfl) T.g_are_unlike T.F_are_unlike.kp (b_are_unlike T) .nil pass0 (pa_cons (pv 0) pa_nil)))))), ?_⟩
    refine s_ifX (b := !isTup d lo hi) (et_not (et_B (ev_sp stb_tup (ea_cons (ev_var rfl) (ea_cons (ev_var rfl) (ea_cons (ev_var rfl) ea_nil))) ⟨v, d, lo, hi, rfl, hv, rfl⟩))) (fun hb H1 e => ?_) (fun hb H1 e => ?_)
    · refine s_ret (v := .bl false) ev_c fun H2 e2 => ?_
      have z : d.nms lo hi = false := by
        have hb' : isTup d lo hi = false := by simpa using hb
        cases d with
        | tup ds => rw [nms_tup, hb']; rfl
        | _ => rfl
      rw [z] at q
      exact q H2 (e.trans e2)
    · have hb' : isTup d lo hi = true := by simpa using hb
      cases d with
      | tup ds =>
        obtain ⟨a, vs, rfl, ha, hs⟩ := hv.tupD
        have hl := hz.tup.1
        refine s_ret (v := .bl ((D.tup ds).nms lo hi)) ?_ fun H2 e2 => ?_
        rotate_left
        · exact q H2 (e.trans e2)
        refine ev_is (ev_andV (a := ds.all D.nm) (b := decide ((ds.map D.txt).Nodup)) (ev_allT (ev_var rfl) (ha.up e) (hs.up e) hl fun j x d hd r => ?_) fun hall => ?_) (by rw [nms_tup, hb']; rfl)
        · exact ev_sp stb_name (ea_cons (ev_var rfl) ea_nil) ⟨x, d, rfl, r, szD_of (hz.tup.2.get hd), rfl⟩
        · have hds := all_nm hall
          refine ev_sp stb_unlike (ea_cons (ev_var rfl) ea_nil) ⟨a, ds.map D.txt, rfl, .inr ?_, by rw [List.length_map]; exact hl, rfl⟩
          have hs' := hs.up e
          rw [hds] at hs'
          rw [← strs_of_reps hs']
          exact (ha.up e).rd
      | _ => exact absurd hb' (by unfold isTup; exact Bool.false_ne_true)
theorem ok_is_door : FnOk P w K mg base CX0 2 T.a_is_door T.d_is_door ["value", "areas"] (spX okDoor) := by
  refine T.F_is_door.ok sc_is_door (fun vs H Q E h => ?_) (fun cdv A outer s H vs Q E hr h => ?_)
  · obtain ⟨z, ⟨v, d, a, as, rfl, _⟩, _⟩ := h
    rfl
  · obtain ⟨z, ⟨v, d, ar, as, rfl, hv, hz, has, rfl⟩, q⟩ := h
    refine ⟨_, pss_cons (ps_if (PW.pt (pw_or (pt_not (pt_val (pe_call (ok_is_tuple T) hr (by rfl) T.g_is_tuple T.F_is_tuple.kp (b_is_tuple T) .nil pass0 (pa_cons (pv 0) (pa_cons pe_int (pa_cons pe_int pa_nil))))))
          (pw_or1 (pt_not (pt_val (pe_call (ok_is_name T) hr (by rfl) T.g_is_name T.F_is_name.kp (b_is_name T) .nil pass0 (pa_cons (pe_ix ix_tup (pv 0) pe_int (fun _ _ => rfl)) pa_nil)))))))
        (pss_one (ps_ret pe_bl)) pss_nil)
      (pss_cons (ps_if (PW.pt (pw_or (pt_not (pt_val (pe_call (ok_is_among T) hr (by rfl) T.g_is_among T.F_is_among.kp (b_is_among T) .nil pass0 (pa_cons (pe_ix ix_tup (pv 0) pe_int (fun _ _ => rfl)) (pa_cons (pv 1) pa_nil)))))
          (pw_or1 (pt_not (pt_val (pe_call (ok_is_among T) hr (by rfl) T.g_is_among T.F_is_among.kp (b_is_among T) .nil pass0 (pa_cons (pe_ix ix_tup (pv 0) pe_int (fun _ _ => rfl)) (pa_cons (pv 1) pa_nil))))))))
        (pss_one (ps_ret pe_bl)) pss_nil)
      (pss_one (ps_ret (pe_and (pe_cmpR op_ne (pe_ix ix_tup (pv 0) pe_int (fun _ _ => rfl)) (pe_ix ix_tup (pv 0) pe_int (fun _ _ => rfl)) (nomark _))
        (pe_one (pe_call (ok_is_among T) hr (by rfl) T.g_is_among T.F_is_among.kp (b_is_among T) .nil pass0 (pa_cons (pe_ix ix_tup (pv 0) pe_int (fun _ _ => rfl)) (pa_cons (pe_tup (pa_cons pe_str (pa_cons pe_str pa_nil))) pa_nil)))))))), ?_⟩
    by_cases ht : isTup d 4 4 = true
    · cases d with
      | tup ds =>
        obtain ⟨a, vs, rfl, ha, hs⟩ := hv.tupD
        have hl4 : ds.length = 4 := by
          unfold isTup at ht
          have h2 := (Bool.and_eq_true _ _).mp ht
          have h3 := of_decide_eq_true h2.1
          have h4 := of_decide_eq_true h2.2
          omega
        match ds, hl4 with
        | [n, d1, d2, d3], _ =>
        cases hs with
        | cons r0 hs => cases hs with
          | cons r1 hs => cases hs with
            | cons r2 hs => cases hs with
              | cons r3 hs =>
                cases hs
                rename_i v0 v1 v2 v3
                have z0 := hz.tup.2.get (j := 0) rfl
                refine s_ifX (b := !n.nm) ?_ (fun hb H1 e => ?_) (fun hb H1 e => ?_)
                · refine et_is (et_or (a := false) (b := !n.nm) (et_is (et_not (et_B (ev_sp stb_tup (ea_cons (ev_var rfl) (ea_cons ev_c (ea_cons ev_c ea_nil))) ⟨_, _, 4, 4, rfl, hv, rfl⟩))) (by rw [ht]; rfl)) fun _ => ?_) (Bool.false_or _)
                  exact et_not (et_B (ev_sp stb_name (ea_cons (ev_ixT (j := 0) (ev_var rfl) ha rfl) ea_nil) ⟨v0, n, rfl, r0, szD_of z0, rfl⟩))
                · refine s_ret (v := .bl false) ev_c fun H2 e2 => ?_
                  have hb' : n.nm = false := by simpa using hb
                  rw [dr_4, hb'] at q
                  exact q H2 (e.trans e2)
                · have hb' : n.nm = true := by simpa using hb
                  have A0 : D.dr as (.tup [n, d1, d2, d3]) = ((amD d1 as && amD d2 as) && (!decide (d1.txt = d2.txt) && amD d3 leafs)) := by rw [dr_4, hb']; rfl
                  rw [A0] at q
                  refine s_ifX (b := !(amD d1 as && amD d2 as)) ?_ (fun hb2 H2 e2 => ?_) (fun hb2 H2 e2 => ?_)
                  · refine et_is (et_or (et_not (et_B (ev_sp stb_among (ea_cons (ev_ixT (j := 1) (ev_var rfl) (ha.up e) rfl) (ea_cons (ev_var rfl) ea_nil)) ⟨v1, d1, ar, as, rfl, r1.up e, has.up e, rfl⟩))) fun _ =>
                      et_not (et_B (ev_sp stb_among (ea_cons (ev_ixT (j := 2) (ev_var rfl) (ha.up e) rfl) (ea_cons (ev_var rfl) ea_nil)) ⟨v2, d2, ar, as, rfl, r2.up e, has.up e, rfl⟩))) (Bool.not_and _ _).symm
                  · refine s_ret (v := .bl false) ev_c fun H3 e3 => ?_
                    have hb3 : (amD d1 as && amD d2 as) = false := not_t hb2
                    rw [hb3] at q
                    exact q H3 ((e.trans e2).trans e3)
                  · have hb3 : (amD d1 as && amD d2 as) = true := not_f hb2
                    rw [hb3] at q
                    have E := e.trans e2
                    obtain ⟨h1, h2⟩ := (Bool.and_eq_true _ _).mp hb3
                    obtain ⟨t1, _⟩ := am_str h1
                    obtain ⟨t2, _⟩ := am_str h2
                    rw [t1] at r1
                    rw [t2] at r2
                    obtain rfl := r1.strD
                    obtain rfl := r2.strD
                    refine s_ret (v := .bl (!decide (d1.txt = d2.txt) && amD d3 leafs)) (ev_andV (ev_is (ev_op (ev_ixT (j := 1) (ev_var rfl) (ha.up E) rfl) (ev_ixT (j := 2) (ev_var rfl) (ha.up E) rfl) (rv_ne rfl)) ?_) fun _ => ?_) fun H3 e3 => ?_
                    rotate_left 2
                    · exact q H3 (E.trans e3)
                    · rw [decide_eq_decide.mpr (⟨V.str.inj, fun h => h ▸ rfl⟩ : (V.str d1.txt = V.str d2.txt) ↔ d1.txt = d2.txt)]
                    · exact ev_spU (ev_ixT (j := 3) (ev_var rfl) (ha.up E) rfl) (eu_tup (ea_cons ev_c (ea_cons ev_c ea_nil)) (by decide)) fun p H4 hp e4 => ⟨v3, d3, p, leafs, rfl, r3.up (E.trans e4), .inr (.inl hp), rfl⟩
      | _ => exact absurd ht (by unfold isTup; exact Bool.false_ne_true)
    · have ht' : isTup d 4 4 = false := by simpa using ht
      refine s_ifX (b := true) (et_is (et_or (b := false) (et_is (et_not (et_B (ev_sp stb_tup (ea_cons (ev_var rfl) (ea_cons ev_c (ea_cons ev_c ea_nil))) ⟨_, d, 4, 4, rfl, hv, rfl⟩))) (by rw [ht']; rfl : _ = true)) fun h => by cases h) rfl) (fun hb H1 e => ?_) (fun hb => by cases hb)
      refine s_ret (v := .bl false) ev_c fun H2 e2 => ?_
      have z : d.dr as = false := by
        cases d with
        | tup ds =>
          match ds, ht' with
          | [_, _, _, _], h => exact absurd h (by simp [isTup])
          | [], _ | [_], _ | [_, _], _ | [_, _, _], _ | _ :: _ :: _ :: _ :: _ :: _, _ => rfl
        | _ => rfl
      rw [z] at q
      exact q H2 (e.trans e2)
end
end Kx

set_option Elab.async false
set_option linter.all false
set_option maxRecDepth 100000
set_option maxHeartbeats 1000000
namespace Kx
open PySem PySem.Spec PyProof.Rows L2 Evl
section
variable {K : PySem.W.Frag} {σ : L2.St} {H : Hp} {ta tb te tl : TE} {v x z : V}
/-- [te for i in range(n)] -/
theorem el_lcR {i : Nat} {ra : TA} {n : Int} {ys : List V} (h : EvA ra σ H [.int n]) (hl : ys.length = n.toNat) (hz : n ≤ 10000) (hz0 : -10000 ≤ n)
    (hy : ∀ (j : Nat) (y : V), ys[j]? = some y → Ev te ((σ.set i none).set i (some (.int (0 + (j : Int))))) H y) : EvL (tLc (iRng1 ra) (gName i) tYes te [i]) σ H ys := fun H1 e Q q =>
  h H1 e _ fun H2 e2 => ⟨n, rfl, by omega, by omega, fun D hD =>
    lc_range (lo := 0) (n := n.toNat) (fun j H' => Ex H2 H' ∧ H' D = some (.lst (ys.take j))) ⟨Ex.new hD, upd_same⟩
      (fun j H' hj p => ⟨by show (((σ.set i none).set i (some (.int (0 + (j : Int))))).set i none) = (σ.set i none); rw [List.set_set, List.set_set], by
        have hlt2 : j < ys.length := by omega
        have gy : ys[j]? = some ys[j] := List.getElem?_eq_getElem hlt2
        refine hy j _ gy H' ((e.trans e2).trans p.1) _ fun H3 e3 => ⟨ys.take j, e3 _ _ p.2, ?_, (p.1.trans e3).mut hD, ?_⟩
        · rw [List.length_take]
          exact sz_lt (Nat.lt_of_le_of_lt (Nat.min_le_right _ _) (by omega))
        · rw [upd_same, List.take_add_one, gy]
          rfl⟩)
      (fun H' p => q D H' (fresh_back e2 hD) (e2.trans p.1) (by rw [p.2, List.take_of_length_le (by omega)]))⟩
theorem ev_ixL {a : Addr} {vs : List V} {j : Nat} {k : Int} (h : Ev ta σ H (.ref a)) (hk : Ev tb σ H (.int k)) (ha : H a = some (.lst vs)) (e : k = (j : Int)) (hj : vs[j]? = some v) : Ev (tOp (rIxL K) ta tb) σ H v :=
  ev_op h hk (rv_ixL (.of ha) (by rw [e]; exact atI_nat hj))
end
/-! ## rows of numbers -/
def itup (t : List Int) : D := .tup (t.map D.int)
theorem reps_ints {H : Hp} : ∀ {t : List Int} {vs : List V}, Reps H vs (t.map D.int) → vs = t.map V.int
  | [], _, .nil => rfl
  | i :: r, _, .cons h t => by
    cases h
    rw [reps_ints t]
    rfl
theorem reps_of_ints {H : Hp} : ∀ t : List Int, Reps H (t.map V.int) (t.map D.int)
  | [] => .nil
  | i :: r => .cons (.int i) (reps_of_ints r)
theorem itup_at {H : Hp} {v : V} {t : List Int} (r : Rep H v (itup t)) : ∃ a, v = .ref a ∧ TupS H a (t.map V.int) := by
  obtain ⟨a, vs, h1, h2, h3⟩ := r.tupD
  rw [reps_ints h3] at h2
  exact ⟨a, h1, h2⟩
def ascB (ts : List (List Int)) : List Bool := (List.range (ts.length - 1)).map fun j => HT.lexLt (ts.getD j []) (ts.getD (j + 1) [])
def ascT (ts : List (List Int)) : Bool := (ascB ts).all id
def okAsc : OkF := fun vs H z => ∃ a us ts, vs = [.ref a] ∧ H a = some (.lst us) ∧ Reps H us (ts.map itup) ∧ ts.length ≤ 1000 ∧ z = .bl (ascT ts)
theorem stb_asc : Stb okAsc := fun _ _ _ _ e ⟨a, us, ts, h1, h2, h3, h4, h5⟩ => ⟨a, us, ts, h1, e _ _ h2, h3.up e, h4, h5⟩
def okDoors : OkF := fun vs H z => ∃ v d a as, vs = [v, .ref a] ∧ Rep H v d ∧ d.Sz ∧ Txs H a as ∧ z = .bl (d.drs as)
def okRight : OkF := fun vs H z => ∃ v d a ns b ks, vs = [v, .ref a, .ref b] ∧ Rep H v d ∧ Txs H a ns ∧ Txs H b ks ∧ z = .bl (d.rt ns ks)
theorem stb_doors : Stb okDoors := fun _ _ _ _ e ⟨v, d, a, as, h1, h2, h3, h4, h5⟩ => ⟨v, d, a, as, h1, h2.up e, h3, h4.up e, h5⟩
theorem stb_right : Stb okRight := fun _ _ _ _ e ⟨v, d, a, ns, b, ks, h1, h2, h3, h4, h5⟩ => ⟨v, d, a, ns, b, ks, h1, h2.up e, h3.up e, h4.up e, h5⟩
theorem drs_tup (as : List Str) (ds : List D) : D.drs as (.tup ds) = (isTup (.tup ds) 1 6 && (ds.all (D.dr as) && decide ((ds.map fun x => x.fst.txt).Nodup))) := rfl
theorem dr_shape {as : List Str} : ∀ {d : D}, d.dr as = true → ∃ n a b s, d = .tup [.str n, .str a, .str b, .str s] ∧ nmS n = true ∧ a ∈ as ∧ b ∈ as ∧ a ≠ b ∧ s ∈ leafs
  | .tup [n, a, b, s], h => by
    rw [dr_4] at h
    simp only [Bool.and_eq_true] at h
    obtain ⟨⟨h1, h2, h3⟩, h4, h5⟩ := h
    obtain ⟨ea, ma⟩ := am_str h2
    obtain ⟨eb, mb⟩ := am_str h3
    obtain ⟨es, ms⟩ := am_str h5
    have en := nm_str h1
    refine ⟨n.txt, a.txt, b.txt, s.txt, by rw [← ea, ← eb, ← es, ← en], ?_, ma, mb, ?_, ms⟩
    · rw [en] at h1
      exact h1
    · intro q
      rw [decide_eq_true q] at h4
      cases h4
  | .tup [], h | .tup [_], h | .tup [_, _], h | .tup [_, _, _], h | .tup (_ :: _ :: _ :: _ :: _ :: _), h => by simp [D.dr] at h
  | .non, h | .bl _, h | .str _, h | .int _, h | .lst _, h | .dic, h => by simp [D.dr] at h
section
variable {P : Program} {w : World} {K : PySem.W.Frag} {mg : Str → Option Value} {base : Heap} (T : Txt K mg)
theorem ok_is_ascending : FnOk P w K mg base CX0 1 T.a_is_ascending T.d_is_ascending ["row"] (spX okAsc) := by
  refine T.F_is_ascending.ok sc_is_ascending (fun vs H Q E h => ?_) (fun cdv A outer s H vs Q E hr h => ?_)
  · obtain ⟨z, ⟨a, us, ts, rfl, _⟩, _⟩ := h
    rfl
  · obtain ⟨z, ⟨a, us, ts, rfl, ha, hs, hz, rfl⟩, q⟩ := h
    refine ⟨_, pss_one (ps_ret (pe_callB (cr_all rfl) (by rfl) T.z_all bo_all (pa_cons (pe_lc (own := [("at", 1)]) (g := gName 1) (tt := tYes) (by rfl) sc_is_ascending.nd
        (pi_range1 (by rfl) T.z_range (pa_cons (pe_op op_sub (pe_callB call_len_seq (by rfl) T.z_len bo_len (pa_cons (pv 0) pa_nil)) pe_int) pa_nil)) (blkOk_by (N := ["row", "at"]) (sc := defScope s_is_ascending) (by decide +kernel))
        (fun _ _ _ _ _ => pg_name (i := 1) sc_is_ascending.nd rfl (.inl rfl)) (fun _ _ _ _ _ => pts_nil)
        (fun _ _ _ _ _ => pe_cmpR (r := rLtT K) (op_ltT hr.units0) (pe_ix (r := rIxL K) ix_list (pv 0) (pv 1) (fun _ _ => rfl)) (pe_ix (r := rIxL K) ix_list (pv 0) (pe_op op_add (pv 1) pe_int) (fun _ _ => rfl)) (nomark _))) pa_nil))), ?_⟩
    have hl : us.length = ts.length := by rw [hs.length, List.length_map]
    refine s_ret (v := .bl (ascT ts)) (ev_all (bs := ascB ts) (el_lcR (n := (us.length : Int) - 1) (ea_cons (ev_op (ev_lenT (ev_var rfl) (.inl ha)) ev_c rv_I0) ea_nil) ?_ (by omega) (by omega) fun j y hy => ?_)) q
    · unfold ascB
      rw [List.length_map, List.length_map, List.length_range]
      omega
    · have hj : j < ts.length - 1 := by
        have := (List.getElem?_eq_some_iff.mp hy).1
        unfold ascB at this
        rw [List.length_map, List.length_map, List.length_range] at this
        exact this
      have ey : y = .bl (HT.lexLt (ts.getD j []) (ts.getD (j + 1) [])) := by
        unfold ascB at hy
        rw [List.getElem?_map, List.getElem?_map, List.getElem?_range hj] at hy
        exact (Option.some.inj hy).symm
      subst ey
      have at_ : ∀ k, k < ts.length → ∃ p, us[k]? = some (.ref p) ∧ TupS H p ((ts.getD k []).map V.int) := fun k hk => by
        have e1 : (ts.map itup)[k]? = some (itup (ts.getD k [])) := by
          rw [List.getElem?_map, List.getElem?_eq_getElem hk, List.getD_eq_getElem?_getD, List.getElem?_eq_getElem hk]
          rfl
        obtain ⟨v, hv, r⟩ := hs.getD e1
        obtain ⟨p, rfl, hp⟩ := itup_at r
        exact ⟨p, hv, hp⟩
      obtain ⟨p, hp1, hp2⟩ := at_ j (by omega)
      obtain ⟨r, hr1, hr2⟩ := at_ (j + 1) (by omega)
      refine ev_op (ev_ixL (j := j) (ev_var rfl) (ev_var rfl) ha (by omega) hp1) (ev_ixL (j := j + 1) (k := 0 + (j : Int) + 1) (ev_var rfl) (ev_op (ev_var rfl) ev_c rv_I0) ha (by omega) hr1) ?_
      exact fun H1 e Q k => ⟨p, r, _, _, rfl, rfl, (hp2.up e).sq, (hr2.up e).sq, k H1 (Ex.refl _)⟩
theorem ok_are_doors : FnOk P w K mg base CX0 3 T.a_are_doors T.d_are_doors ["value", "areas"] (spX okDoors) := by
  refine T.F_are_doors.ok sc_are_doors (fun vs H Q E h => ?_) (fun cdv A outer s H vs Q E hr h => ?_)
  · obtain ⟨z, ⟨v, d, a, as, rfl, _⟩, _⟩ := h
    rfl
  · obtain ⟨z, ⟨v, d, ar, as, rfl, hv, hz, has, rfl⟩, q⟩ := h
    have hr1 : Room 1 (A.deeper (envOfC "are_doors" (defScope s_are_doors) s.heap.objs.size T.a_are_doors cdv)) := hr.mono (by decide)
    refine ⟨_, pss_cons (ps_if (PW.pt (pw_or (pt_not (pt_val (pe_call (ok_is_tuple T) hr1 (by rfl) T.g_is_tuple T.F_is_tuple.kp (b_is_tuple T) .nil pass0 (pa_cons (pv 0) (pa_cons pe_int (pa_cons pe_int pa_nil))))))
          (pw_or1 (pt_not (pt_val (pe_callB (cr_all rfl) (by rfl) T.z_all bo_all (pa_cons (pe_lc (own := [("item", 2)]) (g := gName 2) (tt := tYes) (by rfl) sc_are_doors.nd (pi_tup (pv 0)) (blkOk_by (N := ["value", "areas", "item"]) (sc := defScope s_are_doors) (by decide +kernel))
            (fun _ _ _ _ _ => pg_name (i := 2) sc_are_doors.nd rfl (.inl rfl)) (fun _ _ _ _ _ => pts_nil) (fun _ _ _ _ _ => pe_call (ok_is_door T) hr (by rfl) T.g_is_door T.F_is_door.kp (b_is_door T) .nil pass0 (pa_cons (pv 2) (pa_cons (pv 1) pa_nil)))) pa_nil)))))))
        (pss_one (ps_ret pe_bl)) pss_nil)
      (pss_one (ps_ret (pe_call (ok_are_unlike T) hr1 (by rfl) T.g_are_unlike T.F_are_unlike.kp (b_are_unlike T) .nil pass0 (pa_cons (pe_lc (own := [("item", 2)]) (g := gName 2) (tt := tYes) (by rfl) sc_are_doors.nd (pi_tup (pv 0)) (blkOk_by (N := ["value", "areas", "item"]) (sc := defScope s_are_doors) (by decide +kernel))
            (fun _ _ _ _ _ => pg_name (i := 2) sc_are_doors.nd rfl (.inl rfl)) (fun _ _ _ _ _ => pts_nil) (fun _ _ _ _ _ => pe_ix (r := rIxT K) ix_tup (pv 2) pe_int (fun _ _ => rfl))) pa_nil)))), ?_⟩
    by_cases ht : isTup d 1 6 = true
    · cases d with
      | tup ds =>
        obtain ⟨a, vs, rfl, ha, hs⟩ := hv.tupD
        have hl := hz.tup.1
        rw [drs_tup, ht, Bool.true_and] at q
        refine s_ifX (b := !ds.all (D.dr as)) ?_ (fun hb H1 e => ?_) (fun hb H1 e => ?_)
        · refine et_is (et_or (a := false) (b := !ds.all (D.dr as)) (et_is (et_not (et_B (ev_sp stb_tup (ea_cons (ev_var rfl) (ea_cons ev_c (ea_cons ev_c ea_nil))) ⟨_, _, 1, 6, rfl, hv, rfl⟩))) (by rw [ht]; rfl)) fun _ => ?_) (Bool.false_or _)
          exact et_not (et_B (ev_allT (ev_var rfl) ha hs hl fun j x d hd r => ev_sp stb_door (ea_cons (ev_var rfl) (ea_cons (ev_var rfl) ea_nil)) ⟨x, d, ar, as, rfl, r, hz.tup.2.get hd, has, rfl⟩))
        · rw [not_t hb] at q
          exact s_ret (v := .bl false) ev_c fun H2 e2 => q H2 (e.trans e2)
        · have hall := not_f hb
          rw [hall, Bool.true_and] at q
          refine s_ret (v := .bl (decide ((ds.map fun x => x.fst.txt).Nodup))) (ev_spL (xs := sv (ds.map fun x => x.fst.txt)) (el_lcT (ev_var rfl) (ha.up e).sq ?_ (by rw [hs.length]; omega) fun j x y hx hy => ?_) fun p H2 hp e2 => ⟨p, _, rfl, .inl hp, by rw [List.length_map]; exact hl, rfl⟩) fun H2 e2 => q H2 (e.trans e2)
          · unfold sv
            rw [List.length_map, List.length_map, hs.length]
          · obtain ⟨d, hd, r⟩ := hs.get hx
            obtain ⟨n, a1, b1, s1, rfl, _⟩ := dr_shape (List.all_eq_true.mp hall d (List.mem_of_getElem? hd))
            unfold sv at hy
            rw [List.getElem?_map, List.getElem?_map, hd] at hy
            have ey : y = .str n := (Option.some.inj hy).symm
            subst ey
            obtain ⟨b, ws, rfl, hb2, hs2⟩ := r.tupD
            cases hs2 with
            | cons r0 _ =>
              obtain rfl := r0.strD
              exact ev_ixT (j := 0) (ev_var rfl) (hb2.up e) rfl
      | _ => exact absurd ht (by unfold isTup; exact Bool.false_ne_true)
    · have ht' : isTup d 1 6 = false := by simpa using ht
      refine s_ifX (b := true) (et_is (et_or (b := false) (et_is (et_not (et_B (ev_sp stb_tup (ea_cons (ev_var rfl) (ea_cons ev_c (ea_cons ev_c ea_nil))) ⟨_, d, 1, 6, rfl, hv, rfl⟩))) (by rw [ht']; rfl : _ = true)) fun h => by cases h) rfl) (fun hb H1 e => ?_) (fun hb => by cases hb)
      refine s_ret (v := .bl false) ev_c fun H2 e2 => ?_
      have z : d.drs as = false := by
        cases d with
        | tup ds => rw [drs_tup, ht']; rfl
        | _ => rfl
      rw [z] at q
      exact q H2 (e.trans e2)
theorem ok_is_right : FnOk P w K mg base CX0 2 T.a_is_right T.d_is_right ["value", "names", "kinds"] (spX okRight) := by
  refine T.F_is_right.ok sc_is_right (fun vs H Q E h => ?_) (fun cdv A outer s H vs Q E hr h => ?_)
  · obtain ⟨z, ⟨v, d, a, ns, b, ks, rfl, _⟩, _⟩ := h
    rfl
  · obtain ⟨z, ⟨v, d, a, ns, b, ks, rfl, hv, hns, hks, rfl⟩, q⟩ := h
    refine ⟨_, pss_cons (ps_if (pt_not (pt_val (pe_call (ok_is_tuple T) hr (by rfl) T.g_is_tuple T.F_is_tuple.kp (b_is_tuple T) .nil pass0 (pa_cons (pv 0) (pa_cons pe_int (pa_cons pe_int pa_nil))))))
        (pss_one (ps_ret pe_bl)) pss_nil)
      (pss_one (ps_ret (pe_and (pe_call (ok_is_among T) hr (by rfl) T.g_is_among T.F_is_among.kp (b_is_among T) .nil pass0 (pa_cons (pe_ix ix_tup (pv 0) pe_int (fun _ _ => rfl)) (pa_cons (pv 2) pa_nil)))
        (pe_and (pe_call (ok_is_among T) hr (by rfl) T.g_is_among T.F_is_among.kp (b_is_among T) .nil pass0 (pa_cons (pe_ix ix_tup (pv 0) pe_int (fun _ _ => rfl)) (pa_cons (pv 1) pa_nil)))
        (pe_one (pe_call (ok_is_between T) hr (by rfl) T.g_is_between T.F_is_between.kp (b_is_between T) .nil pass0 (pa_cons (pe_ix ix_tup (pv 0) pe_int (fun _ _ => rfl)) (pa_cons pe_int (pa_cons pe_int pa_nil))))))))), ?_⟩
    refine s_ifX (b := !isTup d 3 3) (et_not (et_B (ev_sp stb_tup (ea_cons (ev_var rfl) (ea_cons ev_c (ea_cons ev_c ea_nil))) ⟨v, d, 3, 3, rfl, hv, rfl⟩))) (fun hb H1 e => ?_) (fun hb H1 e => ?_)
    · have hb' := not_t hb
      refine s_ret (v := .bl false) ev_c fun H2 e2 => ?_
      have z : d.rt ns ks = false := by
        cases d with
        | tup ds =>
          match ds, hb' with
          | [_, _, _], h => exact absurd h (by simp [isTup])
          | [], _ | [_], _ | [_, _], _ | _ :: _ :: _ :: _ :: _, _ => rfl
        | _ => rfl
      rw [z] at q
      exact q H2 (e.trans e2)
    · have hb' := not_f hb
      cases d with
      | tup ds =>
        obtain ⟨p, vs, rfl, ha, hs⟩ := hv.tupD
        have hl3 : ds.length = 3 := by
          unfold isTup at hb'
          have h2 := (Bool.and_eq_true _ _).mp hb'
          have h3 := of_decide_eq_true h2.1
          have h4 := of_decide_eq_true h2.2
          omega
        match ds, hl3 with
        | [d0, d1, d2], _ =>
        cases hs with
        | cons r0 hs => cases hs with
          | cons r1 hs => cases hs with
            | cons r2 hs =>
              cases hs
              rename_i v0 v1 v2
              refine s_ret (v := .bl (amD d0 ks && (amD d1 ns && isBetw d2 0 1))) (ev_andV ?_ fun _ => ev_andV ?_ fun _ => ?_) fun H2 e2 => ?_
              · exact ev_sp stb_among (ea_cons (ev_ixT (j := 0) (ev_var rfl) (ha.up e) rfl) (ea_cons (ev_var rfl) ea_nil)) ⟨v0, d0, b, ks, rfl, r0.up e, hks.up e, rfl⟩
              · exact ev_sp stb_among (ea_cons (ev_ixT (j := 1) (ev_var rfl) (ha.up e) rfl) (ea_cons (ev_var rfl) ea_nil)) ⟨v1, d1, a, ns, rfl, r1.up e, hns.up e, rfl⟩
              · exact ev_sp stb_betw (ea_cons (ev_ixT (j := 2) (ev_var rfl) (ha.up e) rfl) (ea_cons ev_c (ea_cons ev_c ea_nil))) ⟨v2, d2, 0, 1, rfl, r2.up e, rfl⟩
              · exact q H2 (e.trans e2)
      | _ => exact absurd hb' (by unfold isTup; exact Bool.false_ne_true)
end
end Kx

set_option Elab.async false
set_option linter.all false
set_option maxRecDepth 100000
set_option maxHeartbeats 1000000
namespace Kx
open PySem PySem.Spec PyProof.Rows L2 Evl
/-! ## tuples whose object is known -/
/-- a new tuple, its object known -/
def newT (xs : List V) (H : Hp) (Q : VK) : Prop := ∀ (p : Addr) (o : Obj), H p = none → o.dict = none → Q (.ref p) (upd H p (.frz o (.tup xs)))
section
variable {X : Cx}
theorem laid_T {pins : List (Addr × Obj)} {σ : L2.St} {H : Hp} {s : Shared} {xs : List V} {us : List Value} {Q : VK} {h' : Heap} {t' : Nat} (I : Inv X pins σ H { s with heap := h' }) (r : Vals xs us) (hz : xs.length ≤ sizeLine) (q : newT xs H Q) :
    EP X pins σ Q (.ref h'.objs.size) { s with heap := h'.push { cls := .type "tuple", data := .seq us.toArray }, toks := t' } := by
  have hg : (h'.push { cls := .type "tuple", data := .seq us.toArray }).get? h'.objs.size = some { cls := .type "tuple", data := .seq us.toArray } := Heap.get?_push_size _ rfl
  exact ⟨.ref h'.objs.size, _, I.laid (t' := t') (o := .frz { cls := .type "tuple", data := .seq us.toArray } (.tup xs)) (fun b ob e => Heap.get?_push_of_some _ e) (Nat.le_refl _) ⟨hg, hz, us, r, ⟨_, hg, rfl, _, rfl⟩⟩, rfl, q _ _ (I.hok.fresh (Nat.le_refl _)) rfl⟩
def tTupF (t : TA) : TE := fun σ H Q => t σ H fun xs H1 => xs.length ≤ sizeLine ∧ newT xs H1 Q
theorem pe_tupF {es : List Expr} {t : TA} {k : Nat} {pos : Pos} (h : PA X es t) : PE X (.Tuple es k pos) (tTupF t) := by
  refine ⟨fun pins s σ H Q I hq => wpAny_Tuple_spliced (thn (h.run pos pins s σ H _ I hq) fun us s1 hh => ?_)⟩
  obtain ⟨xs, H1, I1, r, z, q⟩ := hh
  refine ⟨by rw [← r.length]; exact z, ?_⟩
  exact laid_T (s := s1) (h' := s1.heap) (t' := s1.toks) I1 r z q
def rTupOf (K : PySem.W.Frag) : List V → Hp → VK → Prop := fun xs H Q => ∃ p ys, xs = [.ref p] ∧ SqL K H p ys ∧ newT ys H Q
theorem call_tupF : CallR X (.type "tuple") (rTupOf X.K) := by
  intro pins s σ H xs us Q I r h
  obtain ⟨p, ys, rfl, hq, q⟩ := h
  obtain ⟨u, rfl, rx⟩ := vals1 r
  cases rx
  obtain ⟨its, r', pl, hz⟩ := I.list hq
  have hlen := r'.length
  refine call_tuple_list pl.isList (fun h' kp => ?_) (by simp only [List.size_toArray] <;> omega)
  exact laid_T (s := s) (t' := s.toks) (I.kept (t' := s.toks) kp) r' hz q
def rCatF : R2 := fun x y H Q => ∃ a b xs ys, x = .ref a ∧ y = .ref b ∧ TupS H a xs ∧ TupS H b ys ∧ xs.length + ys.length ≤ sizeLine ∧
  (xs = [] → Q (.ref b) H) ∧ (xs ≠ [] → ys = [] → Q (.ref a) H) ∧ (xs ≠ [] → ys ≠ [] → newT (xs ++ ys) H Q)
theorem op_catF : OpR X (binaryOp .Add) rCatF := by
  intro pins s σ H x y v u Q I rx ry h
  obtain ⟨a, b, xs, ys, rfl, rfl, ha, hb, hz, q0, q1, q2⟩ := h
  cases rx
  cases ry
  obtain ⟨its, r1, p1, _⟩ := I.tuple ha.sq
  obtain ⟨its2, r2, p2, _⟩ := I.tuple hb.sq
  by_cases hx : xs = []
  · subst hx
    cases r1
    exact cat_tup0 p1 p2 ⟨.ref b, H, I, rfl, q0 rfl⟩
  · refine HT.cat_tup p1 p2 (fun z => hx (r1.nil_iff.mp z)) (fun z => ⟨.ref a, H, I, rfl, q1 hx (r2.nil_iff.mp z)⟩) (fun z => ?_) (by rw [← r1.length, ← r2.length]; exact hz)
    exact laid_T (s := s) (h' := s.heap) (t' := s.toks) I (r1.append r2) (by rw [List.length_append]; exact hz) (q2 hx fun w => z (r2.nil_iff.mpr w))
def rSlF : V → Option Int → Option Int → Hp → VK → Prop := fun x lo hi H Q => ∃ a xs, x = .ref a ∧ TupS H a xs ∧
  (HT.sIx xs.length 0 lo = 0 ∧ HT.sIx xs.length xs.length hi = xs.length → Q (.ref a) H) ∧ (¬ (HT.sIx xs.length 0 lo = 0 ∧ HT.sIx xs.length xs.length hi = xs.length) → newT (cutV xs lo hi) H Q)
theorem sl_tupF : SlR X rSlF := by
  intro pins s σ H x v vl vu lo hi sl Q I rx hs pl pu h
  obtain ⟨a, xs, rfl, hx, q1, q2⟩ := h
  cases rx
  obtain ⟨its, r, ht, hz⟩ := I.tuple hx.sq
  have hlen : its.toArray.size = xs.length := by rw [List.size_toArray]; exact r.length.symm
  refine ⟨"tuple", _, PyProof.Rows.slot_tuple_getitem.lookup, ht.typeIs, ?_⟩
  by_cases hw : HT.sIx xs.length 0 lo = 0 ∧ HT.sIx xs.length xs.length hi = xs.length
  · exact getItem_tuple_whole ht hs pl pu (by rw [hlen]; exact hw) ⟨.ref a, H, I, rfl, q1 hw⟩
  · refine HT.getItem_tuple_cut ht hs pl pu (by rw [hlen]; exact hw) ?_ (by rw [hlen]; exact hz)
    rw [hlen]
    exact laid_T (s := s) (h' := s.heap) (t' := s.toks) I ((r.drop (HT.sIx xs.length 0 lo)).take (HT.sIx xs.length xs.length hi - HT.sIx xs.length 0 lo)) (Nat.le_trans (cutV_length xs lo hi) hz) (q2 hw)
/-- t.index(x), t a tuple of texts -/
def tTix (to : TE) (t : TA) : TE := fun σ H Q => to σ H fun x H1 => ∃ a ys, x = .ref a ∧ TupS H1 a (sv ys) ∧ t σ H1 fun vs H2 => TupS H2 a (sv ys) ∧ ∃ z j, vs = [.str z] ∧ ys[j]? = some z ∧ (∀ m, m < j → ys[m]? ≠ some z) ∧ Q (.int (j : Nat)) H2
theorem pe_tix {o e : Expr} {to : TE} {t : TA} {apos cpos : Pos} (ho : PE X o to) (ha : PA X [e] t)
    (hbase : attributeBase o "index" X.env (eval o X.env) = eval o X.env := by rfl)
    (hfew : ((backTo cpos (starEach [e] X.env)).all (fun x => !x.1) && (backToKw cpos (keywordEach [] X.env)).all (fun x => x.1.isSome)
      && decide ([e].length + ([] : List Keyword).length + (if ([] : List Keyword).isEmpty then 0 else 1) < 30)) = true := by rfl)
    (hline : (apos.endLine == cpos.line) = true := by rfl) (hs : starEach [e] X.env = (false, eval e X.env) :: starEach [] X.env := by rfl) (hplain : (backTo cpos (starEach [] X.env)).any (·.1) = false := by rfl) :
    PE X (.Call (.Attribute o "index" apos) [e] [] cpos) (tTix to t) := by
  refine ⟨fun pins s σ H Q I h => wpAny_Call_method_late hbase hfew hline rfl (thn (ho.run pins s σ H _ I h) fun v s1 hh => ?_)⟩
  obtain ⟨x, H1, I1, r1, a, ys, rfl, ht, q1⟩ := hh
  cases r1
  obtain ⟨ob, hd, hb⟩ := id ht
  obtain ⟨hg, _⟩ := (show ObjOk X.prog X.w H1 s1.heap a (.frz ob (.tup (sv ys))) from I1.hok a _ hb)
  obtain ⟨its, _, pl, _⟩ := I1.tuple ht.sq
  refine ⟨"tuple", "tuple.index", PySem.F.plainAttrs_tuple, PySem.F.slot_tuple_index, PySem.F.type_tuple_index, pl.typeIs, fun b eb => ?_, ?_⟩
  · cases eb
    exact ⟨ob, hg, hd⟩
  · have hA := ha.run cpos pins s1 σ H1 _ I1 q1
    rw [hs] at hA ⊢
    refine Calls.callWith_builtin (by show (false || (backTo cpos (starEach [] X.env)).any (·.1)) = false; rw [hplain] <;> rfl) (Calls.evalArgs_plain (thn hA fun us s2 hh => ?_))
    obtain ⟨vs, H2, I2, r2, ht2, z, j, rfl, hj, hno, q⟩ := hh
    exact mt_tup_index pins s2 σ H2 (.ref a) [.str z] (.ref a) us Q I2 rfl r2 ⟨a, ys, z, j, rfl, rfl, ht2.sq, hj, hno, q⟩
end
/-! ## what an expression stands for -/
section
variable {K : PySem.W.Frag} {σ : L2.St} {H H' : Hp} {ta tb te tl : TE} {v x z : V}
/-- te gives a value that stands for d -/
def EvR (te : TE) (σ : L2.St) (H : Hp) (d : D) : Prop := ∀ H1, Ex H H1 → ∀ Q : VK, (∀ v H2, Ex H1 H2 → Rep H2 v d → Q v H2) → te σ H1 Q
def EvAR (ta : TA) (σ : L2.St) (H : Hp) (ds : List D) : Prop := ∀ H1, Ex H H1 → ∀ Q : List V → Hp → Prop, (∀ vs H2, Ex H1 H2 → Reps H2 vs ds → Q vs H2) → ta σ H1 Q
theorem EvR.mono {d : D} (e : Ex H H') (h : EvR te σ H d) : EvR te σ H' d := fun H1 e1 Q q => h H1 (e.trans e1) Q q
theorem er_of {d : D} (h : Ev te σ H v) (r : Rep H v d) : EvR te σ H d := fun H1 e Q q => h H1 e _ fun H2 e2 => q v H2 e2 (r.up (e.trans e2))
theorem ear_nil : EvAR tNil σ H [] := fun H1 _ _ q => q [] H1 (Ex.refl _) .nil
theorem ear_cons {tr : TA} {d : D} {ds : List D} (h : EvR te σ H d) (hr : EvAR tr σ H ds) : EvAR (tCons te tr) σ H (d :: ds) := fun H1 e Q q =>
  h H1 e _ fun v H2 e2 r => hr H2 (e.trans e2) _ fun vs H3 e3 rs => q (v :: vs) H3 (e2.trans e3) (.cons (r.up e3) rs)
theorem newT_rep {xs : List V} {ds : List D} {Q : VK} (r : Reps H xs ds) (q : ∀ v H2, Ex H H2 → Rep H2 v (.tup ds) → Q v H2) : newT xs H Q := fun p o hp ho =>
  q (.ref p) _ (Ex.new hp) (.tup ⟨o, ho, upd_same⟩ (r.up (Ex.new hp)))
theorem er_tup {ta : TA} {ds : List D} (h : EvAR ta σ H ds) (hz : ds.length ≤ 100000) : EvR (tTupF ta) σ H (.tup ds) := fun H1 e Q q =>
  h H1 e _ fun vs H2 e2 rs => ⟨by rw [rs.length]; exact sz_of hz, newT_rep rs fun v H3 e3 r => q v H3 (e2.trans e3) r⟩
theorem er_if {t : TT} {b : Bool} {d : D} (h : EvT t σ H b) (h1 : b = true → EvR ta σ H d) (h2 : b = false → EvR tb σ H d) : EvR (tIf t ta tb) σ H d := fun H1 e Q q => h H1 e _ fun H2 e2 => by
  cases b with
  | true => exact h1 rfl H2 (e.trans e2) Q fun v H3 e3 r => q v H3 (e2.trans e3) r
  | false => exact h2 rfl H2 (e.trans e2) Q fun v H3 e3 r => q v H3 (e2.trans e3) r
/-- t + u by what they stand for -/
theorem er_cat {ds es : List D} (ha : EvR ta σ H (.tup ds)) (hb : EvR tb σ H (.tup es)) (hz : ds.length + es.length ≤ 100000) : EvR (tOp rCatF ta tb) σ H (.tup (ds ++ es)) := fun H1 e Q q =>
  ha H1 e _ fun v H2 e2 r => hb H2 (e.trans e2) _ fun u H3 e3 r2 => by
    obtain ⟨a, xs, rfl, h1, s1⟩ := (r.up e3).tupD
    obtain ⟨b, ys, rfl, h2, s2⟩ := r2.tupD
    refine ⟨a, b, xs, ys, rfl, rfl, h1, h2, by rw [s1.length, s2.length]; exact sz_of hz, fun e0 => ?_, fun _ e0 => ?_, fun _ _ => newT_rep (s1.append s2) fun v H4 e4 r => q v H4 ((e2.trans e3).trans e4) r⟩
    · subst e0
      cases s1
      exact q _ H3 (e2.trans e3) (.tup h2 s2)
    · subst e0
      cases s2
      rw [List.append_nil] at q
      exact q _ H3 (e2.trans e3) (.tup h1 s1)
end
end Kx

set_option Elab.async false
set_option linter.all false
set_option maxRecDepth 100000
set_option maxHeartbeats 1000000
namespace Kx
open PySem PySem.Spec PyProof.Rows L2 Evl
/-! ## data without lists and dicts stay whatever lists do -/
mutual
def D.imm : D → Bool
  | .tup ds => imms ds
  | .lst _ => false
  | .dic => false
  | _ => true
def imms : List D → Bool
  | [] => true
  | d :: r => d.imm && imms r
end
theorem imms_iff : ∀ {ds : List D}, imms ds = true ↔ ∀ d ∈ ds, d.imm = true
  | [] => ⟨fun _ d h => by simp at h, fun _ => rfl⟩
  | x :: r => by
    unfold imms
    rw [Bool.and_eq_true, imms_iff (ds := r)]
    constructor
    · rintro ⟨a, b⟩ d hd
      rcases List.mem_cons.mp hd with rfl | hd
      · exact a
      · exact b d hd
    · intro h
      exact ⟨h x List.mem_cons_self, fun d hd => h d (List.mem_cons_of_mem _ hd)⟩
def Tp (H H' : Hp) : Prop := ∀ a o xs, H a = some (.frz o (.tup xs)) → H' a = some (.frz o (.tup xs))
theorem TupS.tp {H H' : Hp} {a : Addr} {vs : List V} (h : TupS H a vs) (e : Tp H H') : TupS H' a vs := let ⟨o, h1, h2⟩ := h; ⟨o, h1, e _ _ _ h2⟩
mutual
theorem Rep.monoT {H H' : Hp} (e : Tp H H') : ∀ (d : D) (v : V), d.imm = true → Rep H v d → Rep H' v d
  | _, _, _, .non => .non
  | _, _, _, .bl b => .bl b
  | _, _, _, .int i => .int i
  | _, _, _, .str s => .str s
  | .tup ds, _, h, .tup t r => .tup (t.tp e) (Reps.monoT e ds _ (by unfold D.imm at h; exact h) r)
  | .lst ds, _, h, .lst t r => absurd h (by unfold D.imm; exact Bool.false_ne_true)
  | .dic, _, h, .dic t => absurd h (by unfold D.imm; exact Bool.false_ne_true)
theorem Reps.monoT {H H' : Hp} (e : Tp H H') : ∀ (ds : List D) (vs : List V), imms ds = true → Reps H vs ds → Reps H' vs ds
  | [], _, _, .nil => .nil
  | d :: ds, _, h, .cons r t => by
    unfold imms at h
    rw [Bool.and_eq_true] at h
    exact .cons (Rep.monoT e d _ h.1 r) (Reps.monoT e ds _ h.2 t)
end
theorem Ex.tp {H H' : Hp} (e : Ex H H') : Tp H H' := fun a o xs h => e _ _ h
theorem Tp.trans {H H1 H2 : Hp} (a : Tp H H1) (b : Tp H1 H2) : Tp H H2 := fun c o xs h => b c o xs (a c o xs h)
theorem Tp.lst {H : Hp} {p : Addr} {xs ys : List V} (h : H p = some (.lst xs)) : Tp H (upd H p (.lst ys)) := fun a o zs e => by
  rw [upd_ne (ne_of e h (fun z => by cases z))]
  exact e
theorem imm_itup (t : List Int) : (itup t).imm = true := by
  unfold itup D.imm
  refine imms_iff.mpr fun d hd => ?_
  obtain ⟨i, _, rfl⟩ := List.mem_map.mp hd
  rfl
section
variable {K : PySem.W.Frag} {σ : L2.St} {H H' : Hp} {ta tb te tl : TE} {v x z : V}
/-- te gives a new list of what stands for ds -/
def EvLR (te : TE) (σ : L2.St) (H : Hp) (ds : List D) : Prop := ∀ H1, Ex H H1 → ∀ Q : VK, (∀ p us H2, H1 p = none → Ex H1 H2 → H2 p = some (.lst us) → Reps H2 us ds → Q (.ref p) H2) → te σ H1 Q
theorem wipe_of {σ σ2 : L2.St} {ws : List Nat} (h : σ2 = wipe σ ws) : wipe σ2 ws = wipe (wipe σ ws) ws := by rw [h]
/-- [te for g in a tuple], of what stands for data without lists -/
theorem el_lcTR {g : TG} {ws : List Nat} {a : Addr} {xs : List V} {ds : List D} (h : Ev tl σ H (.ref a)) (hx : SqT K H a xs) (hl : ds.length = xs.length) (hz : xs.length < 100000) (him : imms ds = true)
    (hy : ∀ (j : Nat) (x : V) (d : D), xs[j]? = some x → ds[j]? = some d → ∀ H1, Ex H H1 → ∀ Q' : L2.St → Hp → Prop, (∀ σ2, wipe σ2 ws = wipe σ ws → EvR te σ2 H1 d → Q' σ2 H1) → g x (wipe σ ws) H1 Q') : EvLR (tLc (iTup K tl) g tYes te ws) σ H ds := fun H1 e Q q =>
  h H1 e _ fun H2 e2 => ⟨a, rfl, ⟨xs, ex_t (e.trans e2) hx⟩, fun C hC =>
    lc_tup (xs := xs) (fun j H' => Ex H2 H' ∧ ∃ us, H' C = some (.lst us) ∧ Reps H' us (ds.take j)) ⟨Ex.new hC, [], upd_same, .nil⟩ (fun j H' _ p => ex_t ((e.trans e2).trans p.1) hx)
      (fun j x H' hj p => by
        have hlt : j < ds.length := by have := (List.getElem?_eq_some_iff.mp hj).1; omega
        have gd : ds[j]? = some ds[j] := List.getElem?_eq_getElem hlt
        have hg := hy j x _ hj gd H' ((e.trans e2).trans p.1)
        obtain ⟨p1, us, p2, p3⟩ := p
        refine hg _ fun σ2 w1 w3 => ⟨w1, ?_⟩
        show te σ2 H' _
        refine w3 H' (Ex.refl _) _ fun v H4 e4 r => ⟨us, e4 _ _ p2, ?_, (p1.trans e4).mut hC, us ++ [v], upd_same, ?_⟩
        · have := p3.length
          rw [List.length_take] at this
          exact sz_lt (by omega)
        · rw [List.take_add_one, gd]
          have t : Tp H4 (upd H4 C (.lst (us ++ [v]))) := Tp.lst (e4 _ _ p2)
          have i1 : imms (ds.take j) = true := imms_iff.mpr fun d hd => imms_iff.mp him d (List.mem_of_mem_take hd)
          exact ((p3.up e4).monoT t _ _ i1).append (.cons (r.monoT t _ _ (imms_iff.mp him _ (List.getElem_mem hlt))) .nil))
      (fun H' p => by
        obtain ⟨p1, us, p2, p3⟩ := p
        rw [List.take_of_length_le (by omega)] at p3
        exact q C us H' (fresh_back e2 hC) (e2.trans p1) p2 p3)⟩
end
/-! ## rights -/
def rkey (ns ks : List Str) (d : D) : List Int := match d with
  | .tup [.str k, .str n, .int s] => [(ks.idxOf k : Int), (ns.idxOf n : Int), s]
  | _ => []
def D.rts (ns ks : List Str) (d : D) : Bool := match d with
  | .tup ds => ds.all (D.rt ns ks) && ascT (ds.map (rkey ns ks))
  | _ => false
theorem rts_tup (ns ks : List Str) (ds : List D) : D.rts ns ks (.tup ds) = (ds.all (D.rt ns ks) && ascT (ds.map (rkey ns ks))) := rfl
theorem rt_3 (ns ks : List Str) (k n s : D) : D.rt ns ks (.tup [k, n, s]) = (amD k ks && (amD n ns && isBetw s 0 1)) := rfl
theorem rt_shape {ns ks : List Str} : ∀ {d : D}, d.rt ns ks = true → ∃ k n s, d = .tup [.str k, .str n, .int s] ∧ k ∈ ks ∧ n ∈ ns ∧ 0 ≤ s ∧ s ≤ 1
  | .tup [k, n, s], h => by
    rw [rt_3] at h
    simp only [Bool.and_eq_true] at h
    obtain ⟨h1, h2, h3⟩ := h
    obtain ⟨ek, mk⟩ := am_str h1
    obtain ⟨en, mn⟩ := am_str h2
    cases s with
    | int i =>
      unfold isBetw at h3
      rw [Bool.and_eq_true] at h3
      exact ⟨k.txt, n.txt, i, by rw [← ek, ← en], mk, mn, of_decide_eq_true h3.1, of_decide_eq_true h3.2⟩
    | _ => simp [isBetw] at h3
  | .tup [], h | .tup [_], h | .tup [_, _], h | .tup (_ :: _ :: _ :: _ :: _), h => by simp [D.rt] at h
  | .non, h | .bl _, h | .str _, h | .int _, h | .lst _, h | .dic, h => by simp [D.rt] at h
theorem idx_at {xs : List Str} {x : Str} (h : x ∈ xs) : xs[xs.idxOf x]? = some x ∧ ∀ m, m < xs.idxOf x → xs[m]? ≠ some x := by
  constructor
  · rw [List.getElem?_eq_getElem (List.idxOf_lt_length_of_mem h)]
    exact congrArg some (List.getElem_idxOf _)
  · intro m hm e
    obtain ⟨hl, e2⟩ := List.getElem?_eq_some_iff.mp e
    have h3 := List.not_of_lt_findIdx (p := (· == x)) hm
    exact absurd (beq_iff_eq.mpr e2) (by first | exact h3 | (rw [h3]; exact Bool.false_ne_true))
theorem s_asgLX {σ : L2.St} {H : Hp} {te : TE} {D : Ends} {u : TS} {i : Nat} {xs : List V} (h : EvL te σ H xs) (k : ∀ p H1, H p = none → Ex H H1 → H1 p = some (.lst xs) → u D (σ.set i (some (.ref p))) H1) : tSeq (tAsg te (gName i)) u D σ H := s_asgL h k
theorem ev_spLR {σ : L2.St} {H : Hp} {tb : TE} {z : V} {ok : OkF} {ds : List D} {E : XK} (hb : EvLR tb σ H ds) (k : ∀ p us H1, H1 p = some (.lst us) → Reps H1 us ds → Ex H H1 → ok [.ref p] H1 z) : Ev (tCall (spX ok) [] E (tCons tb tNil)) σ H z :=
  fun H1 e Q q => hb H1 e _ fun p us H3 _ e3 hp hr => ⟨z, k p us H3 hp hr (e.trans e3), fun H4 e4 => q H4 (e3.trans e4)⟩
theorem ev_tix {K : PySem.W.Frag} {σ : L2.St} {H : Hp} {ta te : TE} {a : Addr} {ys : List Str} {x : Str} (h : Ev ta σ H (.ref a)) (ha : TupS H a (sv ys)) (hx : Ev te σ H (.str x)) (hm : x ∈ ys) : Ev (tTix ta (tCons te tNil)) σ H (.int (ys.idxOf x : Nat)) := fun H1 e Q q =>
  h H1 e _ fun H2 e2 => ⟨a, ys, rfl, ha.up (e.trans e2), hx H2 (e.trans e2) _ fun H3 e3 => ⟨ha.up ((e.trans e2).trans e3), x, _, rfl, (idx_at hm).1, (idx_at hm).2, q H3 (e2.trans e3)⟩⟩
theorem ev_lix {K : PySem.W.Frag} {σ : L2.St} {H : Hp} {ta te : TE} {a : Addr} {ys : List Str} {x : Str} (h : Ev ta σ H (.ref a)) (ha : H a = some (.lst (sv ys))) (hx : Ev te σ H (.str x)) (hm : x ∈ ys) : Ev (tBM K "list" (rIndex K) ta (tCons te tNil)) σ H (.int (ys.idxOf x : Nat)) := fun H1 e Q q =>
  h H1 e _ fun H2 e2 => ⟨.inl ⟨rfl, _, .of ((e.trans e2) _ _ ha)⟩, hx H2 (e.trans e2) _ fun H3 e3 => ⟨a, sv ys, .str x, ys.idxOf x, .str x, rfl, rfl, .of (((e.trans e2).trans e3) _ _ ha), rfl, flat_sv ys,
    by unfold sv; rw [List.getElem?_map, (idx_at hm).1]; rfl, beq_self_eq_true x, fun m z hl hz => by
      unfold sv at hz
      rw [List.getElem?_map] at hz
      cases e4 : ys[m]? with
      | none => rw [e4] at hz; cases hz
      | some y =>
        rw [e4] at hz
        have ez : z = .str y := (Option.some.inj hz).symm
        subst ez
        show (y == x) = false
        refine beq_eq_false_iff_ne.mpr fun e5 => ?_
        subst e5
        exact (idx_at hm).2 m hl e4, q H3 (e2.trans e3)⟩⟩
def okRights : OkF := fun vs H z => ∃ v d b ds ns c ks, vs = [v, .ref b, .ref c] ∧ Rep H v d ∧ d.Sz ∧ Rep H (.ref b) (.tup ds) ∧ ds.length ≤ 1000 ∧ ds.map D.fst = ns.map D.str ∧ (∀ x ∈ ds, ∃ y r, x = .tup (y :: r)) ∧ TupS H c (sv ks) ∧ z = .bl (d.rts ns ks)
theorem stb_rights : Stb okRights := fun _ _ _ _ e ⟨v, d, b, ds, ns, c, ks, h1, h2, h3, h4, h5, h6, h7, h8, h9⟩ => ⟨v, d, b, ds, ns, c, ks, h1, h2.up e, h3, h4.up e, h5, h6, h7, h8.up e, h9⟩
section
variable {P : Program} {w : World} {K : PySem.W.Frag} {mg : Str → Option Value} {base : Heap} (T : Txt K mg)
theorem ok_are_rights : FnOk P w K mg base CX0 3 T.a_are_rights T.d_are_rights ["value", "doors", "kinds"] (spX okRights) := by
  refine T.F_are_rights.ok sc_are_rights (fun vs H Q E h => ?_) (fun cdv A outer s H vs Q E hr h => ?_)
  · obtain ⟨z, ⟨v, d, b, ds, ns, c, ks, rfl, _⟩, _⟩ := h
    rfl
  · obtain ⟨z, ⟨v, d, b, ds, ns, c, ks, rfl, hv, hz, hb, hdl, hns, hsh, hc, rfl⟩, q⟩ := h
    have hr1 : Room 1 (A.deeper (envOfC "are_rights" (defScope s_are_rights) s.heap.objs.size T.a_are_rights cdv)) := hr.mono (by decide)
    refine ⟨_, pss_cons (ps_set (i := 3) sc_are_rights.nd rfl (.inr rfl) (pe_lc (own := [("door", 4)]) (g := gName 4) (tt := tYes) (by rfl) sc_are_rights.nd (pi_tup (pv 1)) (blkOk_by (N := ["value", "doors", "kinds", "names", "door", "item", "kind", "side"]) (sc := defScope s_are_rights) (by decide +kernel))
          (fun _ _ _ _ _ => pg_name (i := 4) sc_are_rights.nd rfl (.inl rfl)) (fun _ _ _ _ _ => pts_nil) (fun _ _ _ _ _ => pe_ix (r := rIxT K) ix_tup (pv 4) pe_int (fun _ _ => rfl))))
      (pss_cons (ps_if (PW.pt (pw_or (pt_tyNo T.z_type T.z_tuple bo_tuple (pv 0))
          (pw_or1 (pt_not (pt_val (pe_callB (cr_all rfl) (by rfl) T.z_all bo_all (pa_cons (pe_lc (own := [("item", 5)]) (g := gName 5) (tt := tYes) (by rfl) sc_are_rights.nd (pi_tup (pv 0)) (blkOk_by (N := ["value", "doors", "kinds", "names", "door", "item", "kind", "side"]) (sc := defScope s_are_rights) (by decide +kernel))
            (fun _ _ _ _ _ => pg_name (i := 5) sc_are_rights.nd rfl (.inl rfl)) (fun _ _ _ _ _ => pts_nil) (fun _ _ _ _ _ => pe_call (ok_is_right T) hr (by rfl) T.g_is_right T.F_is_right.kp (b_is_right T) .nil pass0 (pa_cons (pv 5) (pa_cons (pv 3) (pa_cons (pv 2) pa_nil))))) pa_nil)))))))
        (pss_one (ps_ret pe_bl)) pss_nil)
      (pss_one (ps_ret (pe_call (ok_is_ascending T) hr1 (by rfl) T.g_is_ascending T.F_is_ascending.kp (b_is_ascending T) .nil pass0 (pa_cons (pe_lc (own := [("kind", 6), ("door", 4), ("side", 7)]) (tt := tYes)
          (g := gTup K 3 (gCons (gName 6) (gCons (gName 4) (gCons (gName 7) gNil)))) (by rfl) sc_are_rights.nd (pi_tup (pv 0)) (blkOk_by (N := ["value", "doors", "kinds", "names", "door", "item", "kind", "side"]) (sc := defScope s_are_rights) (by decide +kernel))
            (fun _ _ _ _ _ => pg_tup (by rfl) (pgs_cons (pg_name (i := 6) sc_are_rights.nd rfl (.inl rfl)) (pgs_cons (pg_name (i := 4) sc_are_rights.nd rfl (.inl rfl)) (pgs_cons (pg_name (i := 7) sc_are_rights.nd rfl (.inl rfl)) pgs_nil)))) (fun _ _ _ _ _ => pts_nil)
            (fun _ _ _ _ _ => pe_tupF (t := tCons (tTix (tVar 2) (tCons (tVar 6) tNil)) (tCons (tBM K "list" (rIndex K) (tVar 3) (tCons (tVar 4) tNil)) (tCons (tVar 7) tNil)))
              (pa_cons (pe_tix (pv 2) (pa_cons (pv 6) pa_nil)) (pa_cons (pe_bm PySem.F.plainAttrs_list PySem.F.slot_list_index PySem.F.type_list_index mt_index (pv 3) (pa_cons (pv 4) pa_nil)) (pa_cons (pv 7) pa_nil))))) pa_nil))))), ?_⟩
    obtain ⟨b', dvs, eb, hb1, hb2⟩ := hb.tupD
    cases eb
    refine s_asgLX (xs := sv ns) (el_lcT (ev_var rfl) hb1.sq ?_ (by rw [hb2.length]; omega) fun j x y hx hy => ?_) fun p H1 hp e h1 => ?_
    · have h2 := congrArg List.length hns
      rw [List.length_map, List.length_map] at h2
      unfold sv
      rw [List.length_map, hb2.length, h2]
    · obtain ⟨d, hd, r⟩ := hb2.get hx
      obtain ⟨y0, r0, rfl⟩ := hsh d (List.mem_of_getElem? hd)
      have h3 : (ds.map D.fst)[j]? = some y0 := by
        rw [List.getElem?_map, hd]
        rfl
      rw [hns, List.getElem?_map] at h3
      unfold sv at hy
      rw [List.getElem?_map] at hy
      cases e4 : ns[j]? with
      | none => rw [e4] at hy; cases hy
      | some n =>
        rw [e4] at hy h3
        have ey : y = .str n := (Option.some.inj hy).symm
        have ey0 : y0 = .str n := (Option.some.inj h3).symm
        subst ey ey0
        obtain ⟨a2, ws, rfl, ha2, hs2⟩ := r.tupD
        cases hs2 with
        | cons q0 _ =>
          obtain rfl := q0.strD
          exact ev_ixT (j := 0) (ev_var rfl) ha2 rfl
    · by_cases ht : d.ty = "tuple"
      · obtain ⟨es, rfl⟩ := ty_tup ht
        obtain ⟨a, vs, rfl, ha, hs⟩ := hv.tupD
        have hl := hz.tup.1
        rw [rts_tup] at q
        refine s_ifX (b := !es.all (D.rt ns ks)) ?_ (fun hb H2 e2 => ?_) (fun hb H2 e2 => ?_)
        · refine et_is (et_or (a := false) (b := !es.all (D.rt ns ks)) (et_test (ev_is (ev_tyNo (ev_var rfl) (hv.up e)) rfl)) fun _ => ?_) (Bool.false_or _)
          refine et_not (et_B (ev_allT (ev_var rfl) (ha.up e) (hs.up e) hl fun j x d hd r => ?_))
          exact ev_sp stb_right (ea_cons (ev_var rfl) (ea_cons (ev_var rfl) (ea_cons (ev_var rfl) ea_nil))) ⟨x, d, p, ns, c, ks, rfl, r, .inl h1, .inr (hc.up e).rd, rfl⟩
        · rw [not_t hb] at q
          exact s_ret (v := .bl false) ev_c fun H3 e3 => q H3 ((e.trans e2).trans e3)
        · have hall := not_f hb
          rw [hall, Bool.true_and] at q
          have E2 := e.trans e2
          refine s_ret (v := .bl (ascT (es.map (rkey ns ks)))) (ev_spLR (ds := (es.map (rkey ns ks)).map itup) (el_lcTR (ev_var rfl) (ha.up E2).sq ?_ (by rw [hs.length]; omega) ?_ fun j x d hx hd H3 e3 Q' k => ?_) fun p2 us H3 hp2 hr2 e3 => ⟨p2, us, _, rfl, hp2, hr2, by rw [List.length_map]; exact hl, rfl⟩) fun H3 e3 => q H3 (E2.trans e3)
          · rw [List.length_map, List.length_map, hs.length]
          · refine imms_iff.mpr fun d hd => ?_
            obtain ⟨t, _, rfl⟩ := List.mem_map.mp hd
            exact imm_itup t
          · have E3 := E2.trans e3
            obtain ⟨d', hd', r⟩ := hs.get hx
            obtain ⟨kk, nn, ss, rfl, mk, mn, _⟩ := rt_shape (List.all_eq_true.mp hall d' (List.mem_of_getElem? hd'))
            rw [List.getElem?_map, List.getElem?_map, hd'] at hd
            have ed : d = itup [(ks.idxOf kk : Int), (ns.idxOf nn : Int), ss] := (Option.some.inj hd).symm
            subst ed
            obtain ⟨a3, ws, rfl, ha3, hs3⟩ := r.tupD
            cases hs3 with
            | cons r0 hs3 => cases hs3 with
              | cons r1 hs3 => cases hs3 with
                | cons r2 hs3 =>
                  cases hs3
                  obtain rfl := r0.strD
                  obtain rfl := r1.strD
                  obtain rfl := r2.intD
                  refine ⟨a3, _, rfl, (ha3.up E3).sq, rfl, .str kk, _, rfl, .str nn, _, rfl, .int ss, _, rfl, rfl, ?_⟩
                  refine k _ rfl ?_
                  refine er_tup (ear_cons (er_of (ev_tix (K := K) (ev_var rfl) (hc.up E3) (ev_var rfl) mk) (.int _)) (ear_cons (er_of (ev_lix (ev_var rfl) ((e2.trans e3) _ _ h1) (ev_var rfl) mn) (.int _)) (ear_cons (er_of (ev_var rfl) (.int _)) ear_nil))) (by simp [itup])
      · refine s_ifX (b := true) (et_is (et_or (b := false) (et_test (ev_is (ev_tyNo (ev_var rfl) (hv.up e)) (by rw [decide_eq_false ht]; rfl : _ = V.bl true))) fun h => by cases h) rfl) (fun hb H2 e2 => ?_) (fun hb => by cases hb)
        refine s_ret (v := .bl false) ev_c fun H3 e3 => ?_
        have z : d.rts ns ks = false := by cases d <;> first | rfl | exact absurd rfl ht
        rw [z] at q
        exact q H3 ((e.trans e2).trans e3)
end
end Kx

set_option Elab.async false
set_option linter.all false
set_option maxRecDepth 100000
set_option maxHeartbeats 1000000
namespace Kx
open PySem PySem.Spec PyProof.Rows L2 Evl
def cutX {α : Type} (xs : List α) (lo hi : Option Int) : List α := (xs.drop (HT.sIx xs.length 0 lo)).take (HT.sIx xs.length xs.length hi - HT.sIx xs.length 0 lo)
theorem Reps.cut {H : Hp} {vs : List V} {ds : List D} (r : Reps H vs ds) (lo hi : Option Int) : Reps H (cutV vs lo hi) (cutX ds lo hi) := by
  unfold cutV cutX
  rw [r.length]
  exact (r.drop _).take _
section
variable {K : PySem.W.Frag} {σ : L2.St} {H H' : Hp} {ta tb te tl : TE} {v x z : V}
theorem er_slice {tlo thi : TO} {ds : List D} {lo hi : Option Int} (h : EvR te σ H (.tup ds)) (h1 : EvO tlo σ H lo) (h2 : EvO thi σ H hi) : EvR (tSl rSlF te tlo thi) σ H (.tup (cutX ds lo hi)) := fun H1 e Q q =>
  h H1 e _ fun v H2 e2 r => h1 H2 (e.trans e2) _ fun H3 e3 => h2 H3 ((e.trans e2).trans e3) _ fun H4 e4 => by
    obtain ⟨a, vs, rfl, ha, hs⟩ := (r.up (e3.trans e4)).tupD
    have E := (e2.trans e3).trans e4
    refine ⟨a, vs, rfl, ha, fun hw => ?_, fun _ => newT_rep (hs.cut lo hi) fun v H5 e5 r5 => q v H5 (E.trans e5) r5⟩
    have ew : cutX ds lo hi = ds := by
      unfold cutX
      rw [← hs.length, hw.1, hw.2, List.drop_zero, Nat.sub_zero, hs.length, List.take_length]
    rw [ew] at q
    exact q _ H4 E (.tup ha hs)
theorem s_unp {D0 : Ends} {gs : TGs} {u : TS} {n : Nat} {ds : List D} (h : EvR te σ H (.tup ds)) (hn : ds.length = n) (k : ∀ vs H1, Ex H H1 → Reps H1 vs ds → gs vs σ H1 (fun σ2 H2 => u D0 σ2 H2)) : tSeq (tAsg te (gTup K n gs)) u D0 σ H :=
  h H (Ex.refl H) _ fun v H1 e r => by
    obtain ⟨a, vs, rfl, ha, hs⟩ := r.tupD
    exact ⟨a, vs, rfl, ha.sq, by rw [hs.length, hn], k vs H1 e hs⟩
end
theorem cut1 {α : Type} (xs : List α) : cutX xs (some 1) none = xs.drop 1 := by
  unfold cutX
  rw [show HT.sIx xs.length 0 (some 1) = min 1 xs.length from HT.sIx_nat xs.length 0 1, HT.sIx_none]
  cases xs with
  | nil => rfl
  | cons x r =>
    rw [show min 1 (x :: r).length = 1 by rw [List.length_cons]; omega]
    show List.take ((x :: r).length - 1) r = r
    rw [List.length_cons, Nat.add_sub_cancel]
    exact List.take_length
def D.txts : D → List Str
  | .tup ds => ds.map D.txt
  | _ => []
def D.fsts : D → List Str
  | .tup ds => ds.map fun x => x.fst.txt
  | _ => []
def D.bld : D → Bool
  | .tup [t, a, ds, ks, rs] => t.isS "building" && ((a.nms 2 6 && ds.drs a.txts) && (ks.nms 1 3 && rs.rts ds.fsts ks.txts))
  | _ => false
theorem bld_5 (t a ds ks rs : D) : D.bld (.tup [t, a, ds, ks, rs]) = (t.isS "building" && ((a.nms 2 6 && ds.drs a.txts) && (ks.nms 1 3 && rs.rts ds.fsts ks.txts))) := rfl
theorem nms_shape {d : D} {lo hi : Int} (h : d.nms lo hi = true) : d = .tup (d.txts.map D.str) ∧ lo ≤ (d.txts.length : Int) ∧ (d.txts.length : Int) ≤ hi ∧ d.txts.Nodup ∧ ∀ s ∈ d.txts, nmS s = true := by
  cases d with
  | tup ds =>
    rw [nms_tup] at h
    simp only [Bool.and_eq_true] at h
    obtain ⟨h1, h2, h3⟩ := h
    unfold isTup at h1
    rw [Bool.and_eq_true] at h1
    have e : ds = (ds.map D.txt).map D.str := all_nm h2
    refine ⟨congrArg D.tup e, ?_, ?_, of_decide_eq_true h3, fun s hs => ?_⟩
    · show lo ≤ ((ds.map D.txt).length : Int)
      rw [List.length_map]
      exact of_decide_eq_true h1.1
    · show ((ds.map D.txt).length : Int) ≤ hi
      rw [List.length_map]
      exact of_decide_eq_true h1.2
    · obtain ⟨d, hd, rfl⟩ := List.mem_map.mp hs
      have h4 := List.all_eq_true.mp h2 d hd
      rw [nm_str h4] at h4
      exact h4
  | _ => cases h
theorem Rep.txs {H : Hp} {v : V} {ss : List Str} (r : Rep H v (.tup (ss.map D.str))) : ∃ a, v = .ref a ∧ TupS H a (sv ss) := by
  obtain ⟨a, vs, h1, h2, h3⟩ := r.tupD
  rw [strs_of_reps h3] at h2
  exact ⟨a, h1, h2⟩
theorem drs_shape {as : List Str} {d : D} (h : d.drs as = true) : ∃ ds, d = .tup ds ∧ 1 ≤ ds.length ∧ ds.length ≤ 6 ∧ ds.all (D.dr as) = true ∧ d.fsts.Nodup := by
  cases d with
  | tup ds =>
    rw [drs_tup] at h
    simp only [Bool.and_eq_true] at h
    obtain ⟨h1, h2, h3⟩ := h
    unfold isTup at h1
    rw [Bool.and_eq_true] at h1
    have a1 := of_decide_eq_true h1.1
    have a2 := of_decide_eq_true h1.2
    exact ⟨ds, rfl, by omega, by omega, h2, of_decide_eq_true h3⟩
  | _ => cases h
theorem Rep.size {d0 d1 d2 d3 d4 : D} (h : (D.tup [d0, d1, d2, d3, d4]).Sz) : d0.Sz ∧ d1.Sz ∧ d2.Sz ∧ d3.Sz ∧ d4.Sz :=
  ⟨h.tup.2.get (j := 0) rfl, h.tup.2.get (j := 1) rfl, h.tup.2.get (j := 2) rfl, h.tup.2.get (j := 3) rfl, h.tup.2.get (j := 4) rfl⟩
def okBld : OkF := fun vs H z => ∃ v d, vs = [v] ∧ Rep H v d ∧ d.Sz ∧ z = .bl d.bld
theorem stb_bld : Stb okBld := fun _ _ _ _ e ⟨v, d, h1, h2, h3⟩ => ⟨v, d, h1, h2.up e, h3⟩
section
variable {P : Program} {w : World} {K : PySem.W.Frag} {mg : Str → Option Value} {base : Heap} (T : Txt K mg)
theorem ok_is_building : FnOk P w K mg base CX0 4 T.a_is_building T.d_is_building ["value"] (spX okBld) := by
  refine T.F_is_building.ok sc_is_building (fun vs H Q E h => ?_) (fun cdv A outer s H vs Q E hr h => ?_)
  · obtain ⟨z, ⟨v, d, rfl, _⟩, _⟩ := h
    rfl
  · obtain ⟨z, ⟨v, d, rfl, hv, hz, rfl⟩, q⟩ := h
    have hr1 : Room 1 (A.deeper (envOfC "is_building" (defScope s_is_building) s.heap.objs.size T.a_is_building cdv)) := hr.mono (by decide)
    have hr2 : Room 2 (A.deeper (envOfC "is_building" (defScope s_is_building) s.heap.objs.size T.a_is_building cdv)) := hr.mono (by decide)
    refine ⟨_, pss_cons (ps_if (PW.pt (pw_or (pt_not (pt_val (pe_call (ok_is_tuple T) hr1 (by rfl) T.g_is_tuple T.F_is_tuple.kp (b_is_tuple T) .nil pass0 (pa_cons (pv 0) (pa_cons pe_int (pa_cons pe_int pa_nil))))))
          (pw_or1 (pt_cmpR (op_neS hr.units0) (pe_ix ix_tup (pv 0) pe_int (fun _ _ => rfl)) pe_str (nomark _)))))
        (pss_one (ps_ret pe_bl)) pss_nil)
      (pss_cons (ps_asg (pe_slice sl_tupF (pv 0) (po_some pe_int) po_none) (pg_tup rfl (pgs_cons (pg_name (i := 1) sc_is_building.nd rfl (.inl rfl)) (pgs_cons (pg_name (i := 2) sc_is_building.nd rfl (.inl rfl)) (pgs_cons (pg_name (i := 3) sc_is_building.nd rfl (.inl rfl)) (pgs_cons (pg_name (i := 4) sc_is_building.nd rfl (.inl rfl)) pgs_nil))))))
      (pss_cons (ps_if (PW.pt (pw_or (pt_not (pt_val (pe_call (ok_are_names T) hr2 (by rfl) T.g_are_names T.F_are_names.kp (b_are_names T) .nil pass0 (pa_cons (pv 1) (pa_cons pe_int (pa_cons pe_int pa_nil))))))
          (pw_or1 (pt_not (pt_val (pe_call (ok_are_doors T) hr (by rfl) T.g_are_doors T.F_are_doors.kp (b_are_doors T) .nil pass0 (pa_cons (pv 2) (pa_cons (pv 1) pa_nil))))))))
        (pss_one (ps_ret pe_bl)) pss_nil)
      (pss_one (ps_ret (pe_and (pe_call (ok_are_names T) hr2 (by rfl) T.g_are_names T.F_are_names.kp (b_are_names T) .nil pass0 (pa_cons (pv 3) (pa_cons pe_int (pa_cons pe_int pa_nil))))
        (pe_one (pe_call (ok_are_rights T) hr (by rfl) T.g_are_rights T.F_are_rights.kp (b_are_rights T) .nil pass0 (pa_cons (pv 4) (pa_cons (pv 2) (pa_cons (pv 3) pa_nil)))))))))), ?_⟩
    have tup5 : EvT (tB (tCall (spX okTup) [] E0 (tCons (tVar 0) (tCons (tC (.int 5)) (tCons (tC (.int 5)) tNil))))) (L2.start ["value", "areas", "doors", "kinds", "rights"] [v]) H (isTup d 5 5) :=
      et_B (ev_sp stb_tup (ea_cons (ev_var rfl) (ea_cons ev_c (ea_cons ev_c ea_nil))) ⟨_, _, 5, 5, rfl, hv, rfl⟩)
    by_cases ht : isTup d 5 5 = true
    · cases d with
      | tup ds =>
        obtain ⟨a, vs, rfl, ha, hs⟩ := hv.tupD
        have hl5 : ds.length = 5 := by
          unfold isTup at ht
          have h2 := (Bool.and_eq_true _ _).mp ht
          have h3 := of_decide_eq_true h2.1
          have h4 := of_decide_eq_true h2.2
          omega
        match ds, hl5 with
        | [t, da, dd, dk, dr], _ =>
        have hsz := Rep.size hz
        rw [bld_5] at q
        refine s_ifX (b := !t.isS "building") ?_ (fun hb H1 e => ?_) (fun hb H1 e => ?_)
        · refine et_is (et_or (a := false) (b := !t.isS "building") (et_is (et_not tup5) (by rw [ht]; rfl)) fun _ => ?_) (Bool.false_or _)
          cases hs with
          | cons r0 _ => exact et_test (ev_op (ev_ixT (j := 0) (ev_var rfl) ha rfl) ev_c (rv_neS r0))
        · rw [not_t hb] at q
          exact s_ret (v := .bl false) ev_c fun H2 e2 => q H2 (e.trans e2)
        · rw [not_f hb, Bool.true_and] at q
          refine s_unp (er_slice (er_of (ev_var rfl) (hv.up e)) (eo_some ev_c) eo_none) (by rw [cut1]; rfl) fun ws H2 e2 rs => ?_
          rw [cut1] at rs
          have E2 := e.trans e2
          cases rs with
          | cons ra rs => cases rs with
            | cons rd rs => cases rs with
              | cons rk rs => cases rs with
                | cons rr rs =>
                  cases rs
                  rename_i va vd vk vr
                  refine ⟨va, _, rfl, vd, _, rfl, vk, _, rfl, vr, _, rfl, rfl, ?_⟩
                  refine s_ifX (b := !(da.nms 2 6 && dd.drs da.txts)) ?_ (fun hb H3 e3 => ?_) (fun hb H3 e3 => ?_)
                  · refine et_is (et_or (et_not (et_B (ev_sp stb_names (ea_cons (ev_var rfl) (ea_cons ev_c (ea_cons ev_c ea_nil))) ⟨va, da, 2, 6, rfl, ra, hsz.2.1, rfl⟩))) (b := !dd.drs da.txts) fun h => ?_) (Bool.not_and _ _).symm
                    have hn := nms_shape (not_f h)
                    rw [hn.1] at ra
                    obtain ⟨aa, rfl, haa⟩ := ra.txs
                    exact et_not (et_B (ev_sp stb_doors (ea_cons (ev_var rfl) (ea_cons (ev_var rfl) ea_nil)) ⟨vd, dd, aa, da.txts, rfl, rd, hsz.2.2.1, .inr haa.rd, rfl⟩))
                  · rw [not_t hb] at q
                    exact s_ret (v := .bl false) ev_c fun H4 e4 => q H4 ((E2.trans e3).trans e4)
                  · have hb2 := not_f hb
                    rw [hb2, Bool.true_and] at q
                    obtain ⟨hb3, hb4⟩ := (Bool.and_eq_true _ _).mp hb2
                    refine s_ret (v := .bl (dk.nms 1 3 && dr.rts dd.fsts dk.txts)) (ev_andV (ev_sp stb_names (ea_cons (ev_var rfl) (ea_cons ev_c (ea_cons ev_c ea_nil))) ⟨vk, dk, 1, 3, rfl, rk.up e3, hsz.2.2.2.1, rfl⟩) fun hk => ?_) fun H4 e4 => q H4 ((E2.trans e3).trans e4)
                    have hn := nms_shape hk
                    have rk2 := rk.up e3
                    rw [hn.1] at rk2
                    obtain ⟨ak, rfl, hak⟩ := rk2.txs
                    obtain ⟨es, rfl, _, hl6, hall, _⟩ := drs_shape hb4
                    have sh : ∀ x ∈ es, ∃ n r, x = .tup (.str n :: r) := fun x hx => by
                      obtain ⟨n, a1, b1, s1, rfl, _⟩ := dr_shape (List.all_eq_true.mp hall x hx)
                      exact ⟨n, _, rfl⟩
                    obtain ⟨ad, dvs, rfl, hd1, hd2⟩ := rd.tupD
                    refine ev_sp stb_rights (ea_cons (ev_var rfl) (ea_cons (ev_var rfl) (ea_cons (ev_var rfl) ea_nil))) ⟨vr, dr, ad, es, _, ak, dk.txts, rfl, rr.up e3, hsz.2.2.2.2, rd.up e3, by omega, ?_, fun x hx => ?_, hak, rfl⟩
                    · show es.map D.fst = (es.map fun x => x.fst.txt).map D.str
                      rw [List.map_map]
                      refine List.map_congr_left fun x hx => ?_
                      obtain ⟨n, r, rfl⟩ := sh x hx
                      rfl
                    · obtain ⟨n, r, rfl⟩ := sh x hx
                      exact ⟨_, _, rfl⟩
      | _ => exact absurd ht (by unfold isTup; exact Bool.false_ne_true)
    · have ht' : isTup d 5 5 = false := by simpa using ht
      refine s_ifX (b := true) (et_is (et_or (b := false) (et_is (et_not tup5) (by rw [ht']; rfl : _ = true)) fun h => by cases h) rfl) (fun hb H1 e => ?_) (fun hb => by cases hb)
      refine s_ret (v := .bl false) ev_c fun H2 e2 => ?_
      have z : d.bld = false := by
        cases d with
        | tup ds =>
          match ds, ht' with
          | [_, _, _, _, _], h => exact absurd h (by simp [isTup])
          | [], _ | [_], _ | [_, _], _ | [_, _, _], _ | [_, _, _, _], _ | _ :: _ :: _ :: _ :: _ :: _ :: _, _ => rfl
        | _ => rfl
      rw [z] at q
      exact q H2 (e.trans e2)
end
end Kx

set_option Elab.async false
set_option linter.all false
set_option maxRecDepth 100000
set_option maxHeartbeats 1000000
namespace Kx
open PySem PySem.Spec PyProof.Rows L2 Evl
/-! ## an exception that is kept -/
/-- at a stands an exception object of the class cls -/
def ExR (cls : Value) (a : Addr) : HO := .ext fun h => ∃ (oe : Obj) (vs : Array Value), h.get? a = some oe ∧ Zc cls none oe ∧ oe.data = .fields vs
section
variable {X : Cx} {pins : List (Addr × Obj)} {σ : L2.St} {H : Hp} {s : Shared}
/-- what was pinned is tracked from now on -/
theorem track {cls : Value} {a : Addr} {oe : Obj} {vs : Array Value} (I : Inv X pins σ H s) (hg : s.heap.get? a = some oe) (hz : Zc cls none oe) (hd : oe.data = .fields vs) (hn : H a = none) (n0 : X.s_0.heap.get? a = none)
    (nL : a ≠ X.env.locals) (np : ∀ p ∈ X.pn ++ pins, p.1 ≠ a) : Inv X pins σ (upd H a (ExR cls a)) s := by
  have old : ∀ b o, X.s_0.heap.get? b = some o → b ≠ a := fun b o e q => by rw [q, n0] at e; cases e
  have ne : ∀ b u, H b = some u → b ≠ a := fun b u e q => by rw [q, hn] at e; cases e
  have at_ : ∀ b u, H b = some u → upd H a (ExR cls a) b = some u := fun b u e => (upd_ne (ne b u e)).trans e
  refine ⟨I.ok, I.os, I.bare, ⟨I.base.keep, I.base.slot, ?_, I.base.there, ?_, ?_, ?_⟩, I.loc, I.cell, (upd_ne nL.symm).trans I.free, ?_, ?_, ?_, I.len⟩
  · intro b o e n hx
    exact (upd_ne (old b o e)).trans (I.base.free b o e n hx)
  · intro b xs e
    exact at_ _ _ (I.base.tups b xs e)
  · intro b o u e
    exact at_ _ _ (I.base.frzs b o u e)
  · intro b ps e
    obtain ⟨m, q⟩ := I.base.tbls b ps e
    exact ⟨m, at_ _ _ q⟩
  · intro x c e
    refine (upd_ne fun q => ?_).trans (I.freeC x c e)
    obtain ⟨w, o, ho, hc⟩ := I.cell x c e
    rw [q, hg] at ho
    cases ho
    rw [hd] at hc
    cases hc
  · intro p hp
    obtain ⟨h1, h2, h3⟩ := I.pin p hp
    exact ⟨h1, (upd_ne (np p hp)).trans h2, h3⟩
  · intro b u e
    by_cases hb : b = a
    · subst hb
      rw [upd_same] at e
      cases e
      exact ⟨⟨oe, vs, hg, hz, hd⟩, ⟨oe, hg⟩, fun h1 h2 k st => let ⟨o, w, k1, k2, k3⟩ := k; ⟨o, w, st o k1, k2, k3⟩⟩
    · rw [upd_ne hb] at e
      exact (I.hok b u e).stay (fun _ _ _ q => q) (fun _ q => at_ _ _ q) fun _ _ q => at_ _ _ q
end
/-- the wish of «except c as n» whose suite keeps what it got -/
def wKeep (K : PySem.W.Frag) (c : Value) (i n : Nat) (ts : Addr → TS) (D : Ends) : WX := fun cls d σ H => PySem.W.exmOne K cls c = some true ∧ d = none ∧
  ∀ a, H a = none → σ.length = n → ts a { nx := fun σ' H' => H' a = none → D.nx (σ'.set i none) (upd H' a (ExR cls a)), rt := fun _ _ => False } (σ.set i (some (.ref a))) H
section
variable {X : Cx} {x n : Str} {c : Value} {i : Nat} {body suite : List Stmt} {b₀ : Stmt} {np pos pos' : Pos} {tb : WX → TS} {ts : Addr → TS}
/-- a stands apart from what was there at the entry, from the frames and from what is pinned -/
structure Off (X : Cx) (pins : List (Addr × Obj)) (a : Addr) : Prop where
  loc : a ≠ X.env.locals
  out : a ∉ X.fs
  new : X.s_0.heap.get? a = none
  pin : ∀ p ∈ X.pn ++ pins, p.1 ≠ a
/-- an object with fields that the heap B, in which the body began to fall, did not have -/
theorem Off.of {pins : List (Addr × Obj)} {σ : L2.St} {H : Hp} {s : Shared} {a : Addr} {B h : Heap} {o : Obj} {vs : Array Value} (J : Inv X pins σ H s) (st : X.stack = X.env :: X.outer) (fr : X.env.frame = some X.env.locals) (ex : X.ex = [])
    (ff : h.FunFrames B (X.env :: X.outer)) (at_a : h.get? a = some o) (da : o.data = .fields vs) (gone : B.get? a = none) (kept : ∀ b u, s.heap.get? b = some u → b ∉ frs X.stack → B.get? b = some u) : Off X pins a := by
  have far : a ∉ frs (X.env :: X.outer) := fun m => match ff.mem m with
    | ⟨_, u, eu, no⟩ => no vs (by rw [at_a] at eu; cases eu; exact da)
  have none_s : s.heap.get? a = none := Option.eq_none_iff_forall_ne_some.mpr fun u eu => by
    have := kept a u eu (st ▸ far)
    rw [gone] at this
    cases this
  exact {
    loc := fun z => far (List.mem_filterMap.mpr ⟨X.env, List.mem_cons_self, fr.trans (congrArg some z.symm)⟩)
    out := fun m => far (match List.mem_filterMap.mp m with | ⟨e, he, q⟩ => List.mem_filterMap.mpr ⟨e, List.mem_cons_of_mem _ he, q⟩)
    new := Option.eq_none_iff_forall_ne_some.mpr fun u eu => match J.base.there a u eu (by rw [ex]; exact fun z => nomatch z) with
      | ⟨u', q⟩ => by rw [none_s] at q; cases q
    pin := fun p hp z => by
      have := (J.pin p hp).1
      rw [z, none_s] at this
      cases this }
/-- the suite is through: its name goes, its object is tracked from here on -/
theorem suite_kept {pins : List (Addr × Obj)} {D : Ends} {a : Addr} {oe : Obj} {vs : Array Value} {f : Flow} {s : Shared} (off : Off X pins a) (ok : X.Ok) (z : Zc c none oe) (d : oe.data = .fields vs) (hN : X.N.Nodup) (hi : X.N[i]? = some n) (hln : X.env.kindOf n = some .local)
    (h : SP (X.suite a ((a, oe) :: (X.pn ++ pins))) [] { nx := fun σ' H' => H' a = none → D.nx (σ'.set i none) (upd H' a (ExR c a)), rt := fun _ _ => False } f s) :
    match f with
    | .next => wpAny (model X.prog X.w) X.A (do bindName X.env n .none; unbindBehindTheSuite X.env n pos) (fun _ s' => SP X pins D .next s') X.xe s
    | _ => False := by
  cases f with
  | next =>
    obtain ⟨σ1, H1, I1, q1⟩ := h
    have hp := I1.pin (a, oe) (List.mem_append_left _ List.mem_cons_self)
    exact gone_ok (track (I1.unsuite ok) hp.1 z d hp.2.1 off.new off.loc off.pin) hN hi hln fun s2 I2 => ⟨_, _, I2, q1 hp.2.1⟩
  | ret u => exact match h with | ⟨_, _, _, _, _, q⟩ => q
  | brk => exact match h with | ⟨_, _, _, q⟩ => q
  | cont => exact match h with | ⟨_, _, _, q⟩ => q
theorem ps_try_keep (hs : X.stack = X.env :: X.outer) (hf : X.env.frame = some X.env.locals) (hex : X.ex = []) (hN : X.N.Nodup) (hi : X.N[i]? = some n) (hln : X.env.kindOf n = some .local) (hc : Names X x c)
    (hb : ∀ (W : WX) (pn : List (Addr × Obj)) (xe : Value → Shared → Prop), Takes (X.tr pn xe) W → PSs (X.tr pn xe) body (tb W))
    (hsu : ∀ (a : Addr) (oe : Obj) (pn : List (Addr × Obj)), PSs (X.suite a ((a, oe) :: pn)) (b₀ :: suite) (ts a)) :
    PS X (.Try body [.ExceptHandler (some (.Name x np)) (some n) (b₀ :: suite) pos'] [] [] pos) (fun D σ H => tb (wKeep X.K c i X.N.length ts D) D σ H) := by
  refine ⟨fun pins s σ H D I h => ?_⟩
  have frames : X.A.frames = some (X.env :: X.outer) := hs ▸ I.ok.frames
  refine wpAny_Try_except (wpAny_mono ((hb (wKeep X.K c i X.N.length ts D) (X.pn ++ pins) _ fun u t fall => ?_).run [] s σ H D (I.toTry _) h) (fun f t ft => ?_) fun _ _ x => x)
  · obtain ⟨a, B, t0, p1, τ, G, cls, d, rfl, J0, kept, slots, sky, na, os, bare, found, rfl, go⟩ := fall
    have J := J0.ofTry (X := X) I.ok
    show wpAny (model X.prog X.w) X.A (noteFrame (.ref a) X.env) _ _ _
    refine Sky.land (B := B) Zc.steady frames hf (hs ▸ sky) fun h1 fly up1 => ?_
    obtain ⟨o1, v1, at1, z1, d1⟩ := fly.there
    have off : Off X pins a := Off.of J hs hf hex fly.2.2.1 at1 d1 fly.2.1 kept
    have J1 : Inv X pins τ G { t with heap := h1 } := J.landed kept fly.1 (slots.trans up1) os bare
    have I1 := J1.suite at1 d1 na off.loc off.out
    refine wpAny_handleBy_cons (codeAny_handlers_test ?_) fun z => nomatch z
    have hit := PySem.W.exm_one (M := model X.prog X.w) J1.kIn (fun A Q E u k q => wpAny_typeOf_ref (k _ _ at1) (z1.1.symm ▸ q)) found
    have look : ∀ {Q E : Value → Shared → Prop}, Q c { t with heap := h1 } → wpAny (model X.prog X.w) (X.A.mark (some (.ref a))) (eval (.Name x np) X.env) Q E { t with heap := h1 } := fun {Q E} q => match hc with
      | ⟨g, nd, .inl m⟩ => ld_glob (X := X.suite a ((a, o1) :: (X.pn ++ pins))) I1 g m q nd
      | ⟨g, nd, .inr ⟨m, bt, nn⟩⟩ => ld_blt (X := X.suite a ((a, o1) :: (X.pn ++ pins))) I1 g m bt q nn nd
    refine look (hit.here (codeAny_handlers_suite_as (HandSPX.lands_againZ fly fun h2 fly2 up2 => ?_)))
    obtain ⟨o2, v2, at2, z2, d2⟩ := fly2.there
    have I2 := (J.landed (s' := { t with heap := h2 }) kept fly2.1 ((slots.trans up1).trans up2) os bare).suite at2 d2 na off.loc off.out
    refine store_ok (X := X.suite a ((a, o2) :: (X.pn ++ pins))) (v := .ref a) I2 hN hi (.inl hln) rfl (fun t3 I3 => ?_) (.inr hln)
    refine wpAny_mono ((hsu a o2 (X.pn ++ pins)).run [] t3 _ G _ I3 (go a na J.len)) (fun f t4 e4 => ?_) fun _ _ z => z.elim
    have e5 := fun p => suite_kept (c := cls) (pos := p) off I.ok z2 d2 hN hi hln e4
    cases f with
    | next => exact e5 _
    | _ => exact (e5 pos).elim
  · cases f with
    | next => exact match ft with | ⟨_, _, J, q⟩ => wpAny_execs_nil ⟨_, _, J.ofTry I.ok, q⟩
    | ret u => exact match ft with | ⟨_, _, _, J, r, q⟩ => ⟨_, _, _, J.ofTry I.ok, r, q⟩
    | _ => exact match ft with | ⟨_, _, J, q⟩ => ⟨_, _, J.ofTry I.ok, q⟩
end
end Kx

set_option Elab.async false
set_option linter.all false
set_option maxRecDepth 100000
set_option maxHeartbeats 1000000
namespace Kx
open PySem PySem.Spec PyProof.Rows L2 Evl
/-! ## what a building is -/
structure IsB (d : D) (as : List Str) (es : List D) (ks : List Str) (rs : List D) : Prop where
  eq : d = .tup [.str "building", .tup (as.map D.str), .tup es, .tup (ks.map D.str), .tup rs]
  a2 : 2 ≤ as.length
  a6 : as.length ≤ 6
  an : as.Nodup
  av : ∀ s ∈ as, nmS s = true
  e1 : 1 ≤ es.length
  e6 : es.length ≤ 6
  ed : ∀ x ∈ es, D.dr as x = true
  en : (es.map fun x => x.fst.txt).Nodup
  k1 : 1 ≤ ks.length
  k3 : ks.length ≤ 3
  kn : ks.Nodup
  kv : ∀ s ∈ ks, nmS s = true
  rd : rs.all (D.rt (es.map fun x => x.fst.txt) ks) = true
  ra : ascT (rs.map (rkey (es.map fun x => x.fst.txt) ks)) = true
theorem isS_eq {d : D} {t : Str} (h : d.isS t = true) : d = .str t := by
  cases d with
  | str s => exact congrArg D.str (eq_of_beq h)
  | _ => cases h
theorem bld_is {d : D} (h : d.bld = true) : ∃ as es ks rs, IsB d as es ks rs := by
  cases d with
  | tup ds =>
    match ds, h with
    | [t, a, dd, k, r], h =>
      rw [bld_5] at h
      simp only [Bool.and_eq_true] at h
      obtain ⟨h1, ⟨h2, h3⟩, h4, h5⟩ := h
      have n1 := nms_shape h2
      have n2 := nms_shape h4
      obtain ⟨es, rfl, e1, e6, ed, en⟩ := drs_shape h3
      cases r with
      | tup rs =>
        rw [rts_tup, Bool.and_eq_true] at h5
        refine ⟨a.txts, es, k.txts, rs, ?_, by omega, by omega, n1.2.2.2.1, n1.2.2.2.2, e1, e6, fun x hx => List.all_eq_true.mp ed x hx, en, by omega, by omega, n2.2.2.2.1, n2.2.2.2.2, h5.1, h5.2⟩
        rw [← n1.1, ← n2.1, isS_eq h1]
      | _ => cases h5
    | [], h | [_], h | [_, _], h | [_, _, _], h | [_, _, _, _], h | _ :: _ :: _ :: _ :: _ :: _ :: _, h => cases h
  | _ => cases h
def D.dn : D → List Str
  | .tup [_, _, .tup es, _, _] => es.map fun x => x.fst.txt
  | _ => []
def D.item (d : D) (j : Nat) : D := match d with
  | .tup ds => ds.getD j .non
  | _ => .non
def D.areaAt (d : D) (n : Str) (s : Int) : Str := (((d.item 2).item (d.dn.idxOf n)).item (1 + s).toNat).txt
def D.areas (d : D) : List Str := (d.item 1).txts
theorem IsB.dn {d : D} {as : List Str} {es : List D} {ks : List Str} {rs : List D} (h : IsB d as es ks rs) : d.dn = es.map fun x => x.fst.txt := by rw [h.eq]; rfl
theorem IsB.areas {d : D} {as : List Str} {es : List D} {ks : List Str} {rs : List D} (h : IsB d as es ks rs) : d.areas = as := by
  rw [h.eq]
  show (as.map D.str).map D.txt = as
  rw [List.map_map]
  exact (List.map_congr_left fun _ _ => rfl).trans (List.map_id as)
/-! ## defs that may raise -/
inductive Out where
  | ret (z : V)
  | exc (C : Addr)
abbrev OkO := List V → Hp → Out → Prop
def outOk (o : Out) (H : Hp) (Q : VK) (E : XK) : Prop := match o with
  | .ret z => Q z H
  | .exc C => E (.ref C) none H
def spO (ok : OkO) : Sp := fun vs H Q E => ∃ o, ok vs H o ∧ ∀ H', Ex H H' → outOk o H' Q E
section
variable {K : PySem.W.Frag} {σ : L2.St} {H H' : Hp} {ta tb te tl : TE} {v x z : V}
def EvP (te : TE) (σ : L2.St) (H : Hp) (xs : List V) : Prop := ∀ H1, Ex H H1 → ∀ Q : VK, (∀ p H2, Ex H1 H2 → TupS H2 p xs → Q (.ref p) H2) → te σ H1 Q
theorem ep_tupOf {xs : List V} (h : EvL te σ H xs) : EvP (tCB (rTupOf K) (tCons te tNil)) σ H xs := fun H1 e Q q =>
  h H1 e _ fun p H2 _ e2 hp => ⟨p, xs, rfl, .of hp, fun r o hr ho => q r _ (e2.trans (Ex.new hr)) ⟨o, ho, upd_same⟩⟩
theorem ev_tixP {ys : List Str} {y : Str} (h : EvP ta σ H (sv ys)) (hx : Ev te σ H (.str y)) (hm : y ∈ ys) : Ev (tTix ta (tCons te tNil)) σ H (.int (ys.idxOf y : Nat)) := fun H1 e Q q =>
  h H1 e _ fun p H2 e2 hp => ⟨p, ys, rfl, hp, hx H2 (e.trans e2) _ fun H3 e3 => ⟨hp.up e3, y, _, rfl, (idx_at hm).1, (idx_at hm).2, q H3 (e2.trans e3)⟩⟩
theorem ev_ixTi {a : Addr} {vs : List V} {j : Nat} {k : Int} (h : Ev ta σ H (.ref a)) (hk : Ev tb σ H (.int k)) (ha : TupS H a vs) (e : k = (j : Int)) (hj : vs[j]? = some v) : Ev (tOp (rIxT K) ta tb) σ H v :=
  ev_op h hk (rv_ixT ha.sq (by rw [e]; exact atI_nat hj))
end
def spDN : Sp := fun vs H Q _ => ∃ v d, vs = [v] ∧ Rep H v d ∧ d.bld = true ∧ ∀ p H', Ex H H' → TupS H' p (sv d.dn) → Q (.ref p) H'
def okSide : OkF := fun vs H z => ∃ v d n s, vs = [v, .str n, .int s] ∧ Rep H v d ∧ d.bld = true ∧ n ∈ d.dn ∧ (s = 0 ∨ s = 1) ∧ z = .str (d.areaAt n s)
theorem stb_side : Stb okSide := fun _ _ _ _ e ⟨v, d, n, s, h1, h2, h3⟩ => ⟨v, d, n, s, h1, h2.up e, h3⟩
section
variable {P : Program} {w : World} {K : PySem.W.Frag} {mg : Str → Option Value} {base : Heap} (T : Txt K mg)
/-- the third part of a building, its doors -/
theorem door_at {d : D} {as : List Str} {es : List D} {ks : List Str} {rs : List D} {H : Hp} {v : V} (B : IsB d as es ks rs) (hv : Rep H v d) :
    ∃ a vs b ws, v = .ref a ∧ TupS H a vs ∧ vs[2]? = some (.ref b) ∧ TupS H b ws ∧ Reps H ws es := by
  rw [B.eq] at hv
  obtain ⟨a, vs, rfl, ha, hs⟩ := hv.tupD
  cases hs with
  | cons r0 hs => cases hs with
    | cons r1 hs => cases hs with
      | cons r2 hs =>
        obtain ⟨b, ws, rfl, hb, hbs⟩ := r2.tupD
        exact ⟨a, _, b, ws, rfl, ha, rfl, hb, hbs⟩
theorem ok_door_names : FnOk P w K mg base CX0 1 T.a_door_names T.d_door_names ["building"] spDN := by
  refine T.F_door_names.ok sc_door_names (fun vs H Q E h => ?_) (fun cdv A outer s H vs Q E hr h => ?_)
  · obtain ⟨v, d, rfl, _⟩ := h
    rfl
  · obtain ⟨v, d, rfl, hv, hb, q⟩ := h
    refine ⟨_, pss_one (ps_ret (pe_callTy call_tupF (by rfl) T.z_tuple bo_tuple (pa_cons (pe_lc (own := [("door", 1)]) (g := gName 1) (tt := tYes) (by rfl) sc_door_names.nd (pi_tup (pe_ix ix_tup (pv 0) pe_int (fun _ _ => rfl))) (blkOk_by (N := ["building", "door"]) (sc := defScope s_door_names) (by decide +kernel))
        (fun _ _ _ _ _ => pg_name (i := 1) sc_door_names.nd rfl (.inl rfl)) (fun _ _ _ _ _ => pts_nil) (fun _ _ _ _ _ => pe_ix (r := rIxT K) ix_tup (pv 1) pe_int (fun _ _ => rfl))) pa_nil))), ?_⟩
    obtain ⟨as, es, ks, rs, B⟩ := bld_is hb
    obtain ⟨a, vs, b, ws, rfl, ha, h2, hbt, hbs⟩ := door_at B hv
    refine ep_tupOf (K := K) (xs := sv d.dn) (el_lcT (ev_ixT (j := 2) (ev_var rfl) ha h2) hbt.sq ?_ (by rw [hbs.length]; have := B.e6; omega) fun j x y hx hy => ?_) H (Ex.refl H) Q fun p H2 e hp => q p H2 e hp
    · rw [B.dn]
      unfold sv
      rw [List.length_map, List.length_map, hbs.length]
    · obtain ⟨e, he, r⟩ := hbs.get hx
      obtain ⟨n, a1, b1, s1, rfl, _⟩ := dr_shape (B.ed e (List.mem_of_getElem? he))
      rw [B.dn] at hy
      unfold sv at hy
      rw [List.getElem?_map, List.getElem?_map, he] at hy
      have ey : y = .str n := (Option.some.inj hy).symm
      subst ey
      obtain ⟨c, us, rfl, hc, hcs⟩ := r.tupD
      cases hcs with
      | cons q0 _ =>
        obtain rfl := q0.strD
        exact ev_ixT (j := 0) (ev_var rfl) hc rfl
theorem ep_dn {σ : L2.St} {H : Hp} {ta : TE} {v : V} {d : D} {E : XK} (h : Ev ta σ H v) (r : Rep H v d) (hb : d.bld = true) : EvP (tCall spDN [] E (tCons ta tNil)) σ H (sv d.dn) := fun H1 e Q q =>
  h H1 e _ fun H2 e2 => ⟨v, d, rfl, r.up (e.trans e2), hb, fun p H3 e3 hp => q p H3 (e2.trans e3) hp⟩
/-! ## the errors -/
def okCB (C : Addr) : OkO := fun vs H o => ∃ v d, vs = [v] ∧ Rep H v d ∧ d.Sz ∧ o = if d.bld = true then .ret .non else .exc C
def okCD (C : Addr) : OkO := fun vs H o => ∃ v d x e, vs = [v, x] ∧ Rep H v d ∧ d.bld = true ∧ Rep H x e ∧ o = if amD e d.dn = true then .ret .non else .exc C
theorem ok_check_building : FnOk P w K mg base (L2.CX P w) 5 T.a_check_building T.d_check_building ["building"] (spO (okCB T.c_BadBuilding)) := by
  refine T.F_check_building.okX sc_check_building (fun vs H Q E h => ?_) (fun cdv A outer s H vs Q E hr h => ?_)
  · obtain ⟨o, ⟨v, d, rfl, _⟩, _⟩ := h
    rfl
  · obtain ⟨o, ⟨v, d, rfl, hv, hz, rfl⟩, q⟩ := h
    refine ⟨_, pss_one (ps_if (pt_not (pt_val (pe_call (ok_is_building T) hr (by rfl) T.g_is_building T.F_is_building.kp (b_is_building T) .nil pass0 (pa_cons (pv 0) pa_nil))))
      (pss_one (ps_raise rfl (takes_of rfl rfl rfl rfl) (pmk_own PySem.F.excBase_ValueError T.E_BadBuilding.q T.E_BadBuilding.g T.E_BadBuilding.kp (raises_own T.E_BadBuilding.bx T.E_BadBuilding.ty) rfl))) pss_nil), ?_⟩
    refine s_if (b := !d.bld) (et_not (et_B (ev_sp stb_bld (ea_cons (ev_var rfl) ea_nil) ⟨v, d, rfl, hv, hz, rfl⟩))) (fun hb H1 e => ?_) (fun hb H1 e => ?_)
    · rw [not_t hb] at q
      exact q H1 e
    · rw [not_f hb] at q
      exact q H1 e
end
end Kx

set_option Elab.async false
set_option linter.all false
set_option maxRecDepth 100000
set_option maxHeartbeats 1000000
namespace Kx
open PySem PySem.Spec PyProof.Rows L2 Evl
section
variable {K : PySem.W.Frag} {σ : L2.St} {H H' : Hp} {ta tb te tl : TE} {v x z : V}
theorem ev_spP {ok : OkF} {xs : List V} {E : XK} (ha : Ev ta σ H x) (hb : EvP tb σ H xs) (k : ∀ p H1, TupS H1 p xs → Ex H H1 → ok [x, .ref p] H1 z) : Ev (tCall (spX ok) [] E (tCons ta (tCons tb tNil))) σ H z :=
  fun H1 e Q q => ha H1 e _ fun H2 e2 => hb H2 (e.trans e2) _ fun p H3 e3 hp => ⟨z, k p H3 hp ((e.trans e2).trans e3), fun H4 e4 => q H4 ((e2.trans e3).trans e4)⟩
/-- a call as a statement of a def that may raise -/
theorem s_callO {ok : OkO} {o : Out} {D : Ends} {E : XK} {u : TS} {ta : TA} {vs : List V} (h : EvA ta σ H vs) (hk : ∀ H1, Ex H H1 → ok vs H1 o) (k : ∀ H2, Ex H H2 → outOk o H2 (fun _ H' => u D σ H') E) : tSeq (tDrop (tCall (spO ok) [] E ta)) u D σ H :=
  h H (Ex.refl H) _ fun H1 e => by
    rw [List.append_nil]
    exact ⟨o, hk H1 e, fun H2 e2 => k H2 (e.trans e2)⟩
end
def okAt (cB cD cS : Addr) : OkO := fun vs H o => ∃ v d x e y f, vs = [v, x, y] ∧ Rep H v d ∧ d.Sz ∧ Rep H x e ∧ Rep H y f ∧
  o = if d.bld = true then (if amD e d.dn = true then (match f with | .int s => (if isBetw (.int s) 0 1 = true then .ret (.str (d.areaAt e.txt s)) else .exc cS) | _ => .exc cS) else .exc cD) else .exc cB
def okCS (C : Addr) : OkO := fun vs H o => ∃ y f, vs = [y] ∧ Rep H y f ∧ o = if isBetw f 0 1 = true then .ret .non else .exc C
section
variable {P : Program} {w : World} {K : PySem.W.Frag} {mg : Str → Option Value} {base : Heap} (T : Txt K mg)
end
end Kx

set_option Elab.async false
set_option linter.all false
set_option maxRecDepth 100000
set_option maxHeartbeats 1000000
namespace Kx
open PySem PySem.Spec PyProof.Rows L2 Evl
section
variable {K : PySem.W.Frag} {σ : L2.St} {H H' : Hp} {ta tb te tl : TE} {v x z : V}
/-- [x for x in a tuple if t] -/
theorem el_lcTif {i : Nat} {tt : TT} {a : Addr} {xs : List V} {p : V → Bool} (h : Ev tl σ H (.ref a)) (hx : SqT K H a xs) (hz : xs.length < 100000)
    (ht : ∀ (j : Nat) (x : V), xs[j]? = some x → EvT tt ((σ.set i none).set i (some x)) H (p x)) (he : ∀ (j : Nat) (x : V), xs[j]? = some x → Ev te ((σ.set i none).set i (some x)) H x) : EvL (tLc (iTup K tl) (gName i) tt te [i]) σ H (xs.filter p) := fun H1 e Q q =>
  h H1 e _ fun H2 e2 => ⟨a, rfl, ⟨xs, ex_t (e.trans e2) hx⟩, fun D hD =>
    lc_tup (xs := xs) (fun j H' => Ex H2 H' ∧ H' D = some (.lst ((xs.take j).filter p))) ⟨Ex.new hD, upd_same⟩ (fun j H' _ p => ex_t ((e.trans e2).trans p.1) hx)
      (fun j x H' hj pv => ⟨by show (((σ.set i none).set i (some x)).set i none) = (σ.set i none); rw [List.set_set, List.set_set], by
        refine ht j x hj H' ((e.trans e2).trans pv.1) _ fun H3 e3 => ?_
        have step : (xs.take (j + 1)).filter p = (xs.take j).filter p ++ (if p x = true then [x] else []) := by
          rw [List.take_add_one, hj, List.filter_append]
          show _ ++ List.filter p [x] = _
          by_cases hp : p x = true
          · rw [if_pos hp, List.filter_cons_of_pos hp, List.filter_nil]
          · rw [if_neg hp, List.filter_cons_of_neg hp, List.filter_nil]
        by_cases hp : p x = true
        · rw [if_pos hp]
          rw [if_pos hp] at step
          refine he j x hj H3 (((e.trans e2).trans pv.1).trans e3) _ fun H4 e4 => ⟨(xs.take j).filter p, e4 _ _ (e3 _ _ pv.2), ?_, ((pv.1.trans e3).trans e4).mut hD, ?_⟩
          · refine sz_lt (Nat.lt_of_le_of_lt (List.length_filter_le _ _) ?_)
            rw [List.length_take]
            exact Nat.lt_of_le_of_lt (Nat.min_le_right _ _) hz
          · rw [upd_same, step]
        · rw [if_neg hp]
          rw [if_neg hp, List.append_nil] at step
          exact ⟨pv.1.trans e3, by rw [step]; exact e3 _ _ pv.2⟩⟩)
      (fun H' pv => q D H' (fresh_back e2 hD) (e2.trans pv.1) (by rw [pv.2, List.take_of_length_le (Nat.le_refl _)]))⟩
theorem s_asgX {D0 : Ends} {u : TS} {i : Nat} (h : Ev te σ H v) (k : ∀ H1, Ex H H1 → u D0 (σ.set i (some v)) H1) : tSeq (tAsg te (gName i)) u D0 σ H := s_asg h k
end
/-- a part of a building, by its place -/
def okItem (j : Nat) : OkF := fun vs H z => ∃ a us, vs = [.ref a] ∧ TupS H a us ∧ us[j]? = some z
theorem stb_item (j : Nat) : Stb (okItem j) := fun _ _ _ _ e ⟨a, us, h1, h2, h3⟩ => ⟨a, us, h1, h2.up e, h3⟩
def okCF : OkF := fun vs H z => ∃ v d f, vs = [v, .ref f] ∧ Rep H v d ∧ d.bld = true ∧ H f = some (.lst []) ∧ z = .non
theorem stb_cf : Stb okCF := fun _ _ _ _ e ⟨v, d, f, h1, h2, h3, h4, h5⟩ => ⟨v, d, f, h1, h2.up e, h3, e _ _ h4, h5⟩
def spNil : Sp := fun vs H Q _ => ∃ v d f w, vs = [v, .ref f, w] ∧ Rep H v d ∧ d.bld = true ∧ H f = some (.lst []) ∧ ∀ p H', H p = none → Ex H H' → H' p = some (.lst []) → Q (.ref p) H'
def spReach : Sp := fun vs H Q _ => ∃ v d f s, vs = [v, .ref f, .str s] ∧ Rep H v d ∧ d.bld = true ∧ H f = some (.lst []) ∧ ∀ p H', H p = none → Ex H H' → H' p = some (.lst (sv (d.areas.filter fun y => amg y [s]))) → Q (.ref p) H'
section
variable {P : Program} {w : World} {K : PySem.W.Frag} {mg : Str → Option Value} {base : Heap} (T : Txt K mg)
theorem ok_areas_of : FnOk P w K mg base CX0 1 T.a_areas_of T.d_areas_of ["building"] (spX (okItem 1)) := by
  refine T.F_areas_of.ok sc_areas_of (fun vs H Q E h => ?_) (fun cdv A outer s H vs Q E hr h => ?_)
  · obtain ⟨z, ⟨a, us, rfl, _⟩, _⟩ := h
    rfl
  · obtain ⟨z, ⟨a, us, rfl, ha, hz⟩, q⟩ := h
    exact ⟨_, pss_one (ps_ret (pe_ix ix_tup (pv 0) pe_int (fun _ _ => rfl))), s_ret (ev_ixT (j := 1) (ev_var rfl) ha hz) q⟩
theorem ok_doors_of : FnOk P w K mg base CX0 1 T.a_doors_of T.d_doors_of ["building"] (spX (okItem 2)) := by
  refine T.F_doors_of.ok sc_doors_of (fun vs H Q E h => ?_) (fun cdv A outer s H vs Q E hr h => ?_)
  · obtain ⟨z, ⟨a, us, rfl, _⟩, _⟩ := h
    rfl
  · obtain ⟨z, ⟨a, us, rfl, ha, hz⟩, q⟩ := h
    exact ⟨_, pss_one (ps_ret (pe_ix ix_tup (pv 0) pe_int (fun _ _ => rfl))), s_ret (ev_ixT (j := 2) (ev_var rfl) ha hz) q⟩
theorem ok_check_free : FnOk P w K mg base CX0 2 T.a_check_free T.d_check_free ["building", "free"] (spX okCF) := by
  refine T.F_check_free.ok sc_check_free (fun vs H Q E h => ?_) (fun cdv A outer s H vs Q E hr h => ?_)
  · obtain ⟨z, ⟨v, d, f, rfl, _⟩, _⟩ := h
    rfl
  · obtain ⟨z, ⟨v, d, f, rfl, hv, hb, hf, rfl⟩, q⟩ := h
    refine ⟨_, pss_cons (ps_set (i := 2) sc_check_free.nd rfl (.inr rfl) (pe_call (ok_door_names T) hr (by rfl) T.g_door_names T.F_door_names.kp (b_door_names T) .nil pass0 (pa_cons (pv 0) pa_nil)))
      (pss_one (ps_if (PW.pt (pw_or (pt_not (pt_val (pe_call (ok_is_row T) hr (by rfl) T.g_is_row T.F_is_row.kp (b_is_row T) .nil pass0 (pa_cons (pv 1) pa_nil))))
          (pw_or (pt_not (pt_val (pe_callB (cr_all rfl) (by rfl) T.z_all bo_all (pa_cons (pe_lc (own := [("item", 3)]) (g := gName 3) (tt := tYes) (by rfl) sc_check_free.nd (pi_list (pv 1)) (blkOk_by (N := ["building", "free", "names", "item"]) (sc := defScope s_check_free) (by decide +kernel))
            (fun _ _ _ _ _ => pg_name (i := 3) sc_check_free.nd rfl (.inl rfl)) (fun _ _ _ _ _ => pts_nil) (fun _ _ _ _ _ => pe_call (ok_is_among T) hr (by rfl) T.g_is_among T.F_is_among.kp (b_is_among T) .nil pass0 (pa_cons (pv 3) (pa_cons (pv 2) pa_nil)))) pa_nil))))
          (pw_or1 (pt_not (pt_val (pe_call (ok_are_unlike T) hr (by rfl) T.g_are_unlike T.F_are_unlike.kp (b_are_unlike T) .nil pass0 (pa_cons (pv 1) pa_nil))))))))
        pss_never pss_nil)), ?_⟩
    refine ep_dn (ev_var rfl) hv hb H (Ex.refl H) _ fun p H1 e1 hp => ?_
    refine s_if (b := false) (et_is (et_or (a := false) (b := false) (et_is (et_not (et_B (ev_sp stb_row (ea_cons (ev_var rfl) ea_nil) ⟨.ref f, .lst [], rfl, .lst (e1 _ _ hf) .nil, rfl⟩))) rfl) fun _ => et_is (et_or (a := false) (b := false) (et_is (et_not (et_B (ev_all (bs := []) (el_lcL (xs := []) (ev_var rfl) (.of (e1 _ _ hf)) rfl (by decide) fun j x y hx => by simp at hx)))) rfl)
      fun _ => et_is (et_not (et_B (ev_sp stb_unlike (ea_cons (ev_var rfl) ea_nil) ⟨f, [], rfl, .inl (e1 _ _ hf), by decide, rfl⟩))) rfl) rfl) rfl) (fun hb => by cases hb) (fun _ H2 e2 => ?_)
    exact q H2 (e1.trans e2)
theorem ok_steps_from : FnOk P w K mg base CX0 2 T.a_steps_from T.d_steps_from ["building", "free", "area"] spNil := by
  refine T.F_steps_from.ok sc_steps_from (fun vs H Q E h => ?_) (fun cdv A outer s H vs Q E hr h => ?_)
  · obtain ⟨v, d, f, w, rfl, _⟩ := h
    rfl
  · obtain ⟨v, d, f, w, rfl, hv, hb, hf, q⟩ := h
    refine ⟨_, pss_cons (ps_set (i := 3) sc_steps_from.nd rfl (.inl rfl) (pe_lst pa_nil))
      (pss_cons (ps_for PassesOwn.never rfl (pi_tup (pe_call (ok_doors_of T) hr (by rfl) T.g_doors_of T.F_doors_of.kp (b_doors_of T) .nil pass0 (pa_cons (pv 0) pa_nil)))
          (pg_tup rfl (pgs_cons (pg_name (i := 4) sc_steps_from.nd rfl (.inl rfl)) (pgs_cons (pg_name (i := 5) sc_steps_from.nd rfl (.inl rfl)) (pgs_cons (pg_name (i := 6) sc_steps_from.nd rfl (.inl rfl)) (pgs_cons (pg_name (i := 7) sc_steps_from.nd rfl (.inl rfl)) pgs_nil)))))
          (pss_one (ps_if (PW.pt (pw_and (pt_cmpR op_in_seq (pv 4) (pv 1) (by rfl)) (pw_and1 (pt_cmpR op_eq (pv 2) (pv 5) (nomark _))))) pss_never
            (pss_one (ps_if (PW.pt (pw_and (pt_cmpR op_in_seq (pv 4) (pv 1) (by rfl)) (pw_and1 (pt_cmpR op_eq (pv 2) (pv 6) (nomark _))))) pss_never pss_nil)))))
      (pss_one (ps_ret (pv 3)))), ?_⟩
    obtain ⟨as, es, ks, rs, B⟩ := bld_is hb
    obtain ⟨a, vs, b, ws, rfl, ha, h2, hbt, hbs⟩ := door_at B hv
    refine s_asgLX (xs := []) (el_lst ea_nil (by decide)) fun p H1 np e1 hp => ?_
    refine q_forT (xs := ws) (ev_sp (stb_item 2) (ea_cons (ev_var rfl) ea_nil) ⟨a, vs, rfl, ha.up e1, h2⟩) (hbt.up e1).sq (fun i σ' H' => ∃ y4 y5 y6 y7, σ' = [some (.ref a), some (.ref f), some w, some (.ref p), y4, y5, y6, y7] ∧ Ex H1 H')
      (fun H2 e2 => ⟨none, none, none, none, rfl, e2⟩) (fun i σ' H' _ hp => let ⟨_, _, _, _, _, e⟩ := hp; (hbt.up (e1.trans e)).sq) (fun i x σ' H' hx hp => ?_) (fun σ' H' hp2 => ?_)
    · obtain ⟨y4, y5, y6, y7, rfl, e2⟩ := hp
      obtain ⟨e, he, r⟩ := hbs.get hx
      obtain ⟨n, a1, b1, s1, rfl, _⟩ := dr_shape (B.ed e (List.mem_of_getElem? he))
      obtain ⟨c, us, rfl, hc, hcs⟩ := (r.up (e1.trans e2)).tupD
      cases hcs with
      | cons q0 hcs => cases hcs with
        | cons q1 hcs => cases hcs with
          | cons q2 hcs => cases hcs with
            | cons q3 hcs =>
              cases hcs
              obtain rfl := q0.strD
              obtain rfl := q1.strD
              obtain rfl := q2.strD
              obtain rfl := q3.strD
              have hf2 := (e1.trans e2) _ _ hf
              refine ⟨c, _, rfl, hc.sq, rfl, .str n, _, rfl, .str a1, _, rfl, .str b1, _, rfl, .str s1, _, rfl, rfl, ?_⟩
              have no : ∀ {t : TT} {σ2 : L2.St}, σ2[4]? = some (some (.str n)) → σ2[1]? = some (some (.ref f)) → ∀ {H3 : Hp}, Ex H' H3 → EvT (tAnd (tTest (tOp (rIn K false) (tVar 4) (tVar 1))) t) σ2 H3 false := fun {t σ2} h4 h1 {H3} e3 =>
                et_is (et_and (a := false) (b := false) (et_test (ev_is (ev_op (ev_var h4) (ev_var h1) (rv_inTx (ns := []) (.inl (e3 _ _ hf2)))) rfl)) fun h => by cases h) rfl
              refine s_if (b := false) (no rfl rfl (Ex.refl _)) (fun h => by cases h) fun _ H3 e3 => ?_
              refine s_if (b := false) (no rfl rfl e3) (fun h => by cases h) fun _ H4 e4 => ?_
              exact ⟨_, _, _, _, rfl, (e2.trans e3).trans e4⟩
    · obtain ⟨y4, y5, y6, y7, rfl, e2⟩ := hp2
      exact s_ret (v := .ref p) (ev_var rfl) fun H3 e3 => q p H3 np ((e1.trans e2).trans e3) (e3 _ _ (e2 _ _ hp))
end
end Kx

set_option Elab.async false
set_option linter.all false
set_option maxRecDepth 100000
set_option maxHeartbeats 1000000
namespace Kx
open PySem PySem.Spec PyProof.Rows L2 Evl
/-! ## rows of texts as data of the library -/
theorem strOk_nm {s : Str} (h : nmS s = true) : PyData.strOk s = true := by
  unfold nmS at h
  rw [Bool.and_eq_true] at h
  unfold PyData.strOk
  rw [← Array.all_toList]
  refine List.all_eq_true.mpr fun c hc => ?_
  have h2 := List.all_eq_true.mp h.2 c hc
  unfold lowc at h2
  rw [Bool.and_eq_true] at h2
  have h3 := of_decide_eq_true h2.2
  exact decide_eq_true (by omega)
def pyT (t : List Str) : PyData := .tuple (t.map PyData.str)
theorem pyT_lay : ∀ t : List Str, (∀ s ∈ t, PyData.strOk s = true) → PyData.canLayAll0 (t.map PyData.str) = true
  | [], _ => by simp [PyData.canLayAll0]
  | s :: r, h => by simp [PyData.canLayAll0, PyData.canLay0, pyT_lay r fun x hx => h x (List.mem_cons_of_mem _ hx), h s List.mem_cons_self]
theorem pyT_dep : ∀ t : List Str, PyData.depthAll (t.map PyData.str) ≤ 1
  | [] => by simp [PyData.depthAll]
  | s :: r => by
    have h := pyT_dep r
    simp only [List.map_cons, PyData.depthAll, PyData.depth]
    omega
theorem pyT_shaped (t : List Str) (hs : ∀ s ∈ t, PyData.strOk s = true) : SeqAt.shaped (pyT t) = true := by
  have h := pyT_dep t
  show ((pyT t).canLay0 && decide ((pyT t).depth ≤ 64)) = true
  rw [Bool.and_eq_true]
  unfold pyT
  exact ⟨by simp only [PyData.canLay0]; exact pyT_lay t hs, decide_eq_true (by simp only [PyData.depth]; omega)⟩
theorem pyTs_lay : ∀ ts : List (List Str), (∀ t ∈ ts, ∀ s ∈ t, PyData.strOk s = true) → PyData.canLayAll0 (ts.map pyT) = true
  | [], _ => by simp [PyData.canLayAll0]
  | t :: r, hs => by
    have h := pyT_lay t (hs t List.mem_cons_self)
    simp [PyData.canLayAll0, pyTs_lay r fun x hx => hs x (List.mem_cons_of_mem _ hx), pyT, PyData.canLay0, h]
theorem pyTs_dep : ∀ ts : List (List Str), PyData.depthAll (ts.map pyT) ≤ 2
  | [] => by simp [PyData.depthAll]
  | t :: r => by
    have h1 := pyTs_dep r
    have h2 := pyT_dep t
    simp only [List.map_cons, PyData.depthAll, pyT, PyData.depth]
    omega
theorem pyTs_shaped (ts : List (List Str)) (hs : ∀ t ∈ ts, ∀ s ∈ t, PyData.strOk s = true) : SeqAt.shaped (.list (ts.map pyT)) = true := by
  have h1 := pyTs_dep ts
  show (PyData.canLay0 (.list (ts.map pyT)) && decide (PyData.depth (.list (ts.map pyT)) ≤ 64)) = true
  rw [Bool.and_eq_true]
  exact ⟨by simp only [PyData.canLay0]; exact pyTs_lay ts hs, decide_eq_true (by simp only [PyData.depth]; omega)⟩
def dT (t : List Str) : D := .tup (t.map D.str)
theorem dp_strs {K : PySem.W.Frag} {H : Hp} : ∀ t : List Str, DpAll K H (sv t) (t.map PyData.str)
  | [] => .nil
  | s :: r => .cons (.str s) (dp_strs r)
theorem dp_T {K : PySem.W.Frag} {H : Hp} {v : V} {t : List Str} (r : Rep H v (dT t)) : Dp K H v (pyT t) := by
  obtain ⟨a, rfl, ha⟩ := r.txs
  exact .tup ha.sq (dp_strs t)
theorem dp_Ts {K : PySem.W.Frag} {H : Hp} : ∀ {ts : List (List Str)} {vs : List V}, Reps H vs (ts.map dT) → DpAll K H vs (ts.map pyT)
  | [], _, .nil => .nil
  | t :: r, _, .cons h k => .cons (dp_T h) (dp_Ts k)
def spAny : Sp := fun vs H Q E => ∃ v d f, vs = [v, .ref f] ∧ Rep H v d ∧ d.bld = true ∧ H f = some (.lst []) ∧ ∀ z H', Ex H H' → Q z H'
def okJo (C : Addr) (vs : List V) (H : Hp) (Q : VK) (E : XK) : Prop := ∃ v d f, vs = [v, .ref f] ∧ Rep H v d ∧ d.Sz ∧ H f = some (.lst []) ∧ (d.bld = true → ∀ z H', Ex H H' → Q z H') ∧ (d.bld = false → ∀ H', Ex H H' → E (.ref C) none H')
section
variable {P : Program} {w : World} {K : PySem.W.Frag} {mg : Str → Option Value} {base : Heap} (T : Txt K mg)
theorem ok_reached_from : FnOk P w K mg base CX0 3 T.a_reached_from T.d_reached_from ["building", "free", "area"] spReach := by
  refine T.F_reached_from.ok sc_reached_from (fun vs H Q E h => ?_) (fun cdv A outer s H vs Q E hr h => ?_)
  · obtain ⟨v, d, f, s, rfl, _⟩ := h
    rfl
  · obtain ⟨v, d, f, st, rfl, hv, hb, hf, q⟩ := h
    have hr1 : Room 1 (A.deeper (envOfC "reached_from" (defScope s_reached_from) s.heap.objs.size T.a_reached_from cdv)) := hr.mono (by decide)
    refine ⟨_, pss_cons (ps_set (i := 3) sc_reached_from.nd rfl (.inr rfl) (pe_lst (pa_cons (pv 2) pa_nil)))
      (pss_cons (ps_set (i := 4) sc_reached_from.nd rfl (.inl rfl) pe_int)
      (pss_cons (ps_while PassesOwn.never (pt_cmpR op_lt (pv 4) (pe_callB call_len_seq (by rfl) T.z_len bo_len (pa_cons (pv 3) pa_nil)) (nomark _))
        (pss_cons (ps_set (i := 5) sc_reached_from.nd rfl (.inl rfl) (pe_ix ix_list (pv 3) (pv 4) (fun _ _ => rfl)))
        (pss_cons (ps_for PassesOwn.never rfl (pi_list (pe_call (ok_steps_from T) hr (by rfl) T.g_steps_from T.F_steps_from.kp (b_steps_from T) .nil pass0 (pa_cons (pv 0) (pa_cons (pv 1) (pa_cons (pv 5) pa_nil)))))
            (pg_tup rfl (pgs_cons (pg_name (i := 6) sc_reached_from.nd rfl (.inl rfl)) (pgs_cons (pg_name (i := 7) sc_reached_from.nd rfl (.inl rfl)) pgs_nil))) pss_never)
        (pss_one (ps_aug (i := 4) sc_reached_from.nd rfl (.inl rfl) pe_int ip_add)))))
      (pss_one (ps_ret (pe_lc (own := [("item", 8)]) (g := gName 8) (by rfl) sc_reached_from.nd (pi_tup (pe_call (ok_areas_of T) hr1 (by rfl) T.g_areas_of T.F_areas_of.kp (b_areas_of T) .nil pass0 (pa_cons (pv 0) pa_nil))) (blkOk_by (N := ["building", "free", "area", "reached", "at", "here", "_", "behind", "item"]) (sc := defScope s_reached_from) (by decide +kernel))
        (fun _ _ _ _ _ => pg_name (i := 8) sc_reached_from.nd rfl (.inl rfl)) (fun _ _ _ _ _ => pts_one (pt_cmpR (r := rIn K false) op_in_seq (pv 8) (pv 3) (by rfl))) (fun _ _ _ _ _ => pv 8)))))), ?_⟩
    obtain ⟨as, es, ks, rs, B⟩ := bld_is hb
    have hv0 := hv
    rw [B.eq] at hv0
    obtain ⟨a, vs, rfl, ha, hs⟩ := hv0.tupD
    refine s_asgLX (xs := [.str st]) (el_lst (ea_cons (ev_var rfl) ea_nil) (by simp)) fun p H1 np e1 hp => ?_
    refine s_asgX (v := .int 0) ev_c fun H2 e2 => ?_
    -- the one turn
    refine ⟨fun m σ' H' => ∃ k y5 y6 y7, σ' = [some (.ref a), some (.ref f), some (.str st), some (.ref p), some (.int k), y5, y6, y7, none] ∧ Ex H1 H' ∧ ((k = 0 ∧ m = 1) ∨ (k = 1 ∧ m = 0)), ⟨1, 0, none, none, none, rfl, e2, .inl ⟨rfl, rfl⟩⟩, fun m σ' H' hW => ?_⟩
    obtain ⟨k, y5, y6, y7, rfl, e3, hk⟩ := hW
    have hp3 := e3 _ _ hp
    refine et_test (ev_op (ev_var rfl) (ev_lenT (ev_var rfl) (.inl hp3)) (rv_I0 (g := fun i j => .bl (decide (i < j))))) H' (Ex.refl H') _ fun H4 e4 => ?_
    rcases hk with ⟨rfl, rfl⟩ | ⟨rfl, rfl⟩
    · rw [if_pos (decide_eq_true (by simp))]
      refine ⟨fun σ5 H5 => ∃ y5 y6 y7, σ5 = [some (.ref a), some (.ref f), some (.str st), some (.ref p), some (.int 1), y5, y6, y7, none] ∧ Ex H1 H5, fun σ5 H5 h5 => ?_, ?_⟩
      · obtain ⟨y5, y6, y7, rfl, e5⟩ := h5
        exact ⟨0, by decide, 1, y5, y6, y7, rfl, e5, .inr ⟨rfl, rfl⟩⟩
      · have hp4 := e4 _ _ hp3
        refine s_asgX (v := .str st) (ev_ixL (j := 0) (ev_var rfl) (ev_var rfl) hp4 rfl rfl) fun H5 e5 => ?_
        have E5 := (e3.trans e4).trans e5
        refine ⟨.ref a, rfl, .ref f, rfl, .str st, rfl, .ref a, d, f, .str st, rfl, hv.up (e1.trans E5), hb, E5 _ _ (e1 _ _ hf), fun g H6 ng e6 hg => ⟨g, rfl, ⟨[], .of hg⟩, ?_⟩⟩
        refine for_list (xs := []) (fun i σ6 H7 => σ6 = [some (.ref a), some (.ref f), some (.str st), some (.ref p), some (.int 0), some (.str st), y6, y7, none] ∧ Ex H6 H7) ⟨rfl, Ex.refl _⟩ (fun i σ6 H7 _ h7 => .of (h7.2 _ _ hg)) (fun i x σ6 H7 hx => by simp at hx) fun σ6 H7 h7 => ?_
        obtain ⟨rfl, e7⟩ := h7
        exact ⟨.int 0, rfl, 0, 1, rfl, rfl, _, _, _, rfl, (E5.trans e6).trans e7⟩
    · rw [if_neg (by simp)]
      have E4 := e3.trans e4
      have r1 : Rep H1 (.ref a) d := hv.up e1
      have hareas : ∃ b, vs[1]? = some (.ref b) ∧ TupS H b (sv as) := by
        cases hs with
        | cons r0 hs => cases hs with
          | cons r1 hs =>
            obtain ⟨b, rfl, hb⟩ := r1.txs
            exact ⟨b, rfl, hb⟩
      obtain ⟨b, hb1, hb2⟩ := hareas
      have E := e1.trans E4
      have L : EvL (tLc (iTup K (tCall (spX (okItem 1)) [] E0 (tCons (tVar 0) tNil))) (gName 8) (tTest (tOp (rIn K false) (tVar 8) (tVar 3))) (tVar 8) [8]) [some (.ref a), some (.ref f), some (.str st), some (.ref p), some (.int 1), y5, y6, y7, none] H4 ((sv as).filter fun v => match v with | .str y => amg y [st] | _ => false) := by
        refine el_lcTif (ev_sp (stb_item 1) (ea_cons (ev_var rfl) ea_nil) ⟨a, vs, rfl, ha.up E, hb1⟩) (hb2.up E).sq ?_ (fun j x hx => ?_) (fun j x hx => ev_var rfl)
        · unfold sv
          rw [List.length_map]
          have := B.a6
          omega
        · unfold sv at hx
          rw [List.getElem?_map] at hx
          cases e5 : as[j]? with
          | none => rw [e5] at hx; cases hx
          | some y =>
            rw [e5] at hx
            have ex : x = .str y := (Option.some.inj hx).symm
            subst ex
            exact et_test (ev_op (ev_var rfl) (ev_var rfl) (rv_inTx (ns := [st]) (.inl (E4 _ _ hp))))
      refine L H4 (Ex.refl _) _ fun r H5 nr e5 hr5 => ?_
      refine q r H5 (fresh_back E nr) (E.trans e5) ?_
      rw [hr5, B.areas]
      refine congrArg some (congrArg HO.lst ?_)
      unfold sv
      rw [List.filter_map]
      rfl
theorem ok_areas_joined : FnOk P w K mg base CX0 4 T.a_areas_joined T.d_areas_joined ["building", "free"] spAny := by
  refine T.F_areas_joined.ok sc_areas_joined (fun vs H Q E h => ?_) (fun cdv A outer s H vs Q E hr h => ?_)
  · obtain ⟨v, d, f, rfl, _⟩ := h
    rfl
  · obtain ⟨v, d, f, rfl, hv, hb, hf, q⟩ := h
    have hr1 : Room 1 (A.deeper (envOfC "areas_joined" (defScope s_areas_joined) s.heap.objs.size T.a_areas_joined cdv)) := hr.mono (by decide)
    have hr3 : Room 3 (A.deeper (envOfC "areas_joined" (defScope s_areas_joined) s.heap.objs.size T.a_areas_joined cdv)) := hr.mono (by decide)
    refine ⟨_, pss_cons (ps_set (i := 2) sc_areas_joined.nd rfl (.inl rfl) (pe_lst pa_nil))
      (pss_cons (ps_for PassesOwn.never rfl (pi_tup (pe_call (ok_areas_of T) hr1 (by rfl) T.g_areas_of T.F_areas_of.kp (b_areas_of T) .nil pass0 (pa_cons (pv 0) pa_nil))) (pg_name (i := 3) sc_areas_joined.nd rfl (.inl rfl))
        (pss_cons (ps_set (i := 4) sc_areas_joined.nd rfl (.inl rfl) (pe_callTy call_tupF (by rfl) T.z_tuple bo_tuple (pa_cons (pe_call (ok_reached_from T) hr3 (by rfl) T.g_reached_from T.F_reached_from.kp (b_reached_from T) .nil pass0 (pa_cons (pv 0) (pa_cons (pv 1) (pa_cons (pv 3) pa_nil)))) pa_nil)))
        (pss_one (ps_if (pt_cmpR (op_notInD (show (A.deeper (envOfC "areas_joined" (defScope s_areas_joined) s.heap.objs.size T.a_areas_joined cdv)).units + 65 < cLine from by have := hr.un; omega)) (pv 4) (pv 2) (by rfl))
          (pss_one (ps_expr (pe_bm PySem.F.plainAttrs_list PySem.F.slot_list_append PySem.F.type_list_append mt_append (pv 2) (pa_cons (pv 4) pa_nil)))) pss_nil))))
      (pss_one (ps_ret (pv 2)))), ?_⟩
    refine s_asgLX (xs := []) (el_lst ea_nil (by decide)) fun p H4 np e4 hp => ?_
    have E4 := e4
    obtain ⟨as, es, ks, rs, B⟩ := bld_is hb
    have hv0 := hv
    rw [B.eq] at hv0
    obtain ⟨a, vs, rfl, ha, hs⟩ := hv0.tupD
    have hareas : ∃ b, vs[1]? = some (.ref b) ∧ TupS H b (sv as) := by
      cases hs with
      | cons r0 hs => cases hs with
        | cons r1 hs =>
          obtain ⟨b, rfl, hb⟩ := r1.txs
          exact ⟨b, rfl, hb⟩
    obtain ⟨b, hb1, hb2⟩ := hareas
    have hpH : H p = none := np
    refine q_forT (xs := sv as) (ev_sp (stb_item 1) (ea_cons (ev_var rfl) ea_nil) ⟨a, vs, rfl, ha.up E4, hb1⟩) (hb2.up E4).sq
      (fun i σ' H' => ∃ y3 y4 gs ts, σ' = [some (.ref a), some (.ref f), some (.ref p), y3, y4] ∧ Ex H H' ∧ H' p = some (.lst gs) ∧ Reps H' gs (ts.map dT) ∧ ts.length ≤ i ∧ ∀ t ∈ ts, ∀ s ∈ t, PyData.strOk s = true)
      (fun H5 e5 => ⟨none, none, [], [], rfl, E4.trans e5, e5 _ _ hp,   .nil, Nat.zero_le _, fun _ h => by simp at h⟩) (fun i σ' H' _ hq => let ⟨_, _, _, _, _, e, _⟩ := hq; (hb2.up e).sq) (fun i x σ' H' hx hq => ?_) (fun σ' H' hq => ?_)
    · obtain ⟨y3, y4, gs, ts, rfl, e5, hg, hgs, hl, hok⟩ := hq
      unfold sv at hx
      rw [List.getElem?_map] at hx
      cases e6 : as[i]? with
      | none => rw [e6] at hx; cases hx
      | some y =>
        rw [e6] at hx
        have ex : x = .str y := (Option.some.inj hx).symm
        subst ex
        have hil : i < as.length := (List.getElem?_eq_some_iff.mp e6).1
        have hal := B.a6
        have hfo : ∀ s ∈ d.areas.filter fun y' => amg y' [y], PyData.strOk s = true := fun s hs => by
          rw [B.areas] at hs
          exact strOk_nm (B.av s (List.mem_filter.mp hs).1)
        refine ⟨.ref a, rfl, .ref f, rfl, .str y, rfl, .ref a, d, f, y, rfl, hv.up e5, hb, e5 _ _ hf, fun r H6 nr e7 hr6 => ⟨r, _, rfl, .of hr6, fun t o ht ho => ?_⟩⟩
        have e8 : Ex H' (upd H6 t (.frz o (.tup (sv (d.areas.filter fun y' => amg y' [y]))))) := e7.trans (Ex.new ht)
        have rt : Rep (upd H6 t (.frz o (.tup (sv (d.areas.filter fun y' => amg y' [y]))))) (.ref t) (dT (d.areas.filter fun y' => amg y' [y])) := .tup ⟨o, ho, upd_same⟩ (reps_strs _)
        have hg8 := e8 _ _ hg
        have hgs8 := hgs.up e8
        refine ⟨.ref t, rfl, .ref p, rfl, pyT (d.areas.filter fun y' => amg y' [y]), ts.map pyT, dp_T rt, .lst (.of hg8) (dp_Ts hgs8), pyT_shaped _ hfo, pyTs_shaped _ hok, _, rfl, ?_⟩
        refine ite2 (fun _ => ?_) (fun _ => ?_)
        · refine ⟨.ref p, rfl, .inl ⟨rfl, gs, .of hg8⟩, .ref t, rfl, p, gs, .ref t, rfl, rfl, hg8, ?_, ?_⟩
          · rw [hgs.length, List.length_map]
            exact sz_lt (by omega)
          · have tp := Tp.lst (ys := gs ++ [.ref t]) hg8
            have im : imms ((ts ++ [d.areas.filter fun y' => amg y' [y]]).map dT) = true := imms_iff.mpr fun dd hd => by
              obtain ⟨t', _, rfl⟩ := List.mem_map.mp hd
              unfold dT D.imm
              exact imms_iff.mpr fun d2 hd2 => by
                obtain ⟨s', _, rfl⟩ := List.mem_map.mp hd2
                rfl
            refine ⟨_, _, gs ++ [.ref t], ts ++ [d.areas.filter fun y' => amg y' [y]], rfl, (e5.trans e8).mut hpH, upd_same, ?_, by rw [List.length_append]; exact Nat.succ_le_succ hl, fun t' ht' => (List.mem_append.mp ht').elim (hok t') fun h => by rw [List.mem_singleton.mp h]; exact hfo⟩
            refine Reps.monoT tp _ _ im ?_
            rw [List.map_append]
            exact hgs8.append (.cons rt .nil)
        · exact ⟨_, _, gs, ts, rfl, e5.trans e8, hg8, hgs8, by omega, hok⟩
    · obtain ⟨y3, y4, gs, ts, rfl, e5, hg, hgs, hl, hok⟩ := hq
      exact s_ret (v := .ref p) (ev_var rfl) fun H6 e6 => q _ H6 (e5.trans e6)
theorem ok_joined : FnOk P w K mg base (L2.CX P w) 6 T.a_joined T.d_joined ["building", "free"] (okJo T.c_BadBuilding) := by
  refine T.F_joined.okX sc_joined (fun vs H Q E h => ?_) (fun cdv A outer s H vs Q E hr h => ?_)
  · obtain ⟨v, d, f, rfl, _⟩ := h
    rfl
  · obtain ⟨v, d, f, rfl, hv, hz, hf, q, qe⟩ := h
    have hr2 : Room 2 (A.deeper (envOfC "joined" (defScope s_joined) s.heap.objs.size T.a_joined cdv)) := hr.mono (by decide)
    have hr4 : Room 4 (A.deeper (envOfC "joined" (defScope s_joined) s.heap.objs.size T.a_joined cdv)) := hr.mono (by decide)
    refine ⟨_, pss_cons (ps_expr (pe_call (E := E) (ok_check_building T) hr (by rfl) T.g_check_building T.F_check_building.kp (b_check_building T) .nil (passes_call (takes_of rfl rfl rfl rfl) fun _ _ _ _ h => h) (pa_cons (pv 0) pa_nil)))
      (pss_cons (ps_expr (pe_call (ok_check_free T) hr2 (by rfl) T.g_check_free T.F_check_free.kp (b_check_free T) .nil pass0 (pa_cons (pv 0) (pa_cons (pv 1) pa_nil))))
      (pss_one (ps_ret (pe_call (ok_areas_joined T) hr4 (by rfl) T.g_areas_joined T.F_areas_joined.kp (b_areas_joined T) .nil pass0 (pa_cons (pv 0) (pa_cons (pv 1) pa_nil)))))), ?_⟩
    refine s_callO (o := if d.bld = true then .ret .non else .exc T.c_BadBuilding) (ea_cons (ev_var rfl) ea_nil) (fun H1 e1 => ⟨v, d, rfl, hv.up e1, hz, rfl⟩) fun H2 e2 => ?_
    by_cases hb : d.bld = true
    · rw [if_pos hb]
      refine s_drop (ev_sp stb_cf (ea_cons (ev_var rfl) (ea_cons (ev_var rfl) ea_nil)) ⟨v, d, f, rfl, hv.up e2, hb, e2 _ _ hf, rfl⟩) fun H3 e3 => ?_
      exact ⟨_, rfl, _, rfl, v, d, f, rfl, hv.up (e2.trans e3), hb, (e2.trans e3) _ _ hf, fun z H4 e4 => q hb z H4 ((e2.trans e3).trans e4)⟩
    · rw [if_neg hb]
      exact qe (by cases h : d.bld <;> simp_all) H2 e2
end
end Kx

set_option Elab.async false
set_option linter.all false
set_option maxRecDepth 100000
set_option maxHeartbeats 1000000
namespace Kx
open PySem PySem.Spec PyProof.Rows L2 Evl
/-! ## the state that draws are taken from -/
def kG : Key := Sum.inr "great"
def kC : Key := Sum.inr "cells"
def kR : Key := Sum.inr "rest"
def kT : Key := Sum.inr "turn"
theorem nGR : (kG = kR) = False := eq_false (by unfold kG kR; decide +kernel)
theorem nGC : (kG = kC) = False := eq_false (by unfold kG kC; decide +kernel)
theorem nGT : (kG = kT) = False := eq_false (by unfold kG kT; decide +kernel)
theorem nCR : (kC = kR) = False := eq_false (by unfold kC kR; decide +kernel)
theorem nCT : (kC = kT) = False := eq_false (by unfold kC kT; decide +kernel)
theorem nRT : (kR = kT) = False := eq_false (by unfold kR kT; decide +kernel)
theorem nTR : (kT = kR) = False := eq_false (by unfold kR kT; decide +kernel)
def stK (sg sc : Addr) (r t : Int) : List (Key × V) := [(kG, .ref sg), (kC, .ref sc), (kR, .int r), (kT, .int t)]
theorem stG (sg sc : Addr) (r t : Int) : valV (stK sg sc r t) kG = some (.ref sg) := by simp [valV, stK]
theorem stC (sg sc : Addr) (r t : Int) : valV (stK sg sc r t) kC = some (.ref sc) := by simp [valV, stK, List.find?, nGC]
theorem stR (sg sc : Addr) (r t : Int) : valV (stK sg sc r t) kR = some (.int r) := by simp [valV, stK, List.find?, nGR, nCR]
theorem stT (sg sc : Addr) (r t : Int) : valV (stK sg sc r t) kT = some (.int t) := by simp [valV, stK, List.find?, nGT, nCT, nRT]
theorem putT (sg sc : Addr) (r t t' : Int) : putK (stK sg sc r t) kT (.int t') = stK sg sc r t' := by simp [putK, stK, nGT, nCT, nRT]
theorem putR (sg sc : Addr) (r t r' : Int) : putK (stK sg sc r t) kR (.int r') = stK sg sc r' t := by simp [putK, stK, nGR, nCR, nTR]
def iv (ns : List Int) : List V := ns.map V.int
/-- the state at sd: its list of great numbers at sg; at least b draws are left -/
structure StW (H : Hp) (sd sg sc : Addr) (gs cs : List Int) (r t : Int) : Prop where
  d : H sd = some (.dK (stK sg sc r t))
  g : H sg = some (.lst (iv gs))
  c : H sc = some (.lst (iv cs))
  ne : sc ≠ sg
theorem StW.sdg {H : Hp} {sd sg sc : Addr} {gs cs : List Int} {r t : Int} (s : StW H sd sg sc gs cs r t) : sd ≠ sg := ne_of s.d s.g (fun z => by cases z)
theorem StW.sdc {H : Hp} {sd sg sc : Addr} {gs cs : List Int} {r t : Int} (s : StW H sd sg sc gs cs r t) : sd ≠ sc := ne_of s.d s.c (fun z => by cases z)
def Sta (H : Hp) (sd sg sc : Addr) (b : Nat) : Prop := ∃ gs cs r t, StW H sd sg sc gs cs r t ∧ 0 ≤ t ∧ t + (b : Int) ≤ 2 ^ 40
/-- all but the state is as it was -/
def ExS (sd sg : Addr) (H H' : Hp) : Prop := ∀ a o, H a = some o → a ≠ sd → a ≠ sg → H' a = some o
theorem ExS.refl {sd sg : Addr} (H : Hp) : ExS sd sg H H := fun _ _ h _ _ => h
theorem ExS.trans {sd sg : Addr} {H H1 H2 : Hp} (a : ExS sd sg H H1) (b : ExS sd sg H1 H2) : ExS sd sg H H2 := fun c o h n m => b c o (a c o h n m) n m
theorem ExS.of {sd sg : Addr} {H H' : Hp} (e : Ex H H') : ExS sd sg H H' := fun a o h _ _ => e a o h
theorem Sta.up {H H' : Hp} {sd sg sc : Addr} {b : Nat} (s : Sta H sd sg sc b) (e : Ex H H') : Sta H' sd sg sc b :=
  let ⟨gs, cs, r, t, w, h1, h2⟩ := s; ⟨gs, cs, r, t, ⟨e _ _ w.d, e _ _ w.g, e _ _ w.c, w.ne⟩, h1, h2⟩
theorem Sta.less {H : Hp} {sd sg sc : Addr} {b c : Nat} (s : Sta H sd sg sc b) (h : c ≤ b) : Sta H sd sg sc c :=
  let ⟨gs, cs, r, t, w, h1, h2⟩ := s; ⟨gs, cs, r, t, w, h1, by omega⟩
theorem Sta.upd {H : Hp} {sd sg sc : Addr} {b : Nat} {C : Addr} {o : HO} (s : Sta H sd sg sc b) (n1 : C ≠ sd) (n2 : C ≠ sg) (n3 : C ≠ sc) : Sta (upd H C o) sd sg sc b :=
  let ⟨gs, cs, r, t, w, h1, h2⟩ := s; ⟨gs, cs, r, t, ⟨(upd_ne n1.symm).trans w.d, (upd_ne n2.symm).trans w.g, (upd_ne n3.symm).trans w.c, w.ne⟩, h1, h2⟩
theorem Sta.off {H : Hp} {sd sg sc : Addr} {b : Nat} {C : Addr} (s : Sta H sd sg sc b) (h : H C = none) : C ≠ sd ∧ C ≠ sg ∧ C ≠ sc :=
  let ⟨gs, cs, r, t, w, h1, h2⟩ := s; ⟨(ne_of_none w.d h).symm, (ne_of_none w.g h).symm, (ne_of_none w.c h).symm⟩
/-- what is neither the state's dict nor its list -/
def hid (H : Hp) (sd sg : Addr) : Hp := fun a => if a = sd ∨ a = sg then none else H a
theorem hid_ex {H : Hp} {sd sg : Addr} : Ex (hid H sd sg) H := fun a o h => by
  unfold hid at h
  split at h
  · cases h
  · exact h
theorem hid_mono {H H' : Hp} {sd sg : Addr} (e : ExS sd sg H H') : Ex (hid H sd sg) (hid H' sd sg) := fun a o h => by
  unfold hid at h ⊢
  split at h
  · cases h
  · rename_i n
    rw [if_neg n]
    exact e a o h (fun z => n (.inl z)) (fun z => n (.inr z))
section
variable {K : PySem.W.Frag} {σ : L2.St} {H : Hp} {ta tb te tl td ty : TE} {v : V}
theorem ev_dget {a : Addr} {k : Str} {kvs : List (Key × V)} (h : Ev td σ H (.ref a)) (hk : Ev ty σ H (.str k)) (hd : H a = some (.dK kvs)) (hv : valV kvs (Sum.inr k) = some v) : Ev (tDGet td ty) σ H v := fun H1 e Q q =>
  h H1 e _ fun H2 e2 => hk H2 (e.trans e2) _ fun H3 e3 => ⟨a, v, rfl, by rw [← hv]; exact DGet.k (k := Sum.inr k) (((e.trans e2).trans e3) _ _ hd), q H3 (e2.trans e3)⟩
theorem ev_int1 {i : Int} (h : Ev te σ H (.int i)) : Ev (tCB (fun xs H Q => (∃ i, xs = [.int i] ∧ Q (.int i) H) ∨ ∃ k, xs = [.bl k] ∧ Q (.int (if k then 1 else 0)) H) (tCons te tNil)) σ H (.int i) :=
  ev_cb (ea_cons h ea_nil) fun H1 e Q q => .inl ⟨i, rfl, q H1 (Ex.refl _)⟩
end
def spMixed : Sp := fun vs H Q _ => ∃ sd sg sc b, vs = [.ref sd] ∧ Sta H sd sg sc (b + 1) ∧ ∀ z H', Sta H' sd sg sc b → ExS sd sg H H' → Q (.int z) H'
def spDraw : Sp := fun vs H Q _ => ∃ sd sg sc b m, vs = [.ref sd, .int m] ∧ 0 < m ∧ m < 1000000 ∧ Sta H sd sg sc (b + 1) ∧ ∀ z H', 0 ≤ z → z < m → Sta H' sd sg sc b → ExS sd sg H H' → Q (.int z) H'
def primes : List Int := [2147483629, 2147483647, 2147483563, 2147483587]
theorem prime_ok {p : Int} (h : p ∈ primes) : 0 < p ∧ p < 2147483648 := by
  unfold primes at h
  simp only [List.mem_cons, List.not_mem_nil, or_false] at h
  rcases h with rfl | rfl | rfl | rfl <;> decide
section
variable {P : Program} {w : World} {K : PySem.W.Frag} {mg : Str → Option Value} {base : Heap} (T : Txt K mg)
theorem ok_mixed : FnOk P w K mg base CX0 1 T.a_law_mixed T.d_law_mixed ["state"] spMixed := by
  refine T.F_law_mixed.ok sc_law_mixed (fun vs H Q E h => ?_) (fun cdv A outer s H vs Q E hr h => ?_)
  · obtain ⟨sd, sg, sc, b, rfl, _⟩ := h
    rfl
  · obtain ⟨sd, sg, sc, b, rfl, ⟨gs, cs, r, t, W, h1, h2⟩, q⟩ := h
    have hu : (A.deeper (envOfC "_law_mixed" (defScope s_law_mixed) s.heap.objs.size T.a_law_mixed cdv)).units + 1 < cLine := hu_of hr
    refine ⟨_, pss_cons (ps_par (i := 1) (j := 2) rfl sc_law_mixed.nd rfl rfl (by decide) rfl rfl (pa_cons (pe_op op_add (pe_dget hu (pv 0) pe_str (fun _ _ => rfl)) pe_int) (pa_cons pe_int pa_nil)) (by rfl))
      (pss_cons (ps_dput hu (pv 0) pe_str (pv 1) rfl)
      (pss_cons (ps_for PassesOwn.never rfl (pi_list (pe_lst (pa_cons pe_int (pa_cons pe_int (pa_cons pe_int (pa_cons pe_int pa_nil)))))) (pg_name (i := 3) sc_law_mixed.nd rfl (.inl rfl))
        (pss_cons (ps_set (i := 4) sc_law_mixed.nd rfl (.inl rfl) (pe_op op_add (pe_op op_mul pe_int (pv 1)) (pe_op op_fdiv (pv 3) pe_int)))
        (pss_cons (ps_for PassesOwn.never rfl (pi_list (pe_dget hu (pv 0) pe_str (fun _ _ => rfl))) (pg_name (i := 5) sc_law_mixed.nd rfl (.inl rfl))
          (pss_one (ps_set (i := 4) sc_law_mixed.nd rfl (.inl rfl) (pe_op op_mod (pe_callTy call_int1 (by rfl) T.z_int bo_int (pa_cons (pe_op op_add (pe_op op_add (pe_op op_mul (pv 4) pe_int) (pv 5)) (pv 1)) pa_nil)) (pv 3)))))
        (pss_one (ps_set (i := 2) sc_law_mixed.nd rfl (.inl rfl) (pe_op op_add (pe_op op_mul (pv 2) pe_int) (pe_op op_mod (pe_callTy call_int1 (by rfl) T.z_int bo_int (pa_cons (pe_op op_pow (pv 4) pe_int) pa_nil)) (pv 3))))))))
      (pss_one (ps_ret (pv 2))))), ?_⟩
    refine ⟨.ref sd, rfl, sd, .int t, rfl, by rw [← stT sg sc r t]; exact DGet.k (k := kT) W.d, t, 1, rfl, rfl, .int (t + 1), .int 0, rfl, ?_⟩
    refine ⟨.int (t + 1), rfl, .ref sd, rfl, sd, _, rfl, DPut.k (k := kT) W.d (by show 4 < sizeLine; rw [sizeLine_eq]; decide), ?_⟩
    rw [putT]
    refine ⟨by show 4 ≤ sizeLine; rw [sizeLine_eq]; decide, fun p np => ⟨p, rfl, ⟨_, .of upd_same⟩, ?_⟩⟩
    -- the heap of the loops
    have W2 : StW (upd (upd H sd (.dK (stK sg sc r (t + 1)))) p (.lst (iv primes))) sd sg sc gs cs r (t + 1) := by
      have nsd : sd ≠ p := fun z => by rw [← z, upd_same] at np; cases np
      have hg : upd H sd (.dK (stK sg sc r (t + 1))) sg = some (.lst (iv gs)) := (upd_ne W.sdg.symm).trans W.g
      have hc : upd H sd (.dK (stK sg sc r (t + 1))) sc = some (.lst (iv cs)) := (upd_ne W.sdc.symm).trans W.c
      exact ⟨(upd_ne nsd).trans upd_same, (upd_ne (ne_of_none hg np)).trans hg, (upd_ne (ne_of_none hc np)).trans hc, W.ne⟩
    have hp2 : (upd (upd H sd (.dK (stK sg sc r (t + 1)))) p (.lst (iv primes))) p = some (.lst (iv primes)) := upd_same
    have X2 : ExS sd sg H (upd (upd H sd (.dK (stK sg sc r (t + 1)))) p (.lst (iv primes))) := fun a o h n m => by
      have h1 : upd H sd (.dK (stK sg sc r (t + 1))) a = some o := (upd_ne n).trans h
      exact (upd_ne (ne_of_none h1 np)).trans h1
    rw [show ([V.int 2147483629, V.int 2147483647, V.int 2147483563, V.int 2147483587] : List V) = iv primes from rfl]
    generalize upd (upd H sd (.dK (stK sg sc r (t + 1)))) p (.lst (iv primes)) = H2 at W2 hp2 X2
    refine for_list (xs := iv primes) (fun i σ' H' => Ex H2 H' ∧ ∃ f y3 y4 y5, σ' = [some (.ref sd), some (.int (t + 1)), some (.int f), y3, y4, y5]) ⟨Ex.refl _, 0, none, none, none, rfl⟩ (fun i σ' H' _ h => .of (h.1 _ _ hp2)) (fun i x σ' H' hx h => ?_) (fun σ' H' h => ?_)
    · obtain ⟨e2, f, y3, y4, y5, rfl⟩ := h
      obtain ⟨pr, hpr, rfl⟩ : ∃ pr ∈ primes, x = .int pr := by
        obtain ⟨pr, h1, h2⟩ := List.mem_map.mp (List.mem_of_getElem? hx)
        exact ⟨pr, h1, h2.symm⟩
      obtain ⟨p1, p2⟩ := prime_ok hpr
      -- blend = 69621 * turn + prime // 41
      refine s_asgX (v := .int (69621 * (t + 1) + pr / 41)) (ev_op (ev_op ev_c (ev_var rfl) (rv_I (.inl ⟨by decide, by decide⟩))) (ev_op (ev_var rfl) ev_c (rv_I ⟨by decide, by decide⟩)) rv_I0) fun H3 e3 => ?_
      have E3 := e2.trans e3
      -- for cell in state['cells']
      refine q_forL (xs := iv cs) (ev_dget (k := "cells") (ev_var rfl) ev_c (E3 _ _ W2.d) (stC _ _ _ _)) (.of (E3 _ _ W2.c)) (fun j σ4 H4 => Ex H2 H4 ∧ ∃ bl y5, σ4 = [some (.ref sd), some (.int (t + 1)), some (.int f), some (.int pr), some (.int bl), y5] ∧ bl.natAbs < 2 ^ 64)
        (fun H4 e4 => ⟨E3.trans e4, _, y5, rfl, ?_⟩) (fun j σ4 H4 _ h4 => .of (h4.1 _ _ W2.c)) (fun j x σ4 H4 hx4 h4 => ?_) (fun σ4 H4 h4 => ?_)
      · have : 0 ≤ pr / 41 := Int.ediv_nonneg (by omega) (by decide)
        have : pr / 41 < 2147483648 := Int.lt_of_le_of_lt (Int.ediv_le_self _ (by omega)) p2
        omega
      · obtain ⟨e4, bl, y5, rfl, hb⟩ := h4
        obtain ⟨c, _, rfl⟩ : ∃ c ∈ cs, x = .int c := by
          obtain ⟨c, h1, h2⟩ := List.mem_map.mp (List.mem_of_getElem? hx4)
          exact ⟨c, h1, h2.symm⟩
        refine s_asg (v := .int ((bl * 48271 + c + (t + 1)) % pr)) (ev_op (ev_int1 (ev_op (ev_op (ev_op (ev_var rfl) ev_c (rv_I (.inr ⟨by decide, by decide⟩))) (ev_var rfl) rv_I0) (ev_var rfl) rv_I0)) (ev_var rfl) (rv_I p1)) fun H5 e5 => ⟨e4.trans e5, _, _, rfl, ?_⟩
        have h1 := Int.emod_nonneg (bl * 48271 + c + (t + 1)) (show pr ≠ 0 by omega)
        have h2 := Int.emod_lt_of_pos (bl * 48271 + c + (t + 1)) p1
        omega
      · obtain ⟨e4, bl, y5, rfl, hb⟩ := h4
        exact s_asg (v := .int (f * 2147483659 + bl ^ (5 : Int).toNat % pr)) (ev_op (ev_op (ev_var rfl) ev_c (rv_I (.inr ⟨by decide, by decide⟩))) (ev_op (ev_int1 (ev_op (ev_var rfl) ev_c (rv_I ⟨by decide, by decide, hb⟩))) (ev_var rfl) (rv_I p1)) rv_I0) fun H5 e5 => ⟨e4.trans e5, _, _, _, _, rfl⟩
    · obtain ⟨e2, f, y3, y4, y5, rfl⟩ := h
      exact ⟨.int f, rfl, q f H' (Sta.up ⟨gs, cs, r, t + 1, W2, by omega, by omega⟩ e2) (X2.trans (.of e2))⟩
end
end Kx

set_option Elab.async false
set_option linter.all false
set_option maxRecDepth 100000
set_option maxHeartbeats 1000000
namespace Kx
open PySem PySem.Spec PyProof.Rows L2 Evl
theorem dp_iv {K : PySem.W.Frag} {H : Hp} : ∀ ns : List Int, DpAll K H (iv ns) (ns.map PyData.int)
  | [] => .nil
  | i :: r => .cons (.int i) (dp_iv r)
theorem ivL_lay : ∀ ns : List Int, PyData.canLayAll0 (ns.map PyData.int) = true
  | [] => by simp [PyData.canLayAll0]
  | i :: r => by simp [PyData.canLayAll0, PyData.canLay0, ivL_lay r]
theorem ivL_dep : ∀ ns : List Int, PyData.depthAll (ns.map PyData.int) ≤ 1
  | [] => by simp [PyData.depthAll]
  | i :: r => by
    have h := ivL_dep r
    simp only [List.map_cons, PyData.depthAll, PyData.depth]
    omega
theorem iv_shaped (ns : List Int) : SeqAt.shaped (.list (ns.map PyData.int)) = true := by
  have h := ivL_dep ns
  show (PyData.canLay0 (.list (ns.map PyData.int)) && decide (PyData.depth (.list (ns.map PyData.int)) ≤ 64)) = true
  rw [Bool.and_eq_true]
  exact ⟨by simp only [PyData.canLay0]; exact ivL_lay ns, decide_eq_true (by simp only [PyData.depth]; omega)⟩
theorem eqv_nil : PyData.eqv (.list []) (.list []) = true := by simp [PyData.eqv, PyData.eqvAll]
theorem eqv_cons (d : PyData) (ds : List PyData) : PyData.eqv (.list (d :: ds)) (.list []) = false := by simp [PyData.eqv, PyData.eqvAll]
/-- what the state is behind the first statement of a draw -/
def Mid (H : Hp) (sd sg sc : Addr) (b : Nat) (H1 : Hp) : Prop := ExS sd sg H H1 ∧ Sta H1 sd sg sc b
section
variable {P : Program} {w : World} {K : PySem.W.Frag} {mg : Str → Option Value} {base : Heap} (T : Txt K mg)
theorem ok_draw : FnOk P w K mg base CX0 2 T.a_law_draw T.d_law_draw ["state", "room"] spDraw := by
  refine T.F_law_draw.ok sc_law_draw (fun vs H Q E h => ?_) (fun cdv A outer s H vs Q E hr h => ?_)
  · obtain ⟨sd, sg, sc, b, m, rfl, _⟩ := h
    rfl
  · obtain ⟨sd, sg, sc, b, m, rfl, m0, m1, hS, q⟩ := h
    have hu : (A.deeper (envOfC "_law_draw" (defScope s_law_draw) s.heap.objs.size T.a_law_draw cdv)).units + 1 < cLine := hu_of hr
    have hu4 : (A.deeper (envOfC "_law_draw" (defScope s_law_draw) s.heap.objs.size T.a_law_draw cdv)).units + 64 < cLine := by have := hr.un; omega
    refine ⟨_, pss_cons (ps_if (pt_cmpR op_eq (pe_dget hu (pv 0) pe_str (fun _ _ => rfl)) pe_int (nomark _))
        (pss_one (ps_dput hu (pv 0) pe_str (pe_ifExp (pt_cmpR (op_neD hu4) (pe_dget hu (pv 0) pe_str (fun _ _ => rfl)) (pe_lst pa_nil) (nomark _))
          (pe_bm PySem.F.plainAttrs_list PySem.F.slot_list_pop PySem.F.type_list_pop mt_popAt (pe_dget hu (pv 0) pe_str (fun _ _ => rfl)) (pa_cons pe_int pa_nil))
          (pe_call (ok_mixed T) hr (by rfl) T.g_law_mixed T.F_law_mixed.kp (b_law_mixed T) .nil pass0 (pa_cons (pv 0) pa_nil))) rfl)) pss_nil)
      (pss_cons (ps_set (i := 2) sc_law_draw.nd rfl (.inl rfl) (pe_op op_mod (pe_callTy call_int1 (by rfl) T.z_int bo_int (pa_cons (pe_dget hu (pv 0) pe_str (fun _ _ => rfl)) pa_nil)) (pv 1)))
      (pss_cons (ps_dput hu (pv 0) pe_str (pe_op op_fdiv (pe_dget hu (pv 0) pe_str (fun _ _ => rfl)) (pv 1)) rfl)
      (pss_one (ps_ret (pv 2))))), ?_⟩
    obtain ⟨gs, cs, r, t, W, h1, h2⟩ := hS
    -- behind the first statement
    have fin : ∀ H1, Mid H sd sg sc b H1 → tSeq (tAsg (tOp (rI (fun _ j => 0 < j) fun i j => .int (i % j)) (tCB (fun xs H Q => (∃ i, xs = [.int i] ∧ Q (.int i) H) ∨ ∃ k, xs = [.bl k] ∧ Q (.int (if k then 1 else 0)) H) (tCons (tDGet (tVar 0) (tC (.str "rest"))) tNil)) (tVar 1)) (gName 2))
        (tSeq (sDPut (tVar 0) (tC (.str "rest")) (tOp (rI CDiv fun i j => .int (i / j)) (tDGet (tVar 0) (tC (.str "rest"))) (tVar 1))) (tRet (tVar 2))) { nx := fun _ H' => Q .non H', rt := Q } [some (.ref sd), some (.int m), none] H1 := fun H1 hm => by
      obtain ⟨e1, gs, cs, r, t, W, h1, h2⟩ := hm
      refine s_asgX (v := .int (r % m)) (ev_op (ev_int1 (ev_dget (k := "rest") (ev_var rfl) ev_c W.d (stR _ _ _ _))) (ev_var rfl) (rv_I m0)) fun H2 e2 => ?_
      refine (ev_op (r := rI CDiv fun i j => .int (i / j)) (z := .int (r / m)) (ev_dget (k := "rest") (ev_var rfl) ev_c (e2 _ _ W.d) (stR _ _ _ _)) (ev_var rfl) (rv_I ⟨m0, by omega⟩) : Ev _ [some (.ref sd), some (.int m), some (.int (r % m))] H2 _) H2 (Ex.refl _) _ fun H3 e3 => ?_
      have E3 := e2.trans e3
      refine ⟨.ref sd, rfl, sd, _, rfl, DPut.k (k := kR) (E3 _ _ W.d) (by show 4 < sizeLine; rw [sizeLine_eq]; decide), ?_⟩
      rw [putR]
      refine ⟨.int (r % m), rfl, q _ _ (Int.emod_nonneg _ (by omega)) (Int.emod_lt_of_pos _ m0) ⟨gs, cs, r / m, t, ⟨upd_same, ?_, ?_, W.ne⟩, h1, h2⟩ fun a o ha n1 n2 => ?_⟩
      · rw [upd_ne W.sdg.symm]
        exact E3 _ _ W.g
      · rw [upd_ne W.sdc.symm]
        exact E3 _ _ W.c
      · rw [upd_ne n1]
        exact E3 _ _ (e1 _ _ ha n1 n2)
    refine et_test (ev_op (ev_dget (k := "rest") (ev_var rfl) ev_c W.d (stR _ _ _ _)) ev_c (rv_eq rfl)) H (Ex.refl H) _ fun H1 e1 => ?_
    refine ite2 (fun _ => ?_) (fun _ => ?_)
    · -- rest is 0
      have W1 : StW H1 sd sg sc gs cs r t := ⟨e1 _ _ W.d, e1 _ _ W.g, e1 _ _ W.c, W.ne⟩
      refine ev_dget (k := "great") (ev_var rfl) ev_c W1.d (stG _ _ _ _) H1 (Ex.refl _) _ fun H2 e2 => ⟨Nat.zero_le _, fun p np => ?_⟩
      have E2 : Ex H1 (upd H2 p (.lst [])) := e2.trans (Ex.new np)
      have W2 : StW (upd H2 p (.lst [])) sd sg sc gs cs r t := ⟨E2 _ _ W1.d, E2 _ _ W1.g, E2 _ _ W1.c, W.ne⟩
      refine ⟨.list (gs.map PyData.int), .list [], .lst (.of W2.g) (dp_iv gs), .lst (.of upd_same) .nil, iv_shaped gs, iv_shaped [], _, rfl, ?_⟩
      generalize upd H2 p (.lst []) = H3 at E2 W2
      cases gs with
      | nil =>
        rw [show PyData.eqv (.list (([] : List Int).map PyData.int)) (.list []) = true from eqv_nil]
        refine iteF ?_
        refine ⟨.ref sd, rfl, sd, sg, sc, b, rfl, ⟨[], cs, r, t, W2, h1, h2⟩, fun z H4 hS4 e4 => ?_⟩
        obtain ⟨gs', cs', r', t', W4, k1, k2⟩ := hS4
        refine ⟨.ref sd, rfl, sd, _, rfl, DPut.k (k := kR) W4.d (by show 4 < sizeLine; rw [sizeLine_eq]; decide), ?_⟩
        rw [putR]
        refine fin _ ⟨fun a o ha n1 n2 => ?_, gs', cs', z, t', ⟨upd_same, ?_, ?_, W4.ne⟩, k1, k2⟩
        · rw [upd_ne n1]
          exact e4 _ _ ((e1.trans E2) _ _ ha) n1 n2
        · rw [upd_ne W4.sdg.symm]
          exact W4.g
        · rw [upd_ne W4.sdc.symm]
          exact W4.c
      | cons g gr =>
        rw [show PyData.eqv (.list ((g :: gr).map PyData.int)) (.list []) = false from eqv_cons _ _]
        refine iteT ?_
        refine ev_dget (k := "great") (ev_var rfl) ev_c W2.d (stG _ _ _ _) H3 (Ex.refl _) _ fun H4 e4 => ?_
        have W4 : StW H4 sd sg sc (g :: gr) cs r t := ⟨e4 _ _ W2.d, e4 _ _ W2.g, e4 _ _ W2.c, W.ne⟩
        refine ⟨.inl ⟨rfl, _, .of W4.g⟩, sg, iv (g :: gr), 0, 0, .int g, rfl, rfl, W4.g, by decide, by decide, ?_, rfl, ?_⟩
        · unfold iv
          rw [List.length_map, List.length_cons]
          simp [seqIndex?]
        · have hd : upd H4 sg (.lst ((iv (g :: gr)).eraseIdx 0)) sd = some (.dK (stK sg sc r t)) := (upd_ne W4.sdg).trans W4.d
          refine ⟨.ref sd, rfl, sd, _, rfl, DPut.k (k := kR) hd (by show 4 < sizeLine; rw [sizeLine_eq]; decide), ?_⟩
          rw [putR]
          refine fin _ ⟨fun a o ha n1 n2 => ?_, gr, cs, g, t, ⟨upd_same, ?_, ?_, W4.ne⟩, h1, by omega⟩
          · rw [upd_ne n1, upd_ne n2]
            exact ((e1.trans E2).trans e4) _ _ ha
          · rw [upd_ne W4.sdg.symm]
            exact upd_same
          · rw [upd_ne W4.sdc.symm, upd_ne W4.ne]
            exact W4.c
    · exact fin H1 ⟨.of e1, gs, cs, r, t, ⟨e1 _ _ W.d, e1 _ _ W.g, e1 _ _ W.c, W.ne⟩, h1, by omega⟩
end
end Kx

set_option Elab.async false
set_option linter.all false
set_option maxRecDepth 100000
set_option maxHeartbeats 1000000
namespace Kx
open PySem PySem.Spec PyProof.Rows L2 Evl
/-! ## texts -/
def tx (cs : List Nat) : Str := ⟨cs.toArray⟩
theorem tx_len (cs : List Nat) : (tx cs).length = cs.length := by simp [tx, Str.length]
theorem tx_codes (cs : List Nat) : (tx cs).cps.toList = cs := by simp [tx]
theorem joinL_nil : ∀ cs : List Nat, TL.joinL [] (cs.map fun c => [c]) = cs
  | [] => rfl
  | [c] => rfl
  | c :: d :: r => by
    show [c] ++ ([] ++ TL.joinL [] ((d :: r).map fun c => [c])) = c :: d :: r
    rw [joinL_nil (d :: r)]
    rfl
theorem join_signs (cs : List Nat) : Txt.join (tx []) (cs.map fun c => tx [c]) = tx cs := by
  have e := TL.tl_join (tx []) (cs.map fun c => tx [c])
  rw [List.map_map] at e
  have e2 : TL.joinL (TL.tl (tx [])) (cs.map (TL.tl ∘ fun c => tx [c])) = cs := joinL_nil cs
  rw [e2] at e
  rw [TL.join_eq]
  exact TL.ext_tl (e.trans (tx_codes cs).symm)
theorem sum_ones : ∀ cs : List Nat, (cs.map fun _ => 1).sum = cs.length
  | [] => rfl
  | c :: r => by
    rw [List.map_cons, List.sum_cons, sum_ones r, List.length_cons]
    omega
def abc : Str := "abcdefghijklmnopqrstuvwxyz"
theorem abc_codes : abc.cps.toList = (List.range 26).map (· + 97) := by unfold abc; decide +kernel
theorem abc_len : abc.length = 26 := by
  have h := congrArg List.length abc_codes
  simpa [Str.length] using h
theorem abc_lowc {c : Nat} : c ∈ abc.cps.toList ↔ lowc c = true := by
  rw [abc_codes]
  unfold lowc
  simp only [List.mem_map, List.mem_range, Bool.and_eq_true, decide_eq_true_eq]
  constructor
  · rintro ⟨a, h, rfl⟩
    omega
  · rintro ⟨h1, h2⟩
    exact ⟨c - 97, by omega, by omega⟩
def spPickL : Sp := fun vs H Q _ => ∃ (sd sg sc : Addr) (b : Nat) (l : Addr) (xs : List V), vs = [.ref sd, .ref l] ∧ H l = some (.lst xs) ∧ l ≠ sd ∧ l ≠ sg ∧ 0 < xs.length ∧ xs.length ≤ 1000 ∧ Sta H sd sg sc (b + 1) ∧ ∀ (j : Nat) (x : V) (H' : Hp), xs[j]? = some x → Sta H' sd sg sc b → ExS sd sg H H' → Q x H'
def spPickS : Sp := fun vs H Q _ => ∃ (sd sg sc : Addr) (b : Nat) (z : Str), vs = [.ref sd, .str z] ∧ 0 < z.length ∧ z.length ≤ 1000 ∧ Sta H sd sg sc (b + 1) ∧ ∀ (c : Nat) (H' : Hp), c ∈ z.cps.toList → Sta H' sd sg sc b → ExS sd sg H H' → Q (.str (tx [c])) H'
def okTells : OkF := fun vs H z => ∃ a b, vs = [.bl a, .bl b] ∧ z = .bl (decide (a = b))
theorem stb_tells : Stb okTells := fun _ _ _ _ _ h => h
def spLetters : Sp := fun vs H Q _ => ∃ (sd sg sc : Addr) (b m : Nat), vs = [.ref sd, .int (m : Nat)] ∧ m ≤ 20 ∧ Sta H sd sg sc (b + m) ∧ ∀ (cs : List Nat) (H' : Hp), cs.length = m → (∀ c ∈ cs, lowc c = true) → Sta H' sd sg sc b → ExS sd sg H H' → Q (.str (tx cs)) H'
section
variable {P : Program} {w : World} {K : PySem.W.Frag} {mg : Str → Option Value} {base : Heap} (T : Txt K mg)
theorem ok_pickL : FnOk P w K mg base CX0 3 T.a_law_pick T.d_law_pick ["state", "some"] spPickL := by
  refine T.F_law_pick.ok sc_law_pick (fun vs H Q E h => ?_) (fun cdv A outer s H vs Q E hr h => ?_)
  · obtain ⟨sd, sg, sc, b, l, xs, rfl, _⟩ := h
    rfl
  · obtain ⟨sd, sg, sc, b, l, xs, rfl, hl, n1, n2, h0, h1, hS, q⟩ := h
    refine ⟨_, pss_one (ps_ret (pe_ix ix_list (pv 1) (pe_call (ok_draw T) hr (by rfl) T.g_law_draw T.F_law_draw.kp (b_law_draw T) .nil pass0 (pa_cons (pv 0) (pa_cons (pe_callB call_len_seq (by rfl) T.z_len bo_len (pa_cons (pv 1) pa_nil)) pa_nil))) (fun _ _ => rfl))), ?_⟩
    refine ⟨.ref l, rfl, .ref sd, rfl, .ref l, rfl, l, xs, rfl, .inl (.of hl), sd, sg, sc, b, xs.length, rfl, by omega, by omega, hS, fun z H' z0 z1 hS' e' => ?_⟩
    obtain ⟨k, rfl⟩ : ∃ k : Nat, z = (k : Int) := ⟨z.toNat, by omega⟩
    have hj : k < xs.length := by omega
    exact ⟨l, xs, (k : Int), xs[k], rfl, rfl, .of (e' _ _ hl n1 n2), atI_nat (by simp [List.getElem?_eq_getElem hj]), q k _ H' (List.getElem?_eq_getElem hj) hS' e'⟩
theorem ok_pickS : FnOk P w K mg base CX0 3 T.a_law_pick T.d_law_pick ["state", "some"] spPickS := by
  refine T.F_law_pick.ok sc_law_pick (fun vs H Q E h => ?_) (fun cdv A outer s H vs Q E hr h => ?_)
  · obtain ⟨sd, sg, sc, b, z, rfl, _⟩ := h
    rfl
  · obtain ⟨sd, sg, sc, b, y, rfl, h0, h1, hS, q⟩ := h
    refine ⟨_, pss_one (ps_ret (pe_ix ix_str (pv 1) (pe_call (ok_draw T) hr (by rfl) T.g_law_draw T.F_law_draw.kp (b_law_draw T) .nil pass0 (pa_cons (pv 0) (pa_cons (pe_callB call_len (by rfl) T.z_len bo_len (pa_cons (pv 1) pa_nil)) pa_nil))) (fun _ _ => rfl))), ?_⟩
    refine ⟨.str y, rfl, .ref sd, rfl, .str y, rfl, .str y, y.length, rfl, ⟨sz_of (by omega), rfl⟩, sd, sg, sc, b, y.length, rfl, by omega, by omega, hS, fun z H' z0 z1 hS' e' => ?_⟩
    obtain ⟨k, rfl⟩ : ∃ k : Nat, z = (k : Int) := ⟨z.toNat, by omega⟩
    have hj : k < y.cps.toList.length := by
      have : y.cps.toList.length = y.length := by simp [Str.length]
      omega
    exact ⟨y, (k : Int), y.cps.toList[k], rfl, rfl, sz_of (by omega), atI_nat (by simp [List.getElem?_eq_getElem hj]), q _ H' (List.getElem_mem hj) hS' e'⟩
end
end Kx

set_option Elab.async false
set_option linter.all false
set_option maxRecDepth 100000
set_option maxHeartbeats 1000000
namespace Kx
open PySem PySem.Spec PyProof.Rows L2 Evl
theorem tx_cat (a b : List Nat) : tx a ++ tx b = tx (a ++ b) := by
  refine TL.ext_tl ?_
  show (tx a ++ tx b).cps.toList = (tx (a ++ b)).cps.toList
  rw [tx_codes]
  show ((tx a).cps ++ (tx b).cps).toList = a ++ b
  rw [Array.toList_append]
  rfl
theorem tx_of (s : Str) : tx s.cps.toList = s := rfl
theorem nm_tx {cs : List Nat} : nmS (tx cs) = (((decide (1 ≤ cs.length) && decide (cs.length ≤ 8)) && !decide (tx cs = "any")) && cs.all lowc) := by
  unfold nmS
  rw [tx_len, tx_codes]
theorem pigeon : ∀ (n : Nat) (L : List Nat), (∀ i, i < n → i ∈ L) → n ≤ L.length
  | 0, _, _ => Nat.zero_le _
  | n + 1, L, h => by
    have h1 := h n (Nat.lt_succ_self n)
    have h2 := pigeon n (L.erase n) fun i hi => (List.mem_erase_of_ne (by omega)).mpr (h i (by omega))
    rw [List.length_erase_of_mem h1] at h2
    have := List.length_pos_of_mem h1
    omega
/-- one of the letters makes a name that is not among these -/
theorem some_new (hd : List Nat) (used : List Str) (h : used.length < 26) : ∃ c, 97 ≤ c ∧ c ≤ 122 ∧ tx (hd ++ [c]) ∉ used := by
  apply Classical.byContradiction
  intro no
  have h1 : ∀ i, i < 26 → i ∈ used.map fun s => (s.cps.toList.getLast?.getD 0) - 97 := fun i hi => by
    apply Classical.byContradiction
    intro nm
    refine no ⟨i + 97, by omega, by omega, fun hm => nm ?_⟩
    refine List.mem_map.mpr ⟨_, hm, ?_⟩
    rw [tx_codes, List.getLast?_append]
    simp
  have := pigeon 26 _ h1
  rw [List.length_map] at this
  omega
def cand (cs : List Nat) : List Str := tx cs :: abc.cps.toList.map fun c => tx (cs.take 7 ++ [c])
theorem cand_nm {cs : List Nat} (h1 : 1 ≤ cs.length) (h8 : cs.length ≤ 8) (hl : ∀ c ∈ cs, lowc c = true) {s : Str} (hs : s ∈ cand cs) (na : s ≠ "any") : nmS s = true := by
  have go : ∀ ds : List Nat, 1 ≤ ds.length → ds.length ≤ 8 → (∀ c ∈ ds, lowc c = true) → tx ds ≠ "any" → nmS (tx ds) = true := fun ds a b c d => by
    rw [nm_tx, decide_eq_true (by omega), decide_eq_true (by omega), decide_eq_false d]
    exact List.all_eq_true.mpr c
  unfold cand at hs
  rcases List.mem_cons.mp hs with rfl | hs
  · exact go cs h1 h8 hl na
  · obtain ⟨c, hc, rfl⟩ := List.mem_map.mp hs
    refine go _ (by simp) (by simp; omega) (fun d hd => ?_) na
    rcases List.mem_append.mp hd with hd | hd
    · exact hl d (List.mem_of_mem_take hd)
    · rw [List.mem_singleton.mp hd]
      exact abc_lowc.mp hc
theorem cand_new (cs : List Nat) {used : List Str} (h : used.length ≤ 20) : ∃ s ∈ cand cs, s ∉ used ∧ s ≠ "any" := by
  obtain ⟨c, h1, h2, h3⟩ := some_new (cs.take 7) ("any" :: used) (by rw [List.length_cons]; omega)
  refine ⟨_, List.mem_cons_of_mem _ (List.mem_map.mpr ⟨c, abc_lowc.mpr (by unfold lowc; rw [decide_eq_true h1, decide_eq_true h2]; rfl), rfl⟩), fun hm => h3 (List.mem_cons_of_mem _ hm), fun e => h3 ?_⟩
  rw [e]
  exact List.mem_cons_self
theorem cut7 (cs : List Nat) : cutS (tx cs) none (some 7) = tx (cs.take 7) := by
  refine TL.ext_tl ?_
  show (((tx cs).cps.toList.drop 0).take (HT.sIx (tx cs).length (tx cs).length (some ((7 : Nat) : Int)) - 0)) = (tx (cs.take 7)).cps.toList
  rw [HT.sIx_nat, tx_codes, tx_codes, tx_len, List.drop_zero, Nat.sub_zero, List.take_eq_take_iff]
  omega
section
variable {K : PySem.W.Frag} {σ : L2.St} {H : Hp} {ta tb te tl : TE} {v : V}
theorem q_asgW {D : Ends} {u : TS} {i : Nat} (h : te σ H fun x H1 => u D (σ.set i (some x)) H1) : tSeq (tAsg te (gName i)) u D σ H := h
theorem el_cat {xs ys : List V} (ha : EvL ta σ H xs) (hb : EvL tb σ H ys) (hz : xs.length + ys.length ≤ 100000) : EvL (tOp rCat ta tb) σ H (xs ++ ys) := fun H1 e Q q =>
  ha H1 e _ fun p H2 n2 e2 h2 => hb H2 (e.trans e2) _ fun p3 H3 n3 e3 h3 => ⟨p, p3, xs, ys, rfl, rfl, e3 _ _ h2, h3, sz_of hz, fun r hr => q r _ (fresh_back (e2.trans e3) hr) ((e2.trans e3).trans (Ex.new hr)) upd_same⟩
end
theorem given_head {n : Nat} {f : Nat → Bool} {v : Nat → V} (h : ∃ i, i < n ∧ f i = true) : ∃ i, i < n ∧ f i = true ∧ (Evl.given n f v)[0]? = some (v i) := by
  obtain ⟨i, hi, hf⟩ := h
  have hm : i ∈ (List.range n).filter f := List.mem_filter.mpr ⟨List.mem_range.mpr hi, hf⟩
  unfold Evl.given
  cases e : (List.range n).filter f with
  | nil =>
    rw [e] at hm
    cases hm
  | cons j r =>
    have hj : j ∈ (List.range n).filter f := e ▸ List.mem_cons_self
    obtain ⟨h1, h2⟩ := List.mem_filter.mp hj
    exact ⟨j, List.mem_range.mp h1, h2, rfl⟩
def spNew : Sp := fun vs H Q _ => ∃ (sd sg sc : Addr) (b : Nat) (l : Addr) (ns : List Str), vs = [.ref sd, .ref l] ∧ H l = some (.lst (sv ns)) ∧ ns.length ≤ 20 ∧ l ≠ sd ∧ l ≠ sg ∧ Sta H sd sg sc (b + 9) ∧ ∀ (s : Str) (H' : Hp), nmS s = true → s ∉ ns → Sta H' sd sg sc b → ExS sd sg H H' → Q (.str s) H'
def spNames : Sp := fun vs H Q _ => ∃ (sd sg sc : Addr) (b m : Nat), vs = [.ref sd, .int (m : Nat)] ∧ m ≤ 20 ∧ Sta H sd sg sc (b + 9 * m) ∧ ∀ (p : Addr) (ns : List Str) (H' : Hp), ns.length = m → (∀ s ∈ ns, nmS s = true) → ns.Nodup → H p = none → H' p = some (.lst (sv ns)) → p ≠ sd → p ≠ sg → Sta H' sd sg sc b → ExS sd sg H H' → Q (.ref p) H'
section
variable {P : Program} {w : World} {K : PySem.W.Frag} {mg : Str → Option Value} {base : Heap} (T : Txt K mg)
end
end Kx

set_option Elab.async false
set_option linter.all false
set_option maxRecDepth 100000
set_option maxHeartbeats 1000000
namespace Kx
open PySem PySem.Spec PyProof.Rows L2 Evl
section
variable {P : Program} {w : World} {K : PySem.W.Frag} {mg : Str → Option Value} {base : Heap} (T : Txt K mg)
end
end Kx

set_option Elab.async false
set_option linter.all false
set_option maxRecDepth 100000
set_option maxHeartbeats 1000000
namespace Kx
open PySem PySem.Spec PyProof.Rows L2 Evl
/-! ## rights in their order -/
def spot (nd a c s : Nat) : Nat := (a * nd + c) * 2 + s
theorem spot_lex {nd a c s a' c' s' : Nat} (hc : c < nd) (hc' : c' < nd) (hs : s < 2) (hs' : s' < 2) :
    HT.lexLt [(a : Int), (c : Int), (s : Int)] [(a' : Int), (c' : Int), (s' : Int)] = decide (spot nd a c s < spot nd a' c' s') := by
  rw [HT.lexLt_cons, HT.lexLt_cons, HT.lexLt_cons, HT.lexLt_nil_nil]
  unfold spot
  rcases Nat.lt_trichotomy a a' with h | h | h
  · have h1 : a * nd + nd ≤ a' * nd := by
      rw [← Nat.succ_mul]
      exact Nat.mul_le_mul_right nd h
    rw [if_neg (by omega), decide_eq_true (by omega), decide_eq_true (by omega)]
  · subst h
    rw [if_pos rfl]
    rcases Nat.lt_trichotomy c c' with h | h | h
    · rw [if_neg (by omega), decide_eq_true (by omega), decide_eq_true (by omega)]
    · subst h
      rw [if_pos rfl]
      by_cases q : (s : Int) = (s' : Int)
      · rw [if_pos q, decide_eq_false (by omega)]
      · rw [if_neg q, decide_eq_decide]
        omega
    · rw [if_neg (by omega), decide_eq_false (by omega), decide_eq_false (by omega)]
  · have h1 : a' * nd + nd ≤ a * nd := by
      rw [← Nat.succ_mul]
      exact Nat.mul_le_mul_right nd h
    rw [if_neg (by omega), decide_eq_false (by omega), decide_eq_false (by omega)]
theorem ascT_iff {ts : List (List Int)} : ascT ts = true ↔ ∀ j, j + 1 < ts.length → HT.lexLt (ts.getD j []) (ts.getD (j + 1) []) = true := by
  unfold ascT ascB
  rw [List.all_eq_true]
  constructor
  · intro h j hj
    exact h _ (List.mem_map.mpr ⟨j, List.mem_range.mpr (by omega), rfl⟩)
  · intro h b hb
    obtain ⟨j, hj, rfl⟩ := List.mem_map.mp hb
    have := List.mem_range.mp hj
    exact h j (by omega)
abbrev Tri := Nat × Nat × Nat
def Tri.spot (nd : Nat) (t : Tri) : Nat := Kx.spot nd t.1 t.2.1 t.2.2
def Tri.ok (nk nd : Nat) (t : Tri) : Prop := t.1 < nk ∧ t.2.1 < nd ∧ t.2.2 < 2
def Tri.d (ks ns : List Str) (t : Tri) : D := .tup [.str (ks.getD t.1 ""), .str (ns.getD t.2.1 ""), .int (t.2.2 : Nat)]
theorem idx_getD {ks : List Str} (nd : ks.Nodup) {a : Nat} (h : a < ks.length) : ks.idxOf (ks.getD a "") = a := by
  have e : ks.getD a "" = ks[a] := by simp [List.getD, List.getElem?_eq_getElem h]
  rw [e]
  exact nd.idxOf_getElem a h
theorem mem_getD {ks : List Str} {a : Nat} (h : a < ks.length) : ks.getD a "" ∈ ks := by
  have e : ks.getD a "" = ks[a] := by simp [List.getD, List.getElem?_eq_getElem h]
  rw [e]
  exact List.getElem_mem h
theorem tri_key {ks ns : List Str} (h1 : ks.Nodup) (h2 : ns.Nodup) {t : Tri} (h : t.ok ks.length ns.length) : rkey ns ks (t.d ks ns) = [(t.1 : Int), (t.2.1 : Int), (t.2.2 : Int)] := by
  show [((ks.idxOf _ : Nat) : Int), ((ns.idxOf _ : Nat) : Int), _] = _
  rw [idx_getD h1 h.1, idx_getD h2 h.2.1]
theorem tri_rt {ks ns : List Str} {t : Tri} (h : t.ok ks.length ns.length) : (t.d ks ns).rt ns ks = true := by
  show D.rt ns ks (.tup [_, _, _]) = true
  rw [rt_3]
  have h3 := h.2.2
  show (amg _ ks && (amg _ ns && isBetw (.int (t.2.2 : Nat)) 0 1)) = true
  rw [amg_iff.mpr (mem_getD h.1), amg_iff.mpr (mem_getD h.2.1)]
  show isBetw (.int ((t.2.2 : Nat) : Int)) 0 1 = true
  unfold isBetw
  simp
  omega
/-- rising spots make rights -/
theorem tri_rts {ks ns : List Str} (h1 : ks.Nodup) (h2 : ns.Nodup) {ts : List Tri} (h : ∀ t ∈ ts, t.ok ks.length ns.length) (hp : ts.Pairwise fun x y => x.spot ns.length < y.spot ns.length) : D.rts ns ks (.tup (ts.map (Tri.d ks ns))) = true := by
  rw [rts_tup, Bool.and_eq_true]
  refine ⟨List.all_eq_true.mpr fun d hd => ?_, ascT_iff.mpr fun j hj => ?_⟩
  · obtain ⟨t, ht, rfl⟩ := List.mem_map.mp hd
    exact tri_rt (h t ht)
  · rw [List.length_map, List.length_map] at hj
    have hj0 : j < ts.length := by omega
    have e : ∀ i (hi : i < ts.length), ((ts.map (Tri.d ks ns)).map (rkey ns ks)).getD i [] = [(ts[i].1 : Int), (ts[i].2.1 : Int), (ts[i].2.2 : Int)] := fun i hi => by
      rw [← tri_key h1 h2 (h _ (List.getElem_mem hi))]
      simp [List.getD, List.getElem?_eq_getElem hi]
    have a := h _ (List.getElem_mem hj0)
    have b := h _ (List.getElem_mem hj)
    rw [e j hj0, e (j + 1) hj, spot_lex a.2.1 b.2.1 a.2.2 b.2.2]
    exact decide_eq_true (List.pairwise_iff_getElem.mp hp j (j + 1) hj0 hj (by omega))
end Kx

set_option Elab.async false
set_option linter.all false
set_option maxRecDepth 100000
set_option maxHeartbeats 1000000
namespace Kx
open PySem PySem.Spec PyProof.Rows L2 Evl
theorem mod_ne {a w L : Int} (h0 : 0 ≤ a) (h1 : a < L) (h2 : 0 ≤ w) (h3 : w < L - 1) (e : (a + 1 + w) % L = a) : False := by
  by_cases h : a + 1 + w < L
  · rw [Int.emod_eq_of_lt (by omega) h] at e
    omega
  · rw [show a + 1 + w = (a + 1 + w - L) + L * 1 by omega, Int.add_mul_emod_self_left, Int.emod_eq_of_lt (by omega) (by omega)] at e
    omega
theorem vs2 {sd : Addr} {i j : Int} (h : i = j) : [V.ref sd, V.int i] ++ [] = [V.ref sd, V.int j] := by rw [h]; rfl
theorem Sta.tp {H H' : Hp} {sd sg sc : Addr} {b : Nat} (s : Sta H sd sg sc b) (e : ExS sd sg H H') : Tp H H' := fun a o xs h =>
  let ⟨gs, cs, r, t, w, h1, h2⟩ := s; e a _ h (ne_of h w.d (fun z => by cases z)) (ne_of h w.g (fun z => by cases z))
theorem dr_imm {as : List Str} {d : D} (h : d.dr as = true) : d.imm = true := by
  obtain ⟨n, a, b, s, rfl, _⟩ := dr_shape h
  rfl
theorem nm_len {s : Str} (h : nmS s = true) : s.length ≤ 8 := by
  unfold nmS at h
  simp only [Bool.and_eq_true] at h
  exact of_decide_eq_true h.1.1.2
theorem leaf_len {s : Str} (h : s ∈ leafs) : s.length ≤ 4 := by
  unfold leafs at h
  rcases List.mem_cons.mp h with rfl | h
  · decide
  · rw [List.mem_singleton.mp h]
    decide
theorem szs_of : ∀ {ds : List D}, (∀ d ∈ ds, d.Sz) → Szs ds
  | [], _ => by unfold Szs; trivial
  | d :: r, h => by unfold Szs; exact ⟨h d List.mem_cons_self, szs_of fun x hx => h x (List.mem_cons_of_mem _ hx)⟩
theorem sz_tup {ds : List D} (h : ds.length ≤ 1000) (h2 : ∀ d ∈ ds, d.Sz) : (D.tup ds).Sz := by unfold D.Sz; exact ⟨h, szs_of h2⟩
theorem sz_str {s : Str} (h : s.length ≤ 1000) : (D.str s).Sz := by unfold D.Sz; exact h
/-- what stands for a building is small and has no lists in it -/
theorem IsB.small {d : D} {as : List Str} {es : List D} {ks : List Str} {rs : List D} (h : IsB d as es ks rs) (hr : rs.length ≤ 1000) : d.imm = true ∧ d.Sz := by
  have ims : ∀ ns : List Str, imms (ns.map D.str) = true := fun ns => imms_iff.mpr fun d hd => by
    obtain ⟨s, _, rfl⟩ := List.mem_map.mp hd
    rfl
  have rsh : ∀ r ∈ rs, ∃ k n s, r = .tup [.str k, .str n, .int s] ∧ k.length ≤ 8 ∧ n.length ≤ 8 := fun r hr => by
    obtain ⟨k, n, s, e, hk, hn, _⟩ := rt_shape (List.all_eq_true.mp h.rd r hr)
    refine ⟨k, n, s, e, nm_len (h.kv k hk), ?_⟩
    obtain ⟨x, hx, rfl⟩ := List.mem_map.mp hn
    obtain ⟨m, a, b, t, rfl, hm, _⟩ := dr_shape (h.ed x hx)
    exact nm_len hm
  have esh : ∀ e ∈ es, e.Sz := fun e he => by
    obtain ⟨m, a, b, t, rfl, hm, ha, hb, _, ht⟩ := dr_shape (h.ed e he)
    have := nm_len hm
    have := nm_len (h.av a ha)
    have := nm_len (h.av b hb)
    have := leaf_len ht
    refine sz_tup (by simp) fun d hd => ?_
    simp only [List.mem_cons, List.not_mem_nil, or_false] at hd
    rcases hd with rfl | rfl | rfl | rfl <;> exact sz_str (by omega)
  have a6 := h.a6
  have e6 := h.e6
  have k3 := h.k3
  rw [h.eq]
  constructor
  · show imms _ = true
    refine imms_iff.mpr fun d hd => ?_
    simp only [List.mem_cons, List.not_mem_nil, or_false] at hd
    rcases hd with rfl | rfl | rfl | rfl | rfl
    · rfl
    · exact ims as
    · exact imms_iff.mpr fun x hx => dr_imm (h.ed x hx)
    · exact ims ks
    · refine imms_iff.mpr fun x hx => ?_
      obtain ⟨k, n, s, rfl, _⟩ := rsh x hx
      rfl
  · refine sz_tup (by simp) fun d hd => ?_
    simp only [List.mem_cons, List.not_mem_nil, or_false] at hd
    rcases hd with rfl | rfl | rfl | rfl | rfl
    · exact sz_str (by decide)
    · refine sz_tup (by rw [List.length_map]; omega) fun x hx => ?_
      obtain ⟨s, hs, rfl⟩ := List.mem_map.mp hx
      have := nm_len (h.av s hs)
      exact sz_str (by omega)
    · exact sz_tup (by omega) esh
    · refine sz_tup (by rw [List.length_map]; omega) fun x hx => ?_
      obtain ⟨s, hs, rfl⟩ := List.mem_map.mp hx
      have := nm_len (h.kv s hs)
      exact sz_str (by omega)
    · refine sz_tup hr fun x hx => ?_
      obtain ⟨k, n, s, rfl, h1, h2⟩ := rsh x hx
      refine sz_tup (by simp) fun d hd => ?_
      simp only [List.mem_cons, List.not_mem_nil, or_false] at hd
      rcases hd with rfl | rfl | rfl
      · exact sz_str (by omega)
      · exact sz_str (by omega)
      · unfold D.Sz; trivial
def spHouse : Sp := fun vs H Q _ => ∃ (sd sg sc : Addr) (b : Nat), vs = [.ref sd] ∧ Sta H sd sg sc (b + 400) ∧ ∀ (v : V) (d : D) (H' : Hp), Rep H' v d → d.bld = true → d.imm = true → d.Sz → (∃ as es ks rs, IsB d as es ks rs ∧ rs.length ≤ 36) → Sta H' sd sg sc b → ExS sd sg H H' → Q v H'
section
variable {P : Program} {w : World} {K : PySem.W.Frag} {mg : Str → Option Value} {base : Heap} (T : Txt K mg)
end
end Kx

set_option Elab.async false
set_option linter.all false
set_option maxRecDepth 100000
set_option maxHeartbeats 1000000
namespace Kx
open PySem PySem.Spec PyProof.Rows L2 Evl
/-! ## isinstance -/
abbrev tIsi (K : PySem.W.Frag) (te : TE) (T : String) : TE := tCB (rIsi K) (tCons te (tCons (tC (.ty T)) tNil))
section
variable {X : Cx} {e : Expr} {te : TE} {n : Str} {N : String} {p1 p2 p3 : Pos}
theorem pe_isi (hz : X.mg "isinstance" = none) (hn : X.mg n = none) (hb : bootBuiltins n = some (.type N)) (he : PE X e te) (g1 : Gl X "isinstance" := by rfl) (g2 : Gl X n := by rfl)
    (na : starEach [e, .Name n p3] X.env = (false, eval e X.env) :: starEach [.Name n p3] X.env := by rfl) (nm : n ≠ "__name__" := by decide) (nd : (n == ("__debug__" : Str)) = false := by decide) :
    PE X (.Call (.Name "isinstance" p1) [e, .Name n p3] [] p2) (tIsi X.K te N) :=
  pe_callB call_isi g1 hz bo_isinstance (pa_cons he (pa_cons (pe_bltn g2 hn hb rfl nm nd) pa_nil) na) (he := na)
end
theorem Rep.tyX {K : PySem.W.Frag} {H : Hp} {v : V} {d : D} (r : Rep H v d) : TyX K H v (.type d.ty) := by
  cases r with
  | non => exact .base .non
  | bl b => exact .base (.bl b)
  | int i => exact .base (.int i)
  | str s => exact .base (.str s)
  | tup h _ =>
    obtain ⟨o, _, h2⟩ := h
    exact .fTuple h2
  | lst h _ => exact .base (.lst h)
  | dic h => exact .base (.dK h)
def isi (d : D) (T : String) : Bool := decide (d.ty = T) || (decide (d.ty = "bool") && decide (T = "int"))
theorem kit_all : ∀ t ∈ ["NoneType", "bool", "int", "str", "tuple", "list", "dict"], ∀ T ∈ ["str", "tuple", "bool", "int"], kitB t T = some (decide (t = T) || (decide (t = "bool") && decide (T = "int"))) := by decide +kernel
theorem isi_kit {K : PySem.W.Frag} (d : D) {T : String} (hT : T ∈ ["str", "tuple", "bool", "int"]) : PySem.W.kitOne K (.type d.ty) (.type T) = some (isi d T) :=
  kit_ty (kit_all d.ty (by cases d <;> simp [D.ty]) T hT)
section
variable {K : PySem.W.Frag} {σ : L2.St} {H : Hp} {ta tb te tl : TE} {tt : TT} {v x z : V} {d : D}
theorem ev_isi {T : String} (h : Ev te σ H v) (r : Rep H v d) (hT : T ∈ ["str", "tuple", "bool", "int"] := by decide) : Ev (tIsi K te T) σ H (.bl (isi d T)) := fun H1 e Q q =>
  h H1 e _ fun H2 e2 => ⟨v, .ty T, .type d.ty, .type T, isi d T, rfl, .ty T, (r.up (e.trans e2)).tyX, isi_kit d hT, q H2 e2⟩
/-- test and element of a comprehension, for the items that «it» tells -/
structure Each (tt : TT) (te : TE) (σ : L2.St) (j : Nat) (vs : List Nat) (H : Hp) (n : Nat) (it : Nat → V → Prop) (f : Nat → Bool) (w : Nat → V) : Prop where
  few : n ≤ 40000
  back : ∀ x, wipe ((wipe σ vs).set j (some x)) vs = wipe σ vs
  ask : ∀ i x H1, Ex H H1 → it i x → EvT tt ((wipe σ vs).set j (some x)) H1 (f i)
  val : ∀ i x H1, Ex H H1 → it i x → f i = true → Ev te ((wipe σ vs).set j (some x)) H1 (w i)
/-- what the i-th turn has to show -/
def Turned (tt : TT) (te : TE) (σ2 : L2.St) (Dl : Addr) (H H' : Hp) (i : Nat) (f : Nat → Bool) (w : Nat → V) : Prop :=
  tt σ2 H' fun b H3 => if b = true then te σ2 H3 fun y H4 => ∃ acc, H4 Dl = some (.lst acc) ∧ acc.length < sizeLine ∧ Cw H f w Dl (i + 1) (upd H4 Dl (.lst (acc ++ [y]))) else Cw H f w Dl (i + 1) H3
theorem Each.step {j n : Nat} {vs : List Nat} {it : Nat → V → Prop} {f : Nat → Bool} {w : Nat → V} (E : Each tt te σ j vs H n it f w) {i : Nat} {H0 H' : Hp} {Dl : Addr} (e : Ex H H0) (lt : i < n) (m : it i x) (c : Cw H0 f w Dl i H') :
    wipe ((wipe σ vs).set j (some x)) vs = wipe σ vs ∧ Turned tt te ((wipe σ vs).set j (some x)) Dl H0 H' i f w := by
  have few : i < 50000 := by
    have := E.few
    omega
  exact ⟨E.back x, cw_turn c few (E.ask i x H0 e m) (E.val i x H0 e m)⟩
theorem el_each_tup {a : Addr} {xs : List V} {j : Nat} {vs : List Nat} {f : Nat → Bool} {w : Nat → V} (h : Ev tl σ H (.ref a)) (hx : SqT K H a xs) (E : Each tt te σ j vs H xs.length (fun i x => xs[i]? = some x) f w) : EvL (tLc (iTup K tl) (gName j) tt te vs) σ H (given xs.length f w) := by
  intro H0 e Q q
  refine h H0 e _ fun H1 e1 => ⟨a, rfl, ⟨xs, ex_t (e.trans e1) hx⟩, fun Dl hD => ?_⟩
  refine lc_tup (xs := xs) (Cw H1 f w Dl) ?start ?there ?turn ?fin
  case start => exact ⟨hD, Ex.new hD, upd_same⟩
  case there => exact fun i H' _ c => ex_t ((e.trans e1).trans c.2.1) hx
  case turn => exact fun i x H' m c => E.step (e.trans e1) (List.getElem?_eq_some_iff.mp m).1 m c
  case fin => exact fun H' c => q Dl H' (fresh_back e1 c.1) (e1.trans c.2.1) c.2.2
theorem el_each_str {s : Str} {j : Nat} {vs : List Nat} {f : Nat → Bool} {w : Nat → V} (h : Ev tl σ H (.str s)) (E : Each tt te σ j vs H s.cps.size (fun i x => ∃ c, s.cps[i]? = some c ∧ x = .str ⟨#[c]⟩) f w) : EvL (tLc (iStr tl) (gName j) tt te vs) σ H (given s.cps.size f w) := by
  intro H0 e Q q
  refine h H0 e _ fun H1 e1 => ⟨s, rfl, fun Dl hD => ⟨fun i m H' => m + i = s.cps.size ∧ Cw H1 f w Dl i H', ⟨s.cps.size, rfl, hD, Ex.new hD, upd_same⟩, ?_⟩⟩
  rintro i m H' ⟨sum, c⟩
  match m with
  | 0 =>
    obtain rfl : i = s.cps.size := by omega
    exact .inl ⟨Nat.le_refl _, q Dl H' (fresh_back e1 c.1) (e1.trans c.2.1) c.2.2⟩
  | m + 1 =>
    have lt : i < s.cps.size := by omega
    refine .inr ⟨lt, fun H2 => Cw H1 f w Dl (i + 1) H2, fun H2 c2 => ⟨m, Nat.lt_succ_self m, by omega, c2⟩, fun x H2 y => ?_⟩
    obtain ⟨rfl, k, hk, rfl⟩ := y
    exact E.step (e.trans e1) lt ⟨k, hk, rfl⟩ c
/-- the same, test and element told one by one -/
theorem el_lcTg {a : Addr} {xs : List V} {j : Nat} {vs : List Nat} (f : Nat → Bool) (w : Nat → V) (h : Ev tl σ H (.ref a)) (hx : SqT K H a xs) (few : xs.length ≤ 40000) (back : ∀ x, wipe ((wipe σ vs).set j (some x)) vs = wipe σ vs)
    (ask : ∀ i x H1, Ex H H1 → xs[i]? = some x → EvT tt ((wipe σ vs).set j (some x)) H1 (f i)) (val : ∀ i x H1, Ex H H1 → xs[i]? = some x → f i = true → Ev te ((wipe σ vs).set j (some x)) H1 (w i)) :
    EvL (tLc (iTup K tl) (gName j) tt te vs) σ H (given xs.length f w) := el_each_tup h hx ⟨few, back, ask, val⟩
theorem el_lcSg {s : Str} {j : Nat} {vs : List Nat} (f : Nat → Bool) (w : Nat → V) (h : Ev tl σ H (.str s)) (few : s.cps.size ≤ 40000) (back : ∀ x, wipe ((wipe σ vs).set j (some x)) vs = wipe σ vs)
    (ask : ∀ i c H1, Ex H H1 → s.cps[i]? = some c → EvT tt ((wipe σ vs).set j (some (.str ⟨#[c]⟩))) H1 (f i)) (val : ∀ i c H1, Ex H H1 → s.cps[i]? = some c → f i = true → Ev te ((wipe σ vs).set j (some (.str ⟨#[c]⟩))) H1 (w i)) :
    EvL (tLc (iStr tl) (gName j) tt te vs) σ H (given s.cps.size f w) := el_each_str h ⟨few, back, fun i x H1 e ⟨c, m, z⟩ => by subst z; exact ask i c H1 e m, fun i x H1 e ⟨c, m, z⟩ => by subst z; exact val i c H1 e m⟩
theorem given_iv (n : Nat) (f : Nat → Bool) (w : Nat → Int) : given n f (fun i => .int (w i)) = iv (((List.range n).filter f).map w) := by
  unfold given iv
  rw [List.map_map]
  rfl
theorem eqv_iv (ns : List Int) : PyData.eqv (.list (ns.map PyData.int)) (.list []) = ns.isEmpty := by
  cases ns with
  | nil => exact eqv_nil
  | cons a r => exact eqv_cons _ _
theorem given_empty (n : Nat) (f : Nat → Bool) (w : Nat → Int) : (((List.range n).filter f).map w).isEmpty = (List.range n).all fun i => !f i := by
  rw [Bool.eq_iff_iff, List.isEmpty_iff, List.map_eq_nil_iff, List.filter_eq_nil_iff, List.all_eq_true]
  constructor
  · intro h i hi
    rw [Bool.eq_false_iff.mpr (h i hi)]
    rfl
  · intro h i hi e
    have := h i hi
    rw [e] at this
    cases this
theorem rv_eqNil {p q : Addr} {ns : List Int} (h : H p = some (.lst (iv ns))) (hq : H q = some (.lst [])) : RV (rEqD K) (.ref p) (.ref q) H (.bl ns.isEmpty) := fun H1 e Q k =>
  ⟨.list (ns.map .int), .list [], .lst (.of (e _ _ h)) (dp_iv ns), .lst (.of (e _ _ hq)) .nil, iv_shaped ns, iv_shaped [], by rw [eqv_iv]; exact k H1 (Ex.refl _)⟩
theorem rv_neNil {p q : Addr} {ns : List Int} (h : H p = some (.lst (iv ns))) (hq : H q = some (.lst [])) : RV (rNeD K) (.ref p) (.ref q) H (.bl (!ns.isEmpty)) := fun H1 e Q k =>
  ⟨.list (ns.map .int), .list [], .lst (.of (e _ _ h)) (dp_iv ns), .lst (.of (e _ _ hq)) .nil, iv_shaped ns, iv_shaped [], by rw [eqv_iv]; exact k H1 (Ex.refl _)⟩
theorem ev_eqNil {n : Nat} {f : Nat → Bool} {w : Nat → Int} (h : EvL ta σ H (given n f fun i => .int (w i))) : Ev (tOp (rEqD K) ta (tLst tNil)) σ H (.bl ((List.range n).all fun i => !f i)) := by
  rw [given_iv] at h
  rw [← given_empty n f w]
  exact ev_opLL h (el_lst ea_nil (by decide)) fun p q H1 h1 h2 _ => rv_eqNil h1 h2
theorem ev_neNil {n : Nat} {f : Nat → Bool} {w : Nat → Int} (h : EvL ta σ H (given n f fun i => .int (w i))) : Ev (tOp (rNeD K) ta (tLst tNil)) σ H (.bl (!((List.range n).all fun i => !f i))) := by
  rw [given_iv] at h
  rw [← given_empty n f w]
  exact ev_opLL h (el_lst ea_nil (by decide)) fun p q H1 h1 h2 _ => rv_neNil h1 h2
end
theorem nm_key (x : Str) : nmS x = (!(decide ((x.length : Int) < 1) || (decide ((8 : Int) < (x.length : Int)) || decide (V.str x = V.str "any"))) && x.cps.toList.all lowc) := by
  unfold nmS
  rw [show decide ((x.length : Int) < 1) = !decide (1 ≤ x.length) from by rw [← decide_not, decide_eq_decide]; omega, show decide ((8 : Int) < (x.length : Int)) = !decide (x.length ≤ 8) from by rw [← decide_not, decide_eq_decide]; omega,
    show decide (V.str x = V.str "any") = decide (x = "any") from decide_eq_decide.mpr ⟨fun h => V.str.inj h, fun h => by rw [h]⟩]
  generalize decide (1 ≤ x.length) = a
  generalize decide (x.length ≤ 8) = b
  generalize decide (x = "any") = c
  cases a <;> cases b <;> cases c <;> rfl
theorem all_abc (x : Str) : ((List.range x.cps.size).all fun i => !(match x.cps[i]? with | some c => !decide (c ∈ abc.cps.toList) | none => false)) = x.cps.toList.all lowc := by
  rw [Bool.eq_iff_iff, List.all_eq_true, List.all_eq_true]
  constructor
  · intro h c hc
    obtain ⟨i, hi⟩ := List.getElem?_of_mem hc
    have hi2 : x.cps[i]? = some c := by
      rw [← Array.getElem?_toList]
      exact hi
    have := h i (List.mem_range.mpr (Array.getElem?_eq_some_iff.mp hi2).1)
    rw [hi2] at this
    have h2 : (!!decide (c ∈ abc.cps.toList)) = true := this
    rw [Bool.not_not] at h2
    exact abc_lowc.mp (of_decide_eq_true h2)
  · intro h i hi
    have hi := List.mem_range.mp hi
    have hg : x.cps[i]? = some x.cps[i] := Array.getElem?_eq_getElem hi
    rw [hg]
    have hm := abc_lowc.mpr (h x.cps[i] (Array.getElem_mem_toList hi))
    show (!!decide (x.cps[i] ∈ abc.cps.toList)) = true
    rw [decide_eq_true hm]
    rfl
theorem isi_no {d : D} {T : String} (h : d.ty ≠ T) (hT : T ≠ "int" := by decide) : isi d T = false := by
  unfold isi
  rw [decide_eq_false h, decide_eq_false hT]
  cases decide (d.ty = "bool") <;> rfl
section
variable {P : Program} {w : World} {K : PySem.W.Frag} {mg : Str → Option Value} {base : Heap} (T : Txt K mg)
end
end Kx

set_option Elab.async false
set_option linter.all false
set_option maxRecDepth 100000
set_option maxHeartbeats 1000000
namespace Kx
open PySem PySem.Spec PyProof.Rows L2 Evl
theorem nodup_take : ∀ (ts : List Str), decide ts.Nodup = (List.range ts.length).all fun i => !amg (ts.getD i "") (ts.take i) := fun ts => by
  rw [Bool.eq_iff_iff, decide_eq_true_iff, List.all_eq_true, List.nodup_iff_pairwise_ne, List.pairwise_iff_getElem]
  constructor
  · intro h i hi
    have hi := List.mem_range.mp hi
    have : amg (ts.getD i "") (ts.take i) = false := Bool.eq_false_iff.mpr fun e => by
      obtain ⟨j, hj⟩ := List.getElem?_of_mem (amg_iff.mp e)
      have hji : j < i := by
        have := (List.getElem?_eq_some_iff.mp hj).1
        rw [List.length_take] at this
        omega
      rw [List.getElem?_take_of_lt hji, List.getElem?_eq_getElem (by omega : j < ts.length)] at hj
      have e2 : ts.getD i "" = ts[i] := by simp [List.getD, List.getElem?_eq_getElem hi]
      exact h j i (by omega) hi hji ((Option.some.inj hj).trans e2)
    rw [this]
    rfl
  · intro h j i hj hi hji e
    have := h i (List.mem_range.mpr hi)
    have e2 : ts.getD i "" = ts[i] := by simp [List.getD, List.getElem?_eq_getElem hi]
    have hm : amg (ts.getD i "") (ts.take i) = true := by
      refine amg_iff.mpr (List.mem_iff_getElem?.mpr ⟨j, ?_⟩)
      rw [List.getElem?_take_of_lt hji, List.getElem?_eq_getElem hj, e2, e]
    rw [hm] at this
    cases this
theorem cut_take {α : Type} (xs : List α) {i : Nat} (h : i ≤ xs.length) : cutX xs none (some (i : Int)) = xs.take i := by
  unfold cutX
  rw [HT.sIx_nat, HT.sIx_none, List.drop_zero, Nat.sub_zero, Nat.min_eq_left h]
theorem all_range {f : D → Bool} (ds : List D) {n : Nat} (hn : n = ds.length) : ((List.range n).all fun i => !(!f (ds.getD i .non))) = ds.all f := by
  subst hn
  rw [Bool.eq_iff_iff, List.all_eq_true, List.all_eq_true]
  constructor
  · intro h d hd
    obtain ⟨i, hi⟩ := List.getElem?_of_mem hd
    have := h i (List.mem_range.mpr (List.getElem?_eq_some_iff.mp hi).1)
    rw [Bool.not_not] at this
    simpa [List.getD, hi] using this
  · intro h i hi
    have hi := List.mem_range.mp hi
    rw [Bool.not_not]
    have := h ds[i] (List.getElem_mem hi)
    simpa [List.getD, List.getElem?_eq_getElem hi] using this
section
variable {P : Program} {w : World} {K : PySem.W.Frag} {mg : Str → Option Value} {base : Heap} (T : Txt K mg)
end
end Kx

set_option Elab.async false
set_option linter.all false
set_option maxRecDepth 100000
set_option maxHeartbeats 1000000
namespace Kx
open PySem PySem.Spec PyProof.Rows L2 Evl
theorem firsts {H : Hp} : ∀ {vs : List V} {ds : List D}, Reps H vs ds → (∀ d ∈ ds, ∃ x r, d = .tup (x :: r)) → ∃ ys : List V, Reps H ys (ds.map D.fst) ∧ ys.length = vs.length ∧ ∀ (j : Nat) (x y : V), vs[j]? = some x → ys[j]? = some y → ∃ c us, x = .ref c ∧ TupS H c us ∧ us[0]? = some y
  | _, _, .nil, _ => ⟨[], .nil, rfl, fun j x y h => by simp at h⟩
  | v :: vs, d :: ds, .cons r t, h => by
    obtain ⟨ys, h1, h2, h3⟩ := firsts t fun d hd => h d (List.mem_cons_of_mem _ hd)
    obtain ⟨x, rr, rfl⟩ := h d List.mem_cons_self
    obtain ⟨c, us, rfl, hc, hcs⟩ := r.tupD
    cases hcs with
    | @cons y us _ _ q0 qs =>
      refine ⟨y :: ys, .cons q0 h1, by rw [List.length_cons, List.length_cons, h2], fun j x y' hx hy => ?_⟩
      cases j with
      | zero =>
        obtain rfl := Option.some.inj hx
        obtain rfl := Option.some.inj hy
        exact ⟨c, _, rfl, hc, rfl⟩
      | succ j => exact h3 j x y' hx hy
def is4 : D → Bool
  | .tup [_, _, _, _] => true
  | _ => false
theorem is4_is : ∀ {d : D}, is4 d = true → ∃ n a b s, d = .tup [n, a, b, s]
  | .tup [n, a, b, s], _ => ⟨n, a, b, s, rfl⟩
  | .tup [], h | .tup [_], h | .tup [_, _], h | .tup [_, _, _], h | .tup (_ :: _ :: _ :: _ :: _ :: _), h => by simp [is4] at h
  | .non, h | .bl _, h | .str _, h | .int _, h | .lst _, h | .dic, h => by simp [is4] at h
theorem is4_tup (ds : List D) : is4 (.tup ds) = decide ((ds.length : Int) = 4) := by
  match ds with
  | [] | [_] | [_, _] | [_, _, _] => rfl
  | [_, _, _, _] => rfl
  | _ :: _ :: _ :: _ :: _ :: r =>
    show false = decide _
    rw [decide_eq_false]
    simp only [List.length_cons]
    omega
theorem dr_is4 {as : List Str} {d : D} (h : d.dr as = true) : is4 d = true := by
  obtain ⟨n, a, b, s, rfl, _⟩ := dr_shape h
  rfl
def okDoorsL : OkF := fun vs H z => ∃ v d a as, vs = [.ref a, v] ∧ Rep H v d ∧ d.Sz ∧ TupS H a (sv as) ∧ (∀ s ∈ as, nmS s = true) ∧ z = .bl (d.drs as)
theorem stb_doorsL : Stb okDoorsL := fun _ _ _ _ e ⟨v, d, a, as, h1, h2, h3, h4, h5, h6⟩ => ⟨v, d, a, as, h1, h2.up e, h3, h4.up e, h5, h6⟩
section
variable {P : Program} {w : World} {K : PySem.W.Frag} {mg : Str → Option Value} {base : Heap} (T : Txt K mg)
end
end Kx

set_option Elab.async false
set_option linter.all false
set_option maxRecDepth 100000
set_option maxHeartbeats 1000000
namespace Kx
open PySem PySem.Spec PyProof.Rows PySem.SeqAt L2 Evl
def D.isI (d : D) (i : Int) : Bool := match d with
  | .int j => i == j
  | _ => false
def D.isB : D → Bool
  | .bl _ => true
  | _ => false
abbrev T3 := Str × Str × Int
def eq3 (t : T3) (d0 d1 d2 : D) : Bool := d0.isS t.1 && (d1.isS t.2.1 && d2.isI t.2.2)
/-- these values are tuples (text, text, number) -/
inductive Tris (H : Hp) : List V → List T3 → Prop
  | nil : Tris H [] []
  | cons {c : Addr} {k n : Str} {i : Int} {vs : List V} {ts : List T3} : TupS H c [.str k, .str n, .int i] → Tris H vs ts → Tris H (.ref c :: vs) ((k, n, i) :: ts)
theorem Tris.up {H H' : Hp} (e : Ex H H') : ∀ {vs : List V} {ts : List T3}, Tris H vs ts → Tris H' vs ts
  | _, _, .nil => .nil
  | _, _, .cons h t => .cons (h.up e) (t.up e)
theorem Tris.append {H : Hp} : ∀ {vs ws : List V} {ts us : List T3}, Tris H vs ts → Tris H ws us → Tris H (vs ++ ws) (ts ++ us)
  | _, _, _, _, .nil, s => s
  | _, _, _, _, .cons h t, s => .cons h (t.append s)
theorem Tris.length {H : Hp} : ∀ {vs : List V} {ts : List T3}, Tris H vs ts → vs.length = ts.length
  | _, _, .nil => rfl
  | _, _, .cons _ t => by rw [List.length_cons, List.length_cons, t.length]
section
variable {X : Cx} {pins : List (Addr × Obj)} {σ : L2.St} {H : Hp} {s : Shared} {A : Around}
theorem eq_strD (I : Inv X pins σ H s) (hu : A.units < cLine) {x : V} {d : D} {u : Value} (r : Rep H x d) (rx : RelV x u) (k : Str) (t : Tok) : EqAt A s (.str k t) u (d.isS k) := by
  cases r with
  | non => cases rx; exact .str_none k t
  | bl b => cases rx; exact .str_bool k t b
  | int i => obtain ⟨j, rfl⟩ := rx; exact .str_int k t i j
  | str z =>
    obtain ⟨j, rfl⟩ := rx
    have h := EqAt.str_str (A := A) (s := s) k t z j
    rw [show D.isS (.str z) k = (k == z) from Bool.eq_iff_iff.mpr ⟨fun h => by rw [eq_of_beq h]; exact beq_self_eq_true _, fun h => by rw [eq_of_beq h]; exact beq_self_eq_true _⟩]
    exact h
  | tup ha _ => cases rx; obtain ⟨its, rv, tp, _⟩ := I.tuple ha.sq; exact .str_tuple k t tp hu
  | lst ha _ => cases rx; obtain ⟨its, rv, tp, _⟩ := I.list (.of ha); exact .str_list k t tp.isList hu
  | dic ha => cases rx; exact eq_str_dict k t (dict_of I ha) hu
theorem eq_intD (I : Inv X pins σ H s) (hu : A.units < cLine) {x : V} {d : D} {u : Value} (r : Rep H x d) (rx : RelV x u) (hb : d.isB = false) (i : Int) (t : Tok) : EqAt A s (.int i t) u (d.isI i) := by
  cases r with
  | non => cases rx; exact .int_none i t
  | bl b => cases hb
  | int j => obtain ⟨j2, rfl⟩ := rx; exact .int_int i t j j2
  | str z => obtain ⟨j, rfl⟩ := rx; exact .int_str i t z j
  | tup ha _ => cases rx; obtain ⟨its, rv, tp, _⟩ := I.tuple ha.sq; exact .int_tuple i t tp hu
  | lst ha _ => cases rx; obtain ⟨its, rv, tp, _⟩ := I.list (.of ha); exact .int_list i t tp.isList hu
  | dic ha => cases rx; exact eq_int_dict i t (dict_of I ha) hu
theorem eq_same (l : Addr) : EqAt A s (.ref l) (.ref l) true := fun prog w E Q hq => by
  unfold eqBool
  exact wpAny_holding (wpAny_ite_split (fun _ => wpAny_bind (wpAny_rule (wpAny_pure hq))) (fun h => absurd (beq_self_eq_true _) h))
/-- a tuple of three beside one -/
theorem eq_tri (I : Inv X pins σ H s) (hu : A.units + 1 < cLine) {c b : Addr} {k n : Str} {i : Int} {x0 x1 x2 : V} {d0 d1 d2 : D} (hc : TupS H c [.str k, .str n, .int i]) (hb : TupS H b [x0, x1, x2]) (r0 : Rep H x0 d0) (r1 : Rep H x1 d1) (r2 : Rep H x2 d2) (nb : d2.isB = false) :
    EqAt A s (.ref c) (.ref b) (eq3 (k, n, i) d0 d1 d2) := by
  by_cases hcb : c = b
  · subst hcb
    obtain ⟨o, _, h1⟩ := hc
    obtain ⟨o2, _, h2⟩ := hb
    rw [h1] at h2
    have e := Option.some.inj h2
    injection e with _ e
    injection e with e
    injection e with e0 e
    injection e with e1 e
    injection e with e2 e
    subst e0 e1 e2
    obtain rfl : d0 = .str k := by cases r0; rfl
    obtain rfl : d1 = .str n := by cases r1; rfl
    obtain rfl : d2 = .int i := by cases r2; rfl
    have : eq3 (k, n, i) (.str k) (.str n) (.int i) = true := by
      unfold eq3 D.isS D.isI
      simp
    rw [this]
    exact eq_same c
  · obtain ⟨its, rv, tp, _⟩ := I.tuple hc.sq
    obtain ⟨its2, rv2, tp2, _⟩ := I.tuple hb.sq
    cases rv with
    | @cons _ ua _ _ qa rv => cases rv with
      | @cons _ ub _ _ qb rv => cases rv with
        | @cons _ uc _ _ qc rv =>
          cases rv
          cases rv2 with
          | @cons _ va _ _ pa rv2 => cases rv2 with
            | @cons _ vb _ _ pb rv2 => cases rv2 with
              | @cons _ vc _ _ pc rv2 =>
                cases rv2
                obtain ⟨ta, rfl⟩ := qa
                obtain ⟨tb, rfl⟩ := qb
                obtain ⟨tc, rfl⟩ := qc
                have hA : A.in1.units < cLine := hu
                have R := RcAt.tuples (A := A) (s := s) (l := c) (b := b) (items := #[.str k ta, .str n tb, .int i tc]) (items2 := #[va, vb, vc]) (e := fun j => match j with | 0 => d0.isS k | 1 => d1.isS n | _ => d2.isI i) tp tp2 (by omega) (fun j h1 h2 => by
                  match j, h1, h2 with
                  | 0, _, _ => exact eq_strD I hA r0 pa k ta
                  | 1, _, _ => exact eq_strD I hA r1 pb n tb
                  | 2, _, _ => exact eq_intD I hA r2 pc nb i tc
                  | m + 3, h1, _ => exact absurd h1 (by simp))
                have e : ((List.range (min (#[Value.str k ta, .str n tb, .int i tc] : Array Value).size (#[va, vb, vc] : Array Value).size)).all (fun j => match j with | 0 => d0.isS k | 1 => d1.isS n | _ => d2.isI i) && (#[Value.str k ta, .str n tb, .int i tc] : Array Value).size == (#[va, vb, vc] : Array Value).size) = eq3 (k, n, i) d0 d1 d2 := by
                  show ((d0.isS k && (d1.isS n && (d2.isI i && true))) && true) = (d0.isS k && (d1.isS n && d2.isI i))
                  rw [Bool.and_true, Bool.and_true]
                rw [e] at R
                exact EqAt.of_refs hcb R
end
/-- x not in a list of tuples (text, text, number), x a tuple of three whose last part is no truth -/
def rNi3 : R2 := fun x y H Q => ∃ (b : Addr) (x0 x1 x2 : V) (d0 d1 d2 : D) (l : Addr) (vs : List V) (ts : List T3), x = .ref b ∧ TupS H b [x0, x1, x2] ∧ Rep H x0 d0 ∧ Rep H x1 d1 ∧ Rep H x2 d2 ∧ d2.isB = false ∧ y = .ref l ∧ H l = some (.lst vs) ∧ Tris H vs ts ∧ Q (.bl (!ts.any fun t => eq3 t d0 d1 d2)) H
def eqU3 (H : Hp) (d0 d1 d2 : D) (w : Value) : Bool := match w with
  | .ref c => (match H c with
    | some (.frz _ (.tup [.str k, .str n, .int i])) => eq3 (k, n, i) d0 d1 d2
    | _ => false)
  | _ => false
theorem any_u3 {H : Hp} {d0 d1 d2 : D} : ∀ {vs : List V} {ts : List T3} {its : List Value}, Tris H vs ts → Vals vs its → its.any (eqU3 H d0 d1 d2) = ts.any fun t => eq3 t d0 d1 d2
  | _, _, _, .nil, .nil => rfl
  | _, _, _, .cons (c := c) (k := k) (n := n) (i := i) h t, .cons r rv => by
    rw [List.any_cons, List.any_cons, any_u3 t rv]
    cases r
    obtain ⟨o, _, h2⟩ := h
    have : eqU3 H d0 d1 d2 (.ref c) = eq3 (k, n, i) d0 d1 d2 := by
      show (match H c with | some (.frz _ (.tup [.str k, .str n, .int i])) => eq3 (k, n, i) d0 d1 d2 | _ => false) = _
      rw [h2]
    rw [this]
theorem mem_u3 {X : Cx} {pins : List (Addr × Obj)} {σ : L2.St} {H : Hp} {s : Shared} {A : Around} (I : Inv X pins σ H s) (hu : A.units + 1 < cLine) {b : Addr} {x0 x1 x2 : V} {d0 d1 d2 : D} (hb : TupS H b [x0, x1, x2]) (r0 : Rep H x0 d0) (r1 : Rep H x1 d1) (r2 : Rep H x2 d2) (nb : d2.isB = false) :
    ∀ {vs : List V} {ts : List T3} {its : List Value}, Tris H vs ts → Vals vs its → ∀ w ∈ its, EqAt A s w (.ref b) (eqU3 H d0 d1 d2 w)
  | _, _, _, .nil, .nil => fun w hw => by cases hw
  | _, _, _, .cons (c := c) (k := k) (n := n) (i := i) h t, .cons r rv => fun w hw => by
    rcases List.mem_cons.mp hw with rfl | hw
    · cases r
      obtain ⟨o, _, h2⟩ := id h
      have : eqU3 H d0 d1 d2 (.ref c) = eq3 (k, n, i) d0 d1 d2 := by
        show (match H c with | some (.frz _ (.tup [.str k, .str n, .int i])) => eq3 (k, n, i) d0 d1 d2 | _ => false) = _
        rw [h2]
      rw [this]
      exact eq_tri I hu h hb r0 r1 r2 nb
    · exact mem_u3 I hu hb r0 r1 r2 nb t rv w hw
theorem op_ni3 {X : Cx} (hu : X.A.units + 64 < cLine) : OpR X (compareOp .NotIn) rNi3 := by
  intro pins s σ H x y v u Q I rx ry h
  obtain ⟨b, x0, x1, x2, d0, d1, d2, l, vs, ts, rfl, hb, r0, r1, r2, nb, rfl, hl, ht, q⟩ := h
  cases rx
  cases ry
  obtain ⟨its, r, pl, hz⟩ := I.list (.of hl)
  refine SeqAt.notIn_listAt (eqU3 H d0 d1 d2) pl.isList (fun w hw => mem_u3 I (by show X.A.units + 1 + 1 < cLine; omega) hb r0 r1 r2 nb ht r w (by simpa using hw)) ⟨.bl _, H, I, rfl, ?_⟩
  rw [show its.toArray.any (eqU3 H d0 d1 d2) = its.any (eqU3 H d0 d1 d2) by simp, any_u3 ht r]
  exact q
end Kx

set_option Elab.async false
set_option linter.all false
set_option maxRecDepth 100000
set_option maxHeartbeats 1000000
namespace Kx
open PySem PySem.Spec PyProof.Rows L2 Evl
/-! ## set(xs) of whole numbers, of texts -/
theorem few_below : ∀ (B : Nat) (l : List Int), l.Nodup → (∀ k ∈ l, 0 ≤ k ∧ k < (B : Int)) → l.length ≤ B
  | 0, l, _, h => by
    cases l with
    | nil => exact Nat.le_refl _
    | cons a r =>
      have := h a List.mem_cons_self
      omega
  | B + 1, l, nd, h => by
    have h2 := few_below B (l.erase (B : Int)) (nd.erase _) fun k hk => by
      have h3 := h k (List.mem_of_mem_erase hk)
      have h4 : k ≠ (B : Int) := fun e => by
        rw [e] at hk
        exact nd.not_mem_erase hk
      omega
    have h5 : l.length ≤ (l.erase (B : Int)).length + 1 := by
      rw [List.length_erase]
      split <;> omega
    omega
section
variable {X : Cx}
/-- set(l), l a list of whole numbers: one that sorted can read -/
def rSetI (K : PySem.W.Frag) (w : World) : List V → Hp → VK → Prop := fun xs H Q => ∃ (l : Addr) (ns : List Int), xs = [.ref l] ∧ SqL K H l (ns.map V.int) ∧ ns.length ≤ 1000 ∧ ∀ a c, H a = none → (∀ B : Nat, (∀ k ∈ ns, 0 ≤ k ∧ k < (B : Int)) → c ≤ B) → Q (.ref a) (upd H a (SetO w a (fun j => decide (j ∈ ns)) c))
theorem call_setI (hc : X.calm = true) : CallR X (.type "set") (rSetI X.K X.w) := by
  intro pins s σ H xs us Q I r h
  obtain ⟨l, ns, rfl, hl, hz, q⟩ := h
  rw [Vals.ref1 r]
  obtain ⟨its, rv, pl, hlen⟩ := I.list hl
  have hit : IntsAre its ns := rv.ints
  have hsz : its.toArray.size = ns.length := by rw [List.size_toArray, ← rv.length, List.length_map]
  refine call_set_list (P := X.prog) (w := X.w) (s := s) (items := its.toArray) (fun h' => ∃ c, c ≤ ns.length ∧ SetR X.w h' s.heap.objs.size (fun j => decide (j ∈ ns)) c) (I.ok.hd hc) pl.isList (fun A1 It G St u0 R W hSf st ho hR => ?_) fun h' tk hp hk => ?_
  · refine set_update_ints W s.heap.objs.size hSf ns hsz (by unfold scanBound; omega) (fun i v hv => ?_) (its.toArray.size - 0) 0 u0 rfl (Nat.zero_le _) st ⟨0, Nat.le_refl 0, setR_new_at ho⟩ fun s' c hm hc2 hS => hR s' hm ⟨c, by omega, hS⟩
    have hi : i < ns.length := by rw [← hsz]; exact (Array.getElem?_eq_some_iff.mp hv).1
    obtain ⟨t, e⟩ := PyProof.Rows.IntsAre.int_at hit i v (by rw [← Array.getElem?_toList] at hv; simpa using hv)
    refine ⟨ns[i], t, List.getElem?_eq_getElem hi, ?_⟩
    rw [e, List.getD_eq_getElem?_getD, List.getElem?_eq_getElem hi] <;> rfl
  · obtain ⟨c, hc2, R⟩ := hp
    have hn : H s.heap.objs.size = none := I.hok.fresh (Nat.le_refl _)
    refine ⟨.ref _, _, I.laid (t' := tk) (fun b o e => hk b o e) (Nat.le_refl _) (setO_new R), rfl, q _ c hn fun B hB => ?_⟩
    obtain ⟨o, es, ep, t, _, _, _, _, nd, hm, _, _, hes, _⟩ := R
    have := few_below B (es.toList.map keyOf) nd fun k hk2 => hB k (of_decide_eq_true ((hm k).mpr hk2))
    rw [List.length_map, Array.length_toList] at this
    omega
end
end Kx

set_option Elab.async false
set_option linter.all false
set_option maxRecDepth 100000
set_option maxHeartbeats 1000000
namespace Kx
open PySem PySem.Spec PyProof.Rows L2 Evl
/-! ## all rights that can be, and rising places -/
def evAt (ks ns : List Str) (p : Nat) : T3 := (ks.getD (p / 2 / ns.length) "", ns.getD (p / 2 % ns.length) "", ((p % 2 : Nat) : Int))
def evs (ks ns : List Str) (n : Nat) : List T3 := (List.range n).map (evAt ks ns)
theorem evs_two {ks ns : List Str} {i j : Nat} (hj : j < ns.length) : evs ks ns ((i * ns.length + (j + 1)) * 2) = evs ks ns ((i * ns.length + j) * 2) ++ [(ks.getD i "", ns.getD j "", 0), (ks.getD i "", ns.getD j "", 1)] := by
  have e : (i * ns.length + (j + 1)) * 2 = (i * ns.length + j) * 2 + 1 + 1 := by omega
  have d1 : (i * ns.length + j) * 2 / 2 = i * ns.length + j := by omega
  have d2 : ((i * ns.length + j) * 2 + 1) / 2 = i * ns.length + j := by omega
  have d3 : (i * ns.length + j) / ns.length = i := by
    rw [Nat.mul_comm, Nat.mul_add_div (by omega), Nat.div_eq_of_lt hj, Nat.add_zero]
  have d4 : (i * ns.length + j) % ns.length = j := by
    rw [Nat.mul_comm, Nat.mul_add_mod, Nat.mod_eq_of_lt hj]
  have d5 : (i * ns.length + j) * 2 % 2 = 0 := by omega
  have d6 : ((i * ns.length + j) * 2 + 1) % 2 = 1 := by omega
  unfold evs
  rw [e, List.range_succ, List.range_succ, List.append_assoc, List.map_append]
  congr 1
  show [evAt ks ns ((i * ns.length + j) * 2), evAt ks ns ((i * ns.length + j) * 2 + 1)] = _
  unfold evAt
  rw [d1, d2, d3, d4, d5, d6]
  rfl
theorem spot_back {nd a c s : Nat} (hc : c < nd) (hs : s < 2) : spot nd a c s / 2 / nd = a ∧ spot nd a c s / 2 % nd = c ∧ spot nd a c s % 2 = s := by
  unfold spot
  have d1 : ((a * nd + c) * 2 + s) / 2 = a * nd + c := by omega
  have d2 : ((a * nd + c) * 2 + s) % 2 = s := by omega
  rw [d1, d2]
  refine ⟨?_, ?_, rfl⟩
  · rw [Nat.mul_comm, Nat.mul_add_div (by omega), Nat.div_eq_of_lt hc, Nat.add_zero]
  · rw [Nat.mul_comm, Nat.mul_add_mod, Nat.mod_eq_of_lt hc]
theorem spot_lt {nk nd a c s : Nat} (ha : a < nk) (hc : c < nd) (hs : s < 2) : spot nd a c s < nk * nd * 2 := by
  have h1 : a * nd + nd ≤ nk * nd := by
    rw [← Nat.succ_mul]
    exact Nat.mul_le_mul_right nd ha
  unfold spot
  omega
theorem getD_idx {ks : List Str} {k : Str} (h : k ∈ ks) : ks.getD (ks.idxOf k) "" = k := by
  have hl := List.idxOf_lt_length_of_mem h
  rw [List.getD, List.getElem?_eq_getElem hl]
  exact List.getElem_idxOf hl
theorem idx_lt {ks : List Str} {k : Str} (h : k ∈ ks) : ks.idxOf k < ks.length := List.idxOf_lt_length_of_mem h
/-- the place of a right among all -/
def spotOf (ks ns : List Str) (k n : Str) (s : Int) : Nat := spot ns.length (ks.idxOf k) (ns.idxOf n) s.toNat
theorem evs_at {ks ns : List Str} {k n : Str} {s : Int} (hk : k ∈ ks) (hn : n ∈ ns) (h0 : 0 ≤ s) (h1 : s ≤ 1) : (evs ks ns (ks.length * ns.length * 2))[spotOf ks ns k n s]? = some (k, n, s) := by
  have hs : s.toNat < 2 := by omega
  have hl := spot_lt (idx_lt hk) (idx_lt hn) hs
  obtain ⟨b1, b2, b3⟩ := spot_back (a := ks.idxOf k) (idx_lt hn) hs
  unfold evs spotOf
  rw [List.getElem?_map, List.getElem?_range hl]
  show some (evAt ks ns _) = _
  unfold evAt
  rw [b1, b2, b3, getD_idx hk, getD_idx hn]
  congr 3
  omega
theorem evs_mem {ks ns : List Str} {t : T3} (h : t ∈ evs ks ns (ks.length * ns.length * 2)) : t.1 ∈ ks ∧ t.2.1 ∈ ns ∧ 0 ≤ t.2.2 ∧ t.2.2 ≤ 1 := by
  obtain ⟨p, hp, rfl⟩ := List.mem_map.mp h
  have hp := List.mem_range.mp hp
  have h0 : 0 < ns.length := by
    rcases Nat.eq_zero_or_pos ns.length with e | e
    · rw [e] at hp
      omega
    · exact e
  refine ⟨mem_getD ?_, mem_getD (Nat.mod_lt _ h0), ?_, ?_⟩
  · rw [Nat.div_lt_iff_lt_mul h0]
    omega
  · show (0 : Int) ≤ ((p % 2 : Nat) : Int)
    omega
  · show ((p % 2 : Nat) : Int) ≤ 1
    omega
/-- in all rights just if it is one -/
theorem evs_any {ks ns : List Str} {d0 d1 d2 : D} (hb : d2.isB = false) : ((evs ks ns (ks.length * ns.length * 2)).any fun t => eq3 t d0 d1 d2) = D.rt ns ks (.tup [d0, d1, d2]) := by
  rw [rt_3, Bool.eq_iff_iff, List.any_eq_true]
  constructor
  · rintro ⟨t, ht, he⟩
    obtain ⟨h1, h2, h3, h4⟩ := evs_mem ht
    unfold eq3 at he
    simp only [Bool.and_eq_true] at he
    obtain ⟨e0, e1, e2⟩ := he
    obtain rfl := isS_eq e0
    obtain rfl := isS_eq e1
    have e2 : d2 = .int t.2.2 := by
      cases d2 with
      | int j => exact congrArg D.int (eq_of_beq e2).symm
      | _ => cases e2
    subst e2
    show (amg t.1 ks && (amg t.2.1 ns && isBetw (.int t.2.2) 0 1)) = true
    rw [amg_iff.mpr h1, amg_iff.mpr h2]
    show isBetw (.int t.2.2) 0 1 = true
    unfold isBetw
    simp
    omega
  · intro h
    simp only [Bool.and_eq_true] at h
    obtain ⟨h0, h1, h2⟩ := h
    obtain ⟨x0, m0⟩ := am_str h0
    obtain ⟨x1, m1⟩ := am_str h1
    cases d2 with
    | int s =>
      have h3 : 0 ≤ s ∧ s ≤ 1 := by
        unfold isBetw at h2
        simpa using h2
      refine ⟨(d0.txt, d1.txt, s), List.mem_of_getElem? (evs_at m0 m1 h3.1 h3.2), ?_⟩
      rw [x0, x1]
      show ((d0.txt == d0.txt) && ((d1.txt == d1.txt) && (s == s))) = true
      simp
    | _ => cases h2
theorem rise_iff {l : List Nat} : (∀ j, j + 1 < l.length → l.getD j 0 < l.getD (j + 1) 0) ↔ l.Pairwise (· < ·) := by
  rw [List.pairwise_iff_getElem]
  constructor
  · intro h
    have key : ∀ m j (hj : j + m + 1 < l.length), l.getD j 0 < l.getD (j + m + 1) 0 := fun m => by
      induction m with
      | zero => exact fun j hj => h j hj
      | succ m ih => exact fun j hj => Nat.lt_trans (ih j (by omega)) (h (j + m + 1) hj)
    intro i j hi hj hij
    obtain ⟨m, rfl⟩ : ∃ m, j = i + m + 1 := ⟨j - i - 1, by omega⟩
    have := key m i hj
    rwa [List.getD, List.getD, List.getElem?_eq_getElem hi, List.getElem?_eq_getElem hj] at this
  · intro h j hj
    have := h j (j + 1) (by omega) hj (by omega)
    rwa [List.getD, List.getD, List.getElem?_eq_getElem (by omega : j < l.length), List.getElem?_eq_getElem hj]
theorem sorted_uniq : ∀ (a b : List Int), a.Pairwise (· < ·) → b.Pairwise (· < ·) → (∀ x, x ∈ a ↔ x ∈ b) → a = b
  | [], [], _, _, _ => rfl
  | [], y :: b, _, _, h => by
    have := (h y).mpr List.mem_cons_self
    cases this
  | x :: a, [], _, _, h => by
    have := (h x).mp List.mem_cons_self
    cases this
  | x :: a, y :: b, ha, hb, h => by
    obtain ⟨ha1, ha2⟩ := List.pairwise_cons.mp ha
    obtain ⟨hb1, hb2⟩ := List.pairwise_cons.mp hb
    have e : x = y := by
      rcases List.mem_cons.mp ((h x).mp List.mem_cons_self) with e | e
      · exact e
      · rcases List.mem_cons.mp ((h y).mpr List.mem_cons_self) with e2 | e2
        · exact e2.symm
        · have := hb1 x e
          have := ha1 y e2
          omega
    subst e
    rw [sorted_uniq a b ha2 hb2 fun z => ?_]
    constructor
    · intro hz
      rcases List.mem_cons.mp ((h z).mp (List.mem_cons_of_mem _ hz)) with e | e
      · have := ha1 z hz
        omega
      · exact e
    · intro hz
      rcases List.mem_cons.mp ((h z).mpr (List.mem_cons_of_mem _ hz)) with e | e
      · have := hb1 z hz
        omega
      · exact e
theorem bdec {α : Type} [BEq α] [LawfulBEq α] [DecidableEq α] (a b : α) : (a == b) = decide (a = b) := by
  rw [Bool.eq_iff_iff, beq_iff_eq, decide_eq_true_iff]
def p3 (t : T3) : PyData := .tuple [.str t.1, .str t.2.1, .int t.2.2]
theorem eqvL_ints : ∀ (a b : List Int), PyData.eqvAll (a.map PyData.int) (b.map PyData.int) = decide (a = b)
  | [], [] => by simp [PyData.eqvAll]
  | [], y :: b => by simp [PyData.eqvAll]
  | x :: a, [] => by simp [PyData.eqvAll]
  | x :: a, y :: b => by simp [PyData.eqvAll, PyData.eqv, eqvL_ints a b, bdec]
theorem eqv_ints (a b : List Int) : PyData.eqv (.list (a.map PyData.int)) (.list (b.map PyData.int)) = decide (a = b) := by
  rw [← eqvL_ints a b]
  simp [PyData.eqv]
theorem eqv_p3 (t u : T3) : PyData.eqv (p3 t) (p3 u) = decide (t = u) := by
  obtain ⟨a, b, c⟩ := t
  obtain ⟨a', b', c'⟩ := u
  simp [p3, PyData.eqv, PyData.eqvAll, bdec]
theorem p3s_lay : ∀ ts : List T3, (∀ t ∈ ts, PyData.strOk t.1 = true ∧ PyData.strOk t.2.1 = true) → PyData.canLayAll0 (ts.map p3) = true
  | [], _ => by simp [PyData.canLayAll0]
  | t :: r, h => by
    obtain ⟨h1, h2⟩ := h t List.mem_cons_self
    simp [PyData.canLayAll0, PyData.canLay0, p3, h1, h2, p3s_lay r fun x hx => h x (List.mem_cons_of_mem _ hx)]
theorem p3s_dep : ∀ ts : List T3, PyData.depthAll (ts.map p3) ≤ 2
  | [] => by simp [PyData.depthAll]
  | t :: r => by
    have h := p3s_dep r
    simp only [List.map_cons, PyData.depthAll, PyData.depth, p3]
    omega
theorem p3s_shaped (ts : List T3) (h : ∀ t ∈ ts, PyData.strOk t.1 = true ∧ PyData.strOk t.2.1 = true) : SeqAt.shaped (.list (ts.map p3)) = true := by
  have h1 := p3s_dep ts
  show (PyData.canLay0 (.list (ts.map p3)) && decide (PyData.depth (.list (ts.map p3)) ≤ 64)) = true
  rw [Bool.and_eq_true]
  exact ⟨by simp only [PyData.canLay0]; exact p3s_lay ts h, decide_eq_true (by simp only [PyData.depth]; omega)⟩
theorem p3_shaped (t : T3) (h : PyData.strOk t.1 = true ∧ PyData.strOk t.2.1 = true) : SeqAt.shaped (p3 t) = true := by
  show (PyData.canLay0 (p3 t) && decide (PyData.depth (p3 t) ≤ 64)) = true
  rw [Bool.and_eq_true]
  refine ⟨by simp [p3, PyData.canLay0, PyData.canLayAll0, h.1, h.2], decide_eq_true ?_⟩
  simp only [p3, PyData.depth, PyData.depthAll]
  omega
theorem tris_dp {K : PySem.W.Frag} {H : Hp} : ∀ {vs : List V} {ts : List T3}, Tris H vs ts → DpAll K H vs (ts.map p3)
  | _, _, .nil => .nil
  | _, _, .cons h t => .cons (.tup h.sq (.cons (.str _) (.cons (.str _) (.cons (.int _) .nil)))) (tris_dp t)
end Kx

set_option Elab.async false
set_option linter.all false
set_option maxRecDepth 100000
set_option maxHeartbeats 1000000
namespace Kx
open PySem PySem.Spec PyProof.Rows L2 Evl
theorem Tris.tp {H H' : Hp} (e : Tp H H') : ∀ {vs : List V} {ts : List T3}, Tris H vs ts → Tris H' vs ts
  | _, _, .nil => .nil
  | _, _, .cons h t => .cons (h.tp e) (t.tp e)
theorem evs_own {ks ns : List Str} (h1 : ks.Nodup) (h2 : ns.Nodup) {m : Nat} {k n : Str} {s : Int} (h : (evs ks ns (ks.length * ns.length * 2))[m]? = some (k, n, s)) : m = spotOf ks ns k n s := by
  have hm : m < ks.length * ns.length * 2 := by
    have := (List.getElem?_eq_some_iff.mp h).1
    unfold evs at this
    rwa [List.length_map, List.length_range] at this
  have h0 : 0 < ns.length := by
    rcases Nat.eq_zero_or_pos ns.length with e | e
    · rw [e] at hm
      omega
    · exact e
  unfold evs at h
  rw [List.getElem?_map, List.getElem?_range hm] at h
  have e : evAt ks ns m = (k, n, s) := Option.some.inj h
  unfold evAt at e
  injection e with e0 e
  injection e with e1 e2
  have a1 : m / 2 / ns.length < ks.length := by
    rw [Nat.div_lt_iff_lt_mul h0]
    omega
  unfold spotOf spot
  rw [← e0, ← e1, ← e2, idx_getD h1 a1, idx_getD h2 (Nat.mod_lt _ h0), Int.toNat_natCast]
  have := Nat.div_add_mod (m / 2) ns.length
  rw [Nat.mul_comm] at this
  omega
theorem bld_no {ds : List D} (h : ds.length ≠ 5) : D.bld (.tup ds) = false := by
  match ds, h with
  | [], _ | [_], _ | [_, _], _ | [_, _, _], _ | [_, _, _, _], _ => rfl
  | [_, _, _, _, _], h => exact absurd rfl h
  | _ :: _ :: _ :: _ :: _ :: _ :: _, _ => rfl
/-- the places of rights that are none too many -/
def D.spot3 (ks ns : List Str) (d : D) : Nat := match d with
  | .tup [.str k, .str n, .int s] => spotOf ks ns k n s
  | _ => 0
theorem lex_spot {ks ns : List Str} {d e : D} (hd : D.rt ns ks d = true) (he : D.rt ns ks e = true) : HT.lexLt (rkey ns ks d) (rkey ns ks e) = decide (d.spot3 ks ns < e.spot3 ks ns) := by
  obtain ⟨k, n, s, rfl, mk, mn, s0, s1⟩ := rt_shape hd
  obtain ⟨k', n', s', rfl, mk', mn', s0', s1'⟩ := rt_shape he
  obtain ⟨x, rfl⟩ : ∃ x : Nat, s = (x : Int) := ⟨s.toNat, by omega⟩
  obtain ⟨y, rfl⟩ : ∃ y : Nat, s' = (y : Int) := ⟨s'.toNat, by omega⟩
  exact spot_lex (idx_lt mn) (idx_lt mn') (by omega) (by omega)
theorem asc_rise {ks ns : List Str} {rs : List D} (h : ∀ d ∈ rs, D.rt ns ks d = true) : ascT (rs.map (rkey ns ks)) = true ↔ (rs.map fun d => (d.spot3 ks ns : Int)).Pairwise (· < ·) := by
  have e : ∀ j (hj : j < rs.length), (rs.map (rkey ns ks)).getD j [] = rkey ns ks rs[j] := fun j hj => by simp [List.getD, List.getElem?_eq_getElem hj]
  have e2 : ∀ j (hj : j < rs.length), (rs.map (D.spot3 ks ns)).getD j 0 = rs[j].spot3 ks ns := fun j hj => by simp [List.getD, List.getElem?_eq_getElem hj]
  have e3 : (rs.map fun d => (d.spot3 ks ns : Int)).Pairwise (· < ·) ↔ (rs.map (D.spot3 ks ns)).Pairwise (· < ·) := by
    rw [List.pairwise_map, List.pairwise_map]
    constructor
    · exact fun z => z.imp fun hh => by omega
    · exact fun z => z.imp fun hh => by omega
  rw [e3, ← rise_iff, ascT_iff, List.length_map, List.length_map]
  constructor
  · intro g j hj
    have := g j hj
    rw [e j (by omega), e (j + 1) hj, lex_spot (h _ (List.getElem_mem _)) (h _ (List.getElem_mem _))] at this
    rw [e2 j (by omega), e2 (j + 1) hj]
    exact of_decide_eq_true this
  · intro g j hj
    have := g j hj
    rw [e2 j (by omega), e2 (j + 1) hj] at this
    rw [e j (by omega), e (j + 1) hj, lex_spot (h _ (List.getElem_mem _)) (h _ (List.getElem_mem _))]
    exact decide_eq_true this
section
variable {P : Program} {w : World} {K : PySem.W.Frag} {mg : Str → Option Value} {base : Heap} (T : Txt K mg)
end
end Kx

set_option Elab.async false
set_option linter.all false
set_option maxRecDepth 100000
set_option maxHeartbeats 1000000
namespace Kx
open PySem PySem.Spec PyProof.Rows L2 Evl
/-! ## sizes and depths of what is bent -/
mutual
def D.Zs (m : Nat) : D → Prop
  | .str s => s.length ≤ m
  | .tup ds => ds.length ≤ m ∧ Zss m ds
  | .lst ds => ds.length ≤ m ∧ Zss m ds
  | _ => True
def Zss (m : Nat) : List D → Prop
  | [] => True
  | d :: r => d.Zs m ∧ Zss m r
end
theorem zss_iff {m : Nat} : ∀ {ds : List D}, Zss m ds ↔ ∀ d ∈ ds, d.Zs m
  | [] => ⟨fun _ d h => by simp at h, fun _ => by unfold Zss; trivial⟩
  | x :: r => by
    unfold Zss
    rw [zss_iff (ds := r)]
    exact ⟨fun ⟨a, b⟩ d hd => (List.mem_cons.mp hd).elim (fun e => e ▸ a) (b d), fun h => ⟨h x List.mem_cons_self, fun d hd => h d (List.mem_cons_of_mem _ hd)⟩⟩
mutual
theorem zs_up {m n : Nat} (h : m ≤ n) : ∀ d : D, d.Zs m → d.Zs n
  | .str s, z => by unfold D.Zs at z ⊢; omega
  | .tup ds, z => by
    unfold D.Zs at z ⊢
    exact ⟨by omega, zss_up h ds z.2⟩
  | .lst ds, z => by
    unfold D.Zs at z ⊢
    exact ⟨by omega, zss_up h ds z.2⟩
  | .non, _ | .bl _, _ | .int _, _ | .dic, _ => by unfold D.Zs; trivial
theorem zss_up {m n : Nat} (h : m ≤ n) : ∀ ds : List D, Zss m ds → Zss n ds
  | [], _ => by unfold Zss; trivial
  | d :: r, z => by
    unfold Zss at z ⊢
    exact ⟨zs_up h d z.1, zss_up h r z.2⟩
end
mutual
theorem zs_sz {m : Nat} (h : m ≤ 1000) : ∀ d : D, d.Zs m → d.Sz
  | .str s, z => by unfold D.Zs at z; unfold D.Sz; omega
  | .tup ds, z => by
    unfold D.Zs at z
    unfold D.Sz
    exact ⟨by omega, zss_sz h ds z.2⟩
  | .lst ds, z => by
    unfold D.Zs at z
    unfold D.Sz
    exact ⟨by omega, zss_sz h ds z.2⟩
  | .non, _ | .bl _, _ | .int _, _ | .dic, _ => by unfold D.Sz; trivial
theorem zss_sz {m : Nat} (h : m ≤ 1000) : ∀ ds : List D, Zss m ds → Szs ds
  | [], _ => by unfold Szs; trivial
  | d :: r, z => by
    unfold Zss at z
    unfold Szs
    exact ⟨zs_sz h d z.1, zss_sz h r z.2⟩
end
/-- tuples in tuples, at most n deep -/
def D.dp : Nat → D → Prop
  | 0, d => d.ty ≠ "tuple"
  | n + 1, d => ∀ ds, d = .tup ds → ∀ x ∈ ds, D.dp n x
theorem dp_leaf {d : D} (h : d.ty ≠ "tuple") : ∀ n, D.dp n d
  | 0 => h
  | n + 1 => fun ds e => absurd (by rw [e]; rfl) h
theorem dp_up : ∀ {n : Nat} {d : D}, D.dp n d → D.dp (n + 1) d
  | 0, d, h => dp_leaf h 1
  | n + 1, d, h => fun ds e x hx => dp_up (h ds e x hx)
/-! ## a heap without the state -/
structure Ap (H : Hp) (sd sg : Addr) : Prop where
  d : ∃ o, H sd = some o
  g : ∃ o, H sg = some o
theorem Sta.ap {H : Hp} {sd sg sc : Addr} {b : Nat} (s : Sta H sd sg sc b) : Ap H sd sg := let ⟨_, _, _, _, w, _, _⟩ := s; ⟨⟨_, w.d⟩, ⟨_, w.g⟩⟩
theorem Ap.up {H H' : Hp} {sd sg : Addr} (a : Ap H sd sg) (e : Ex H H') : Ap H' sd sg := let ⟨o, h⟩ := a.d; let ⟨u, g⟩ := a.g; ⟨⟨o, e _ _ h⟩, ⟨u, e _ _ g⟩⟩
theorem Ap.ne {H : Hp} {sd sg p : Addr} (a : Ap H sd sg) (h : H p = none) : p ≠ sd ∧ p ≠ sg := by
  obtain ⟨⟨o, h1⟩, ⟨u, h2⟩⟩ := a
  exact ⟨fun e => (by rw [e, h1] at h; cases h), fun e => (by rw [e, h2] at h; cases h)⟩
theorem hid_at {H : Hp} {sd sg p : Addr} {o : HO} (h : H p = some o) (n1 : p ≠ sd) (n2 : p ≠ sg) : hid H sd sg p = some o := by
  unfold hid
  rw [if_neg fun z => z.elim n1 n2]
  exact h
theorem hid_none {H : Hp} {sd sg p : Addr} (h : H p = none) : hid H sd sg p = none := by
  unfold hid
  split
  · rfl
  · exact h
/-- what te gives stands for d, apart from the state -/
def EvH (te : TE) (σ : L2.St) (H : Hp) (sd sg : Addr) (d : D) : Prop := ∀ H1, Ex H H1 → ∀ Q : VK, (∀ v H2, Ex H1 H2 → Rep (hid H2 sd sg) v d → Q v H2) → te σ H1 Q
section
variable {K : PySem.W.Frag} {σ : L2.St} {H H' : Hp} {sd sg : Addr} {ta tb te : TE} {v : V} {d : D} {ds es : List D}
theorem rep_ex (r : Rep (hid H sd sg) v d) (e : Ex H H') : Rep (hid H' sd sg) v d := r.up (hid_mono (.of e))
theorem reps_ex {vs : List V} (r : Reps (hid H sd sg) vs ds) (e : Ex H H') : Reps (hid H' sd sg) vs ds := r.up (hid_mono (.of e))
theorem hid_ev (h : Ev te σ H v) (r : Rep (hid H sd sg) v d) : EvH te σ H sd sg d := fun H1 e Q q => h H1 e _ fun H2 e2 => q v H2 e2 (rep_ex r (e.trans e2))
/-- a new tuple -/
theorem newT_hid {xs : List V} {Q : VK} (ap : Ap H sd sg) (r : Reps (hid H sd sg) xs ds) (q : ∀ v H2, Ex H H2 → Rep (hid H2 sd sg) v (.tup ds) → Q v H2) : newT xs H Q := fun p o hp ho => by
  obtain ⟨n1, n2⟩ := ap.ne hp
  exact q (.ref p) _ (Ex.new hp) (.tup ⟨o, ho, hid_at upd_same n1 n2⟩ (reps_ex r (Ex.new hp)))
theorem eh_slice {tlo thi : TO} {lo hi : Option Int} (ap : Ap H sd sg) (h : EvH te σ H sd sg (.tup ds)) (h1 : EvO tlo σ H lo) (h2 : EvO thi σ H hi) : EvH (tSl rSlF te tlo thi) σ H sd sg (.tup (cutX ds lo hi)) := fun H1 e Q q =>
  h H1 e _ fun v H2 e2 r => h1 H2 (e.trans e2) _ fun H3 e3 => h2 H3 ((e.trans e2).trans e3) _ fun H4 e4 => by
    obtain ⟨a, vs, rfl, ha, hs⟩ := (rep_ex r (e3.trans e4)).tupD
    have E := (e2.trans e3).trans e4
    refine ⟨a, vs, rfl, ha.up hid_ex, fun hw => ?_, fun _ => newT_hid (ap.up (e.trans E)) (hs.cut lo hi) fun v H5 e5 r5 => q v H5 (E.trans e5) r5⟩
    have ew : cutX ds lo hi = ds := by
      unfold cutX
      rw [← hs.length, hw.1, hw.2, List.drop_zero, Nat.sub_zero, hs.length, List.take_length]
    rw [ew] at q
    exact q _ H4 E (.tup ha hs)
/-- x + y, both at hand -/
theorem cat_hid {v u : V} {Q : VK} (ap : Ap H sd sg) (r1 : Rep (hid H sd sg) v (.tup ds)) (r2 : Rep (hid H sd sg) u (.tup es)) (hz : ds.length + es.length ≤ 100000) (q : ∀ z H2, Ex H H2 → Rep (hid H2 sd sg) z (.tup (ds ++ es)) → Q z H2) : rCatF v u H Q := by
  obtain ⟨a, xs, rfl, h1, s1⟩ := r1.tupD
  obtain ⟨b, ys, rfl, h2, s2⟩ := r2.tupD
  refine ⟨a, b, xs, ys, rfl, rfl, h1.up hid_ex, h2.up hid_ex, by rw [s1.length, s2.length]; exact sz_of hz, fun e0 => ?_, fun _ e0 => ?_, fun _ _ => newT_hid ap (s1.append s2) q⟩
  · subst e0
    cases s1
    exact q _ H (Ex.refl _) (.tup h2 s2)
  · subst e0
    cases s2
    rw [List.append_nil] at q
    exact q _ H (Ex.refl _) (.tup h1 s1)
theorem eh_cat (ap : Ap H sd sg) (ha : EvH ta σ H sd sg (.tup ds)) (hb : EvH tb σ H sd sg (.tup es)) (hz : ds.length + es.length ≤ 100000) : EvH (tOp rCatF ta tb) σ H sd sg (.tup (ds ++ es)) := fun H1 e Q q =>
  ha H1 e _ fun v H2 e2 r => hb H2 (e.trans e2) _ fun u H3 e3 r2 => cat_hid (ap.up ((e.trans e2).trans e3)) (rep_ex r e3) r2 hz fun z H4 e4 r4 => q z H4 ((e2.trans e3).trans e4) r4
theorem eh_one (ap : Ap H sd sg) (ha : EvH ta σ H sd sg d) : EvH (tTupF (tCons ta tNil)) σ H sd sg (.tup [d]) := fun H1 e Q q =>
  ha H1 e _ fun v H2 e2 r => ⟨by show 1 ≤ sizeLine; rw [sizeLine_eq]; decide, newT_hid (ap.up (e.trans e2)) (.cons r .nil) fun z H3 e3 r3 => q z H3 (e2.trans e3) r3⟩
theorem eh_two {d2 : D} (ap : Ap H sd sg) (ha : EvH ta σ H sd sg d) (hb : EvH tb σ H sd sg d2) : EvH (tTupF (tCons ta (tCons tb tNil))) σ H sd sg (.tup [d, d2]) := fun H1 e Q q =>
  ha H1 e _ fun v H2 e2 r => hb H2 (e.trans e2) _ fun u H3 e3 r2 => ⟨by show 2 ≤ sizeLine; rw [sizeLine_eq]; decide, newT_hid (ap.up ((e.trans e2).trans e3)) (.cons (rep_ex r e3) (.cons r2 .nil)) fun z H4 e4 r4 => q z H4 ((e2.trans e3).trans e4) r4⟩
theorem eh_ix {a : Addr} {vs : List V} {j : Nat} {k : Int} (h : Ev ta σ H (.ref a)) (hk : Ev tb σ H (.int k)) (ha : TupS (hid H sd sg) a vs) (hs : Reps (hid H sd sg) vs ds) (e : k = (j : Int)) (hj : ds[j]? = some d) : EvH (tOp (rIxT K) ta tb) σ H sd sg d := by
  obtain ⟨v, hv, r⟩ := hs.getD hj
  exact hid_ev (ev_ixTi h hk (ha.up hid_ex) e hv) r
end
theorem cut_drop {α : Type} (xs : List α) {i : Nat} (h : i ≤ xs.length) : cutX xs (some (i : Int)) none = xs.drop i := by
  unfold cutX
  rw [HT.sIx_nat, HT.sIx_none, Nat.min_eq_left h]
  exact List.take_of_length_le (by rw [List.length_drop]; exact Nat.le_refl _)
def spBent (n : Nat) : Sp := fun vs H Q _ => ∃ (sd sg sc : Addr) (b m : Nat) (v : V) (d : D), vs = [.ref sd, v] ∧ Rep (hid H sd sg) v d ∧ D.dp n d ∧ 17 ≤ m ∧ m ≤ 1000 ∧ d.Zs m ∧ Sta H sd sg sc (b + 3 * (n + 1)) ∧ ∀ (v' : V) (d' : D) (H' : Hp), Rep (hid H' sd sg) v' d' → D.dp (n + 1) d' → d'.Zs (3 * m + 3) → Sta H' sd sg sc b → ExS sd sg H H' → Q v' H'
section
variable {P : Program} {w : World} {K : PySem.W.Frag} {mg : Str → Option Value} {base : Heap} (T : Txt K mg)
end
end Kx

set_option Elab.async false
set_option linter.all false
set_option maxRecDepth 100000
set_option maxHeartbeats 1000000
namespace Kx
open PySem PySem.Spec PyProof.Rows L2 Evl
def ab (i : Int) : Int := if i < 0 then -i else i
def spBegun (K : PySem.W.Frag) : Sp := fun vs H Q _ => ∃ (l : Addr) (cells : List Int), vs = [.ref l] ∧ SqL K H l (iv cells) ∧ cells.length ≤ 1000 ∧ ∀ (sd sg sc : Addr) (gs : List Int) (H' : Hp), StW H' sd sg sc gs (cells.map ab) 0 0 → Ex H H' → H sd = none → H sg = none → Q (.ref sd) H'
theorem pair_go {k : V} {tv : TE} {r : List (TE × TE)} {σ : L2.St} {H : Hp} {Q : List (V × V) → Hp → Prop} (h : tv σ H fun y H2 => tPairs r σ H2 fun ps H3 => Q ((k, y) :: ps) H3) : tPairs ((tC k, tv) :: r) σ H Q := h
section
variable {P : Program} {w : World} {K : PySem.W.Frag} {mg : Str → Option Value} {base : Heap} (T : Txt K mg)
theorem ok_begun : FnOk P w K mg base CX0 1 T.a_law_begun T.d_law_begun ["script"] (spBegun K) := by
  refine T.F_law_begun.ok sc_law_begun (fun vs H Q E h => ?_) (fun cdv A outer s H vs Q E hr h => ?_)
  · obtain ⟨l, cells, rfl, _⟩ := h
    rfl
  · obtain ⟨l, cells, rfl, hl, hz, q⟩ := h
    have nd := sc_law_begun.nd
    refine ⟨_, pss_cons (ps_setLc (i := 1) (own := [("cell", 2)]) (g := gName 2) (by rfl) nd rfl rfl (by rfl) (pi_list (pv 0)) (blkOk_by (N := ["script", "great", "cell"]) (sc := defScope s_law_begun) (by decide +kernel))
        (fun _ _ _ _ _ => pg_name (i := 2) nd rfl (.inl rfl)) (fun _ _ _ _ _ => pts_one (pt_cmpR op_ge (pe_callB call_abs (by rfl) T.z_abs bo_abs (pa_cons (pv 2) pa_nil)) (pe_op op_pow pe_int pe_int) (by rfl)))
        (fun _ _ _ _ _ => pe_op op_sub (pe_callB call_abs (by rfl) T.z_abs bo_abs (pa_cons (pv 2) pa_nil)) (pe_op op_pow pe_int pe_int)))
      (pss_one (ps_ret (pe_disp (pps_cons pe_str (pv 1) (pps_cons pe_str (pe_lc (own := [("cell", 2)]) (g := gName 2) (tt := tYes) (by rfl) nd (pi_list (pv 0)) (blkOk_by (N := ["script", "great", "cell"]) (sc := defScope s_law_begun) (by decide +kernel))
        (fun _ _ _ _ _ => pg_name (i := 2) nd rfl (.inl rfl)) (fun _ _ _ _ _ => pts_nil) (fun _ _ _ _ _ => pe_callB call_abs (by rfl) T.z_abs bo_abs (pa_cons (pv 2) pa_nil))) (pps_cons pe_str pe_int (pps_cons pe_str pe_int pps_nil)))) (by decide +kernel) rfl (by simp) (by simp)))), ?_⟩
    have il : (iv cells).length = cells.length := List.length_map _
    have at_ : ∀ {i : Nat} {x : V}, (iv cells)[i]? = some x → x = .int (cells.getD i 0) := fun {i x} h => by
      unfold iv at h
      rw [List.getElem?_map] at h
      cases e : cells[i]? with
      | none =>
        rw [e] at h
        cases h
      | some c =>
        rw [e] at h
        rw [List.getD, e]
        exact (Option.some.inj h).symm
    have ev_ab : ∀ {σ : L2.St} {H : Hp} {i : Int}, σ[2]? = some (some (.int i)) → Ev (tCB (fun xs H Q => ∃ i, xs = [V.int i] ∧ Q (.int (if i < 0 then -i else i)) H) (tCons (tVar 2) tNil)) σ H (.int (ab i)) := fun {σ H i} h =>
      ev_cb (ea_cons (ev_var h) ea_nil) fun H1 e Q q => ⟨i, rfl, q H1 (Ex.refl _)⟩
    have ev_p : ∀ {σ : L2.St} {H : Hp}, Ev (tOp (rI CPow fun i j => .int (i ^ j.toNat)) (tC (.int 10)) (tC (.int 18))) σ H (.int ((10 : Int) ^ (18 : Int).toNat)) := fun {σ H} => ev_op ev_c ev_c (rv_I ⟨by decide, by decide, by decide⟩)
    have L1 := Evl.el_lcL (K := K) (σ := [some (.ref l), none, none]) (H := H) (tl := tVar 0) (j := 2) (vs := [2]) (xs := iv cells)
      (t := tTest (tOp (rI0 fun i j => .bl (decide (j ≤ i))) (tCB (fun xs H Q => ∃ i, xs = [V.int i] ∧ Q (.int (if i < 0 then -i else i)) H) (tCons (tVar 2) tNil)) (tOp (rI CPow fun i j => .int (i ^ j.toNat)) (tC (.int 10)) (tC (.int 18)))))
      (te := tOp (rI0 fun i j => .int (i - j)) (tCB (fun xs H Q => ∃ i, xs = [V.int i] ∧ Q (.int (if i < 0 then -i else i)) H) (tCons (tVar 2) tNil)) (tOp (rI CPow fun i j => .int (i ^ j.toNat)) (tC (.int 10)) (tC (.int 18))))
      (fun i => decide ((10 : Int) ^ (18 : Int).toNat ≤ ab (cells.getD i 0))) (fun i => .int (ab (cells.getD i 0) - (10 : Int) ^ (18 : Int).toNat)) (ev_var rfl) hl (by omega) (fun _ => rfl) (fun i x H1 e1 hx => by
        rw [at_ hx]
        exact et_test (ev_op (ev_ab rfl) ev_p rv_I0)) (fun i x H1 e1 hx _ => by
        rw [at_ hx]
        exact ev_op (ev_ab rfl) ev_p rv_I0)
    rw [given_iv] at L1
    refine q_asgL (σ := [some (.ref l), none, none]) L1 fun sg H1 nsg e1 h1 => fun sd nsd => ⟨.ref sg, rfl, ?_⟩
    have e2 : Ex H1 (upd H1 sd (.dK [])) := Ex.new nsd
    have h2 : (upd H1 sd (.dK [])) sd = some (.dK []) := upd_same
    generalize upd H1 sd (.dK []) = H2 at e2 h2
    have L2 : EvL (tLc (iList K (tVar 0)) (gName 2) tYes (tCB (fun xs H Q => ∃ i, xs = [V.int i] ∧ Q (.int (if i < 0 then -i else i)) H) (tCons (tVar 2) tNil)) [2]) [some (.ref l), some (.ref sg), none] H2 (iv (cells.map ab)) := el_lcL (K := K) (i := 2) (xs := iv cells) (ev_var rfl) (ex_l (e1.trans e2) hl) (by unfold iv; simp) (by omega) fun j x y hx hy => by
      rw [at_ hx]
      unfold iv at hx hy
      rw [List.getElem?_map, List.getElem?_map] at hy
      cases e : cells[j]? with
      | none =>
        rw [e] at hy
        cases hy
      | some c =>
        rw [e] at hy
        obtain rfl := Option.some.inj hy
        rw [List.getD, e]
        exact ev_ab rfl
    refine pair_go ?_
    refine L2 H2 (Ex.refl _) _ fun sc H3 nsc e3 h3 => ⟨e3 _ _ h2, stK sg sc 0 0, rfl, by show 4 ≤ 15; decide, ?_⟩
    · have em : mergeK [] (stK sg sc 0 0) = stK sg sc 0 0 := by
        simp [mergeK, putK, stK, nGR, nGC, nGT, nCR, nCT, nRT]
      rw [em]
      have n1 : sg ≠ sd := ne_of_none h1 nsd
      have n2 : sc ≠ sd := fun z => by
        rw [z] at nsc
        rw [h2] at nsc
        cases nsc
      have n3 : sc ≠ sg := fun z => by
        rw [z] at nsc
        have := e2 _ _ h1
        rw [nsc] at this
        cases this
      refine q sd sg sc _ _ ⟨upd_same, (upd_ne n1).trans (e3 _ _ (e2 _ _ h1)), (upd_ne n2).trans h3, n3⟩ (fun a o h => ?_) (fresh_back e1 nsd) nsg
      exact (upd_ne (ne_of_none h (fresh_back e1 nsd))).trans (((e1.trans e2).trans e3) _ _ h)
end
end Kx

set_option Elab.async false
set_option linter.all false
set_option maxRecDepth 100000
set_option maxHeartbeats 1000000
namespace Kx
open PySem PySem.Spec PyProof.Rows L2 Evl LamX
/-- an action is tried: what it raises is kept, else None -/
def TCaught (K : PySem.W.Frag) (CS : Addr) : (XK → Hp → VK → Prop) → Hp → VK → Prop := fun tl H Q => ∀ R : VK, (∀ v H', Q .non H' → R v H') →
  tl (fun cls d H' => PySem.W.exmOne K cls (.ref CS) = some true ∧ d = none ∧ ∀ a, H' a = none → Q (.ref a) (upd H' a (ExR cls a))) H R
theorem caught_gives {X : Cx} {x q : Str} {g CS : Addr} {cdg : Value} (hme : X.mg "KeptError" = some (.ref CS)) {j : Nat} {p0 p1 p2 p3 p4 p5 p6 p7 p8 p9 pa pb pc pd : Pos} :
    GivesTo X ["action", "found", "error"] x (defScope s_law_caught) g cdg [.Assign [.Name "found" p0] (.Constant .none j p1) p2, .Try [.Expr (.Call (.Name "action" p3) [] [] p4) p5] [.ExceptHandler (some (.Name "KeptError" p6)) (some "error") [.Assign [.Name "found" p7] (.Name "error" p8) p9] pa] [] [] pb, .Return (some (.Name "found" pc)) pd] "action" q (TCaught X.K CS) := by
  intro f c' s H Q tl act hc h
  have nd := sc_law_caught.nd
  have hgl : Gl (cxOf C8.CX0 X.prog X.w X.K X.mg X.base ["action", "found", "error"] x (defScope s_law_caught) g cdg X.A X.stack s H C8.E0).nox "KeptError" := by rfl
  refine ⟨_, pss_cons (ps_set (i := 1) nd rfl (.inl rfl) pe_non) (pss_cons (ps_try_keep (X := (cxOf C8.CX0 X.prog X.w X.K X.mg X.base ["action", "found", "error"] x (defScope s_law_caught) g cdg X.A X.stack s H C8.E0).nox) (i := 2) (n := "error") (c := .ref CS)
      (tb := fun W D σ H' => ∃ Ech : XK, (∀ cls d σ' H', Ech cls d H' → W cls d σ' H') ∧ σ[0]? = some (some (.ref f)) ∧ H' c' = some (CodeO c' q) ∧ tl Ech H' (fun _ H2 => D.nx σ H2)) (ts := fun a => tAsg (tVar 2) (gName 1))
      rfl rfl rfl nd rfl rfl ⟨hgl, by decide, .inl hme⟩ (fun W pn xe tk => ?_) (fun a oe pn => pss_one (ps_set (i := 1) nd rfl (.inl rfl) (pv 2)))) (pss_one (ps_ret (pv 1)))), ?_⟩
  · refine ⟨fun pins s' σ H' D I h' => ?_⟩
    obtain ⟨Ech, hW, h1, h2, h3⟩ := h'
    have hp := act W pn xe Ech p3 p4 tk hW
    exact (pss_one (ps_expr (pos := p5) hp)).run pins s' σ H' D I ⟨h1, h2, h3⟩
  · refine ⟨fun cls d H' => PySem.W.exmOne X.K cls (.ref CS) = some true ∧ d = none ∧ ∀ a, H' a = none → Q (.ref a) (upd H' a (ExR cls a)), fun cls d σ' H' ⟨e1, e2, e3⟩ => ⟨e1, e2, fun a ha hlen => ?_⟩, rfl, hc, ?_⟩
    · match σ', hlen with
      | [x0, x1, x2], _ => exact ⟨.ref a, rfl, fun hn => ⟨.ref a, rfl, e3 a ha⟩⟩
    · exact h _ fun v H' hq => ⟨.non, rfl, hq⟩
end Kx

set_option Elab.async false
set_option linter.all false
set_option maxRecDepth 100000
set_option maxHeartbeats 1000000
namespace Kx
open PySem PySem.Spec PyProof.Rows L2 Evl LamX
/-! ## defs whose code is known: lambdas stand in them -/
def FunC (K : PySem.W.Frag) (x : Str) (st : Stmt) (f c : Addr) (fd : FuncData) : Prop := ∃ (o1 : Value) (o2 : Option Addr) (kv dv mv : Value) (a1 : Option Addr) (t1 : Value) (sl : Array (Option Value)),
  fd = PySem.W.fnOf x x (defArgs st) (defBody st) (defScope st) .none kv dv mv a1 (.ref c) t1 ∧ K.lookup f = some ⟨o1, o2, .func fd, sl⟩ ∧ PySem.W.codeIn K (.ref c) x = true
theorem FunC.ok {P : Program} {w : World} {K : PySem.W.Frag} {mg : Str → Option Value} {base : Heap} {x : Str} {st : Stmt} {f c : Addr} {fd : FuncData} {N ps : List Str} {k : Nat} {sp : Sp} (F : FunC K x st f c fd) (S : FnScope N ps (defScope st)) (len : ∀ vs H Q E, sp vs H Q E → vs.length = ps.length)
    (hb : ∀ (A : Around) (outer : List Env) (s : Shared) (H : Hp) (vs : List V) (Q : VK) (E : XK), Room k (A.deeper (envOfC x (defScope st) s.heap.objs.size f (.ref c))) → sp vs H Q E →
      ∃ t, PSs (cxOf CX0 P w K mg base N x (defScope st) f (.ref c) A outer s H E).nox (defBody st) t ∧ t { nx := fun _ H' => Q .non H', rt := Q } (L2.start N vs) H) : FnOk P w K mg base CX0 (k + 1) f fd ps sp := by
  obtain ⟨o1, o2, kv, dv, mv, a1, t1, sl, rfl, lk, hc⟩ := F
  refine fn_of lk hc S len fun A outer s H vs Q E hr h => ?_
  obtain ⟨t, h1, h2⟩ := hb A outer s H vs Q E hr h
  exact ⟨t, h1.nox, h2⟩
/-! ## what stays when tables of lambdas grow -/
theorem TupS.xn {H H' : Hp} {a : Addr} {vs : List V} (h : TupS H a vs) (e : ExtN H H') : TupS H' a vs := let ⟨o, h1, h2⟩ := h; ⟨o, h1, e _ _ h2 fun ps z => by cases z⟩
mutual
theorem Rep.xn {H H' : Hp} (e : ExtN H H') : ∀ (d : D) (v : V), Rep H v d → Rep H' v d
  | _, _, .non => .non
  | _, _, .bl b => .bl b
  | _, _, .int i => .int i
  | _, _, .str s => .str s
  | _, _, .tup h r => .tup (h.xn e) (Reps.xn e _ _ r)
  | _, _, .lst h r => .lst (e _ _ h fun ps z => by cases z) (Reps.xn e _ _ r)
  | _, _, .dic h => .dic (e _ _ h fun ps z => by cases z)
theorem Reps.xn {H H' : Hp} (e : ExtN H H') : ∀ (ds : List D) (vs : List V), Reps H vs ds → Reps H' vs ds
  | _, _, .nil => .nil
  | _, _, .cons r t => .cons (Rep.xn e _ _ r) (Reps.xn e _ _ t)
end
theorem hid_xn {H H' : Hp} {sd sg : Addr} (e : ExtN H H') : ExtN (hid H sd sg) (hid H' sd sg) := fun a o h n => by
  unfold hid at h ⊢
  split at h
  · cases h
  · rename_i z
    rw [if_neg z]
    exact e a o h n
theorem Sta.xn {H H' : Hp} {sd sg sc : Addr} {b : Nat} (s : Sta H sd sg sc b) (e : ExtN H H') : Sta H' sd sg sc b :=
  let ⟨gs, cs, r, t, w, h1, h2⟩ := s
  ⟨gs, cs, r, t, ⟨e _ _ w.d fun ps z => (by cases z), e _ _ w.g fun ps z => (by cases z), e _ _ w.c fun ps z => (by cases z), w.ne⟩, h1, h2⟩
/-- isinstance of an error that is kept -/
def rIsK (K : PySem.W.Frag) : List V → Hp → VK → Prop := fun xs H Q => ∃ (a D C : Addr) (b : Bool), xs = [.ref a, .ref C] ∧ H a = some (ExR (.ref D) a) ∧ ExcC K D ∧ PySem.W.kitOne K (.ref D) (.ref C) = some b ∧ Q (.bl b) H
theorem call_isK {X : Cx} : CallR X (.builtin "isinstance") (rIsK X.K) := by
  intro pins s σ H xs us Q I r h
  obtain ⟨a, D, C, b, rfl, ha, EC, hk, q⟩ := h
  cases r with
  | cons rx rr => cases rr with
    | cons rt rr =>
      cases rr
      cases rx
      cases rt
      obtain ⟨⟨o, vs, hget, hz, hv⟩, _⟩ := I.hok a _ ha
      have J : PySem.W.InstAt s.heap a o D none := by
        obtain ⟨oc, od, oda, osl⟩ := o
        obtain ⟨h1, h2⟩ := hz
        dsimp only at h1 h2 hv
        subst h1 h2 hv
        exact ⟨hget, rfl, rfl, trivial⟩
      exact PySem.W.kia_one (PySem.W.handS_kitx_exc EC.hg EC.hk EC.hs EC.hd EC.ha EC.hn EC.ht EC.hm) I.kIn J hk (fun z => nomatch z) fun tk => ⟨.bl b, H, I.kept (t' := tk) fun _ _ z => z, rfl, q⟩
/-- an own error is caught by its root -/
theorem Txt.caught {K : PySem.W.Frag} {mg : Str → Option Value} (T : Txt K mg) {C : Addr} (h : PySem.W.subIn K (.ref C) (.ref T.c_KeptError) = some true) : PySem.W.exmOne K (.ref C) (.ref T.c_KeptError) = some true :=
  PySem.W.exm_ref T.E_KeptError.bx T.E_KeptError.ex.hd T.E_KeptError.ty h
end Kx

set_option Elab.async false
set_option linter.all false
set_option maxRecDepth 100000
set_option maxHeartbeats 300000
namespace Kx
open PySem PySem.Spec PyProof.Rows L2 Evl LamX
/-- isinstance of what was kept: an error, or None -/
def rIs2 (K : PySem.W.Frag) : List V → Hp → VK → Prop := fun xs H Q => rIsK K xs H Q ∨ rIsi K xs H Q
theorem call_is2 {X : Cx} : CallR X (.builtin "isinstance") (rIs2 X.K) := by
  intro pins s σ H xs us Q I r h
  rcases h with h | h
  · exact call_isK pins s σ H xs us Q I r h
  · exact call_isi pins s σ H xs us Q I r h
/-- what law_caught gives, by what the action does -/
def Kept (H : Hp) (x : V) (o : Out) : Prop := match o with
  | .ret _ => x = .non
  | .exc C => ∃ a, x = .ref a ∧ H a = some (ExR (.ref C) a)
theorem exR_ne {cls : Value} {a : Addr} (ps : Array Value) : ExR cls a ≠ .tbl ps := fun z => by
  unfold ExR at z
  cases z
theorem Kept.xn {H H' : Hp} {x : V} {o : Out} (k : Kept H x o) (e : ExtN H H') : Kept H' x o := by
  cases o with
  | ret z => exact k
  | exc C =>
    obtain ⟨a, h1, h2⟩ := k
    exact ⟨a, h1, e _ _ h2 fun ps => exR_ne ps⟩
theorem kept_go {K : PySem.W.Frag} {CS : Addr} {o : Out} {H1 : Hp} {Q R : VK} (hc : ∀ C, o = .exc C → PySem.W.exmOne K (.ref C) (.ref CS) = some true) (hR : ∀ v H', Q .non H' → R v H') (q : ∀ x H3, Ex H1 H3 → Kept H3 x o → Q x H3) :
    ∀ H2, Ex H1 H2 → outOk o H2 R (fun cls d H' => PySem.W.exmOne K cls (.ref CS) = some true ∧ d = none ∧ ∀ a, H' a = none → Q (.ref a) (upd H' a (ExR cls a))) := fun H2 e => by
  cases o with
  | ret z => exact hR z H2 (q .non H2 e rfl)
  | exc C => exact ⟨hc C rfl, rfl, fun a ha => q (.ref a) _ (e.trans (Ex.new ha)) ⟨a, rfl, upd_same⟩⟩
theorem caught_go {K : PySem.W.Frag} {CS : Addr} {tl : XK → Hp → VK → Prop} {o : Out} {H1 : Hp} {Q : VK} (hc : ∀ C, o = .exc C → PySem.W.exmOne K (.ref C) (.ref CS) = some true) (ht : ∀ (E : XK) (R : VK), (∀ z H2, o = .ret .non → Ex H1 H2 → R z H2) → (∀ H2, Ex H1 H2 → outOk o H2 R E) → tl E H1 R)
    (q : ∀ x H3, Ex H1 H3 → Kept H3 x o → Q x H3) : TCaught K CS tl H1 Q := fun R hR => ht _ R (fun z H2 eo e => hR z H2 (q .non H2 e (by rw [eo]; rfl))) (kept_go hc hR q)
def spRef (Tb : List (Addr × Str)) : Sp := fun vs H Q _ => ∃ h v d, vs = [h, v] ∧ Rep H v d ∧ d.Sz ∧ Tabs Tb H ∧ ∀ H', ExtN H H' → Tabs Tb H' → Q (.bl true) H'
theorem kept_upd {H : Hp} {x : V} {o : Out} {p : Addr} {xs ys : List V} (k : Kept H x o) (hp : H p = some (.lst xs)) : Kept (upd H p (.lst ys)) x o := by
  cases o with
  | ret z => exact k
  | exc C =>
    obtain ⟨a, h1, h2⟩ := k
    refine ⟨a, h1, (upd_ne fun z => ?_).trans h2⟩
    rw [z, hp] at h2
    have e := Option.some.inj h2
    unfold ExR at e
    cases e
theorem tabs_upd {Tb : List (Addr × Str)} {H : Hp} {p : Addr} {xs ys : List V} (t : Tabs Tb H) (hp : H p = some (.lst xs)) : Tabs Tb (upd H p (.lst ys)) := fun e he => by
  obtain ⟨ps, h1, h2, h3⟩ := t e he
  refine ⟨ps, (upd_ne fun z => ?_).trans h1, h2, fun pos cv hc => ?_⟩
  · rw [z, hp] at h1
    cases h1
  · obtain ⟨c, e1, e2⟩ := h3 pos cv hc
    refine ⟨c, e1, (upd_ne fun z => ?_).trans e2⟩
    rw [z, hp] at e2
    have e := Option.some.inj e2
    unfold CodeO at e
    cases e
section
variable {K : PySem.W.Frag} {σ : L2.St} {H : Hp} {te : TE} {x : V} {C D0 : Addr} {b : Bool}
theorem ev_isErr (h : Ev te σ H x) (k : Kept H x (.exc D0)) (EC : ExcC K D0) (hk : PySem.W.kitOne K (.ref D0) (.ref C) = some b) : Ev (tCB (rIs2 K) (tCons te (tCons (tC (.ref C)) tNil))) σ H (.bl b) := by
  obtain ⟨a, rfl, ha⟩ := k
  exact ev_cb (ea_cons h (ea_cons ev_c ea_nil)) fun H1 e Q q => .inl ⟨a, D0, C, b, rfl, e _ _ ha, EC, hk, q H1 (Ex.refl _)⟩
theorem ev_isNon {z : V} (h : Ev te σ H x) (k : Kept H x (.ret z)) (hk : PySem.W.kitOne K (.type "NoneType") (.ref C) = some b) : Ev (tCB (rIs2 K) (tCons te (tCons (tC (.ref C)) tNil))) σ H (.bl b) := by
  have e : x = .non := k
  subst e
  exact ev_cb (ea_cons h (ea_cons ev_c ea_nil)) fun H1 e Q q => .inr ⟨.non, .ref C, .type "NoneType", .ref C, b, rfl, .own C, .base .non, hk, q H1 (Ex.refl _)⟩
end
section
variable {P : Program} {w : World} {K : PySem.W.Frag} {mg : Str → Option Value} {base : Heap} (T : Txt K mg)
end
end Kx

set_option Elab.async false
set_option linter.all false
set_option maxRecDepth 100000
set_option maxHeartbeats 1000000
namespace Kx
open PySem PySem.Spec PyProof.Rows L2 Evl LamX
/-! ## a call whose arguments are all told by name; 'x' * 8 -/
section
variable {X : Cx} {CX : CXT} {k : Nat} {f : Addr} {fd : FuncData} {ps ks : List Str} {sp : Sp} {E : XK} {x : Str} {p pos : Pos} {kws : List Keyword} {tk : TA} {g : List Value → List Value → List Value} {gV : List V → List V → List V}
theorem pe_named (F : FnOk X.prog X.w X.K X.mg X.base CX k f fd ps sp) (hr : Room k X.A) (hg : Gl X x) (hm : X.mg x = some (.ref f)) (hk : PySem.W.keepIn X.K (.ref f) = true) (hb : KBinds X.K fd ps ks g gV) (hx : Passes CX X E) (hkw : PK X kws tk)
    (all : (backToKw pos (keywordEach kws X.env)).all (·.1.isSome) = true := by rfl) (eks : (backToKw pos (keywordEach kws X.env)).filterMap (·.1) = ks := by rfl) (nd : (x == ("__debug__" : Str)) = false := by decide)
    (pl : ((backTo pos (starEach [] X.env)).any (·.1) || (backToKw pos (keywordEach kws X.env)).any (·.1.isNone)) = false := by rfl) : PE X (.Call (.Name x p) [] kws pos) (tCallK sp gV E tNil tk) where
  run := fun pins s σ H Q I h => wpAny_Call_Name_kw <| ld_glob I hg hm (PySem.W.callWith_KW0 (h₀ := X.base) I.ok.mod.kin hk all (thn (hkw.run pos pins s σ H _ I h) fun ws u hu => by
    obtain ⟨zs, H2, J, rz, q⟩ := hu
    refine ⟨J.kIn, ?_⟩
    rw [eks]
    exact run_fnk F hr hb hx J .nil rz q) pl) nd
def rX8 : R2 := fun x y H Q => x = .str "x" ∧ y = .int 8 ∧ Q (.str "xxxxxxxx") H
theorem op_x8 : OpR X (binaryOp .Mult) rX8 := by
  intro pins s σ H x y v u Q I rx ry h
  obtain ⟨rfl, rfl, q⟩ := h
  obtain ⟨t, rfl⟩ := rx
  obtain ⟨t', rfl⟩ := ry
  refine PySem.P.mul_str (by decide) (fun _ _ => by decide) (fun _ _ => by decide) ?_
  exact ⟨by decide, .str "xxxxxxxx", H, I.tok _, ⟨_, rfl⟩, q⟩
theorem rv_x8 {H : Hp} : RV rX8 (.str "x") (.int 8) H (.str "xxxxxxxx") := fun H1 e Q q => ⟨rfl, rfl, q H1 (Ex.refl _)⟩
end
section
variable {σ : L2.St} {H : Hp} {ta : TA} {z : V} {ok : OkO} {vs : List V} {E : XK}
/-- a call that gives a value, of a def that may raise -/
theorem ev_callO (h : EvA ta σ H vs) (hk : ∀ H1, Ex H H1 → ok vs H1 (.ret z)) : Ev (tCall (spO ok) [] E ta) σ H z := fun H1 e Q q => h H1 e _ fun H2 e2 => by
  rw [List.append_nil]
  exact ⟨.ret z, hk H2 (e.trans e2), fun H3 e3 => q H3 (e2.trans e3)⟩
theorem ev_callOK {gV : List V → List V → List V} {zs : List V} (h : EvA ta σ H zs) (hk : ∀ H1, Ex H H1 → ok (gV [] zs) H1 (.ret z)) : Ev (tCallK (spO ok) gV E tNil ta) σ H z := fun H1 e Q q => h H1 e _ fun H2 e2 =>
  ⟨.ret z, hk H2 (e.trans e2), fun H3 e3 => q H3 (e2.trans e3)⟩
end
/-- building, side, door as they are told, in the order of the parameters -/
def g3 {α : Type} (us ws : List α) : List α := match us, ws with
  | [], [a, b, c] => [a, c, b]
  | _, _ => []
def g1 {α : Type} (us ws : List α) : List α := match us, ws with
  | [], [a] => [a]
  | _, _ => []
section
variable {K : PySem.W.Frag} {mg : Str → Option Value}
theorem kb_is_building (T : Txt K mg) : KBinds K T.d_is_building ["value"] ["value"] g1 g1 where
  to := fun s us ws X hl => by
    obtain ⟨oc, od, kV, doc, pm, an, cdv, ct, osl, ed, lk, hcd⟩ := T.F_is_building.ex
    rw [ed]
    match us, ws, hl with
    | [], [a], _ => exact .of_eq rfl
  rel := fun {vs us zs ws} r rz => by
    cases r with
    | nil => cases rz with
      | nil => exact .nil
      | cons r1 rz => cases rz with
        | nil => exact .cons r1 .nil
        | cons _ _ => exact .nil
    | cons _ _ => exact .nil
end
end Kx

set_option Elab.async false
set_option linter.all false
set_option maxRecDepth 100000
set_option maxHeartbeats 400000
namespace Kx
open PySem PySem.Spec PyProof.Rows L2 Evl
/-! ## data that lie apart from what is being written -/
open Classical in
/-- the heap without the addresses of S -/
noncomputable def hidP (S : Addr → Prop) (H : Hp) : Hp := fun a => if S a then none else H a
theorem hidP_at {S : Addr → Prop} {H : Hp} {a : Addr} {o : HO} (h : H a = some o) (n : ¬ S a) : hidP S H a = some o := by
  unfold hidP
  rw [if_neg n]
  exact h
theorem hidP_get {S : Addr → Prop} {H : Hp} {a : Addr} {o : HO} (h : hidP S H a = some o) : H a = some o ∧ ¬ S a := by
  unfold hidP at h
  split at h
  · cases h
  · rename_i n
    exact ⟨h, n⟩
theorem hidP_ex {S : Addr → Prop} {H H' : Hp} (e : Ex H H') : Ex (hidP S H) (hidP S H') := fun a o h => by
  obtain ⟨h1, h2⟩ := hidP_get h
  exact hidP_at (e a o h1) h2
theorem hidP_sub {S : Addr → Prop} {H : Hp} : Ex (hidP S H) H := fun a o h => (hidP_get h).1
theorem hidP_less {S S' : Addr → Prop} {H : Hp} (h : ∀ a, S a → S' a) : Ex (hidP S' H) (hidP S H) := fun a o e => by
  obtain ⟨h1, h2⟩ := hidP_get e
  exact hidP_at h1 fun z => h2 (h a z)
theorem hidP_mut {S : Addr → Prop} {H : Hp} {a : Addr} {o : HO} (h : S a) : Ex (hidP S H) (hidP S (upd H a o)) := fun b u e => by
  obtain ⟨h1, h2⟩ := hidP_get e
  exact hidP_at ((upd_ne fun z => h2 (by rw [z]; exact h)).trans h1) h2
def also (S : Addr → Prop) (l : Addr) : Addr → Prop := fun a => S a ∨ a = l
theorem hidP_also {S : Addr → Prop} {H : Hp} {l : Addr} (h : H l = none) : Ex (hidP S H) (hidP (also S l) H) := fun a o e => by
  obtain ⟨h1, h2⟩ := hidP_get e
  refine hidP_at h1 fun z => z.elim h2 fun z => ?_
  rw [z, h] at h1
  cases h1
/-- S lies in the heap: what is new is not of it -/
def InS (S : Addr → Prop) (H : Hp) : Prop := ∀ a, S a → H a ≠ none
theorem InS.up {S : Addr → Prop} {H H' : Hp} (i : InS S H) (e : Ex H H') : InS S H' := fun a h n => by
  cases z : H a with
  | none => exact i a h z
  | some o => rw [e a o z] at n; cases n
theorem InS.new {S : Addr → Prop} {H : Hp} {l : Addr} (i : InS S H) (h : H l = none) : ¬ S l := fun z => i l z h
theorem InS.mut {S : Addr → Prop} {H : Hp} {l : Addr} {o : HO} (i : InS S H) : InS S (upd H l o) := fun a h n => by
  by_cases e : a = l
  · rw [e, upd_same] at n; cases n
  · rw [upd_ne e] at n; exact i a h n
abbrev RepS (S : Addr → Prop) (H : Hp) (v : V) (d : D) : Prop := Rep (hidP S H) v d
abbrev RepsS (S : Addr → Prop) (H : Hp) (vs : List V) (ds : List D) : Prop := Reps (hidP S H) vs ds
theorem reps_and {H : Hp} : ∀ {xs ys : List V} {ds es : List D}, Reps H xs ds → Reps H ys es → Reps H (xs ++ ys) (ds ++ es)
  | _, _, _, _, .nil, r => r
  | _, _, _, _, .cons a b, r => .cons a (reps_and b r)
theorem reps_up {H H' : Hp} {vs : List V} {ds : List D} (r : Reps H vs ds) (e : Ex H H') : Reps H' vs ds := r.up e
/-- te gives a value that stands for d, apart from S -/
def EvS (S : Addr → Prop) (te : TE) (σ : L2.St) (H : Hp) (d : D) : Prop := ∀ H1, Ex H H1 → ∀ Q : VK, (∀ v H2, Ex H1 H2 → RepS S H2 v d → Q v H2) → te σ H1 Q
def EvAS (S : Addr → Prop) (ta : TA) (σ : L2.St) (H : Hp) (ds : List D) : Prop := ∀ H1, Ex H H1 → ∀ Q : List V → Hp → Prop, (∀ vs H2, Ex H1 H2 → RepsS S H2 vs ds → Q vs H2) → ta σ H1 Q
/-- the turns of a loop yield the data ds -/
def ItS (S : Addr → Prop) (wi : TI) (σ : L2.St) (H : Hp) (ds : List D) : Prop := ∀ H1, Ex H H1 → ∀ R : It → Hp → Prop, (∀ J H2, Ex H1 H2 →
  (∀ i H', Ex (hidP S H2) (hidP S H') → (∀ d, ds[i]? = some d → J.go i H' ∧ ∀ x H'', J.yld i H' x H'' → H'' = H' ∧ Rep (hidP S H2) x d) ∧ (ds.length ≤ i → J.stop i H')) → R J H2) → wi σ H1 R
section
variable {K : PySem.W.Frag} {S : Addr → Prop} {σ : L2.St} {H H' : Hp} {ta tr : TA} {te tl tb : TE} {v : V} {d : D} {ds es : List D}
theorem EvS.mono (h : EvS S te σ H d) (e : Ex H H') : EvS S te σ H' d := fun H1 e1 Q q => h H1 (e.trans e1) Q q
theorem es_of (h : Ev te σ H v) (r : RepS S H v d) : EvS S te σ H d := fun H1 e Q q => h H1 e _ fun H2 e2 => q v H2 e2 (r.up (hidP_ex (e.trans e2)))
theorem eas_nil : EvAS S tNil σ H [] := fun H1 _ _ q => q [] H1 (Ex.refl _) .nil
theorem eas_cons (h : EvS S te σ H d) (hr : EvAS S tr σ H ds) : EvAS S (tCons te tr) σ H (d :: ds) := fun H1 e Q q =>
  h H1 e _ fun v H2 e2 r => hr H2 (e.trans e2) _ fun vs H3 e3 rs => q (v :: vs) H3 (e2.trans e3) (.cons (r.up (hidP_ex e3)) rs)
theorem es_tup (i : InS S H) (h : EvAS S ta σ H ds) (hz : ds.length ≤ 100000) : EvS S (tTupF ta) σ H (.tup ds) := fun H1 e Q q =>
  h H1 e _ fun vs H2 e2 rs => ⟨by rw [rs.length]; exact sz_of hz, fun p o hp ho => by
    have n := (i.up (e.trans e2)).new hp
    exact q (.ref p) _ (e2.trans (Ex.new hp)) (.tup ⟨o, ho, hidP_at upd_same n⟩ (rs.up (hidP_ex (Ex.new hp))))⟩
theorem es_lst (i : InS S H) (h : EvAS S ta σ H ds) (hz : ds.length ≤ 100000) : EvS S (tLst ta) σ H (.lst ds) := fun H1 e Q q =>
  h H1 e _ fun vs H2 e2 rs => ⟨by rw [rs.length]; exact sz_of hz, fun p hp => by
    have n := (i.up (e.trans e2)).new hp
    exact q (.ref p) _ (e2.trans (Ex.new hp)) (.lst (hidP_at upd_same n) (rs.up (hidP_ex (Ex.new hp))))⟩
theorem its_list (h : EvS S tl σ H (.lst ds)) : ItS S (iList K tl) σ H ds := fun H1 e R r => h H1 e _ fun v H2 e2 rep => by
  cases rep with
  | @lst a vs _ ha rs =>
    have at_ : ∀ {H' : Hp}, Ex (hidP S H2) (hidP S H') → SqL K H' a vs := fun e3 => .of (hidP_get (e3 _ _ ha)).1
    refine ⟨a, rfl, ⟨vs, at_ (Ex.refl _)⟩, r _ H2 e2 fun i H' e3 => ⟨fun d hd => ?_, fun le => ⟨vs, at_ e3, by rw [rs.length]; exact le⟩⟩⟩
    have lt : i < vs.length := by
      have := (List.getElem?_eq_some_iff.mp hd).1
      rw [rs.length]
      exact this
    refine ⟨⟨vs, vs[i], at_ e3, List.getElem?_eq_getElem lt⟩, fun x H'' y => ⟨y.1, ?_⟩⟩
    obtain ⟨d2, h2, r2⟩ := rs.get (y.2 vs (at_ e3))
    rw [hd] at h2
    cases h2
    exact r2
theorem its_tup (h : EvS S tl σ H (.tup ds)) : ItS S (iTup K tl) σ H ds := fun H1 e R r => h H1 e _ fun v H2 e2 rep => by
  obtain ⟨a, vs, rfl, ha, rs⟩ := rep.tupD
  have at_ : ∀ {H' : Hp}, Ex (hidP S H2) (hidP S H') → SqT K H' a vs := fun e3 => ((ha.up e3).up hidP_sub).sq
  refine ⟨a, rfl, ⟨vs, at_ (Ex.refl _)⟩, r _ H2 e2 fun i H' e3 => ⟨fun d hd => ?_, fun le => ⟨vs, at_ e3, by rw [rs.length]; exact le⟩⟩⟩
  have lt : i < vs.length := by
    have := (List.getElem?_eq_some_iff.mp hd).1
    rw [rs.length]
    exact this
  refine ⟨⟨vs, vs[i], at_ e3, List.getElem?_eq_getElem lt⟩, fun x H'' y => ⟨y.1, ?_⟩⟩
  obtain ⟨d2, h2, r2⟩ := rs.get (y.2 vs (at_ e3))
  rw [hd] at h2
  cases h2
  exact r2
/-- [te for g in wi if tt], by what it stands for -/
theorem lcS {wi : TI} {g : TG} {tt : TT} {own : List Nat} (p : D → Bool) (f : D → D) (hin : InS S H) (h : ItS S wi σ H ds) (hz : ds.length ≤ 100000)
    (each : ∀ (S' : Addr → Prop) (x : V) (d : D) (H1 : Hp), d ∈ ds → InS S' H1 → Ex H H1 → Ex (hidP S H) (hidP S' H1) → RepS S' H1 x d →
      ∃ σ2, (∀ Q : L2.St → Hp → Prop, Q σ2 H1 → g x (wipe σ own) H1 Q) ∧ wipe σ2 own = wipe σ own ∧ EvT tt σ2 H1 (p d) ∧ (p d = true → EvS S' te σ2 H1 (f d))) :
    EvS S (tLc wi g tt te own) σ H (.lst ((ds.filter p).map f)) := fun H1 e Q q => h H1 e _ fun J H2 e2 turn l fl => by
  have n := (hin.up (e.trans e2)).new fl
  refine ⟨fun i m H' => m = ds.length - i ∧ i ≤ ds.length ∧ Ex H2 H' ∧ ∃ acc, H' l = some (.lst acc) ∧ RepsS (also S l) H' acc (((ds.take i).filter p).map f), ⟨ds.length, rfl, Nat.zero_le _, Ex.new fl, [], upd_same, .nil⟩, ?_⟩
  rintro i m H' ⟨rfl, hi, e3, acc, hl, ra⟩
  obtain ⟨t1, t2⟩ := turn i H' (hidP_ex e3)
  have E := (e.trans e2).trans e3
  by_cases lt : i < ds.length
  · have hd : ds[i]? = some ds[i] := List.getElem?_eq_getElem lt
    obtain ⟨go, yl⟩ := t1 _ hd
    refine .inr ⟨go, fun H' => i + 1 ≤ ds.length ∧ Ex H2 H' ∧ ∃ acc, H' l = some (.lst acc) ∧ RepsS (also S l) H' acc (((ds.take (i + 1)).filter p).map f), fun H' w => ⟨_, by omega, rfl, w.1, w.2⟩, fun x H'' y => ?_⟩
    obtain ⟨rfl, rx⟩ := yl x H'' y
    have inA : InS (also S l) H'' := fun a ha z => ha.elim (fun s => (hin.up E) a s z) fun s => by rw [s, hl] at z; cases z
    have lift : Ex (hidP S H2) (hidP (also S l) H'') := (hidP_also fl).trans (hidP_ex e3)
    obtain ⟨σ2, hg, hw, ht, he⟩ := each (also S l) x ds[i] H'' (List.getElem_mem lt) inA E ((hidP_ex (e.trans e2)).trans lift) (rx.up lift)
    refine hg _ ⟨hw, ht H'' (Ex.refl _) _ fun H4 e4 => ?_⟩
    have tk : ds.take (i + 1) = ds.take i ++ [ds[i]] := by rw [List.take_add_one, hd]; rfl
    cases hp : p ds[i] with
    | false =>
      show (if false = true then _ else _)
      rw [if_neg Bool.false_ne_true]
      refine ⟨lt, e3.trans e4, acc, e4 _ _ hl, ?_⟩
      rw [tk, List.filter_append, List.filter_cons_of_neg (by rw [hp]; decide), List.filter_nil, List.append_nil]
      exact ra.up (hidP_ex e4)
    | true =>
      show (if true = true then _ else _)
      rw [if_pos rfl]
      refine he hp H4 e4 _ fun y H5 e5 ry => ⟨acc, e5 _ _ (e4 _ _ hl), ?_, lt, ((e3.trans e4).trans e5).mut fl, acc ++ [y], upd_same, ?_⟩
      · rw [ra.length, List.length_map]
        refine sz_lt (Nat.lt_of_le_of_lt (List.length_filter_le _ _) ?_)
        rw [List.length_take]
        omega
      · rw [tk, List.filter_append, List.filter_cons_of_pos hp, List.filter_nil, List.map_append]
        have a1 := (ra.up (hidP_ex (e4.trans e5))).up (hidP_mut (o := .lst (acc ++ [y])) (show also S l l from .inr rfl))
        exact reps_and a1 (.cons (ry.up (hidP_mut (show also S l l from .inr rfl))) .nil)
  · refine .inl ⟨t2 (by omega), q (.ref l) H' (e2.trans e3) (.lst (hidP_at hl n) ?_)⟩
    rw [List.take_of_length_le (by omega)] at ra
    exact ra.up (hidP_less fun a h => .inl h)
theorem filt_lt {α : Type} {xs : List α} {p : α → Bool} {i : Nat} {e : α} (h : xs[i]? = some e) (hp : p e = true) : ((xs.take i).filter p).length < (xs.filter p).length := by
  obtain ⟨lt, rfl⟩ := List.getElem?_eq_some_iff.mp h
  have e := List.take_append_drop i xs
  rw [List.drop_eq_getElem_cons lt] at e
  have e2 := congrArg (fun l => (l.filter p).length) e
  simp only [List.filter_append, List.length_append, List.filter_cons_of_pos hp, List.length_cons] at e2
  omega
theorem flat_le {α β : Type} {xs : List α} {p : α → Bool} {G : α → List β} {i : Nat} {e : α} (h : xs[i]? = some e) (hp : p e = true) : (((xs.take i).filter p).flatMap G).length + (G e).length ≤ ((xs.filter p).flatMap G).length := by
  obtain ⟨lt, rfl⟩ := List.getElem?_eq_some_iff.mp h
  have e := List.take_append_drop i xs
  rw [List.drop_eq_getElem_cons lt] at e
  have e2 := congrArg (fun l => ((l.filter p).flatMap G).length) e
  simp only [List.filter_append, List.flatMap_append, List.length_append, List.filter_cons_of_pos hp, List.flatMap_cons] at e2
  omega
/-- [te for g in wi if tt for g1 in wi1 if tt1], by what it stands for -/
theorem lc2S {wi wi1 : TI} {g g1 : TG} {tt tt1 : TT} {own vs1 : List Nat} (p : D → Bool) (es : D → List D) (q : D → D → Bool) (f : D → D → D) (hin : InS S H) (h : ItS S wi σ H ds) (hz : ((ds.filter p).flatMap fun d => ((es d).filter (q d)).map (f d)).length ≤ 100000)
    (each : ∀ (S' : Addr → Prop) (x : V) (d : D) (H1 : Hp), d ∈ ds → InS S' H1 → Ex H H1 → Ex (hidP S H) (hidP S' H1) → RepS S' H1 x d →
      ∃ σ2, (∀ Q : L2.St → Hp → Prop, Q σ2 H1 → g x (wipe σ own) H1 Q) ∧ wipe σ2 own = wipe σ own ∧ EvT tt σ2 H1 (p d) ∧ (p d = true → ItS S' wi1 σ2 H1 (es d) ∧
        ∀ (y : V) (e : D) (H5 : Hp), e ∈ es d → InS S' H5 → Ex H H5 → Ex (hidP S' H1) (hidP S' H5) → RepS S' H5 y e → ∃ σ3, (∀ Q : L2.St → Hp → Prop, Q σ3 H5 → g1 y (wipe σ2 vs1) H5 Q) ∧ wipe σ3 vs1 = wipe σ2 vs1 ∧ EvT tt1 σ3 H5 (q d e) ∧ (q d e = true → EvS S' te σ3 H5 (f d e)))) :
    EvS S (tLc2 wi g tt wi1 g1 tt1 te own vs1) σ H (.lst ((ds.filter p).flatMap fun d => ((es d).filter (q d)).map (f d))) := fun H1 e Q q0 => h H1 e _ fun J H2 e2 turn l fl => by
  have n := (hin.up (e.trans e2)).new fl
  let G : D → List D := fun d => ((es d).filter (q d)).map (f d)
  refine ⟨fun i m H' => m = ds.length - i ∧ i ≤ ds.length ∧ Ex H2 H' ∧ ∃ acc, H' l = some (.lst acc) ∧ RepsS (also S l) H' acc (((ds.take i).filter p).flatMap G), ⟨ds.length, rfl, Nat.zero_le _, Ex.new fl, [], upd_same, .nil⟩, ?_⟩
  rintro i m H' ⟨rfl, hi, e3, acc, hl, ra⟩
  obtain ⟨t1, t2⟩ := turn i H' (hidP_ex e3)
  have E := (e.trans e2).trans e3
  by_cases lt : i < ds.length
  · have hd : ds[i]? = some ds[i] := List.getElem?_eq_getElem lt
    obtain ⟨go, yl⟩ := t1 _ hd
    refine .inr ⟨go, fun H' => i + 1 ≤ ds.length ∧ Ex H2 H' ∧ ∃ acc, H' l = some (.lst acc) ∧ RepsS (also S l) H' acc (((ds.take (i + 1)).filter p).flatMap G), fun H' w => ⟨_, by omega, rfl, w.1, w.2⟩, fun x H'' y => ?_⟩
    obtain ⟨rfl, rx⟩ := yl x H'' y
    have inA : ∀ {H' : Hp} {ac : List V}, Ex H2 H' → H' l = some (.lst ac) → InS (also S l) H' := fun {H' ac} e3 hl a ha z => ha.elim (fun s => (hin.up ((e.trans e2).trans e3)) a s z) fun s => by rw [s, hl] at z; cases z
    have lift : Ex (hidP S H2) (hidP (also S l) H'') := (hidP_also fl).trans (hidP_ex e3)
    obtain ⟨σ2, hg, hw, ht, he⟩ := each (also S l) x ds[i] H'' (List.getElem_mem lt) (inA e3 hl) E ((hidP_ex (e.trans e2)).trans lift) (rx.up lift)
    have tk : ds.take (i + 1) = ds.take i ++ [ds[i]] := by rw [List.take_add_one, hd]; rfl
    refine hg _ ⟨hw, ht H'' (Ex.refl _) _ fun H4 e4 => ?_⟩
    cases hp : p ds[i] with
    | false =>
      show (if false = true then _ else _)
      rw [if_neg Bool.false_ne_true]
      refine ⟨lt, e3.trans e4, acc, e4 _ _ hl, ?_⟩
      rw [tk, List.filter_append, List.filter_cons_of_neg (by rw [hp]; decide), List.filter_nil, List.append_nil]
      exact ra.up (hidP_ex e4)
    | true =>
      show (if true = true then _ else _)
      rw [if_pos rfl]
      obtain ⟨it1, each2⟩ := he hp
      have tot := flat_le (G := G) hd hp
      refine it1 H4 e4 _ fun J1 H5 e5 turn1 => ?_
      have base : ∀ {H' : Hp}, Ex (hidP (also S l) H5) (hidP (also S l) H') → Ex (hidP (also S l) H'') (hidP (also S l) H') := fun h => (hidP_ex (e4.trans e5)).trans h
      refine ⟨fun j k H' => k = (es ds[i]).length - j ∧ j ≤ (es ds[i]).length ∧ Ex H2 H' ∧ Ex (hidP (also S l) H5) (hidP (also S l) H') ∧ ∃ acc, H' l = some (.lst acc) ∧ RepsS (also S l) H' acc (((ds.take i).filter p).flatMap G ++ (((es ds[i]).take j).filter (q ds[i])).map (f ds[i])), ⟨_, rfl, Nat.zero_le _, (e3.trans e4).trans e5, Ex.refl _, acc, e5 _ _ (e4 _ _ hl), ?_⟩, ?_⟩
      · rw [List.take_zero, List.filter_nil, List.map_nil, List.append_nil]
        exact ra.up (hidP_ex (e4.trans e5))
      rintro j k H6 ⟨rfl, hj, e6, x6, ac, hl6, ra6⟩
      obtain ⟨u1, u2⟩ := turn1 j H6 x6
      by_cases lj : j < (es ds[i]).length
      · have hd1 : (es ds[i])[j]? = some (es ds[i])[j] := List.getElem?_eq_getElem lj
        obtain ⟨go1, yl1⟩ := u1 _ hd1
        refine .inr ⟨go1, fun H' => j + 1 ≤ (es ds[i]).length ∧ Ex H2 H' ∧ Ex (hidP (also S l) H5) (hidP (also S l) H') ∧ ∃ acc, H' l = some (.lst acc) ∧ RepsS (also S l) H' acc (((ds.take i).filter p).flatMap G ++ (((es ds[i]).take (j + 1)).filter (q ds[i])).map (f ds[i])), fun H' w => ⟨_, by omega, rfl, w.1, w.2⟩, fun x1 H7 y1 => ?_⟩
        obtain ⟨rfl, rx1⟩ := yl1 x1 H7 y1
        obtain ⟨σ3, hg1, hw1, ht1, he1⟩ := each2 x1 _ H7 (List.getElem_mem lj) (inA e6 hl6) ((e.trans e2).trans e6) (base x6) (rx1.up x6)
        have tk1 : (es ds[i]).take (j + 1) = (es ds[i]).take j ++ [(es ds[i])[j]] := by rw [List.take_add_one, hd1]; rfl
        refine hg1 _ ⟨hw1, ht1 H7 (Ex.refl _) _ fun H8 e8 => ?_⟩
        cases hq : q ds[i] (es ds[i])[j] with
        | false =>
          show (if false = true then _ else _)
          rw [if_neg Bool.false_ne_true]
          refine ⟨lj, e6.trans e8, x6.trans (hidP_ex e8), ac, e8 _ _ hl6, ?_⟩
          rw [tk1, List.filter_append, List.filter_cons_of_neg (by rw [hq]; decide), List.filter_nil, List.append_nil]
          exact ra6.up (hidP_ex e8)
        | true =>
          show (if true = true then _ else _)
          rw [if_pos rfl]
          have ll := filt_lt (p := q ds[i]) hd1 hq
          refine he1 hq H8 e8 _ fun y H9 e9 ry => ⟨ac, e9 _ _ (e8 _ _ hl6), ?_, lj, ((e6.trans e8).trans e9).mut fl, (x6.trans (hidP_ex (e8.trans e9))).trans (hidP_mut (show also S l l from .inr rfl)), ac ++ [y], upd_same, ?_⟩
          · rw [ra6.length, List.length_append, List.length_map]
            refine sz_lt (Nat.lt_of_lt_of_le (m := (((ds.take i).filter p).flatMap G).length + (G ds[i]).length) ?_ (Nat.le_trans tot hz))
            show _ < _ + (((es ds[i]).filter (q ds[i])).map (f ds[i])).length
            rw [List.length_map]
            omega
          · rw [tk1, List.filter_append, List.filter_cons_of_pos hq, List.filter_nil, List.map_append, ← List.append_assoc]
            have a1 := (ra6.up (hidP_ex (e8.trans e9))).up (hidP_mut (o := .lst (ac ++ [y])) (show also S l l from .inr rfl))
            exact reps_and a1 (.cons (ry.up (hidP_mut (show also S l l from .inr rfl))) .nil)
      · refine .inl ⟨u2 (by omega), lt, e6, ac, hl6, ?_⟩
        rw [show (es ds[i]).take j = es ds[i] from List.take_of_length_le (by omega)] at ra6
        rw [tk, List.filter_append, List.filter_cons_of_pos hp, List.filter_nil, List.flatMap_append, List.flatMap_cons, List.flatMap_nil, List.append_nil]
        exact ra6
  · refine .inl ⟨t2 (by omega), q0 (.ref l) H' (e2.trans e3) (.lst (hidP_at hl n) ?_)⟩
    rw [List.take_of_length_le (by omega)] at ra
    exact ra.up (hidP_less fun a h => .inl h)
end
end Kx

set_option linter.all false
namespace Mg
/-! # as many ways without a common door as the least cut has doors -/
/-! ## sums -/
def sm : Nat → (Nat → Int) → Int
  | 0, _ => 0
  | m + 1, g => sm m g + g m
theorem sm_congr {g h : Nat → Int} : ∀ {m : Nat}, (∀ i, i < m → g i = h i) → sm m g = sm m h
  | 0, _ => rfl
  | m + 1, e => by
    show sm m g + g m = sm m h + h m
    rw [sm_congr fun i hi => e i (by omega), e m (by omega)]
theorem sm_add (g h : Nat → Int) : ∀ m, sm m (fun i => g i + h i) = sm m g + sm m h
  | 0 => rfl
  | m + 1 => by
    show sm m (fun i => g i + h i) + (g m + h m) = (sm m g + g m) + (sm m h + h m)
    rw [sm_add g h m]
    omega
theorem sm_zero {g : Nat → Int} : ∀ {m : Nat}, (∀ i, i < m → g i = 0) → sm m g = 0
  | 0, _ => rfl
  | m + 1, e => by
    show sm m g + g m = 0
    rw [sm_zero fun i hi => e i (by omega), e m (by omega)]
    rfl
theorem sm_le {g : Nat → Int} : ∀ {m : Nat}, (∀ i, i < m → g i ≤ 0) → sm m g ≤ 0
  | 0, _ => Int.le_refl 0
  | m + 1, e => by
    show sm m g + g m ≤ 0
    have a := sm_le (m := m) fun i hi => e i (by omega)
    have b := e m (by omega)
    omega
theorem sm_swap (g : Nat → Nat → Int) (b : Nat) : ∀ a, sm a (fun x => sm b (g x)) = sm b (fun i => sm a (fun x => g x i))
  | 0 => (sm_zero fun i _ => rfl).symm
  | a + 1 => by
    show sm a (fun x => sm b (g x)) + sm b (g a) = sm b (fun i => sm a (fun x => g x i) + g a i)
    rw [sm_swap g b a, sm_add]
theorem sm_one {m k : Nat} (c : Int) (h : k < m) : sm m (fun i => if i = k then c else 0) = c := by
  induction m with
  | zero => omega
  | succ m ih =>
    show sm m (fun i => if i = k then c else 0) + (if m = k then c else 0) = c
    by_cases e : m = k
    · rw [if_pos e, sm_zero fun i hi => if_neg (by omega)]
      omega
    · rw [if_neg e, ih (by omega)]
      omega
theorem sm_filter (p : Nat → Bool) : ∀ m, sm m (fun i => if p i = true then 1 else 0) = (((List.range m).filter p).length : Int)
  | 0 => rfl
  | m + 1 => by
    show sm m (fun i => if p i = true then 1 else 0) + (if p m = true then 1 else 0) = _
    rw [sm_filter p m, List.range_succ, List.filter_append, List.length_append]
    by_cases h : p m = true
    · rw [if_pos h, List.filter_cons_of_pos h]
      show _ = ((_ + 1 : Nat) : Int)
      omega
    · rw [if_neg h, List.filter_cons_of_neg h]
      show _ = ((_ + 0 : Nat) : Int)
      omega
/-! ## walks -/
inductive Pa (st : Nat → Nat → Nat → Prop) (s : Nat) : List Nat → List Nat → Prop
  | nil : Pa st s [] [s]
  | snoc {es vs : List Nat} {x y i : Nat} : Pa st s es (x :: vs) → st i x y → y ∉ x :: vs → Pa st s (i :: es) (y :: x :: vs)
theorem Pa.back {st : Nat → Nat → Nat → Prop} {s y : Nat} {es vs : List Nat} (p : Pa st s es vs) (h : y ∈ vs) : ∃ es' vs', Pa st s es' (y :: vs') := by
  induction p with
  | nil =>
    rw [List.mem_singleton.mp h]
    exact ⟨[], [], .nil⟩
  | snoc p hs hn ih =>
    rcases List.mem_cons.mp h with rfl | h
    · exact ⟨_, _, .snoc p hs hn⟩
    · exact ih h
theorem Pa.mono {st su : Nat → Nat → Nat → Prop} {s : Nat} {es vs : List Nat} (p : Pa st s es vs) (h : ∀ i x y, i ∈ es → st i x y → su i x y) : Pa su s es vs := by
  induction p with
  | nil => exact .nil
  | snoc p hs hn ih => exact .snoc (ih fun i x y hi => h i x y (List.mem_cons_of_mem _ hi)) (h _ _ _ List.mem_cons_self hs) hn
theorem Pa.all {st : Nat → Nat → Nat → Prop} {s : Nat} {es vs : List Nat} (p : Pa st s es vs) : ∀ i ∈ es, ∃ x y, st i x y := by
  induction p with
  | nil => intro i h; cases h
  | snoc p hs hn ih =>
    intro i h
    rcases List.mem_cons.mp h with rfl | h
    · exact ⟨_, _, hs⟩
    · exact ih i h
def Reach (st : Nat → Nat → Nat → Prop) (s x : Nat) : Prop := ∃ es vs, Pa st s es (x :: vs)
theorem Reach.go {st : Nat → Nat → Nat → Prop} {s x y i : Nat} (r : Reach st s x) (h : st i x y) : Reach st s y := by
  obtain ⟨es, vs, p⟩ := r
  by_cases m : y ∈ x :: vs
  · exact p.back m
  · exact ⟨_, _, .snoc p h m⟩
section
variable (m n : Nat) (u v : Nat → Nat)
/-- the doors as steps, both ways -/
def St (i x y : Nat) : Prop := i < m ∧ ((u i = x ∧ v i = y) ∨ (v i = x ∧ u i = y))
def ind (p : Prop) [Decidable p] : Int := if p then 1 else 0
def net (f : Nat → Int) (z : Nat) : Int := sm m fun i => f i * (ind (u i = z) - ind (v i = z))
def bi (b : Bool) : Int := if b = true then 1 else 0
variable {m n u v}
theorem Pa.ends {st : Nat → Nat → Nat → Prop} {s : Nat} {es vs : List Nat} (hst : ∀ i x y, st i x y → St m u v i x y) (p : Pa st s es vs) : ∀ i ∈ es, u i ∈ vs ∧ v i ∈ vs := by
  induction p with
  | nil => intro i h; cases h
  | snoc p hs hn ih =>
    intro i h
    rcases List.mem_cons.mp h with rfl | h
    · rcases (hst _ _ _ hs).2 with ⟨a, b⟩ | ⟨a, b⟩
      · rw [a, b]; exact ⟨List.mem_cons_of_mem _ List.mem_cons_self, List.mem_cons_self⟩
      · rw [a, b]; exact ⟨List.mem_cons_self, List.mem_cons_of_mem _ List.mem_cons_self⟩
    · exact ⟨List.mem_cons_of_mem _ (ih i h).1, List.mem_cons_of_mem _ (ih i h).2⟩
theorem Pa.new {st : Nat → Nat → Nat → Prop} {s x y i : Nat} {es vs : List Nat} (hst : ∀ i x y, st i x y → St m u v i x y) (p : Pa st s es (x :: vs)) (hs : st i x y) (hn : y ∉ x :: vs) : i ∉ es := fun h => by
  have e := p.ends hst i h
  rcases (hst _ _ _ hs).2 with ⟨a, b⟩ | ⟨a, b⟩
  · rw [b] at e; exact hn e.2
  · rw [b] at e; exact hn e.1
theorem net_push (huv : ∀ i, i < m → u i ≠ v i) (f : Nat → Int) {i x y : Nat} (c : Int) (hs : St m u v i x y) (z : Nat) :
    net m u v (fun j => if j = i then f i + c * (if u i = x then 1 else -1) else f j) z = net m u v f z + c * (ind (x = z) - ind (y = z)) := by
  unfold net
  have e : sm m (fun j => (if j = i then f i + c * (if u i = x then 1 else -1) else f j) * (ind (u j = z) - ind (v j = z))) = sm m (fun j => f j * (ind (u j = z) - ind (v j = z)) + (if j = i then c * (ind (x = z) - ind (y = z)) else 0)) := by
    refine sm_congr fun j _ => ?_
    by_cases h : j = i
    · subst h
      rw [if_pos rfl, if_pos rfl, Int.add_mul]
      congr 1
      rcases hs.2 with ⟨a, b⟩ | ⟨a, b⟩
      · rw [if_pos a, a, b, Int.mul_one]
      · have ne := huv j hs.1
        rw [if_neg (by rw [a] at ne; exact ne), a, b, Int.mul_assoc]
        congr 1
        omega
    · rw [if_neg h, if_neg h, Int.add_zero]
  rw [e, sm_add, sm_one _ hs.1]
theorem push (huv : ∀ i, i < m → u i ≠ v i) {st : Nat → Nat → Nat → Prop} {s : Nat} (hst : ∀ i x y, st i x y → St m u v i x y) (f : Nat → Int) (c : Int) {es ws : List Nat} (p : Pa st s es ws) :
    ∀ {y : Nat} {vs : List Nat}, ws = y :: vs → ∃ f' : Nat → Int, (∀ i, i ∉ es → f' i = f i) ∧ (∀ i, i ∈ es → ∃ x y, st i x y ∧ f' i = f i + c * (if u i = x then 1 else -1)) ∧ ∀ z, net m u v f' z = net m u v f z + c * (ind (s = z) - ind (y = z)) := by
  induction p with
  | nil =>
    intro y vs e
    injection e with e1 e2
    subst e1
    exact ⟨f, fun _ _ => rfl, fun i h => (by cases h), fun z => by rw [Int.sub_self, Int.mul_zero, Int.add_zero]⟩
  | @snoc es vs0 x y0 i p hs hn ih =>
    intro y vs e
    injection e with e1 e2
    subst e1
    obtain ⟨f1, h1, h2, h3⟩ := ih rfl
    have hi := p.new hst hs hn
    refine ⟨fun j => if j = i then f1 i + c * (if u i = x then 1 else -1) else f1 j, fun j hj => ?_, fun j hj => ?_, fun z => ?_⟩
    · have n1 : j ≠ i := fun z => hj (z ▸ List.mem_cons_self)
      show (if j = i then _ else f1 j) = f j
      rw [if_neg n1]
      exact h1 j fun z => hj (List.mem_cons_of_mem _ z)
    · by_cases ji : j = i
      · subst ji
        refine ⟨x, y0, hs, ?_⟩
        show (if j = j then f1 j + c * (if u j = x then 1 else -1) else f1 j) = _
        rw [if_pos rfl, h1 j hi]
      · obtain ⟨x1, y1, a, b⟩ := h2 j ((List.mem_cons.mp hj).resolve_left ji)
        refine ⟨x1, y1, a, ?_⟩
        show (if j = i then _ else f1 j) = _
        rw [if_neg ji, b]
    · rw [net_push huv f1 c (hst _ _ _ hs) z, h3 z, Int.mul_sub, Int.mul_sub, Int.mul_sub]
      omega
/-! ## what leaves a lot of places -/
theorem net_lot (hn : ∀ i, i < m → u i < n ∧ v i < n) (f : Nat → Int) (S : Nat → Bool) : sm n (fun x => bi (S x) * net m u v f x) = sm m (fun i => f i * (bi (S (u i)) - bi (S (v i)))) := by
  have sm_mul : ∀ (c : Int) (g : Nat → Int) (k : Nat), c * sm k g = sm k (fun i => c * g i) := fun c g k => by
    induction k with
    | zero => exact Int.mul_zero c
    | succ k ih =>
      show c * (sm k g + g k) = sm k (fun i => c * g i) + c * g k
      rw [Int.mul_add, ih]
  have e1 : sm n (fun x => bi (S x) * net m u v f x) = sm n (fun x => sm m (fun i => bi (S x) * (f i * (ind (u i = x) - ind (v i = x))))) := sm_congr fun x _ => sm_mul _ _ _
  rw [e1, sm_swap (fun x i => bi (S x) * (f i * (ind (u i = x) - ind (v i = x))))]
  refine sm_congr fun i hi => ?_
  obtain ⟨hu, hv⟩ := hn i hi
  have e2 : sm n (fun x => bi (S x) * (f i * (ind (u i = x) - ind (v i = x)))) = sm n (fun x => (if x = u i then f i * bi (S (u i)) else 0) + (if x = v i then -(f i * bi (S (v i))) else 0)) := by
    refine sm_congr fun x _ => ?_
    have a : bi (S x) * (f i * ind (u i = x)) = if x = u i then f i * bi (S (u i)) else 0 := by
      unfold ind
      by_cases h : x = u i
      · rw [if_pos h, if_pos h.symm, h, Int.mul_one, Int.mul_comm]
      · rw [if_neg h, if_neg fun z => h z.symm, Int.mul_zero, Int.mul_zero]
    have b : bi (S x) * (f i * ind (v i = x)) = if x = v i then f i * bi (S (v i)) else 0 := by
      unfold ind
      by_cases h : x = v i
      · rw [if_pos h, if_pos h.symm, h, Int.mul_one, Int.mul_comm]
      · rw [if_neg h, if_neg fun z => h z.symm, Int.mul_zero, Int.mul_zero]
    rw [Int.mul_sub, Int.mul_sub, a, b]
    by_cases h : x = v i
    · rw [if_pos h, if_pos h]; omega
    · rw [if_neg h, if_neg h]; omega
  rw [e2, sm_add, sm_one _ hu, sm_one _ hv, Int.mul_sub]
  omega
structure Fl (m : Nat) (u v : Nat → Nat) (s t : Nat) (f : Nat → Int) (k : Nat) : Prop where
  lo : ∀ i, -1 ≤ f i ∧ f i ≤ 1
  keep : ∀ x, x ≠ s → x ≠ t → net m u v f x = 0
  val : net m u v f s = k
theorem Fl.leaves {s t k : Nat} {f : Nat → Int} (F : Fl m u v s t f k) (hn : ∀ i, i < m → u i < n ∧ v i < n) (sn : s < n) (S : Nat → Bool) (hs : S s = true) (ht : S t = false) : sm m (fun i => f i * (bi (S (u i)) - bi (S (v i)))) = (k : Int) := by
  rw [← net_lot hn f S, ← F.val, ← sm_one (net m u v f s) sn]
  refine sm_congr fun x _ => ?_
  by_cases h : x = s
  · rw [if_pos h, h, hs]
    exact Int.one_mul _
  · rw [if_neg h]
    by_cases h2 : x = t
    · rw [h2, ht]
      exact Int.zero_mul _
    · rw [F.keep x h h2, Int.mul_zero]
theorem Pa.crosses {s : Nat} {es ws : List Nat} (S : Nat → Bool) (hs : S s = true) (p : Pa (St m u v) s es ws) : ∀ {y : Nat} {vs : List Nat}, ws = y :: vs → S y = false → ∃ i ∈ es, i < m ∧ S (u i) ≠ S (v i) := by
  induction p with
  | nil =>
    intro y vs e h
    injection e with e1 e2
    rw [← e1, hs] at h
    cases h
  | @snoc es vs0 x y0 i p hst hn ih =>
    intro y vs e h
    injection e with e1 e2
    subst e1
    cases hx : S x with
    | false =>
      obtain ⟨j, hj, a⟩ := ih rfl hx
      exact ⟨j, List.mem_cons_of_mem _ hj, a⟩
    | true =>
      refine ⟨i, List.mem_cons_self, hst.1, ?_⟩
      rcases hst.2 with ⟨a, b⟩ | ⟨a, b⟩
      · rw [a, b, hx, h]; decide
      · rw [a, b, hx, h]; decide
open Classical in
/-- a flow grows by one, or a lot of places is left by as many doors as it is worth -/
theorem grow {s t k : Nat} {f : Nat → Int} (st0 : s ≠ t) (huv : ∀ i, i < m → u i ≠ v i) (hn : ∀ i, i < m → u i < n ∧ v i < n) (sn : s < n) (F : Fl m u v s t f k) :
    (∃ f', Fl m u v s t f' (k + 1)) ∨ ∃ S : Nat → Bool, S s = true ∧ S t = false ∧ ((List.range m).filter fun i => S (u i) != S (v i)).length = k := by
  let st : Nat → Nat → Nat → Prop := fun i x y => i < m ∧ ((u i = x ∧ v i = y ∧ f i < 1) ∨ (v i = x ∧ u i = y ∧ -1 < f i))
  have hst : ∀ i x y, st i x y → St m u v i x y := fun i x y h => ⟨h.1, h.2.elim (fun a => .inl ⟨a.1, a.2.1⟩) (fun a => .inr ⟨a.1, a.2.1⟩)⟩
  by_cases r : Reach st s t
  · obtain ⟨es, vs, p⟩ := r
    obtain ⟨f', h1, h2, h3⟩ := push huv hst f 1 p rfl
    refine .inl ⟨f', fun i => ?_, fun x x1 x2 => ?_, ?_⟩
    · by_cases hi : i ∈ es
      · obtain ⟨x, y, a, b⟩ := h2 i hi
        have l := F.lo i
        rw [b]
        rcases a.2 with ⟨c, d, e⟩ | ⟨c, d, e⟩
        · rw [if_pos c]; omega
        · have ne := huv i a.1
          rw [if_neg (by rw [c] at ne; exact ne)]; omega
      · rw [h1 i hi]; exact F.lo i
    · have a : ind (s = x) = 0 := if_neg fun z => x1 z.symm
      have b : ind (t = x) = 0 := if_neg fun z => x2 z.symm
      rw [h3 x, F.keep x x1 x2, a, b]
      rfl
    · have a : ind (s = s) = 1 := if_pos rfl
      have b : ind (t = s) = 0 := if_neg fun z => st0 z.symm
      rw [h3 s, F.val, a, b]
      omega
  · let S : Nat → Bool := fun x => decide (Reach st s x)
    have hS : S s = true := decide_eq_true ⟨[], [], .nil⟩
    have hT : S t = false := decide_eq_false r
    refine .inr ⟨S, hS, hT, ?_⟩
    have e := F.leaves hn sn S hS hT
    have e2 : sm m (fun i => f i * (bi (S (u i)) - bi (S (v i)))) = sm m (fun i => if (S (u i) != S (v i)) = true then 1 else 0) := by
      refine sm_congr fun i hi => ?_
      have l := F.lo i
      cases hu : S (u i) with
      | true => cases hv : S (v i) with
        | true => exact Int.mul_zero _
        | false =>
          have : ¬ f i < 1 := fun z => by
            have := (of_decide_eq_true hu : Reach st s (u i)).go (i := i) (y := v i) ⟨hi, .inl ⟨rfl, rfl, z⟩⟩
            exact absurd (decide_eq_true this) (by show ¬ S (v i) = true; rw [hv]; decide)
          have one : f i = 1 := by omega
          rw [one]
          rfl
      | false => cases hv : S (v i) with
        | false => exact Int.mul_zero _
        | true =>
          have : ¬ -1 < f i := fun z => by
            have := (of_decide_eq_true hv : Reach st s (v i)).go (i := i) (y := u i) ⟨hi, .inr ⟨rfl, rfl, z⟩⟩
            exact absurd (decide_eq_true this) (by show ¬ S (u i) = true; rw [hu]; decide)
          have one : f i = -1 := by omega
          rw [one]
          rfl
    rw [e2, sm_filter (fun i => S (u i) != S (v i))] at e
    exact Int.ofNat.inj e
open Classical in
/-- a flow is a lot of ways without a common door -/
theorem parts {s t : Nat} (st0 : s ≠ t) (huv : ∀ i, i < m → u i ≠ v i) (hn : ∀ i, i < m → u i < n ∧ v i < n) (sn : s < n) : ∀ (k : Nat) (f : Nat → Int), Fl m u v s t f k →
    ∃ Ps : List (List Nat), Ps.length = k ∧ (∀ p ∈ Ps, (∃ vs, Pa (St m u v) s p (t :: vs)) ∧ ∀ i ∈ p, f i ≠ 0) ∧ Ps.Pairwise fun p q => ∀ i ∈ p, i ∉ q
  | 0, f, _ => ⟨[], rfl, fun p h => (by cases h), .nil⟩
  | k + 1, f, F => by
    let st : Nat → Nat → Nat → Prop := fun i x y => i < m ∧ ((u i = x ∧ v i = y ∧ f i = 1) ∨ (v i = x ∧ u i = y ∧ f i = -1))
    have hst : ∀ i x y, st i x y → St m u v i x y := fun i x y h => ⟨h.1, h.2.elim (fun a => .inl ⟨a.1, a.2.1⟩) (fun a => .inr ⟨a.1, a.2.1⟩)⟩
    have r : Reach st s t := Classical.byContradiction fun r => by
      let S : Nat → Bool := fun x => decide (Reach st s x)
      have hS : S s = true := decide_eq_true ⟨[], [], .nil⟩
      have hT : S t = false := decide_eq_false r
      have e := F.leaves hn sn S hS hT
      have le : sm m (fun i => f i * (bi (S (u i)) - bi (S (v i)))) ≤ 0 := sm_le fun i hi => by
        have l := F.lo i
        cases hu : S (u i) with
        | true => cases hv : S (v i) with
          | true => exact Int.le_of_eq (Int.mul_zero _)
          | false =>
            have : ¬ f i = 1 := fun z => by
              have := (of_decide_eq_true hu : Reach st s (u i)).go (i := i) (y := v i) ⟨hi, .inl ⟨rfl, rfl, z⟩⟩
              exact absurd (decide_eq_true this) (by show ¬ S (v i) = true; rw [hv]; decide)
            show f i * 1 ≤ 0
            omega
        | false => cases hv : S (v i) with
          | false => exact Int.le_of_eq (Int.mul_zero _)
          | true =>
            have : ¬ f i = -1 := fun z => by
              have := (of_decide_eq_true hv : Reach st s (v i)).go (i := i) (y := u i) ⟨hi, .inr ⟨rfl, rfl, z⟩⟩
              exact absurd (decide_eq_true this) (by show ¬ S (u i) = true; rw [hu]; decide)
            show f i * -1 ≤ 0
            omega
      rw [e] at le
      omega
    obtain ⟨es, vs, p⟩ := r
    obtain ⟨f', h1, h2, h3⟩ := push huv hst f (-1) p rfl
    have zero : ∀ i ∈ es, f' i = 0 ∧ f i ≠ 0 := fun i hi => by
      obtain ⟨x, y, a, b⟩ := h2 i hi
      rw [b]
      rcases a.2 with ⟨c, d, e⟩ | ⟨c, d, e⟩
      · rw [if_pos c, e]; decide
      · have ne := huv i a.1
        rw [if_neg (by rw [c] at ne; exact ne), e]; decide
    have F' : Fl m u v s t f' k := by
      refine ⟨fun i => ?_, fun x x1 x2 => ?_, ?_⟩
      · by_cases hi : i ∈ es
        · rw [(zero i hi).1]; decide
        · rw [h1 i hi]; exact F.lo i
      · have a : ind (s = x) = 0 := if_neg fun z => x1 z.symm
        have b : ind (t = x) = 0 := if_neg fun z => x2 z.symm
        rw [h3 x, F.keep x x1 x2, a, b]
        rfl
      · have a : ind (s = s) = 1 := if_pos rfl
        have b : ind (t = s) = 0 := if_neg fun z => st0 z.symm
        rw [h3 s, F.val, a, b]
        omega
    obtain ⟨Ps, l, hp, pw⟩ := parts st0 huv hn sn k f' F'
    have off : ∀ q ∈ Ps, ∀ i ∈ q, i ∉ es := fun q hq i hi z => (hp q hq).2 i hi (zero i z).1
    refine ⟨es :: Ps, by rw [List.length_cons, l], fun q hq => ?_, List.pairwise_cons.mpr ⟨fun q hq i hi z => off q hq i z hi, pw⟩⟩
    rcases List.mem_cons.mp hq with rfl | hq
    · exact ⟨⟨vs, p.mono fun i x y _ h => hst i x y h⟩, fun i hi => (zero i hi).2⟩
    · exact ⟨(hp q hq).1, fun i hi => by
        rw [← h1 i (off q hq i hi)]
        exact (hp q hq).2 i hi⟩
/-- if each lot of fewer than k doors leaves a way, then there are k ways without a common door -/
theorem menger {s t : Nat} (st0 : s ≠ t) (huv : ∀ i, i < m → u i ≠ v i) (hn : ∀ i, i < m → u i < n ∧ v i < n) (sn : s < n) (k : Nat)
    (h : ∀ C : Nat → Bool, ((List.range m).filter C).length < k → ∃ es vs, Pa (St m u v) s es (t :: vs) ∧ ∀ i ∈ es, C i = false) :
    ∃ Ps : List (List Nat), Ps.length = k ∧ (∀ p ∈ Ps, ∃ vs, Pa (St m u v) s p (t :: vs)) ∧ Ps.Pairwise fun p q => ∀ i ∈ p, i ∉ q := by
  have fl : ∀ j, j ≤ k → ∃ f, Fl m u v s t f j := fun j => by
    induction j with
    | zero =>
      intro _
      have z : ∀ x, net m u v (fun _ => 0) x = 0 := fun x => sm_zero fun i _ => Int.zero_mul _
      exact ⟨fun _ => 0, fun _ => by decide, fun x _ _ => z x, z s⟩
    | succ j ih =>
      intro hj
      obtain ⟨f, F⟩ := ih (by omega)
      rcases grow st0 huv hn sn F with g | ⟨S, hS, hT, l⟩
      · exact g
      · obtain ⟨es, vs, p, hp⟩ := h (fun i => S (u i) != S (v i)) (by omega)
        obtain ⟨i, hi, _, ne⟩ := p.crosses S hS rfl hT
        have := hp i hi
        cases a : S (u i) <;> cases b : S (v i) <;> simp_all
  obtain ⟨f, F⟩ := fl k (Nat.le_refl k)
  obtain ⟨Ps, l, hp, pw⟩ := parts st0 huv hn sn k f F
  exact ⟨Ps, l, fun p hp' => (hp p hp').1, pw⟩
end
end Mg

set_option linter.all false
namespace Wy
/-! # ways: layer by layer, and by going in -/
section
variable {N A : Type} [DecidableEq N] [DecidableEq A]
/-- from x over the doors ds, with the areas as behind it -/
def Path (st : N → A → A → Prop) : A → List N → List A → Prop
  | _, [], [] => True
  | x, n :: ds, y :: as => st n x y ∧ Path st y ds as
  | _, _, _ => False
def fin (x : A) (as : List A) : A := as.getLast?.getD x
theorem fin_cons (x y : A) (as : List A) : fin x (y :: as) = fin y as := by
  unfold fin
  cases as with
  | nil => rfl
  | cons z r =>
    rw [List.getLast?_cons_cons]
    cases h : (z :: r).getLast? with
    | none => simp at h
    | some _ => rfl
theorem fin_snoc (x y : A) (as : List A) : fin x (as ++ [y]) = y := by
  unfold fin
  rw [List.getLast?_append]
  rfl
variable {st : N → A → A → Prop}
theorem Path.len : ∀ {x : A} {ds : List N} {as : List A}, Path st x ds as → ds.length = as.length
  | _, [], [], _ => rfl
  | _, n :: ds, y :: as, h => by rw [List.length_cons, List.length_cons, Path.len h.2]
  | _, [], _ :: _, h => h.elim
  | _, _ :: _, [], h => h.elim
theorem path_snoc {n : N} {y : A} : ∀ {x : A} {ds : List N} {as : List A}, ds.length = as.length → (Path st x (ds ++ [n]) (as ++ [y]) ↔ Path st x ds as ∧ st n (fin x as) y)
  | x, [], [], _ => ⟨fun h => ⟨trivial, h.1⟩, fun h => ⟨h.2, trivial⟩⟩
  | x, m :: ds, z :: as, h => by
    have ih := path_snoc (n := n) (y := y) (x := z) (ds := ds) (as := as) (by simpa using h)
    rw [fin_cons]
    show st m x z ∧ Path st z (ds ++ [n]) (as ++ [y]) ↔ (st m x z ∧ Path st z ds as) ∧ st n (fin z as) y
    rw [ih]
    exact and_assoc.symm
  | x, [], _ :: _, h => by simp at h
  | x, _ :: _, [], h => by simp at h
theorem snoc_of {α : Type} : ∀ {l : List α}, l ≠ [] → ∃ r x, l = r ++ [x] := fun {l} h => ⟨l.dropLast, l.getLast h, (List.dropLast_concat_getLast h).symm⟩
/-! ## layer by layer -/
variable (steps : A → List (N × A)) (a b : A)
abbrev Way (N A : Type) := List N × List A
/-- the ways that are one door longer; the areas of a way stand behind a -/
def next (L : List (Way N A)) : List (Way N A) := (L.filter fun w => decide (fin a w.2 ≠ b)).flatMap fun w => ((steps (fin a w.2)).filter fun s => !decide (s.2 ∈ a :: w.2)).map fun s => (w.1 ++ [s.1], w.2 ++ [s.2])
def layer : Nat → List (Way N A)
  | 0 => [([], [])]
  | k + 1 => next steps a b (layer k)
variable {steps a b}
theorem mem_layer (hst : ∀ n x y, st n x y ↔ (n, y) ∈ steps x) : ∀ (k : Nat) (ds : List N) (as : List A), (ds, as) ∈ layer steps a b k ↔ Path st a ds as ∧ ds.length = k ∧ (a :: as).Nodup ∧ ∀ z ∈ (a :: as).dropLast, z ≠ b
  | 0, ds, as => by
    show (ds, as) ∈ [([], [])] ↔ _
    rw [List.mem_singleton]
    constructor
    · intro h
      cases h
      exact ⟨trivial, rfl, by simp, by simp⟩
    · intro ⟨h1, h2, _⟩
      have e := List.length_eq_zero_iff.mp h2
      subst e
      have e2 := List.length_eq_zero_iff.mp (h1.len.symm.trans rfl)
      subst e2
      rfl
  | k + 1, ds, as => by
    show (ds, as) ∈ next steps a b (layer steps a b k) ↔ _
    unfold next
    rw [List.mem_flatMap]
    constructor
    · intro ⟨w, hw, hm⟩
      obtain ⟨hw1, hw2⟩ := List.mem_filter.mp hw
      have hw2 := of_decide_eq_true hw2
      obtain ⟨s, hs, e⟩ := List.mem_map.mp hm
      obtain ⟨hs1, hs2⟩ := List.mem_filter.mp hs
      obtain ⟨p, l, nd, av⟩ := (mem_layer hst k w.1 w.2).mp hw1
      cases e
      have hs2 : s.2 ∉ a :: w.2 := by simpa using hs2
      refine ⟨(path_snoc p.len).mpr ⟨p, (hst _ _ _).mpr hs1⟩, by rw [List.length_append, l]; rfl, ?_, ?_⟩
      · show (a :: (w.2 ++ [s.2])).Nodup
        rw [← List.cons_append, List.nodup_append]
        exact ⟨nd, by simp, fun x hx y hy e => by rw [List.mem_singleton.mp hy] at e; exact hs2 (e ▸ hx)⟩
      · intro z hz
        rw [← List.cons_append, List.dropLast_concat] at hz
        by_cases hz2 : z ∈ (a :: w.2).dropLast
        · exact av z hz2
        · have : z = fin a w.2 := by
            have e := List.dropLast_concat_getLast (l := a :: w.2) (by simp)
            rw [← e] at hz
            rcases List.mem_append.mp hz with h | h
            · exact absurd h hz2
            · rw [List.mem_singleton.mp h]
              unfold fin
              cases hl : w.2 with
              | nil => rfl
              | cons c r =>
                rw [List.getLast?_eq_some_getLast (by simp)]
                rfl
          rw [this]
          exact hw2
    · intro ⟨p, l, nd, av⟩
      have hl := p.len
      obtain ⟨d0, n, rfl⟩ := snoc_of (l := ds) (fun e => by rw [e] at l; cases l)
      obtain ⟨a0, y, rfl⟩ := snoc_of (l := as) (fun e => by rw [e, l] at hl; cases hl)
      have hl0 : d0.length = a0.length := by simpa using hl
      obtain ⟨p0, hs⟩ := (path_snoc hl0).mp p
      have nd2 := nd
      rw [← List.cons_append, List.nodup_append] at nd2
      rw [← List.cons_append, List.dropLast_concat] at av
      have hd : ∀ z ∈ (a :: a0).dropLast, z ≠ b := fun z hz => av z (List.dropLast_subset _ hz)
      have hf : fin a a0 ≠ b := av _ (by
        unfold fin
        cases e : a0.getLast? with
        | none => exact List.mem_cons_self
        | some c => exact List.mem_cons_of_mem _ (List.mem_of_getLast? e))
      refine ⟨(d0, a0), List.mem_filter.mpr ⟨(mem_layer hst k d0 a0).mpr ⟨p0, by simpa using l, nd2.1, hd⟩, decide_eq_true hf⟩, List.mem_map.mpr ⟨(n, y), List.mem_filter.mpr ⟨(hst _ _ _).mp hs, ?_⟩, rfl⟩⟩
      have : y ∉ a :: a0 := fun h => nd2.2.2 y h y (by simp) rfl
      simpa using this
/-- no layer behind as many as there are areas -/
theorem layer_end (hst : ∀ n x y, st n x y ↔ (n, y) ∈ steps x) (V : List A) (hV : ∀ n x y, st n x y → y ∈ V) (ha : a ∈ V) (k : Nat) (hk : V.length ≤ k) : layer steps a b k = [] := by
  refine List.eq_nil_iff_forall_not_mem.mpr fun w hw => ?_
  obtain ⟨p, l, nd, _⟩ := (mem_layer hst k w.1 w.2).mp hw
  have all : ∀ {x : A} {ds : List N} {as : List A}, Path st x ds as → ∀ z ∈ as, z ∈ V := fun {x ds as} p => by
    induction ds generalizing x as with
    | nil => cases as with
      | nil => intro z h; cases h
      | cons _ _ => exact p.elim
    | cons n ds ih => cases as with
      | nil => exact p.elim
      | cons y as =>
        intro z hz
        rcases List.mem_cons.mp hz with rfl | hz
        · exact hV _ _ _ p.1
        · exact ih p.2 z hz
  have sub : ∀ z ∈ a :: w.2, z ∈ V := fun z hz => (List.mem_cons.mp hz).elim (fun e => e ▸ ha) (all p z)
  have le : (a :: w.2).length ≤ V.length := by
    have gen : ∀ (l m : List A), l.Nodup → (∀ x ∈ l, x ∈ m) → l.length ≤ m.length := fun l => by
      induction l with
      | nil => intro m _ _; exact Nat.zero_le _
      | cons x r ih =>
        intro m h hs
        have hx := hs x List.mem_cons_self
        have h2 := List.nodup_cons.mp h
        have le := ih (m.erase x) h2.2 fun k hk => (List.mem_erase_of_ne (fun e => h2.1 (by rw [← e]; exact hk))).mpr (hs k (List.mem_cons_of_mem _ hk))
        have l1 := List.length_erase_of_mem hx
        have l2 := List.length_pos_of_mem hx
        rw [List.length_cons]
        omega
    exact gen _ _ nd sub
  have := p.len
  rw [List.length_cons] at le
  omega
/-! ## in order -/
/-- the places of the doors, one behind the other: the first that differs has the word -/
def Lx : List Nat → List Nat → Prop
  | i :: r, j :: s => i < j ∨ i = j ∧ Lx r s
  | _, _ => False
theorem Lx.app {c d : List Nat} : ∀ {r s : List Nat}, Lx r s → Lx (r ++ c) (s ++ d)
  | i :: r, j :: s, h => h.elim .inl fun h => .inr ⟨h.1, Lx.app h.2⟩
  | [], _, h => h.elim
  | _ :: _, [], h => h.elim
theorem Lx.same {c d : List Nat} (h : Lx c d) : ∀ r : List Nat, Lx (r ++ c) (r ++ d)
  | [] => h
  | _ :: r => .inr ⟨rfl, Lx.same h r⟩
def ky (ix : N → Nat) (w : Way N A) : List Nat := w.1.map ix
theorem layer_order (ix : N → Nat) (asc : ∀ x, (steps x).Pairwise fun p q => ix p.1 < ix q.1) : ∀ k, (layer steps a b k).Pairwise fun w z => Lx (ky ix w) (ky ix z)
  | 0 => by
    show List.Pairwise _ [_]
    exact List.pairwise_singleton _ _
  | k + 1 => by
    show (next steps a b (layer steps a b k)).Pairwise _
    unfold next
    rw [List.pairwise_flatMap]
    refine ⟨fun w _ => ?_, ?_⟩
    · rw [List.pairwise_map]
      refine List.Pairwise.imp (fun {p q} h => ?_) ((asc _).filter _)
      show Lx (List.map ix (w.1 ++ [p.1])) (List.map ix (w.1 ++ [q.1]))
      rw [List.map_append, List.map_append]
      exact Lx.same (c := [ix p.1]) (d := [ix q.1]) (show Lx _ _ from Or.inl h) _
    · refine List.Pairwise.imp (fun {w z} h x hx y hy => ?_) ((layer_order ix asc k).filter _)
      obtain ⟨s, _, rfl⟩ := List.mem_map.mp hx
      obtain ⟨t, _, rfl⟩ := List.mem_map.mp hy
      show Lx (List.map ix (w.1 ++ [s.1])) (List.map ix (z.1 ++ [t.1]))
      rw [List.map_append, List.map_append]
      exact Lx.app h
variable (steps a b) in
/-- all ways to b, by the number of doors -/
def upto : Nat → List (Way N A)
  | 0 => []
  | k + 1 => upto k ++ (layer steps a b k).filter fun w => decide (fin a w.2 = b)
def IsWay (st : N → A → A → Prop) (a b : A) (w : Way N A) : Prop := Path st a w.1 w.2 ∧ (a :: w.2).Nodup ∧ fin a w.2 = b
theorem fin_last (x : A) (as : List A) : (x :: as).getLast (by simp) = fin x as := by
  unfold fin
  cases as with
  | nil => rfl
  | cons c r =>
    rw [List.getLast?_eq_some_getLast (by simp)]
    rfl
theorem mem_upto (hst : ∀ n x y, st n x y ↔ (n, y) ∈ steps x) : ∀ (k : Nat) (w : Way N A), w ∈ upto steps a b k ↔ IsWay st a b w ∧ w.1.length < k
  | 0, w => ⟨fun h => (by cases h), fun h => absurd h.2 (Nat.not_lt_zero _)⟩
  | k + 1, w => by
    show w ∈ upto steps a b k ++ _ ↔ _
    rw [List.mem_append, mem_upto hst k w, List.mem_filter, decide_eq_true_iff]
    have e := mem_layer (b := b) hst k w.1 w.2 (a := a)
    constructor
    · rintro (⟨h, l⟩ | ⟨h, f⟩)
      · exact ⟨h, by omega⟩
      · obtain ⟨p, l, nd, _⟩ := e.mp h
        exact ⟨⟨p, nd, f⟩, by omega⟩
    · rintro ⟨⟨p, nd, f⟩, l⟩
      by_cases l2 : w.1.length < k
      · exact .inl ⟨⟨p, nd, f⟩, l2⟩
      · refine .inr ⟨e.mpr ⟨p, by omega, nd, fun z hz e2 => ?_⟩, f⟩
        have s := List.dropLast_concat_getLast (l := a :: w.2) (by simp)
        rw [fin_last, f] at s
        rw [← s, List.nodup_append] at nd
        exact nd.2.2 z hz b (by simp) e2
/-- shorter, or as short and ahead in the order of the doors -/
def Before (ix : N → Nat) (w z : Way N A) : Prop := w.1.length < z.1.length ∨ w.1.length = z.1.length ∧ Lx (ky ix w) (ky ix z)
theorem upto_order (hst : ∀ n x y, st n x y ↔ (n, y) ∈ steps x) (ix : N → Nat) (asc : ∀ x, (steps x).Pairwise fun p q => ix p.1 < ix q.1) : ∀ k, (upto steps a b k).Pairwise (Before ix)
  | 0 => .nil
  | k + 1 => by
    show (upto steps a b k ++ _).Pairwise _
    rw [List.pairwise_append]
    have ll : ∀ w ∈ (layer steps a b k).filter (fun w => decide (fin a w.2 = b)), w.1.length = k := fun w hw => ((mem_layer hst k w.1 w.2).mp (List.mem_filter.mp hw).1).2.1
    refine ⟨upto_order hst ix asc k, ?_, fun w hw z hz => .inl ?_⟩
    · refine List.Pairwise.imp_of_mem (fun {w z} hw hz h => ?_) ((layer_order ix asc k).filter _)
      exact .inr ⟨(ll w hw).trans (ll z hz).symm, h⟩
    · have := ((mem_upto hst k w).mp hw).2
      have := ll z hz
      omega
/-! ## by going in -/
/-- the law's walk: from x to b, with what has been -/
def goIn (doors : List (N × A × A)) (op : N → Bool) (b : A) : Nat → A → List A → List (Way N A)
  | 0, _, _ => []
  | k + 1, x, been => if x = b then [([], [])] else doors.flatMap fun d => [(d.2.1, d.2.2), (d.2.2, d.2.1)].flatMap fun e => if op d.1 = true ∧ e.1 = x ∧ e.2 ∉ been then (goIn doors op b k e.2 (been ++ [e.2])).map fun w => (d.1 :: w.1, e.2 :: w.2) else []
def stD (doors : List (N × A × A)) (op : N → Bool) (n : N) (x y : A) : Prop := ∃ d ∈ doors, d.1 = n ∧ op n = true ∧ ((d.2.1 = x ∧ d.2.2 = y) ∨ (d.2.2 = x ∧ d.2.1 = y))
theorem fin_mem (x : A) (as : List A) : fin x as ∈ x :: as := by
  rw [← fin_last]
  exact List.getLast_mem _
theorem mem_goIn (doors : List (N × A × A)) (op : N → Bool) : ∀ (k : Nat) (x : A) (been : List A) (ds : List N) (as : List A), x ∈ been → ((ds, as) ∈ goIn doors op b k x been ↔ Path (stD doors op) x ds as ∧ fin x as = b ∧ as.Nodup ∧ (∀ z ∈ as, z ∉ been) ∧ ds.length < k)
  | 0, x, been, ds, as, hx => ⟨fun h => (by cases h), fun h => absurd h.2.2.2.2 (Nat.not_lt_zero _)⟩
  | k + 1, x, been, ds, as, hx => by
    show (ds, as) ∈ (if x = b then _ else _) ↔ _
    by_cases e : x = b
    · rw [if_pos e, List.mem_singleton]
      constructor
      · intro h
        cases h
        exact ⟨trivial, e, .nil, fun z h => (by cases h), Nat.zero_lt_succ _⟩
      · intro ⟨p, f, nd, av, l⟩
        cases as with
        | nil =>
          have := p.len
          rw [List.length_eq_zero_iff.mp this]
        | cons y r =>
          exfalso
          have m : fin x (y :: r) ∈ y :: r := by
            rw [fin_cons]
            exact fin_mem y r
          rw [f, ← e] at m
          exact av x m hx
    · rw [if_neg e, List.mem_flatMap]
      constructor
      · intro ⟨d, hd, h⟩
        obtain ⟨⟨s, t⟩, he, h⟩ := List.mem_flatMap.mp h
        have hst : (d.2.1 = s ∧ d.2.2 = t) ∨ (d.2.2 = s ∧ d.2.1 = t) := by
          simp only [List.mem_cons, List.not_mem_nil, or_false, Prod.mk.injEq] at he
          rcases he with ⟨h1, h2⟩ | ⟨h1, h2⟩
          · exact .inl ⟨h1.symm, h2.symm⟩
          · exact .inr ⟨h1.symm, h2.symm⟩
        by_cases c : op d.1 = true ∧ s = x ∧ t ∉ been
        · have h : (ds, as) ∈ (goIn doors op b k t (been ++ [t])).map fun w => (d.1 :: w.1, t :: w.2) := by
            have e2 : (if op d.1 = true ∧ s = x ∧ t ∉ been then (goIn doors op b k t (been ++ [t])).map fun w => (d.1 :: w.1, t :: w.2) else []) = _ := if_pos c
            exact e2 ▸ h
          obtain ⟨w, hw, e3⟩ := List.mem_map.mp h
          cases e3
          obtain ⟨p, f, nd, av, l⟩ := (mem_goIn doors op k t (been ++ [t]) w.1 w.2 (by simp)).mp hw
          obtain ⟨c1, rfl, c3⟩ := c
          refine ⟨⟨⟨d, hd, rfl, c1, hst⟩, p⟩, by rw [fin_cons]; exact f, List.nodup_cons.mpr ⟨fun z => av t z (by simp), nd⟩, fun z hz => ?_, by rw [List.length_cons]; omega⟩
          rcases List.mem_cons.mp hz with rfl | hz
          · exact c3
          · exact fun q => av z hz (List.mem_append_left _ q)
        · have e2 : (if op d.1 = true ∧ s = x ∧ t ∉ been then (goIn doors op b k t (been ++ [t])).map fun w => (d.1 :: w.1, t :: w.2) else []) = [] := if_neg c
          have h : (ds, as) ∈ ([] : List (Way N A)) := e2 ▸ h
          cases h
      · intro ⟨p, f, nd, av, l⟩
        cases as with
        | nil => exact absurd f e
        | cons t r => cases ds with
          | nil => exact p.elim
          | cons n ds =>
            obtain ⟨⟨d, hd, rfl, c1, hst⟩, p2⟩ := p
            have c3 := av t List.mem_cons_self
            obtain ⟨nd1, nd2⟩ := List.nodup_cons.mp nd
            rw [fin_cons] at f
            have hw := (mem_goIn doors op k t (been ++ [t]) ds r (by simp)).mpr ⟨p2, f, nd2, fun z hz q => (List.mem_append.mp q).elim (av z (List.mem_cons_of_mem _ hz)) fun q => nd1 (List.mem_singleton.mp q ▸ hz), by rw [List.length_cons] at l; omega⟩
            have c : op d.1 = true ∧ x = x ∧ t ∉ been := ⟨c1, rfl, c3⟩
            refine ⟨d, hd, List.mem_flatMap.mpr ⟨(x, t), ?_, ?_⟩⟩
            · rcases hst with ⟨h1, h2⟩ | ⟨h1, h2⟩
              · rw [h1, h2]; simp
              · rw [h1, h2]; simp
            · show (d.1 :: ds, t :: r) ∈ (if op d.1 = true ∧ x = x ∧ t ∉ been then _ else [])
              rw [if_pos c]
              exact List.mem_map.mpr ⟨(ds, r), hw, rfl⟩
/-- both find the same ways -/
theorem goIn_way (doors : List (N × A × A)) (op : N → Bool) (k : Nat) (w : Way N A) : w ∈ goIn doors op b k a [a] ↔ IsWay (stD doors op) a b w ∧ w.1.length < k := by
  rw [show w = (w.1, w.2) from rfl, mem_goIn doors op k a [a] w.1 w.2 (by simp)]
  constructor
  · intro ⟨p, f, nd, av, l⟩
    exact ⟨⟨p, List.nodup_cons.mpr ⟨fun h => av a h (by simp), nd⟩, f⟩, l⟩
  · intro ⟨⟨p, nd, f⟩, l⟩
    obtain ⟨h1, h2⟩ := List.nodup_cons.mp nd
    exact ⟨p, f, h2, fun z hz q => h1 (List.mem_singleton.mp q ▸ hz), l⟩
/-! ## ways without a common door, searched for -/
def apart (p q : List N) : Bool := !(q.any fun n => decide (n ∈ p))
theorem apart_iff {p q : List N} : apart p q = true ↔ ∀ n ∈ q, n ∉ p := by
  unfold apart
  rw [Bool.not_eq_true', List.any_eq_false]
  exact ⟨fun h n hn z => h n hn (decide_eq_true z), fun h n hn z => h n hn (of_decide_eq_true z)⟩
def disj : Nat → List (List N) → Option (List (List N))
  | 0, _ => some []
  | _ + 1, [] => none
  | m + 1, w :: ws => match disj m (ws.filter (apart w)) with
    | some f => some (w :: f)
    | none => disj (m + 1) ws
termination_by m ws => (m, ws.length)
theorem disj_found : ∀ (m : Nat) (ws Ps : List (List N)), Ps.length = m → (∀ p ∈ Ps, p ∈ ws ∧ p ≠ []) → Ps.Pairwise (fun p q => ∀ n ∈ p, n ∉ q) → ∃ f, disj m ws = some f
  | 0, ws, Ps, _, _, _ => ⟨[], by unfold disj; rfl⟩
  | m + 1, [], Ps, l, h, _ => by
    cases Ps with
    | nil => cases l
    | cons p r => exact absurd (h p List.mem_cons_self).1 (by simp)
  | m + 1, w :: ws, Ps, l, h, pw => by
    unfold disj
    by_cases hw : w ∈ Ps
    · obtain ⟨L, R, e⟩ := List.append_of_mem hw
      have pl : (L ++ R).length = m := by
        rw [e, List.length_append, List.length_cons] at l
        rw [List.length_append]
        omega
      rw [e, List.pairwise_append, List.pairwise_cons] at pw
      obtain ⟨q1, ⟨q2, q3⟩, q4⟩ := pw
      have off : ∀ p ∈ L ++ R, ∀ n ∈ p, n ∉ w := fun p hp n hn z => by
        rcases List.mem_append.mp hp with hp | hp
        · exact q4 p hp w List.mem_cons_self n hn z
        · exact q2 p hp n z hn
      have all : ∀ p ∈ L ++ R, p ∈ Ps := fun p hp => by
        rw [e]
        rcases List.mem_append.mp hp with hp | hp
        · exact List.mem_append_left _ hp
        · exact List.mem_append_right _ (List.mem_cons_of_mem _ hp)
      obtain ⟨f, hf⟩ := disj_found m (ws.filter (apart w)) (L ++ R) pl (fun p hp => by
        obtain ⟨h1, h2⟩ := h p (all p hp)
        refine ⟨List.mem_filter.mpr ⟨?_, apart_iff.mpr (off p hp)⟩, h2⟩
        rcases List.mem_cons.mp h1 with rfl | h1
        · cases p with
          | nil => exact absurd rfl h2
          | cons n r => exact absurd List.mem_cons_self (off _ hp n List.mem_cons_self)
        · exact h1) (List.pairwise_append.mpr ⟨q1, q3, fun p hp q hq => q4 p hp q (List.mem_cons_of_mem _ hq)⟩)
      rw [hf]
      exact ⟨_, rfl⟩
    · cases hd : disj m (ws.filter (apart w)) with
      | some f => exact ⟨_, rfl⟩
      | none =>
        exact disj_found (m + 1) ws Ps l (fun p hp => by
          obtain ⟨h1, h2⟩ := h p hp
          rcases List.mem_cons.mp h1 with rfl | h1
          · exact absurd hp hw
          · exact ⟨h1, h2⟩) pw
termination_by m ws => (m, ws.length)
theorem disj_right : ∀ (m : Nat) (ws f : List (List N)), disj m ws = some f → f.length = m ∧ (∀ p ∈ f, p ∈ ws) ∧ f.Pairwise (fun p q => ∀ n ∈ q, n ∉ p)
  | 0, ws, f, h => by
    unfold disj at h
    cases h
    exact ⟨rfl, fun p h => (by cases h), .nil⟩
  | m + 1, [], f, h => by
    unfold disj at h
    cases h
  | m + 1, w :: ws, f, h => by
    unfold disj at h
    cases hd : disj m (ws.filter (apart w)) with
    | some g =>
      rw [hd] at h
      cases h
      obtain ⟨l, h1, h2⟩ := disj_right m _ g hd
      refine ⟨by rw [List.length_cons, l], fun p hp => ?_, List.pairwise_cons.mpr ⟨fun q hq => apart_iff.mp (List.mem_filter.mp (h1 q hq)).2, h2⟩⟩
      rcases List.mem_cons.mp hp with rfl | hp
      · exact List.mem_cons_self
      · exact List.mem_cons_of_mem _ (List.mem_filter.mp (h1 p hp)).1
    | none =>
      rw [hd] at h
      obtain ⟨l, h1, h2⟩ := disj_right (m + 1) ws f h
      exact ⟨l, fun p hp => List.mem_cons_of_mem _ (h1 p hp), h2⟩
termination_by m ws => (m, ws.length)
end
end Wy

set_option linter.all false
namespace Wy
open Mg
/-! # as many ways without a common door as a least cut has doors, with names -/
section
variable {N A : Type} [DecidableEq N] [DecidableEq A]
theorem ix_lt {V : List A} {x : A} (h : x ∈ V) : V.idxOf x < V.length := List.idxOf_lt_length_of_mem h
theorem ix_inj {V : List A} {x y : A} (hx : x ∈ V) (e : V.idxOf x = V.idxOf y) : x = y := by
  have h := ix_lt hx
  have a : V[V.idxOf x] = x := List.getElem_idxOf h
  have hy : V.idxOf y < V.length := e ▸ h
  have b : V[V.idxOf y] = y := List.getElem_idxOf hy
  rw [← a, ← b]
  congr 1
theorem nodup_map {B C : Type} {f : B → C} : ∀ {l : List B}, (l.map f).Nodup → l.Nodup := fun {l} h => by
  unfold List.Nodup at h ⊢
  rw [List.pairwise_map] at h
  exact h.imp fun hne e => hne (by rw [e])
variable (E : List (N × A × A)) (V : List A)
def us (i : Nat) : Nat := match E[i]? with
  | some d => V.idxOf d.2.1
  | none => 0
def vs (i : Nat) : Nat := match E[i]? with
  | some d => V.idxOf d.2.2
  | none => 0
def nms (i : Nat) : Option N := E[i]?.map (·.1)
variable {E V}
theorem us_at {i : Nat} {d : N × A × A} (h : E[i]? = some d) : us E V i = V.idxOf d.2.1 ∧ vs E V i = V.idxOf d.2.2 ∧ nms E i = some d.1 := by
  unfold us vs nms
  rw [h]
  exact ⟨rfl, rfl, rfl⟩
theorem pa_nodup {st : Nat → Nat → Nat → Prop} {s : Nat} {es ws : List Nat} (p : Pa st s es ws) : ws.Nodup := by
  induction p with
  | nil => simp
  | snoc p hs hn ih => exact List.nodup_cons.mpr ⟨hn, ih⟩
def stE (E : List (N × A × A)) (n : N) (x y : A) : Prop := ∃ d ∈ E, d.1 = n ∧ ((d.2.1 = x ∧ d.2.2 = y) ∨ (d.2.2 = x ∧ d.2.1 = y))
theorem to_path {a : A} (ha : a ∈ V) (hV : ∀ d ∈ E, d.2.1 ∈ V ∧ d.2.2 ∈ V) {es ws : List Nat} (p : Pa (St E.length (us E V) (vs E V)) (V.idxOf a) es ws) :
    ∃ ds as, Path (stE E) a ds as ∧ ws = ((a :: as).map V.idxOf).reverse ∧ (∀ z ∈ a :: as, z ∈ V) ∧ es.map (nms E) = ds.reverse.map some := by
  induction p with
  | nil => exact ⟨[], [], trivial, rfl, fun z h => by rw [List.mem_singleton.mp h]; exact ha, rfl⟩
  | @snoc es w0 x y i p hs hn ih =>
    obtain ⟨ds, as, hp, e, hall, en⟩ := ih
    obtain ⟨lt, hs⟩ := hs
    have hd : E[i]? = some E[i] := List.getElem?_eq_getElem lt
    obtain ⟨e1, e2, e3⟩ := us_at (V := V) hd
    have mem : E[i] ∈ E := List.getElem_mem lt
    obtain ⟨v1, v2⟩ := hV _ mem
    have ex : x = V.idxOf (fin a as) := by
      have h := congrArg List.head? e
      rw [List.head?_reverse, List.getLast?_eq_some_getLast (by simp)] at h
      rw [List.getLast_map (by simp), fin_last] at h
      exact Option.some.inj h
    have step : ∃ z, z ∈ V ∧ y = V.idxOf z ∧ stE E E[i].1 (fin a as) z := by
      have fm := hall _ (fin_mem a as)
      rcases hs with ⟨h1, h2⟩ | ⟨h1, h2⟩
      · rw [e1, ex] at h1
        rw [e2] at h2
        exact ⟨E[i].2.2, v2, h2.symm, E[i], mem, rfl, .inl ⟨ix_inj v1 h1, rfl⟩⟩
      · rw [e2, ex] at h1
        rw [e1] at h2
        exact ⟨E[i].2.1, v1, h2.symm, E[i], mem, rfl, .inr ⟨ix_inj v2 h1, rfl⟩⟩
    obtain ⟨z, hz, ey, hst⟩ := step
    refine ⟨ds ++ [E[i].1], as ++ [z], (path_snoc hp.len).mpr ⟨hp, hst⟩, ?_, fun q hq => ?_, ?_⟩
    · rw [← List.cons_append, List.map_append, List.reverse_append, ← e, ey]
      rfl
    · rw [← List.cons_append] at hq
      rcases List.mem_append.mp hq with hq | hq
      · exact hall q hq
      · rw [List.mem_singleton.mp hq]; exact hz
    · rw [List.map_cons, en, e3, List.reverse_append]
      rfl
theorem from_path {a : A} (ha : a ∈ V) (hV : ∀ d ∈ E, d.2.1 ∈ V ∧ d.2.2 ∈ V) : ∀ (k : Nat) (ds : List N) (as : List A), ds.length = k → Path (stE E) a ds as → (a :: as).Nodup →
    (∃ es, Pa (St E.length (us E V) (vs E V)) (V.idxOf a) es ((a :: as).map V.idxOf).reverse ∧ es.map (nms E) = ds.reverse.map some) ∧ ∀ z ∈ a :: as, z ∈ V
  | 0, ds, as, l, p, nd => by
    have e := List.length_eq_zero_iff.mp l
    subst e
    have e2 := List.length_eq_zero_iff.mp (p.len.symm)
    subst e2
    exact ⟨⟨[], .nil, rfl⟩, fun z h => by rw [List.mem_singleton.mp h]; exact ha⟩
  | k + 1, ds, as, l, p, nd => by
    have hl := p.len
    obtain ⟨d0, n, rfl⟩ := snoc_of (l := ds) (fun e => by rw [e] at l; cases l)
    obtain ⟨a0, y, rfl⟩ := snoc_of (l := as) (fun e => by rw [e, l] at hl; cases hl)
    have hl0 : d0.length = a0.length := by simpa using hl
    obtain ⟨p0, hs⟩ := (path_snoc hl0).mp p
    have nd2 := nd
    rw [← List.cons_append, List.nodup_append] at nd2
    obtain ⟨⟨es, hp, en⟩, hall⟩ := from_path ha hV k d0 a0 (by simpa using l) p0 nd2.1
    obtain ⟨d, hd, e1, hst⟩ := hs
    obtain ⟨i, lt, ei⟩ := List.getElem_of_mem hd
    have hd2 : E[i]? = some d := by rw [← ei]; exact List.getElem?_eq_getElem lt
    obtain ⟨u1, u2, u3⟩ := us_at (V := V) hd2
    obtain ⟨v1, v2⟩ := hV d hd
    have hy : y ∈ V := by
      rcases hst with ⟨_, h⟩ | ⟨_, h⟩
      · rw [← h]; exact v2
      · rw [← h]; exact v1
    have fresh : y ∉ a :: a0 := fun h => nd2.2.2 y h y (by simp) rfl
    obtain ⟨w, ew⟩ : ∃ w, ((a :: a0).map V.idxOf).reverse = V.idxOf (fin a a0) :: w := by
      have e := List.dropLast_concat_getLast (l := a :: a0) (by simp)
      rw [fin_last] at e
      rw [← e, List.map_append, List.reverse_append]
      exact ⟨_, rfl⟩
    rw [ew] at hp
    refine ⟨⟨i :: es, ?_, ?_⟩, fun z hz => ?_⟩
    · rw [← List.cons_append, List.map_append, List.reverse_append, ew]
      show Pa _ _ (i :: es) (V.idxOf y :: V.idxOf (fin a a0) :: w)
      refine .snoc hp ⟨lt, ?_⟩ (fun h => ?_)
      · rcases hst with ⟨h1, h2⟩ | ⟨h1, h2⟩
        · exact .inl ⟨by rw [u1, h1], by rw [u2, h2]⟩
        · exact .inr ⟨by rw [u2, h1], by rw [u1, h2]⟩
      · rw [← ew, List.mem_reverse, List.mem_map] at h
        obtain ⟨z, hz, e⟩ := h
        exact fresh (ix_inj hy e.symm ▸ hz)
    · rw [List.map_cons, en, u3, e1, List.reverse_append]
      rfl
    · rw [← List.cons_append] at hz
      rcases List.mem_append.mp hz with hz | hz
      · exact hall z hz
      · rw [List.mem_singleton.mp hz]; exact hy
theorem Path.imp {st su : N → A → A → Prop} (h : ∀ n x y, st n x y → su n x y) : ∀ {x : A} {ds : List N} {as : List A}, Path st x ds as → Path su x ds as
  | _, [], [], _ => trivial
  | _, _ :: _, _ :: _, p => ⟨h _ _ _ p.1, Path.imp h p.2⟩
  | _, [], _ :: _, p => p.elim
  | _, _ :: _, [], p => p.elim
/-- if each lot of fewer than k names leaves a way, there are k ways without a common door -/
theorem ways_apart {a b : A} (ab : a ≠ b) (nd : (E.map (·.1)).Nodup) (ends : ∀ d ∈ E, d.2.1 ≠ d.2.2) (k : Nat)
    (h : ∀ L : List Nat, L.Pairwise (· < ·) → (∀ i ∈ L, i < E.length) → L.length < k → ∃ w, IsWay (stE E) a b w ∧ ∀ i ∈ L, ∀ n, nms E i = some n → n ∉ w.1) :
    ∃ Ps : List (List N), Ps.length = k ∧ (∀ p ∈ Ps, ∃ as, IsWay (stE E) a b (p, as)) ∧ Ps.Pairwise fun p q => ∀ n ∈ p, n ∉ q := by
  let V : List A := a :: b :: (E.map (·.2.1) ++ E.map (·.2.2))
  have ha : a ∈ V := List.mem_cons_self
  have hb : b ∈ V := List.mem_cons_of_mem _ List.mem_cons_self
  have hV : ∀ d ∈ E, d.2.1 ∈ V ∧ d.2.2 ∈ V := fun d hd => ⟨List.mem_cons_of_mem _ (List.mem_cons_of_mem _ (List.mem_append_left _ (List.mem_map.mpr ⟨d, hd, rfl⟩))), List.mem_cons_of_mem _ (List.mem_cons_of_mem _ (List.mem_append_right _ (List.mem_map.mpr ⟨d, hd, rfl⟩)))⟩
  have huv : ∀ i, i < E.length → us E V i ≠ vs E V i := fun i hi e => by
    obtain ⟨e1, e2, _⟩ := us_at (V := V) (List.getElem?_eq_getElem hi)
    rw [e1, e2] at e
    exact ends _ (List.getElem_mem hi) (ix_inj (hV _ (List.getElem_mem hi)).1 e)
  have hn : ∀ i, i < E.length → us E V i < V.length ∧ vs E V i < V.length := fun i hi => by
    obtain ⟨e1, e2, _⟩ := us_at (V := V) (List.getElem?_eq_getElem hi)
    rw [e1, e2]
    exact ⟨ix_lt (hV _ (List.getElem_mem hi)).1, ix_lt (hV _ (List.getElem_mem hi)).2⟩
  have one : ∀ {i j : Nat} {n : N}, nms E i = some n → nms E j = some n → i = j := fun {i j n} hi hj => by
    have g : ∀ i, nms E i = (E.map (·.1))[i]? := fun i => by
      unfold nms
      rw [List.getElem?_map]
    rw [g] at hi hj
    obtain ⟨li, ei⟩ := List.getElem?_eq_some_iff.mp hi
    obtain ⟨lj, ej⟩ := List.getElem?_eq_some_iff.mp hj
    exact (List.getElem_inj nd).mp (ei.trans ej.symm)
  obtain ⟨Ps, l, hp, pw⟩ := menger (m := E.length) (n := V.length) (u := us E V) (v := vs E V) (s := V.idxOf a) (t := V.idxOf b) (fun e => ab (ix_inj ha e)) huv hn (ix_lt ha) k fun C hC => by
    obtain ⟨w, ⟨p, wn, f⟩, off⟩ := h ((List.range E.length).filter C) (List.pairwise_lt_range.filter _) (fun i hi => List.mem_range.mp (List.mem_filter.mp hi).1) hC
    obtain ⟨⟨es, hp, en⟩, _⟩ := from_path ha hV w.1.length w.1 w.2 rfl p wn
    have e := List.dropLast_concat_getLast (l := a :: w.2) (by simp)
    rw [fin_last, f] at e
    rw [← e, List.map_append, List.reverse_append] at hp
    refine ⟨es, _, hp, fun i hi => ?_⟩
    cases c : C i with
    | false => rfl
    | true =>
      exfalso
      obtain ⟨x, y, hst⟩ := hp.all i hi
      have m : nms E i ∈ w.1.reverse.map some := en ▸ List.mem_map.mpr ⟨i, hi, rfl⟩
      obtain ⟨n, hn1, hn2⟩ := List.mem_map.mp m
      exact off i (List.mem_filter.mpr ⟨List.mem_range.mpr hst.1, c⟩) n hn2.symm (List.mem_reverse.mp hn1)
  -- with names
  have name : ∀ p ∈ Ps, ∃ ds as, IsWay (stE E) a b (ds, as) ∧ p.map (nms E) = ds.reverse.map some := fun p hp' => by
    obtain ⟨v0, q⟩ := hp p hp'
    obtain ⟨ds, as, pt, e, hall, en⟩ := to_path ha hV q
    refine ⟨ds, as, ⟨pt, ?_, ?_⟩, en⟩
    · have nd := pa_nodup q
      rw [e] at nd
      have nd2 : ((a :: as).map V.idxOf).Nodup := by
        unfold List.Nodup at nd ⊢
        rw [List.pairwise_reverse] at nd
        exact nd.imp fun h e => h e.symm
      exact nodup_map nd2
    · have h2 := congrArg List.head? e
      rw [List.head?_reverse, List.getLast?_eq_some_getLast (by simp), List.getLast_map (by simp), fin_last] at h2
      exact (ix_inj hb (Option.some.inj h2)).symm
  have build : ∀ Qs : List (List Nat), (∀ p ∈ Qs, p ∈ Ps) → Qs.Pairwise (fun p q => ∀ i ∈ p, i ∉ q) → ∃ Rs : List (List N), Rs.length = Qs.length ∧ (∀ r ∈ Rs, ∃ as, IsWay (stE E) a b (r, as)) ∧ (∀ r ∈ Rs, ∃ p ∈ Qs, p.map (nms E) = r.reverse.map some) ∧ Rs.Pairwise fun p q => ∀ n ∈ p, n ∉ q := fun Qs => by
    induction Qs with
    | nil => exact fun _ _ => ⟨[], rfl, fun r h => (by cases h), fun r h => (by cases h), .nil⟩
    | cons p Qs ih =>
      intro hq pw
      obtain ⟨pw1, pw2⟩ := List.pairwise_cons.mp pw
      obtain ⟨Rs, l, h1, h2, h3⟩ := ih (fun q hq' => hq q (List.mem_cons_of_mem _ hq')) pw2
      obtain ⟨ds, as, hw, en⟩ := name p (hq p List.mem_cons_self)
      refine ⟨ds :: Rs, by rw [List.length_cons, List.length_cons, l], fun r hr => ?_, fun r hr => ?_, List.pairwise_cons.mpr ⟨fun r hr n hn hn2 => ?_, h3⟩⟩
      · rcases List.mem_cons.mp hr with rfl | hr
        · exact ⟨as, hw⟩
        · exact h1 r hr
      · rcases List.mem_cons.mp hr with rfl | hr
        · exact ⟨p, List.mem_cons_self, en⟩
        · obtain ⟨q, hq', e⟩ := h2 r hr
          exact ⟨q, List.mem_cons_of_mem _ hq', e⟩
      · obtain ⟨q, hq', e⟩ := h2 r hr
        have m1 : some n ∈ p.map (nms E) := en ▸ List.mem_map.mpr ⟨n, List.mem_reverse.mpr hn, rfl⟩
        have m2 : some n ∈ q.map (nms E) := e ▸ List.mem_map.mpr ⟨n, List.mem_reverse.mpr hn2, rfl⟩
        obtain ⟨i, hi, ei⟩ := List.mem_map.mp m1
        obtain ⟨j, hj, ej⟩ := List.mem_map.mp m2
        exact pw1 q hq' i hi (one ei ej ▸ hj)
  obtain ⟨Rs, l2, h1, _, h3⟩ := build Ps (fun p hp => hp) pw
  exact ⟨Rs, l2.trans l, h1, h3⟩
end
end Wy

set_option linter.all false
namespace Wy
/-! # lots of numbers below n, the short ones first -/
def lo (l : List Nat) : Nat := match l.getLast? with
  | some j => j + 1
  | none => 0
def lotNext (n : Nat) (L : List (List Nat)) : List (List Nat) := L.flatMap fun l => (List.range' (lo l) (n - lo l)).map fun i => l ++ [i]
def lotLayer (n : Nat) : Nat → List (List Nat)
  | 0 => [[]]
  | k + 1 => lotNext n (lotLayer n k)
theorem lo_snoc (l : List Nat) (i : Nat) : lo (l ++ [i]) = i + 1 := by
  unfold lo
  rw [List.getLast?_append]
  rfl
theorem lt_lo : ∀ {l : List Nat}, l.Pairwise (· < ·) → ∀ x ∈ l, x < lo l := fun {l} h x hx => by
  by_cases e : l = []
  · rw [e] at hx; cases hx
  · obtain ⟨r, j, rfl⟩ := snoc_of e
    rw [lo_snoc]
    rw [List.pairwise_append] at h
    rcases List.mem_append.mp hx with hx | hx
    · have := h.2.2 x hx j (by simp)
      omega
    · rw [List.mem_singleton.mp hx]
      omega
theorem mem_lot {n : Nat} : ∀ (k : Nat) (l : List Nat), l ∈ lotLayer n k ↔ l.Pairwise (· < ·) ∧ (∀ i ∈ l, i < n) ∧ l.length = k
  | 0, l => by
    show l ∈ [[]] ↔ _
    rw [List.mem_singleton]
    constructor
    · rintro rfl
      exact ⟨.nil, fun i h => (by cases h), rfl⟩
    · intro h
      exact List.length_eq_zero_iff.mp h.2.2
  | k + 1, l => by
    show l ∈ lotNext n (lotLayer n k) ↔ _
    unfold lotNext
    rw [List.mem_flatMap]
    constructor
    · intro ⟨r, hr, h⟩
      obtain ⟨i, hi, rfl⟩ := List.mem_map.mp h
      obtain ⟨h1, h2, h3⟩ := (mem_lot k r).mp hr
      obtain ⟨h4, h5⟩ := List.mem_range'_1.mp hi
      refine ⟨List.pairwise_append.mpr ⟨h1, List.pairwise_singleton _ _, fun x hx y hy => ?_⟩, fun x hx => ?_, by rw [List.length_append, h3]; rfl⟩
      · rw [List.mem_singleton.mp hy]
        have := lt_lo h1 x hx
        omega
      · rcases List.mem_append.mp hx with hx | hx
        · exact h2 x hx
        · rw [List.mem_singleton.mp hx]
          omega
    · intro ⟨h1, h2, h3⟩
      obtain ⟨r, i, rfl⟩ := snoc_of (l := l) (fun e => by rw [e] at h3; cases h3)
      have h1' := h1
      rw [List.pairwise_append] at h1
      refine ⟨r, (mem_lot k r).mpr ⟨h1.1, fun x hx => h2 x (List.mem_append_left _ hx), by simpa using h3⟩, List.mem_map.mpr ⟨i, List.mem_range'_1.mpr ⟨?_, ?_⟩, rfl⟩⟩
      · by_cases e : r = []
        · rw [e]; exact Nat.zero_le _
        · obtain ⟨q, j, rfl⟩ := snoc_of e
          rw [lo_snoc]
          exact h1.2.2 j (by simp) i (by simp)
      · have hi := h2 i (by simp)
        have : lo r ≤ i := by
          by_cases e : r = []
          · rw [e]; exact Nat.zero_le _
          · obtain ⟨q, j, rfl⟩ := snoc_of e
            rw [lo_snoc]
            exact h1.2.2 j (by simp) i (by simp)
        omega
def lotsTo (n : Nat) : Nat → List (List Nat)
  | 0 => []
  | k + 1 => lotsTo n k ++ lotLayer n k
theorem mem_lots {n : Nat} : ∀ (k : Nat) (l : List Nat), l ∈ lotsTo n k ↔ l.Pairwise (· < ·) ∧ (∀ i ∈ l, i < n) ∧ l.length < k
  | 0, l => ⟨fun h => (by cases h), fun h => absurd h.2.2 (Nat.not_lt_zero _)⟩
  | k + 1, l => by
    show l ∈ lotsTo n k ++ lotLayer n k ↔ _
    rw [List.mem_append, mem_lots k l, mem_lot k l]
    constructor
    · rintro (⟨h1, h2, h3⟩ | ⟨h1, h2, h3⟩)
      · exact ⟨h1, h2, by omega⟩
      · exact ⟨h1, h2, by omega⟩
    · intro ⟨h1, h2, h3⟩
      by_cases c : l.length < k
      · exact .inl ⟨h1, h2, c⟩
      · exact .inr ⟨h1, h2, by omega⟩
theorem lots_order {n : Nat} : ∀ k, (lotsTo n k).Pairwise fun x y => x.length ≤ y.length
  | 0 => .nil
  | k + 1 => by
    show (lotsTo n k ++ lotLayer n k).Pairwise _
    refine List.pairwise_append.mpr ⟨lots_order k, ?_, fun x hx y hy => ?_⟩
    · refine List.Pairwise.imp_of_mem (fun {x y} hx hy _ => ?_) (List.pairwise_of_forall (R := fun _ _ => True) fun _ _ => trivial)
      rw [((mem_lot k x).mp hx).2.2, ((mem_lot k y).mp hy).2.2]
      exact Nat.le_refl _
    · have a := ((mem_lots k x).mp hx).2.2
      have b := ((mem_lot k y).mp hy).2.2
      omega
/-- ascending numbers below n are at most n -/
theorem asc_len : ∀ {n : Nat} {l : List Nat}, l.Pairwise (· < ·) → (∀ i ∈ l, i < n) → l.length ≤ n := fun {n l} h1 h2 => by
  have e : ∀ (k : Nat) (l : List Nat), l.length = k → l.Pairwise (· < ·) → k ≤ lo l := fun k => by
    induction k with
    | zero => intro l _ _; exact Nat.zero_le _
    | succ k ih =>
      intro l hl h
      obtain ⟨r, i, rfl⟩ := snoc_of (l := l) (fun e => by rw [e] at hl; cases hl)
      rw [List.pairwise_append] at h
      have a := ih r (by simpa using hl) h.1
      rw [lo_snoc]
      by_cases er : r = []
      · rw [er] at hl
        have : k = 0 := by simpa using hl.symm
        omega
      · obtain ⟨q, j, rfl⟩ := snoc_of er
        have := h.2.2 j (by simp) i (by simp)
        rw [lo_snoc] at a
        omega
  have a := e l.length l rfl h1
  by_cases er : l = []
  · rw [er]; exact Nat.zero_le _
  · obtain ⟨q, j, rfl⟩ := snoc_of er
    rw [lo_snoc] at a
    have := h2 j (by simp)
    omega
theorem lot_end {n : Nat} : lotLayer n (n + 1) = [] := List.eq_nil_iff_forall_not_mem.mpr fun l hl => by
  obtain ⟨h1, h2, h3⟩ := (mem_lot _ l).mp hl
  have := asc_len h1 h2
  omega
/-- what stands ahead of the first that is right is not -/
theorem first_least {α : Type} {P : α → Bool} {sz : α → Nat} {L : List α} (o : L.Pairwise fun x y => sz x ≤ sz y) {c : α} (h : L.find? P = some c) : ∀ l ∈ L, sz l < sz c → P l = false := fun l hl lt => by
  obtain ⟨hc, pre, post, e, hp⟩ := List.find?_eq_some_iff_append.mp h
  rw [e] at hl o
  rcases List.mem_append.mp hl with hl | hl
  · simpa using hp l hl
  · rcases List.mem_cons.mp hl with rfl | hl
    · omega
    · have := (List.pairwise_cons.mp (List.pairwise_append.mp o).2.1).1 l hl
      omega
section
variable {N A : Type} [DecidableEq N] [DecidableEq A]
/-- the first lot that meets all ways has as many ways without a common door -/
theorem first_cut {E : List (N × A × A)} {a b : A} (ab : a ≠ b) (nd : (E.map (·.1)).Nodup) (ends : ∀ d ∈ E, d.2.1 ≠ d.2.2) (ws : List (List N)) (hws : ∀ p, p ∈ ws ↔ ∃ as, IsWay (stE E) a b (p, as)) (hit : List Nat → Bool)
    (hh : ∀ L, hit L = false → ∃ p ∈ ws, ∀ i ∈ L, ∀ n, nms E i = some n → n ∉ p) {c : List Nat} (hc : (lotsTo E.length (E.length + 1)).find? hit = some c) : ∃ f, disj c.length ws = some f := by
  obtain ⟨Ps, l, hp, pw⟩ := ways_apart ab nd ends c.length fun L h1 h2 h3 => by
    have le := asc_len h1 h2
    obtain ⟨p, hp, off⟩ := hh L (first_least (sz := List.length) (lots_order _) hc L ((mem_lots _ L).mpr ⟨h1, h2, by omega⟩) h3)
    obtain ⟨as, w⟩ := (hws p).mp hp
    exact ⟨(p, as), w, off⟩
  refine disj_found _ ws Ps l (fun p hp' => ?_) pw
  obtain ⟨as, w⟩ := hp p hp'
  refine ⟨(hws p).mpr ⟨as, w⟩, fun e => ?_⟩
  subst e
  have l := w.1.len
  have e2 := List.length_eq_zero_iff.mp l.symm
  have f := w.2.2
  have e2 : as = [] := e2
  subst e2
  exact ab f
/-- some lot meets all ways -/
theorem some_cut {E : List (N × A × A)} {hit : List Nat → Bool} (all : hit (List.range E.length) = true) : ∃ c, (lotsTo E.length (E.length + 1)).find? hit = some c := by
  cases h : (lotsTo E.length (E.length + 1)).find? hit with
  | some c => exact ⟨c, rfl⟩
  | none =>
    have := List.find?_eq_none.mp h (List.range E.length) ((mem_lots _ _).mpr ⟨List.pairwise_lt_range, fun i hi => List.mem_range.mp hi, by rw [List.length_range]; omega⟩)
    exact absurd all this
end
end Wy

set_option Elab.async false
set_option linter.all false
set_option maxRecDepth 100000
set_option maxHeartbeats 400000
namespace Kx
open PySem PySem.Spec PyProof.Rows L2 Evl
/-! ## the truth of a list, a tuple -/
def tTru (K : PySem.W.Frag) (ta : TE) : TT := fun σ H Q => ta σ H fun x H' => ∃ k, TruV K x H' k ∧ Q k H'
theorem pt_tru {X : Cx} (K : PySem.W.Frag) {a : Expr} {ta : TE} (ha : PE X a ta) (hK : X.K = K := by rfl) (he : ∀ whole, isTrue a X.env whole = (do let v ← whole; standAt a.pos; holding [v] (truthy v)) := by intro _; rfl) : PT X a (tTru K ta) := by
  subst hK
  exact pt_truth ha he
section
variable {K : PySem.W.Frag} {S : Addr → Prop} {σ : L2.St} {H H' : Hp} {ta tr : TA} {te tl tb : TE} {v : V} {d : D} {ds es : List D}
theorem its_rng2 {i j : Int} (h : EvA ta σ H [.int i, .int j]) (b : -1000000 ≤ i ∧ i ≤ 1000000 ∧ -1000000 ≤ j ∧ j ≤ 1000000) : ItS S (iRng2 ta) σ H ((List.range (j - i).toNat).map fun k : Nat => D.int (i + (k : Int))) := fun H1 e R r => h H1 e _ fun H2 e2 =>
  ⟨i, j, rfl, ⟨by omega, by omega, by omega, by omega⟩, r _ H2 e2 fun k H' e3 => ⟨fun d hd => by
    rw [List.getElem?_map] at hd
    obtain ⟨m, hm, rfl⟩ := Option.map_eq_some_iff.mp hd
    obtain ⟨lt, em⟩ := List.getElem?_eq_some_iff.mp hm
    rw [List.length_range] at lt
    rw [List.getElem_range] at em
    subst em
    exact ⟨lt, fun x H'' y => ⟨y.1, by rw [y.2]; exact .int _⟩⟩, fun le => by
    rw [List.length_map, List.length_range] at le
    exact le⟩⟩
theorem es_catL (hin : InS S H) (ha : EvS S te σ H (.lst ds)) (hb : EvS S tb σ H (.lst es)) (hz : ds.length + es.length ≤ 100000) : EvS S (tOp rCat te tb) σ H (.lst (ds ++ es)) := fun H1 e Q q =>
  ha H1 e _ fun v H2 e2 r => hb H2 (e.trans e2) _ fun u H3 e3 r2 => by
    have r := r.up (hidP_ex e3)
    cases r with
    | @lst a xs _ h1 s1 => cases r2 with
      | @lst b ys _ h2 s2 =>
        refine ⟨a, b, xs, ys, rfl, rfl, (hidP_get h1).1, (hidP_get h2).1, by rw [s1.length, s2.length]; exact sz_of hz, fun p fp => ?_⟩
        have n := (hin.up ((e.trans e2).trans e3)).new fp
        exact q (.ref p) _ ((e2.trans e3).trans (Ex.new fp)) (.lst (hidP_at upd_same n) (reps_and (s1.up (hidP_ex (Ex.new fp))) (s2.up (hidP_ex (Ex.new fp)))))
theorem es_catF (hin : InS S H) (ha : EvS S te σ H (.tup ds)) (hb : EvS S tb σ H (.tup es)) (hz : ds.length + es.length ≤ 100000) : EvS S (tOp rCatF te tb) σ H (.tup (ds ++ es)) := fun H1 e Q q =>
  ha H1 e _ fun v H2 e2 r => hb H2 (e.trans e2) _ fun u H3 e3 r2 => by
    obtain ⟨a, xs, rfl, h1, s1⟩ := (r.up (hidP_ex e3)).tupD
    obtain ⟨b, ys, rfl, h2, s2⟩ := r2.tupD
    refine ⟨a, b, xs, ys, rfl, rfl, h1.up hidP_sub, h2.up hidP_sub, by rw [s1.length, s2.length]; exact sz_of hz, fun z => ?_, fun z1 z2 => ?_, fun z1 z2 p o fp ho => ?_⟩
    · subst z
      cases s1
      exact q _ _ (e2.trans e3) (.tup h2 s2)
    · subst z2
      cases s2
      refine q _ _ (e2.trans e3) ?_
      rw [List.append_nil]
      exact .tup h1 s1
    · have n := (hin.up ((e.trans e2).trans e3)).new fp
      exact q (.ref p) _ ((e2.trans e3).trans (Ex.new fp)) (.tup ⟨o, ho, hidP_at upd_same n⟩ (reps_and (s1.up (hidP_ex (Ex.new fp))) (s2.up (hidP_ex (Ex.new fp)))))
theorem s_asgS {D0 : Ends} {u : TS} {i : Nat} (h : EvS S te σ H d) (k : ∀ v H1, Ex H H1 → RepS S H1 v d → u D0 (σ.set i (some v)) H1) : tSeq (tAsg te (gName i)) u D0 σ H := h H (Ex.refl _) _ k
theorem s_asgSN {D0 : Ends} {i : Nat} (h : EvS S te σ H d) (k : ∀ v H1, Ex H H1 → RepS S H1 v d → D0.nx (σ.set i (some v)) H1) : tAsg te (gName i) D0 σ H := h H (Ex.refl _) _ k
theorem s_retS {D0 : Ends} (h : EvS S te σ H d) (k : ∀ v H1, Ex H H1 → RepS S H1 v d → D0.rt v H1) : tRet te D0 σ H := h H (Ex.refl _) _ k
theorem et_truL (h : EvS S te σ H (.lst ds)) : EvT (tTru K te) σ H (!ds.isEmpty) := fun H1 e Q q => h H1 e _ fun v H2 e2 r => by
  cases r with
  | @lst a xs _ h1 s1 =>
    have l := s1.length
    refine ⟨!ds.isEmpty, .inl ⟨xs, .of (hidP_get h1).1, ?_⟩, q H2 e2⟩
    cases xs <;> cases ds <;> first | rfl | cases l
theorem et_truT (h : EvS S te σ H (.tup ds)) : EvT (tTru K te) σ H (!ds.isEmpty) := fun H1 e Q q => h H1 e _ fun v H2 e2 r => by
  obtain ⟨a, xs, rfl, h1, s1⟩ := r.tupD
  have l := s1.length
  refine ⟨!ds.isEmpty, .inr (.inl ⟨xs, (h1.up hidP_sub).sq, ?_⟩), q H2 e2⟩
  cases xs <;> cases ds <;> first | rfl | cases l
end
/-! ## lots -/
def nD (n : Nat) : D := .int (n : Int)
def lotD (l : List Nat) : D := .tup (l.map nD)
def lotsD (L : List (List Nat)) : D := .lst (L.map lotD)
def spLots : Sp := fun vs H Q _ => ∃ (S : Addr → Prop) (n : Nat), vs = [.int (n : Int)] ∧ n ≤ 6 ∧ InS S H ∧ ∀ v H', Ex H H' → RepS S H' v (lotsD (Wy.lotsTo n (n + 1))) → Q v H'
theorem atI_end {vs : List V} {n : Nat} {v : V} (l : vs.length = n + 1) (h : vs[n]? = some v) : atI vs (-1) = some v := by
  have e : vs = vs.take n ++ [v] := by
    have t := List.take_add_one (l := vs) (i := n)
    rw [h, List.take_of_length_le (by omega)] at t
    exact t
  rw [e]
  exact atI_last _ _
theorem lot_some {n k : Nat} (h : k ≤ n) : Wy.lotLayer n k ≠ [] := fun e => by
  have m : List.range k ∈ Wy.lotLayer n k := (Wy.mem_lot k _).mpr ⟨List.pairwise_lt_range, fun i hi => Nat.lt_of_lt_of_le (List.mem_range.mp hi) h, List.length_range⟩
  rw [e] at m
  cases m
theorem lots_len : ∀ n, n ≤ 6 → ∀ k, k ≤ n + 2 → (Wy.lotsTo n k).length ≤ 1000 ∧ (Wy.lotLayer n k).length ≤ 1000 := by decide +kernel
def D.items : D → List D
  | .tup ds => ds
  | .lst ds => ds
  | _ => []
def loD (d : D) : Nat := match d.items.getLast? with
  | some (.int j) => (j + 1).toNat
  | _ => 0
theorem loD_lot (l : List Nat) : loD (lotD l) = Wy.lo l := by
  unfold loD lotD Wy.lo
  show (match (l.map nD).getLast? with | some (.int j) => (j + 1).toNat | _ => 0) = _
  rw [List.getLast?_map]
  cases l.getLast? with
  | none => rfl
  | some j => show ((j : Int) + 1).toNat = j + 1; omega
section
variable {P : Program} {w : World} {K : PySem.W.Frag} {mg : Str → Option Value} {base : Heap} (T : Txt K mg)
theorem ok_lots : FnOk P w K mg base CX0 1 T.a_lots_below T.d_lots_below ["many"] spLots := by
  refine T.F_lots_below.ok sc_lots_below (fun vs H Q E h => ?_) (fun cdv A outer s H vs Q E hr h => ?_)
  · obtain ⟨S, n, rfl, _⟩ := h
    rfl
  · obtain ⟨S, n, rfl, n6, hin, q⟩ := h
    have nd := sc_lots_below.nd
    refine ⟨_, (pss_cons (ps_set (i := 1) nd rfl (.inl rfl) (pe_lst (pa_cons (pe_tupF pa_nil) pa_nil)))
      (pss_cons (ps_set (i := 2) nd rfl (.inl rfl) (pe_lst (pa_cons (pe_tupF pa_nil) pa_nil)))
      (pss_cons (ps_while PassesOwn.never (pt_tru K (pv 2)) (pss_cons (ps_setLc2 (i := 2) (own := [("lot", 3), ("at", 4)]) (vs1 := [4]) (g := gName 3) (g1 := gName 4) (tt := tYes) (tt1 := tYes) (wi1 := iRng2 (tCons (tIf (tTru K (tVar 3)) (tOp (rI0 fun i j => .int (i + j)) (tOp (rIxT K) (tVar 3) (tUn (rU fun i => .int (-i)) (tC (.int 1)))) (tC (.int 1))) (tC (.int 0))) (tCons (tVar 0) tNil))) (te := tOp rCatF (tVar 3) (tTupF (tCons (tVar 4) tNil))) (by rfl) nd rfl rfl (by rfl) (pi_list (pv 2)) (blkOk_by (N := ["many", "found", "layer", "lot", "at"]) (sc := defScope s_lots_below) (by decide +kernel)) (by decide) (fun _ _ _ _ _ => (pg_name (i := 3) nd rfl (.inl rfl))) (fun _ _ _ _ _ => pts_nil) (fun _ _ _ _ _ => (pi_range2 (by rfl) T.z_range (pa_cons (pe_ifExp (pt_tru K (pv 3)) (pe_op op_add (pe_ix (r := rIxT K) ix_tup (pv 3) (pe_un un_neg pe_int) (fun _ _ => rfl)) pe_int) pe_int) (pa_cons (pv 0) pa_nil)))) (fun _ _ _ _ _ => (pg_name (i := 4) nd rfl (.inl rfl))) (fun _ _ _ _ _ => pts_nil) (fun _ _ _ _ _ => (pe_op op_catF (pv 3) (pe_tupF (pa_cons (pv 4) pa_nil)))))
      (pss_one (ps_set (i := 1) nd rfl (.inl rfl) (pe_op op_cat (pv 1) (pv 2))))))
      (pss_one (ps_ret (pv 1)))))), ?_⟩
    have e0 : InS S H := hin
    have empT : ∀ {σ : L2.St} {H1 : Hp}, InS S H1 → EvS S (tLst (tCons (tTupF tNil) tNil)) σ H1 (lotsD [[]]) := fun i => es_lst i (eas_cons (es_tup i eas_nil (by decide)) eas_nil) (by show 1 ≤ 100000; decide)
    refine s_asgS (σ := [some (.int (n : Int)), none, none, none, none]) (empT hin) fun f H1 e1 rf => ?_
    refine s_asgS (σ := [some (.int (n : Int)), some (f), none, none, none]) (empT (hin.up e1)) fun l H2 e2 rl => ?_
    refine q_while (fun m σ' H' => ∃ k f l, m = n + 1 - k ∧ k ≤ n + 1 ∧ σ' = [some (.int (n : Int)), some (f), some (l), none, none] ∧ Ex H H' ∧ RepS S H' f (lotsD (Wy.lotsTo n (k + 1))) ∧ RepS S H' l (lotsD (Wy.lotLayer n k))) (n + 1) ⟨0, f, l, rfl, Nat.zero_le _, rfl, e1.trans e2, rf.up (hidP_ex e2), rl⟩ fun m σ' H3 ⟨k, f, l, em, kn, es, e3, rf, rl⟩ => ?_
    subst es
    refine ⟨!(Wy.lotLayer n k).isEmpty, et_is (et_truL (es_of (ev_var rfl) rl)) (by rw [List.isEmpty_map]), fun hb H4 e4 => ?_, fun hb H4 e4 => ?_⟩
    · have kn2 : k ≤ n := by
        refine Nat.le_of_lt_succ (Nat.lt_of_le_of_ne kn fun z => ?_)
        rw [z, Wy.lot_end] at hb
        cases hb
      have in4 := hin.up (e3.trans e4)
      have rl4 := rl.up (hidP_ex e4)
      have rf4 := rf.up (hidP_ex e4)
      have res : (((Wy.lotLayer n k).map lotD).filter fun _ => true).flatMap (fun d => (((List.range (n - loD d)).map fun i : Nat => D.int ((loD d : Int) + (i : Int))).filter fun _ => true).map fun e => D.tup (d.items ++ [e])) = (Wy.lotLayer n (k + 1)).map lotD := by
        rw [List.filter_eq_self.mpr fun _ _ => rfl, List.flatMap_map]
        show _ = (Wy.lotNext n (Wy.lotLayer n k)).map lotD
        unfold Wy.lotNext
        rw [List.map_flatMap]
        congr 1
        funext l
        rw [List.filter_eq_self.mpr fun _ _ => rfl, loD_lot, List.map_map, List.map_map, List.range'_eq_map_range, List.map_map]
        refine List.map_congr_left fun i _ => ?_
        show D.tup (l.map nD ++ [D.int ((Wy.lo l : Int) + (i : Int))]) = D.tup ((l ++ [Wy.lo l + i]).map nD)
        rw [List.map_append]
        show _ = D.tup (l.map nD ++ [D.int ((Wy.lo l + i : Nat) : Int)])
        rw [Int.natCast_add]
      have lens := (lots_len n n6 (k + 1) (by omega)).2
      have comp : EvS S (tLc2 (iList K (tVar 2)) (gName 3) tYes (iRng2 (tCons (tIf (tTru K (tVar 3)) (tOp (rI0 fun i j => .int (i + j)) (tOp (rIxT K) (tVar 3) (tUn (rU fun i => .int (-i)) (tC (.int 1)))) (tC (.int 1))) (tC (.int 0))) (tCons (tVar 0) tNil))) (gName 4) tYes (tOp rCatF (tVar 3) (tTupF (tCons (tVar 4) tNil))) [3, 4] [4]) [some (.int (n : Int)), some (f), some (l), none, none] H4 (lotsD (Wy.lotLayer n (k + 1))) := by
        have main := lc2S (ds := (Wy.lotLayer n k).map lotD) (wi := iList K (tVar 2)) (wi1 := iRng2 (tCons (tIf (tTru K (tVar 3)) (tOp (rI0 fun i j => .int (i + j)) (tOp (rIxT K) (tVar 3) (tUn (rU fun i => .int (-i)) (tC (.int 1)))) (tC (.int 1))) (tC (.int 0))) (tCons (tVar 0) tNil))) (g := gName 3) (g1 := gName 4) (tt := tYes) (tt1 := tYes) (te := tOp rCatF (tVar 3) (tTupF (tCons (tVar 4) tNil))) (own := [3, 4]) (vs1 := [4]) (σ := [some (.int (n : Int)), some (f), some (l), none, none]) (fun _ => true) (fun d => (List.range (n - loD d)).map fun i : Nat => D.int ((loD d : Int) + (i : Int))) (fun _ _ => true) (fun d e => D.tup (d.items ++ [e])) in4 (its_list (es_of (ev_var rfl) rl4)) (by rw [res, List.length_map]; omega) ?_
        · rw [res] at main
          exact main
        intro S' x d H5 hd in5 e5 x5 rx
        obtain ⟨lot, hlot, rfl⟩ := List.mem_map.mp hd
        obtain ⟨_, lb, ll⟩ := (Wy.mem_lot k lot).mp hlot
        refine ⟨[some (.int (n : Int)), some (f), some (l), some (x), none], fun Q h => h, rfl, fun H6 e6 Q q => q H6 (Ex.refl _), fun _ => ⟨?_, fun y e H7 he in7 e7 x7 ry => ⟨[some (.int (n : Int)), some (f), some (l), some (x), some (y)], fun Q h => h, rfl, fun H6 e6 Q q => q H6 (Ex.refl _), fun _ => ?_⟩⟩⟩
        · have low : Ev (tIf (tTru K (tVar 3)) (tOp (rI0 fun i j => .int (i + j)) (tOp (rIxT K) (tVar 3) (tUn (rU fun i => .int (-i)) (tC (.int 1)))) (tC (.int 1))) (tC (.int 0))) [some (.int (n : Int)), some (f), some (l), some (x), none] H5 (.int (loD (lotD lot) : Int)) := by
            refine ev_if (b := !lot.isEmpty) (et_is (et_truT (es_of (ev_var rfl) rx)) (by rw [List.isEmpty_map])) (fun hb => ?_) (fun hb => ?_)
            · obtain ⟨r, j, rfl⟩ := Wy.snoc_of (l := lot) fun z => by rw [z] at hb; cases hb
              obtain ⟨a, vs, rfl, ha, rs⟩ := rx.tupD
              have ha5 := ha.up hidP_sub
              rw [List.map_append] at rs
              have vl : vs.length = r.length + 1 := by rw [rs.length, List.length_append, List.length_map]; rfl
              have lt : r.length < vs.length := by omega
              have last : vs[r.length]? = some (.int (j : Int)) := by
                obtain ⟨w, hw, rw_⟩ := rs.getD (j := r.length) (d := nD j) (by rw [List.getElem?_append_right (by rw [List.length_map]; exact Nat.le_refl _), List.length_map, Nat.sub_self]; rfl)
                rw [hw, rw_.intD]
              rw [loD_lot, Wy.lo_snoc]
              refine ev_is (ev_op (ev_op (ev_var rfl) (ev_un ev_c fun H1 e Q q => ⟨1, rfl, q H1 (Ex.refl _)⟩) (rv_ixT ha5.sq (i := -1) (v := .int (j : Int)) ?_)) ev_c rv_I0) ?_
              · exact atI_end vl last
              · rfl
            · cases lot with
              | nil => exact ev_c
              | cons _ _ => cases hb
          have low5 : loD (lotD lot) ≤ 6 := by
            rw [loD_lot]
            by_cases z : lot = []
            · rw [z]; exact Nat.zero_le _
            · obtain ⟨r, j, rfl⟩ := Wy.snoc_of z
              rw [Wy.lo_snoc]
              have := lb j (by simp)
              omega
          have it := its_rng2 (S := S') (ea_cons low (ea_cons (ev_var (σ := [some (.int (n : Int)), some (f), some (l), some (x), none]) (i := 0) (H := H5) rfl) ea_nil)) ⟨by omega, by omega, by omega, by omega⟩
          rw [show ((n : Int) - (loD (lotD lot) : Int)).toNat = n - loD (lotD lot) by omega] at it
          exact it
        · exact es_catF in7 (es_of (ev_var rfl) (rx.up x7)) (es_tup in7 (eas_cons (es_of (ev_var rfl) ry) eas_nil) (by show 1 ≤ 100000; decide)) (by show (lot.map nD).length + 1 ≤ 100000; rw [List.length_map, ll]; omega)
      refine ⟨fun σ2 H5 => ∃ f l, σ2 = [some (.int (n : Int)), some (f), some (l), none, none] ∧ Ex H H5 ∧ RepS S H5 f (lotsD (Wy.lotsTo n (k + 2))) ∧ RepS S H5 l (lotsD (Wy.lotLayer n (k + 1))), fun σ2 H5 ⟨f, l, es, e5, rf, rl⟩ => ⟨n + 1 - (k + 1), by omega, k + 1, f, l, rfl, by omega, es, e5, rf, rl⟩, ?_⟩
      refine s_asgS (σ := [some (.int (n : Int)), some (f), some (l), none, none]) comp fun l2 H5 e5 rl5 => ?_
      have lens2 := (lots_len n n6 (k + 1) (by omega)).1
      have cat := es_catL (te := tVar 1) (tb := tVar 2) (σ := [some (.int (n : Int)), some (f), some (l2), none, none]) (in4.up e5) (es_of (ev_var rfl) (rf4.up (hidP_ex e5))) (es_of (ev_var rfl) rl5) (by rw [List.length_map, List.length_map]; omega)
      refine s_asgSN (σ := [some (.int (n : Int)), some (f), some (l2), none, none]) cat fun f2 H6 e6 rf6 => ⟨f2, l2, rfl, (e3.trans e4).trans (e5.trans e6), ?_, rl5.up (hidP_ex e6)⟩
      rw [← List.map_append] at rf6
      exact rf6
    · have ke : k = n + 1 := by
        refine Classical.byContradiction fun z => ?_
        have := lot_some (n := n) (k := k) (by omega)
        cases h : Wy.lotLayer n k with
        | nil => exact this h
        | cons _ _ => rw [h] at hb; cases hb
      subst ke
      refine s_retS (σ := [some (.int (n : Int)), some (f), some (l), none, none]) (es_of (ev_var rfl) (rf.up (hidP_ex e4))) fun v H5 e5 r5 => q v H5 ((e3.trans e4).trans e5) ?_
      have : Wy.lotsTo n (n + 1 + 1) = Wy.lotsTo n (n + 1) := by
        show Wy.lotsTo n (n + 1) ++ Wy.lotLayer n (n + 1) = _
        rw [Wy.lot_end, List.append_nil]
      rw [this] at r5
      exact r5
end
end Kx

set_option Elab.async false
set_option linter.all false
set_option maxRecDepth 100000
set_option maxHeartbeats 400000
namespace Kx
open PySem PySem.Spec PyProof.Rows L2 Evl
theorem s_appS {K : PySem.W.Frag} {S : Addr → Prop} {σ : L2.St} {H : Hp} {ta te : TE} {D0 : Ends} {l : Addr} {acc : List V} {d : D} (hl : Ev ta σ H (.ref l)) (ha : H l = some (.lst acc)) (h : EvS S te σ H d) (hz : acc.length < 100000)
    (k : ∀ y H1, Ex H H1 → RepS S H1 y d → D0.nx σ (upd H1 l (.lst (acc ++ [y])))) : tDrop (tBM K "list" rAppend ta (tCons te tNil)) D0 σ H :=
  hl H (Ex.refl _) _ fun H1 e1 => ⟨.inl ⟨rfl, acc, .of (e1 _ _ ha)⟩, h H1 e1 _ fun y H2 e2 r => ⟨l, acc, y, rfl, rfl, e2 _ _ (e1 _ _ ha), sz_lt hz, k y H2 (e1.trans e2) r⟩⟩
theorem inS_also {S : Addr → Prop} {H : Hp} {l : Addr} {o : HO} (i : InS S H) (h : H l = some o) : InS (also S l) H := fun a ha z => ha.elim (fun s => i a s z) fun s => by rw [s, h] at z; cases z
theorem txs_up {H H' : Hp} {a : Addr} {ns : List Str} (h : Txs H a ns) (e : Ex H H') : Txs H' a ns := h.elim (fun h => .inl (e _ _ h)) fun h => .inr (h.elim (fun h => .inl (e _ _ h)) fun ⟨o, h⟩ => .inr ⟨o, e _ _ h⟩)
/-! ## the steps from an area -/
def trip : D → Str × Str × Str
  | .tup [.str n, .str a, .str b, _] => (n, a, b)
  | _ => (Str.empty, Str.empty, Str.empty)
def doorsD : D → List (Str × Str × Str)
  | .tup [_, _, .tup es, _, _] => es.map trip
  | _ => []
def stepL (fr : List Str) (x : Str) (d : Str × Str × Str) : List (Str × Str) := if amg d.1 fr = true ∧ x = d.2.1 then [(d.1, d.2.2)] else if amg d.1 fr = true ∧ x = d.2.2 then [(d.1, d.2.1)] else []
def stepsL (E : List (Str × Str × Str)) (fr : List Str) (x : Str) : List (Str × Str) := E.flatMap (stepL fr x)
def pairD (p : Str × Str) : D := .tup [.str p.1, .str p.2]
def spSteps : Sp := fun vs H Q _ => ∃ (S : Addr → Prop) (v : V) (d : D) (f : Addr) (fr : List Str) (x : Str), vs = [v, .ref f, .str x] ∧ Rep H v d ∧ d.bld = true ∧ Txs H f fr ∧ InS S H ∧ ∀ w H', Ex H H' → RepS S H' w (.lst ((stepsL (doorsD d) fr x).map pairD)) → Q w H'
section
variable {P : Program} {w : World} {K : PySem.W.Frag} {mg : Str → Option Value} {base : Heap} (T : Txt K mg)
theorem ok_steps : FnOk P w K mg base CX0 2 T.a_steps_from T.d_steps_from ["building", "free", "area"] spSteps := by
  refine T.F_steps_from.ok sc_steps_from (fun vs H Q E h => ?_) (fun cdv A outer s H vs Q E hr h => ?_)
  · obtain ⟨S, v, d, f, fr, x, rfl, _⟩ := h
    rfl
  · obtain ⟨S, v, d, f, fr, x, rfl, hv, hb, hf, hin, q⟩ := h
    have nd := sc_steps_from.nd
    refine ⟨_, (pss_cons (ps_set (i := 3) nd rfl (.inl rfl) (pe_lst pa_nil))
      (pss_cons (ps_for PassesOwn.never rfl (pi_tup (pe_call (ok_doors_of T) (hr.mono (by decide)) (by rfl) T.g_doors_of T.F_doors_of.kp (b_doors_of T) .nil pass0 (pa_cons (pv 0) pa_nil))) (pg_tup rfl (pgs_cons (pg_name (i := 4) nd rfl (.inl rfl)) (pgs_cons (pg_name (i := 5) nd rfl (.inl rfl)) (pgs_cons (pg_name (i := 6) nd rfl (.inl rfl)) (pgs_cons (pg_name (i := 7) nd rfl (.inl rfl)) pgs_nil))))) (pss_one (ps_if (PW.pt (pw_and (pt_cmpR (r := rIn K false) op_in_seq (pv 4) (pv 1) (by rfl)) (pw_and1 (pt_cmpR op_eq (pv 2) (pv 5) (nomark _))))) (pss_one (ps_expr (pe_bm PySem.F.plainAttrs_list PySem.F.slot_list_append PySem.F.type_list_append mt_append (pv 3) (pa_cons (pe_tupF (pa_cons (pv 4) (pa_cons (pv 6) pa_nil))) pa_nil)))) (pss_one (ps_if (PW.pt (pw_and (pt_cmpR (r := rIn K false) op_in_seq (pv 4) (pv 1) (by rfl)) (pw_and1 (pt_cmpR op_eq (pv 2) (pv 6) (nomark _))))) (pss_one (ps_expr (pe_bm PySem.F.plainAttrs_list PySem.F.slot_list_append PySem.F.type_list_append mt_append (pv 3) (pa_cons (pe_tupF (pa_cons (pv 4) (pa_cons (pv 5) pa_nil))) pa_nil)))) pss_nil)))))
      (pss_one (ps_ret (pv 3))))), ?_⟩
    obtain ⟨as, es, ks, rs, B⟩ := bld_is hb
    obtain ⟨a, vs, b, ws, rfl, ha, h2, hbt, hbs⟩ := door_at B hv
    have de : doorsD d = es.map trip := by rw [B.eq]; rfl
    rw [de] at q
    refine s_asgLX (xs := []) (σ := [some (.ref a), some (.ref f), some (.str x), none, none, none, none, none]) (el_lst ea_nil (by decide)) fun p H1 np e1 hp => ?_
    have nS := hin.new np
    refine q_forT (xs := ws) (σ := [some (.ref a), some (.ref f), some (.str x), some (.ref p), none, none, none, none]) (ev_sp (stb_item 2) (ea_cons (ev_var rfl) ea_nil) ⟨a, vs, rfl, ha.up e1, h2⟩) (hbt.up e1).sq
      (fun i σ' H' => ∃ y4 y5 y6 y7 acc, σ' = [some (.ref a), some (.ref f), some (.str x), some (.ref p), y4, y5, y6, y7] ∧ Ex H H' ∧ H' p = some (.lst acc) ∧ RepsS (also S p) H' acc ((stepsL ((es.take i).map trip) fr x).map pairD) ∧ acc.length ≤ i)
      (fun H2 e2 => ⟨none, none, none, none, [], rfl, e1.trans e2, e2 _ _ hp, .nil, Nat.le_refl _⟩) (fun i σ' H' _ hq => let ⟨_, _, _, _, _, _, e, _⟩ := hq; (hbt.up e).sq) (fun i y σ' H' hy hq => ?_) (fun σ' H' hq => ?_)
    · obtain ⟨y4, y5, y6, y7, acc, rfl, e2, hpa, ra, al⟩ := hq
      obtain ⟨e, he, r⟩ := hbs.get hy
      obtain ⟨n, a1, b1, s1, rfl, _⟩ := dr_shape (B.ed e (List.mem_of_getElem? he))
      obtain ⟨c, us, rfl, hc, hcs⟩ := (r.up e2).tupD
      have il : i < es.length := (List.getElem?_eq_some_iff.mp he).1
      have a100 : acc.length < 100000 := by have := B.e6; omega
      cases hcs with
      | cons q0 hcs => cases hcs with
        | cons q1 hcs => cases hcs with
          | cons q2 hcs => cases hcs with
            | cons q3 hcs =>
              cases hcs
              obtain rfl := q0.strD
              obtain rfl := q1.strD
              obtain rfl := q2.strD
              obtain rfl := q3.strD
              refine ⟨c, _, rfl, hc.sq, rfl, .str n, _, rfl, .str a1, _, rfl, .str b1, _, rfl, .str s1, _, rfl, rfl, ?_⟩
              have tk : (stepsL ((es.take (i + 1)).map trip) fr x).map pairD = (stepsL ((es.take i).map trip) fr x).map pairD ++ (stepL fr x (n, a1, b1)).map pairD := by
                rw [List.take_add_one, he]
                unfold stepsL
                rw [List.map_append, List.flatMap_append, List.map_append]
                congr 1
                show (([trip (.tup [.str n, .str a1, .str b1, .str s1])] : List _).flatMap (stepL fr x)).map pairD = _
                rw [List.flatMap_cons, List.flatMap_nil, List.append_nil]
                rfl
              have inA := inS_also (hin.up e2) hpa
              have tst : ∀ {H3 : Hp} {z : Str} {j : Nat}, Ex H' H3 → ([some (.ref a), some (.ref f), some (.str x), some (.ref p), some (.str n), some (.str a1), some (.str b1), some (.str s1)] : L2.St)[j]? = some (some (.str z)) → EvT (tAnd (tTest (tOp (rIn K false) (tVar 4) (tVar 1))) (tTest (tOp rEq (tVar 2) (tVar j)))) [some (.ref a), some (.ref f), some (.str x), some (.ref p), some (.str n), some (.str a1), some (.str b1), some (.str s1)] H3 (amg n fr && decide (x = z)) := fun {H3 z j} e3 hz =>
                et_and (et_test (ev_op (ev_var rfl) (ev_var rfl) (rv_inTx (txs_up hf (e2.trans e3))))) fun _ => et_test (ev_is (ev_op (ev_var rfl) (ev_var hz) (rv_eq rfl)) (congrArg V.bl (decide_eq_decide.mpr ⟨fun h => V.str.inj h, fun h => congrArg V.str h⟩)))
              have put : ∀ {H3 : Hp} {z : Str} {j : Nat}, Ex H' H3 → ([some (.ref a), some (.ref f), some (.str x), some (.ref p), some (.str n), some (.str a1), some (.str b1), some (.str s1)] : L2.St)[j]? = some (some (.str z)) → stepL fr x (n, a1, b1) = [(n, z)] →
                  tDrop (tBM K "list" rAppend (tVar 3) (tCons (tTupF (tCons (tVar 4) (tCons (tVar j) tNil))) tNil)) { nx := fun σ' H' => ∃ y4 y5 y6 y7 acc, σ' = [some (.ref a), some (.ref f), some (.str x), some (.ref p), y4, y5, y6, y7] ∧ Ex H H' ∧ H' p = some (.lst acc) ∧ RepsS (also S p) H' acc ((stepsL ((es.take (i + 1)).map trip) fr x).map pairD) ∧ acc.length ≤ i + 1, rt := Q } [some (.ref a), some (.ref f), some (.str x), some (.ref p), some (.str n), some (.str a1), some (.str b1), some (.str s1)] H3 := fun {H3 z j} e3 hz hs => by
                refine s_appS (S := also S p) (ev_var rfl) (e3 _ _ hpa) (es_tup (inA.up e3) (eas_cons (es_of (ev_var rfl) (.str n)) (eas_cons (es_of (ev_var hz) (.str z)) eas_nil)) (by show 2 ≤ 100000; decide)) a100 fun y H4 e4 ry => ⟨_, _, _, _, acc ++ [y], rfl, (e2.trans (e3.trans e4)).mut np, upd_same, ?_, by rw [List.length_append]; show acc.length + 1 ≤ i + 1; omega⟩
                rw [tk, hs]
                exact reps_and ((ra.up (hidP_ex (e3.trans e4))).up (hidP_mut (show also S p p from .inr rfl))) (.cons (ry.up (hidP_mut (show also S p p from .inr rfl))) .nil)
              refine s_if (tst (Ex.refl _) (j := 5) rfl) (fun hb H3 e3 => ?_) (fun hb H3 e3 => ?_)
              · rw [Bool.and_eq_true, decide_eq_true_iff] at hb
                exact put e3 (j := 6) rfl (if_pos hb)
              · have n1 : ¬ (amg n fr = true ∧ x = a1) := fun z => by
                  rw [z.1, decide_eq_true z.2] at hb
                  cases hb
                refine s_if (tst e3 (j := 6) rfl) (fun hb H4 e4 => ?_) (fun hb H4 e4 => ?_)
                · rw [Bool.and_eq_true, decide_eq_true_iff] at hb
                  exact put (e3.trans e4) (j := 5) rfl ((if_neg n1).trans (if_pos hb))
                · have n2 : ¬ (amg n fr = true ∧ x = b1) := fun z => by
                    rw [z.1, decide_eq_true z.2] at hb
                    cases hb
                  refine ⟨_, _, _, _, acc, rfl, e2.trans (e3.trans e4), e4 _ _ (e3 _ _ hpa), ?_, by omega⟩
                  rw [tk, show stepL fr x (n, a1, b1) = [] from (if_neg n1).trans (if_neg n2), List.map_nil, List.append_nil]
                  exact ra.up (hidP_ex (e3.trans e4))
    · obtain ⟨y4, y5, y6, y7, acc, rfl, e2, hpa, ra, al⟩ := hq
      rw [List.take_of_length_le (by rw [hbs.length]; exact Nat.le_refl _)] at ra
      exact s_ret (v := .ref p) (ev_var rfl) fun H3 e3 => q (.ref p) H3 (e2.trans e3) (.lst (hidP_at (e3 _ _ hpa) nS) ((ra.up (hidP_ex e3)).up (hidP_less fun a h => .inl h)))
end
end Kx

set_option Elab.async false
set_option linter.all false
set_option maxRecDepth 100000
set_option maxHeartbeats 400000
namespace Kx
open PySem PySem.Spec PyProof.Rows L2 Evl
/-! ## all ways -/
def wayD (a : Str) (w : List Str × List Str) : D := .tup [.lst (w.1.map D.str), .lst ((a :: w.2).map D.str)]
def lastS (d : D) : Str := match d with
  | .tup [_, .lst ms] => match ms.getLast? with
    | some (.str s) => s
    | _ => Str.empty
  | _ => Str.empty
def edgesD (d : D) : List (Str × Str × Str) := doorsD d
def areasD : D → List Str
  | .tup [_, .tup as, _, _, _] => as.map fun d => match d with | .str s => s | _ => Str.empty
  | _ => []
abbrev stepsD (d : D) (fr : List Str) (x : Str) : List (Str × Str) := stepsL (doorsD d) fr x
def waysL (d : D) (fr : List Str) (a b : Str) : List (List Str × List Str) := Wy.upto (stepsD d fr) a b 6
def spWays : Sp := fun vs H Q _ => ∃ (S : Addr → Prop) (v : V) (d : D) (f : Addr) (fr : List Str) (a b : Str), vs = [v, .ref f, .str a, .str b] ∧ Rep H v d ∧ d.bld = true ∧ Txs H f fr ∧ a ∈ areasD d ∧ InS S H ∧ ∀ w H', Ex H H' → RepS S H' w (.lst ((waysL d fr a b).map (wayD a))) → Q w H'
def metD : D → List Str
  | .tup [_, .lst ms] => ms.map fun d => match d with | .str s => s | _ => Str.empty
  | _ => []
def sndS : D → Str
  | .tup [_, .str s] => s
  | _ => Str.empty
def farD : D → D → D
  | .tup [.lst ds, .lst ms], .tup [n, y] => .tup [.lst (ds ++ [n]), .lst (ms ++ [y])]
  | _, _ => .non
theorem metD_way (a : Str) (w : List Str × List Str) : metD (wayD a w) = a :: w.2 := by
  unfold metD wayD
  dsimp only
  rw [List.map_map]
  exact List.map_id _
theorem farD_way (a : Str) (w : List Str × List Str) (s : Str × Str) : farD (wayD a w) (pairD s) = wayD a (w.1 ++ [s.1], w.2 ++ [s.2]) := by
  show D.tup [.lst (w.1.map D.str ++ [.str s.1]), .lst ((a :: w.2).map D.str ++ [.str s.2])] = D.tup [.lst ((w.1 ++ [s.1]).map D.str), .lst ((a :: (w.2 ++ [s.2])).map D.str)]
  rw [List.map_append, ← List.cons_append, List.map_append]
  rfl
theorem lastS_way (a : Str) (w : List Str × List Str) : lastS (wayD a w) = Wy.fin a w.2 := by
  show (match ((a :: w.2).map D.str).getLast? with | some (.str s) => s | _ => Str.empty) = _
  rw [List.getLast?_map, List.getLast?_eq_some_getLast (by simp), Wy.fin_last]
  rfl
theorem flat_len {α β : Type} {n : Nat} {F : α → List β} : ∀ {L : List α}, (∀ x ∈ L, (F x).length ≤ n) → (L.flatMap F).length ≤ n * L.length
  | [], _ => Nat.zero_le _
  | x :: r, h => by
    have a := h x List.mem_cons_self
    have b := flat_len (L := r) fun y hy => h y (List.mem_cons_of_mem _ hy)
    rw [List.flatMap_cons, List.length_append, List.length_cons, Nat.mul_add, Nat.mul_one]
    omega
theorem steps_len {d : D} {fr : List Str} {x : Str} (hb : d.bld = true) : (stepsD d fr x).length ≤ 6 := by
  obtain ⟨as, es, ks, rs, B⟩ := bld_is hb
  have e : doorsD d = es.map trip := by rw [B.eq]; rfl
  unfold stepsD stepsL
  have := flat_len (n := 1) (F := stepL fr x) (L := doorsD d) fun y _ => by
    unfold stepL
    split
    · exact Nat.le_refl _
    · split
      · exact Nat.le_refl _
      · exact Nat.zero_le _
  rw [e, List.length_map] at this
  have := B.e6
  rw [e]
  omega
theorem layer_len {d : D} {fr : List Str} {a b : Str} (hb : d.bld = true) : ∀ k, (Wy.layer (stepsD d fr) a b k).length ≤ 6 ^ k
  | 0 => Nat.le_refl _
  | k + 1 => by
    show (Wy.next (stepsD d fr) a b (Wy.layer (stepsD d fr) a b k)).length ≤ _
    unfold Wy.next
    refine Nat.le_trans (flat_len (n := 6) fun w _ => ?_) ?_
    · rw [List.length_map]
      exact Nat.le_trans (List.length_filter_le _ _) (steps_len hb)
    · rw [Nat.pow_succ, Nat.mul_comm]
      exact Nat.mul_le_mul_right 6 (Nat.le_trans (List.length_filter_le _ _) (layer_len (fr := fr) (a := a) (b := b) hb k))
theorem upto_len {d : D} {fr : List Str} {a b : Str} (hb : d.bld = true) : ∀ k, (Wy.upto (stepsD d fr) a b k).length ≤ 6 ^ k
  | 0 => Nat.zero_le _
  | k + 1 => by
    show (Wy.upto (stepsD d fr) a b k ++ _).length ≤ _
    rw [List.length_append]
    refine Nat.le_trans (Nat.add_le_add (upto_len (fr := fr) (a := a) (b := b) hb k) (Nat.le_trans (List.length_filter_le _ _) (layer_len (fr := fr) (a := a) (b := b) hb k))) ?_
    rw [Nat.pow_succ]
    omega
theorem pow6 {k : Nat} (h : k ≤ 6) : (6 : Nat) ^ k ≤ 46656 := by
  have := Nat.pow_le_pow_right (n := 6) (by decide) h
  exact this
theorem door_ends {d : D} (hb : d.bld = true) : (areasD d).length ≤ 6 ∧ ∀ e ∈ doorsD d, e.2.1 ∈ areasD d ∧ e.2.2 ∈ areasD d ∧ e.2.1 ≠ e.2.2 := by
  obtain ⟨as, es, ks, rs, B⟩ := bld_is hb
  have ea : areasD d = as := by
    rw [B.eq]
    show (as.map D.str).map _ = as
    rw [List.map_map]
    exact List.map_id as
  have ed : doorsD d = es.map trip := by rw [B.eq]; rfl
  rw [ea, ed]
  refine ⟨B.a6, fun e he => ?_⟩
  obtain ⟨x, hx, rfl⟩ := List.mem_map.mp he
  obtain ⟨n, p, q, s, rfl, _, h1, h2, h3, _⟩ := dr_shape (B.ed x hx)
  exact ⟨h1, h2, h3⟩
theorem layer_six {d : D} {fr : List Str} {a b : Str} (hb : d.bld = true) (ha : a ∈ areasD d) : Wy.layer (stepsD d fr) a b 6 = [] := by
  obtain ⟨l6, ends⟩ := door_ends hb
  refine Wy.layer_end (st := fun n x y => (n, y) ∈ stepsD d fr x) (fun _ _ _ => Iff.rfl) (areasD d) (fun n x y h => ?_) ha 6 l6
  obtain ⟨e, he, h⟩ := List.mem_flatMap.mp h
  obtain ⟨e1, e2, _⟩ := ends e he
  unfold stepL at h
  split at h
  · cases List.mem_singleton.mp h
    exact e2
  · split at h
    · cases List.mem_singleton.mp h
      exact e1
    · cases h
theorem layer_nil {d : D} {fr : List Str} {a b : Str} {k : Nat} (h : Wy.layer (stepsD d fr) a b k = []) : ∀ j, Wy.layer (stepsD d fr) a b (k + j) = [] ∧ Wy.upto (stepsD d fr) a b (k + j) = Wy.upto (stepsD d fr) a b k
  | 0 => ⟨h, rfl⟩
  | j + 1 => by
    obtain ⟨h1, h2⟩ := layer_nil h j
    constructor
    · show Wy.next (stepsD d fr) a b (Wy.layer (stepsD d fr) a b (k + j)) = []
      rw [h1]
      rfl
    · show Wy.upto (stepsD d fr) a b (k + j) ++ (Wy.layer (stepsD d fr) a b (k + j)).filter _ = _
      rw [h1, h2, List.filter_nil, List.append_nil]
section
variable {K : PySem.W.Frag} {S : Addr → Prop} {σ : L2.St} {H H' : Hp} {te : TE}
theorem way_at {a : Str} {w : List Str × List Str} {x : V} (r : RepS S H x (wayD a w)) : ∃ c l m, x = .ref c ∧ TupS (hidP S H) c [.ref l, .ref m] ∧ hidP S H l = some (.lst (sv w.1)) ∧ hidP S H m = some (.lst (sv (a :: w.2))) := by
  obtain ⟨c, vs, rfl, hc, hs⟩ := r.tupD
  cases hs with
  | cons r1 hs => cases hs with
    | cons r2 hs =>
      cases hs
      cases r1 with
      | @lst l us _ h1 s1 => cases r2 with
        | @lst m ws _ h2 s2 =>
          rw [strs_of_reps s1] at h1
          rw [strs_of_reps s2] at h2
          exact ⟨c, l, m, rfl, hc, h1, h2⟩
theorem sv_last (a : Str) (as : List Str) : atI (sv (a :: as)) (-1) = some (.str (Wy.fin a as)) := by
  have e := List.dropLast_concat_getLast (l := a :: as) (by simp)
  rw [Wy.fin_last] at e
  rw [← e]
  show atI (((a :: as).dropLast ++ [Wy.fin a as]).map V.str) (-1) = _
  rw [List.map_append]
  exact atI_last _ _
theorem ev_last {m : Addr} {a : Str} {as : List Str} (h : Ev te σ H (.ref m)) (hm : H m = some (.lst (sv (a :: as)))) : Ev (tOp (rIxL K) te (tUn (rU fun i => .int (-i)) (tC (.int 1)))) σ H (.str (Wy.fin a as)) :=
  ev_op h (ev_un ev_c fun H1 e Q q => ⟨1, rfl, q H1 (Ex.refl _)⟩) (rv_ixL (i := -1) (.of hm) (sv_last a as))
end
section
variable {P : Program} {w : World} {K : PySem.W.Frag} {mg : Str → Option Value} {base : Heap} (T : Txt K mg)
theorem ok_ways : FnOk P w K mg base CX0 3 T.a_all_ways T.d_all_ways ["building", "free", "area", "other"] spWays := by
  refine T.F_all_ways.ok sc_all_ways (fun vs H Q E h => ?_) (fun cdv A outer s H vs Q E hr h => ?_)
  · obtain ⟨S, v, d, f, fr, a, b, rfl, _⟩ := h
    rfl
  · obtain ⟨S, v, d, f, fr, a, b, rfl, hv, hb, hf, hab, hin, q⟩ := h
    have nd := sc_all_ways.nd
    refine ⟨_, (pss_cons (ps_set (i := 4) nd rfl (.inl rfl) (pe_lst pa_nil))
      (pss_cons (ps_set (i := 5) nd rfl (.inl rfl) (pe_lst (pa_cons (pe_tupF (pa_cons (pe_lst pa_nil) (pa_cons (pe_lst (pa_cons (pv 2) pa_nil)) pa_nil))) pa_nil)))
      (pss_cons (ps_while PassesOwn.never (pt_tru K (pv 5)) (pss_cons (ps_set (i := 4) nd rfl (.inl rfl) (pe_op op_cat (pv 4) (pe_lc (own := [("way", 7)]) (g := gName 7) (tt := tTest (tOp rEq (tOp (rIxL K) (tOp (rIxT K) (tVar 7) (tC (.int 1))) (tUn (rU fun i => .int (-i)) (tC (.int 1)))) (tVar 3))) (te := tVar 7) (by rfl) nd (pi_list (pv 5)) (blkOk_by (N := ["building", "free", "area", "other", "found", "layer", "going", "way", "doors", "met", "name", "behind"]) (sc := defScope s_all_ways) (by decide +kernel)) (fun _ _ _ _ _ => (pg_name (i := 7) nd rfl (.inl rfl))) (fun _ _ _ _ _ => (pts_one (pt_cmpR op_eq (pe_ix (r := rIxL K) ix_list (pe_ix (r := rIxT K) ix_tup (pv 7) pe_int (fun _ _ => rfl)) (pe_un un_neg pe_int) (fun _ _ => rfl)) (pv 3) (nomark _)))) (fun _ _ _ _ _ => (pv 7)))))
      (pss_cons (ps_setLc (i := 6) (own := [("way", 7)]) (g := gName 7) (tt := tTest (tOp rNe (tOp (rIxL K) (tOp (rIxT K) (tVar 7) (tC (.int 1))) (tUn (rU fun i => .int (-i)) (tC (.int 1)))) (tVar 3))) (te := tVar 7) (by rfl) nd rfl rfl (by rfl) (pi_list (pv 5)) (blkOk_by (N := ["building", "free", "area", "other", "found", "layer", "going", "way", "doors", "met", "name", "behind"]) (sc := defScope s_all_ways) (by decide +kernel)) (fun _ _ _ _ _ => (pg_name (i := 7) nd rfl (.inl rfl))) (fun _ _ _ _ _ => (pts_one (pt_cmpR op_ne (pe_ix (r := rIxL K) ix_list (pe_ix (r := rIxT K) ix_tup (pv 7) pe_int (fun _ _ => rfl)) (pe_un un_neg pe_int) (fun _ _ => rfl)) (pv 3) (nomark _)))) (fun _ _ _ _ _ => (pv 7)))
      (pss_one (ps_setLc2 (i := 5) (own := [("doors", 8), ("met", 9), ("name", 10), ("behind", 11)]) (vs1 := [10, 11]) (g := gTup K 2 (gCons (gName 8) (gCons (gName 9) gNil))) (g1 := gTup K 2 (gCons (gName 10) (gCons (gName 11) gNil))) (tt := tYes) (wi1 := iList K (tCall spSteps [] E0 (tCons (tVar 0) (tCons (tVar 1) (tCons (tOp (rIxL K) (tVar 9) (tUn (rU fun i => .int (-i)) (tC (.int 1)))) tNil))))) (tt1 := tTest (tOp (rIn K true) (tVar 11) (tVar 9))) (te := tTupF (tCons (tOp rCat (tVar 8) (tLst (tCons (tVar 10) tNil))) (tCons (tOp rCat (tVar 9) (tLst (tCons (tVar 11) tNil))) tNil))) (by rfl) nd rfl rfl (by rfl) (pi_list (pv 6)) (blkOk_by (N := ["building", "free", "area", "other", "found", "layer", "going", "way", "doors", "met", "name", "behind"]) (sc := defScope s_all_ways) (by decide +kernel)) (by decide) (fun _ _ _ _ _ => (pg_tup rfl (pgs_cons (pg_name (i := 8) nd rfl (.inl rfl)) (pgs_cons (pg_name (i := 9) nd rfl (.inl rfl)) pgs_nil)))) (fun _ _ _ _ _ => pts_nil) (fun _ _ _ _ _ => (pi_list (pe_call (ok_steps T) (hr.mono (by decide)) (by rfl) T.g_steps_from T.F_steps_from.kp (b_steps_from T) .nil pass0 (pa_cons (pv 0) (pa_cons (pv 1) (pa_cons (pe_ix (r := rIxL K) ix_list (pv 9) (pe_un un_neg pe_int) (fun _ _ => rfl)) pa_nil)))))) (fun _ _ _ _ _ => (pg_tup rfl (pgs_cons (pg_name (i := 10) nd rfl (.inl rfl)) (pgs_cons (pg_name (i := 11) nd rfl (.inl rfl)) pgs_nil)))) (fun _ _ _ _ _ => (pts_one (pt_cmpR (r := rIn K true) op_notIn_seq (pv 11) (pv 9) (by rfl)))) (fun _ _ _ _ _ => (pe_tupF (pa_cons (pe_op op_cat (pv 8) (pe_lst (pa_cons (pv 10) pa_nil))) (pa_cons (pe_op op_cat (pv 9) (pe_lst (pa_cons (pv 11) pa_nil))) pa_nil)))))))))
      (pss_one (ps_ret (pv 4)))))), ?_⟩
    obtain ⟨l6, ends⟩ := door_ends hb
    -- the two ways of telling where a way ends
    have lastT : ∀ {σ : L2.St} {S' : Addr → Prop} {H1 : Hp} {x : V} {w : List Str × List Str}, σ[7]? = some (some x) → σ[3]? = some (some (.str b)) → RepS S' H1 x (wayD a w) →
        EvT (tTest (tOp rEq (tOp (rIxL K) (tOp (rIxT K) (tVar 7) (tC (.int 1))) (tUn (rU fun i => .int (-i)) (tC (.int 1)))) (tVar 3))) σ H1 (decide (lastS (wayD a w) = b)) ∧ EvT (tTest (tOp rNe (tOp (rIxL K) (tOp (rIxT K) (tVar 7) (tC (.int 1))) (tUn (rU fun i => .int (-i)) (tC (.int 1)))) (tVar 3))) σ H1 (!decide (lastS (wayD a w) = b)) := fun {σ S' H1 x w} h7 h3 r => by
      obtain ⟨c, l, m, rfl, hc, hl, hm⟩ := way_at r
      have e1 : Ev (tOp (rIxT K) (tVar 7) (tC (.int 1))) σ H1 (.ref m) := ev_ixT (j := 1) (ev_var h7) (hc.up hidP_sub) rfl
      have e2 : Ev (tOp (rIxL K) (tOp (rIxT K) (tVar 7) (tC (.int 1))) (tUn (rU fun i => .int (-i)) (tC (.int 1)))) σ H1 (.str (Wy.fin a w.2)) := ev_last e1 (hidP_get hm).1
      have dd : decide (V.str (Wy.fin a w.2) = V.str b) = decide (lastS (wayD a w) = b) := by
        rw [lastS_way]
        exact decide_eq_decide.mpr ⟨fun h => V.str.inj h, fun h => congrArg V.str h⟩
      exact ⟨et_test (ev_is (ev_op e2 (ev_var h3) (rv_eq rfl)) (congrArg V.bl dd)), et_test (ev_is (ev_op e2 (ev_var h3) (rv_ne rfl)) (congrArg V.bl (congrArg not dd)))⟩
    have filt : ∀ (L : List (List Str × List Str)) (p : Str → Bool), (((L.map (wayD a)).filter fun d => p (lastS d)).map id) = (L.filter fun w => p (Wy.fin a w.2)).map (wayD a) := fun L p => by
      rw [List.map_id, List.filter_map]
      congr 1
      congr 1
      funext w
      show p (lastS (wayD a w)) = _
      rw [lastS_way]
    refine s_asgS (S := S) (σ := [some (v), some (.ref f), some (.str a), some (.str b), none, none, none, none, none, none, none, none]) (es_lst hin eas_nil (by decide)) fun fo H1 e1 rf => ?_
    have in1 := hin.up e1
    refine s_asgS (S := S) (σ := [some (v), some (.ref f), some (.str a), some (.str b), some (fo), none, none, none, none, none, none, none]) (es_lst in1 (eas_cons (es_tup in1 (eas_cons (es_lst in1 eas_nil (by decide)) (eas_cons (es_lst in1 (eas_cons (es_of (ev_var rfl) (.str a)) eas_nil) (by show 1 ≤ 100000; decide)) eas_nil)) (by show 2 ≤ 100000; decide)) eas_nil) (by show 1 ≤ 100000; decide)) fun la H2 e2 rl => ?_
    refine q_while (fun m σ' H' => ∃ k fo la y6, m = 7 - k ∧ k ≤ 6 ∧ σ' = [some (v), some (.ref f), some (.str a), some (.str b), some (fo), some (la), y6, none, none, none, none, none] ∧ Ex H H' ∧ RepS S H' fo (.lst ((Wy.upto (stepsD d fr) a b k).map (wayD a))) ∧ RepS S H' la (.lst ((Wy.layer (stepsD d fr) a b k).map (wayD a)))) 7
      ⟨0, fo, la, none, rfl, by decide, rfl, e1.trans e2, rf.up (hidP_ex e2), rl⟩ fun m σ' H3 ⟨k, fo, la, y6, em, k6, es, e3, rf, rl⟩ => ?_
    subst es
    refine ⟨!(Wy.layer (stepsD d fr) a b k).isEmpty, et_is (et_truL (es_of (ev_var rfl) rl)) (by rw [List.isEmpty_map]), fun hb2 H4 e4 => ?_, fun hb2 H4 e4 => ?_⟩
    · have k5 : k < 6 := by
        refine Nat.lt_of_le_of_ne k6 fun z => ?_
        rw [z, layer_six hb hab] at hb2
        cases hb2
      have p6 := pow6 (k := k + 1) (by omega)
      have ul := upto_len (fr := fr) (a := a) (b := b) hb (k + 1)
      have ll := layer_len (fr := fr) (a := a) (b := b) hb k
      have ll1 := layer_len (fr := fr) (a := a) (b := b) hb (k + 1)
      have p6k : (6 : Nat) ^ k ≤ 46656 := pow6 (by omega)
      have E4 := e3.trans e4
      have in4 := hin.up E4
      have rl4 := rl.up (hidP_ex e4)
      refine ⟨fun σ2 H5 => ∃ fo la y6, σ2 = [some (v), some (.ref f), some (.str a), some (.str b), some (fo), some (la), y6, none, none, none, none, none] ∧ Ex H H5 ∧ RepS S H5 fo (.lst ((Wy.upto (stepsD d fr) a b (k + 1)).map (wayD a))) ∧ RepS S H5 la (.lst ((Wy.layer (stepsD d fr) a b (k + 1)).map (wayD a))), fun σ2 H5 ⟨fo, la, y6, es, e5, rf, rl⟩ => ⟨7 - (k + 1), by omega, k + 1, fo, la, y6, rfl, by omega, es, e5, rf, rl⟩, ?_⟩
      -- what ends
      have c1 := lcS (S := S) (ds := (Wy.layer (stepsD d fr) a b k).map (wayD a)) (wi := iList K (tVar 5)) (g := gName 7) (tt := tTest (tOp rEq (tOp (rIxL K) (tOp (rIxT K) (tVar 7) (tC (.int 1))) (tUn (rU fun i => .int (-i)) (tC (.int 1)))) (tVar 3))) (te := tVar 7) (own := [7]) (σ := [some (v), some (.ref f), some (.str a), some (.str b), some (fo), some (la), y6, none, none, none, none, none]) (H := H4) (fun d => decide (lastS d = b)) id in4 (its_list (es_of (ev_var rfl) rl4)) (by rw [List.length_map]; omega) fun S' x d1 H5 hd1 in5 e5 x5 rx => by
        obtain ⟨w, _, rfl⟩ := List.mem_map.mp hd1
        exact ⟨[some (v), some (.ref f), some (.str a), some (.str b), some (fo), some (la), y6, some (x), none, none, none, none], fun Q h => h, rfl, (lastT rfl rfl rx).1, fun _ => es_of (ev_var rfl) rx⟩
      rw [filt _ fun s => decide (s = b)] at c1
      refine s_asgS (S := S) (σ := [some (v), some (.ref f), some (.str a), some (.str b), some (fo), some (la), y6, none, none, none, none, none]) (es_catL in4 (es_of (ev_var rfl) (rf.up (hidP_ex e4))) c1 (by
        rw [← List.length_append, ← List.map_append, List.length_map]
        exact Nat.le_trans ul (by omega))) fun fo2 H5 e5 rf5 => ?_
      rw [← List.map_append] at rf5
      have in5 := in4.up e5
      have rl5 := rl4.up (hidP_ex e5)
      -- what goes on
      have c2 := lcS (S := S) (ds := (Wy.layer (stepsD d fr) a b k).map (wayD a)) (wi := iList K (tVar 5)) (g := gName 7) (tt := tTest (tOp rNe (tOp (rIxL K) (tOp (rIxT K) (tVar 7) (tC (.int 1))) (tUn (rU fun i => .int (-i)) (tC (.int 1)))) (tVar 3))) (te := tVar 7) (own := [7]) (σ := [some (v), some (.ref f), some (.str a), some (.str b), some (fo2), some (la), y6, none, none, none, none, none]) (H := H5) (fun d => !decide (lastS d = b)) id in5 (its_list (es_of (ev_var rfl) rl5)) (by rw [List.length_map]; omega) fun S' x d1 H6 hd1 in6 e6 x6 rx => by
        obtain ⟨w, _, rfl⟩ := List.mem_map.mp hd1
        exact ⟨[some (v), some (.ref f), some (.str a), some (.str b), some (fo2), some (la), y6, some (x), none, none, none, none], fun Q h => h, rfl, (lastT rfl rfl rx).2, fun _ => es_of (ev_var rfl) rx⟩
      rw [filt _ fun s => !decide (s = b)] at c2
      refine s_asgS (S := S) (σ := [some (v), some (.ref f), some (.str a), some (.str b), some (fo2), some (la), y6, none, none, none, none, none]) c2 fun go H6 e6 rg => ?_
      have in6 := in5.up e6
      -- a door further
      have res : ((((Wy.layer (stepsD d fr) a b k).filter fun w => !decide (Wy.fin a w.2 = b)).map (wayD a)).filter fun _ => true).flatMap (fun d1 => (((stepsD d fr (lastS d1)).map pairD).filter fun e => !amg (sndS e) (metD d1)).map (farD d1)) = (Wy.layer (stepsD d fr) a b (k + 1)).map (wayD a) := by
        rw [List.filter_eq_self.mpr fun _ _ => rfl, List.flatMap_map]
        show _ = (Wy.next (stepsD d fr) a b (Wy.layer (stepsD d fr) a b k)).map (wayD a)
        unfold Wy.next
        rw [List.map_flatMap]
        have e1 : ((Wy.layer (stepsD d fr) a b k).filter fun w => !decide (Wy.fin a w.2 = b)) = (Wy.layer (stepsD d fr) a b k).filter fun w => decide (Wy.fin a w.2 ≠ b) := by
          congr 1
          funext w
          rw [decide_not]
        rw [e1]
        congr 1
        funext w
        rw [lastS_way, metD_way, List.filter_map, List.map_map, List.map_map]
        have e2 : (stepsD d fr (Wy.fin a w.2)).filter ((fun e => !amg (sndS e) (a :: w.2)) ∘ pairD) = (stepsD d fr (Wy.fin a w.2)).filter fun s => !decide (s.2 ∈ a :: w.2) := by
          congr 1
          funext s
          show (!amg s.2 (a :: w.2)) = _
          congr 1
          rw [Bool.eq_iff_iff, amg_iff, decide_eq_true_iff]
        rw [e2]
        exact List.map_congr_left fun s _ => farD_way a w s
      have c3 := lc2S (S := S) (ds := ((Wy.layer (stepsD d fr) a b k).filter fun w => !decide (Wy.fin a w.2 = b)).map (wayD a)) (wi := iList K (tVar 6)) (g := gTup K 2 (gCons (gName 8) (gCons (gName 9) gNil))) (tt := tYes)
        (wi1 := iList K (tCall spSteps [] E0 (tCons (tVar 0) (tCons (tVar 1) (tCons (tOp (rIxL K) (tVar 9) (tUn (rU fun i => .int (-i)) (tC (.int 1)))) tNil))))) (g1 := gTup K 2 (gCons (gName 10) (gCons (gName 11) gNil))) (tt1 := tTest (tOp (rIn K true) (tVar 11) (tVar 9)))
        (te := tTupF (tCons (tOp rCat (tVar 8) (tLst (tCons (tVar 10) tNil))) (tCons (tOp rCat (tVar 9) (tLst (tCons (tVar 11) tNil))) tNil))) (own := [8, 9, 10, 11]) (vs1 := [10, 11]) (σ := [some (v), some (.ref f), some (.str a), some (.str b), some (fo2), some (la), some (go), none, none, none, none, none]) (H := H6)
        (fun _ => true) (fun d1 => (stepsD d fr (lastS d1)).map pairD) (fun d1 e => !amg (sndS e) (metD d1)) farD in6 (its_list (es_of (ev_var rfl) rg)) (by rw [res, List.length_map]; exact Nat.le_trans ll1 (by omega)) fun S' x d1 H7 hd1 in7 e7 x7 rx => by
          obtain ⟨w, hw, rfl⟩ := List.mem_map.mp hd1
          obtain ⟨c, l, m, rfl, hc, hl, hm⟩ := way_at rx
          refine ⟨[some (v), some (.ref f), some (.str a), some (.str b), some (fo2), some (la), some (go), none, some (.ref l), some (.ref m), none, none], fun Q h => ⟨c, _, rfl, (hc.up hidP_sub).sq, rfl, .ref l, _, rfl, .ref m, _, rfl, rfl, h⟩, rfl, fun H8 e8 Q q => q H8 (Ex.refl _), fun _ => ⟨its_list fun H8 e8 Q1 q1 => ?_, fun y e H8 he in8 e8 x8 ry => ?_⟩⟩
          · have E8 := (((E4.trans e5).trans e6).trans e7).trans e8
            refine ⟨v, rfl, .ref f, rfl, ev_last (ev_var rfl) ((hidP_get hm).1) H8 e8 _ fun H9 e9 => ⟨S', v, d, f, fr, Wy.fin a w.2, rfl, (hv.up E8).up e9, hb, txs_up (txs_up hf E8) e9, (in7.up e8).up e9, fun u H10 e10 r10 => q1 u H10 (e9.trans e10) ?_⟩⟩
            rw [lastS_way]
            exact r10
          · obtain ⟨s, hs, rfl⟩ := List.mem_map.mp he
            obtain ⟨c2, us, rfl, hc2, hs2⟩ := ry.tupD
            cases hs2 with
            | cons r1 hs2 => cases hs2 with
              | cons r2 hs2 =>
                cases hs2
                obtain rfl := r1.strD
                obtain rfl := r2.strD
                have hl8 := x8 _ _ hl
                have hm8 := x8 _ _ hm
                refine ⟨[some (v), some (.ref f), some (.str a), some (.str b), some (fo2), some (la), some (go), none, some (.ref l), some (.ref m), some (.str s.1), some (.str s.2)], fun Q h => ⟨c2, _, rfl, (hc2.up hidP_sub).sq, rfl, .str s.1, _, rfl, .str s.2, _, rfl, rfl, h⟩, rfl, et_test (ev_is (ev_op (ev_var rfl) (ev_var rfl) (rv_niTx (ns := a :: w.2) (.inl (hidP_get hm8).1))) (by rw [metD_way]; rfl)), fun _ => ?_⟩
                rw [farD_way]
                have wl : (w.1.length : Nat) ≤ 6 ∧ w.2.length ≤ 6 := by
                  have hm := ((Wy.mem_layer (st := fun n x y => (n, y) ∈ stepsD d fr x) (fun _ _ _ => Iff.rfl) k w.1 w.2).mp (List.mem_filter.mp hw).1)
                  have := hm.1.len
                  have := hm.2.1
                  omega
                have one : ∀ {j : Nat} {q : Addr} {ss : List Str} {i : Nat} {z : Str}, ss.length ≤ 7 → ([some (v), some (.ref f), some (.str a), some (.str b), some (fo2), some (la), some (go), none, some (.ref l), some (.ref m), some (.str s.1), some (.str s.2)] : L2.St)[j]? = some (some (.ref q)) → ([some (v), some (.ref f), some (.str a), some (.str b), some (fo2), some (la), some (go), none, some (.ref l), some (.ref m), some (.str s.1), some (.str s.2)] : L2.St)[i]? = some (some (.str z)) → hidP S' H8 q = some (.lst (sv ss)) →
                    EvS S' (tOp rCat (tVar j) (tLst (tCons (tVar i) tNil))) [some (v), some (.ref f), some (.str a), some (.str b), some (fo2), some (la), some (go), none, some (.ref l), some (.ref m), some (.str s.1), some (.str s.2)] H8 (.lst ((ss ++ [z]).map D.str)) := fun {j q ss i z} l7 hj hi hq => by
                  rw [List.map_append]
                  exact es_catL in8 (es_of (ev_var hj) (.lst hq (reps_strs ss))) (es_lst in8 (eas_cons (es_of (ev_var hi) (.str z)) eas_nil) (by show 1 ≤ 100000; decide)) (by rw [List.length_map]; show ss.length + 1 ≤ 100000; omega)
                exact es_tup in8 (eas_cons (one (by omega) (j := 8) (i := 10) rfl rfl hl8) (eas_cons (one (ss := a :: w.2) (by show w.2.length + 1 ≤ 7; omega) (j := 9) (i := 11) rfl rfl hm8) eas_nil)) (by show 2 ≤ 100000; decide)
      rw [res] at c3
      refine s_asgSN (S := S) (σ := [some (v), some (.ref f), some (.str a), some (.str b), some (fo2), some (la), some (go), none, none, none, none, none]) c3 fun la2 H7 e7 rl7 => ⟨fo2, la2, _, rfl, ((E4.trans e5).trans e6).trans e7, rf5.up (hidP_ex (e6.trans e7)), rl7⟩
    · have nil : Wy.layer (stepsD d fr) a b k = [] := by
        cases h : Wy.layer (stepsD d fr) a b k with
        | nil => rfl
        | cons _ _ => rw [h] at hb2; cases hb2
      have same := (layer_nil nil (6 - k)).2
      rw [show k + (6 - k) = 6 by omega] at same
      refine s_retS (S := S) (σ := [some (v), some (.ref f), some (.str a), some (.str b), some (fo), some (la), y6, none, none, none, none, none]) (es_of (ev_var rfl) (rf.up (hidP_ex e4))) fun u H5 e5 r5 => q u H5 ((e3.trans e4).trans e5) ?_
      show RepS S H5 u (.lst ((Wy.upto (stepsD d fr) a b 6).map (wayD a)))
      rw [same]
      exact r5
end
end Kx

set_option Elab.async false
set_option linter.all false
set_option maxRecDepth 100000
set_option maxHeartbeats 400000
namespace Kx
open PySem PySem.Spec PyProof.Rows L2 Evl
/-! ## what is checked -/
/-- a list or a tuple is gone through -/
def iLT (K : PySem.W.Frag) (tl : TE) : TI := fun σ H R => iList K tl σ H R ∨ iTup K tl σ H R
theorem pi_lt {X : Cx} {tg l : Expr} {tl : TE} (K : PySem.W.Frag) (hl : PE X l tl) (hK : X.K = K := by rfl) : PI X tg l (iLT K tl) := by
  subst hK
  exact ⟨fun pins s σ H R I h => h.elim (fun h => (pi_list hl).run pins s σ H R I h) fun h => (pi_tup hl).run pins s σ H R I h⟩
theorem tup_rd {H : Hp} {a : Addr} {vs : List V} (h : TupS H a vs) : Rd H a (.tup vs) := let ⟨o, _, h2⟩ := h; .inr ⟨o, h2⟩
abbrev S0 : Addr → Prop := fun _ => False
theorem hid0 {H : Hp} : Ex H (hidP S0 H) := fun a o h => hidP_at h fun z => z
theorem in0 {H : Hp} : InS S0 H := fun a h => h.elim
section
variable {K : PySem.W.Frag} {S : Addr → Prop} {σ : L2.St} {H H' : Hp} {te tl : TE} {ds : List D}
theorem bls_of : ∀ {bs : List Bool} {vs : List V}, Reps H vs (bs.map D.bl) → vs = bs.map V.bl
  | [], _, .nil => rfl
  | b :: bs, _, .cons r t => by
    cases r
    rw [bls_of t]
    rfl
theorem ev_allS {bs : List Bool} (h : EvS S te σ H (.lst (bs.map D.bl))) : Ev (tCB (rAll K) (tCons te tNil)) σ H (.bl (bs.all id)) := fun H1 e Q q => h H1 e _ fun v H2 e2 r => by
  cases r with
  | @lst p vs _ hp rs =>
    rw [bls_of rs] at hp
    exact ⟨p, bs, rfl, .of (hidP_get hp).1, q H2 e2⟩
theorem its_ltL (h : EvS S tl σ H (.lst ds)) : ItS S (iLT K tl) σ H ds := fun H1 e R r => .inl (its_list h H1 e R r)
theorem its_ltT (h : EvS S tl σ H (.tup ds)) : ItS S (iLT K tl) σ H ds := fun H1 e R r => .inr (its_tup h H1 e R r)
end
theorem all_strs {ns : List Str} : ∀ {ds : List D}, ds.all (fun e => amD e ns) = true → ds = (ds.map D.txt).map D.str
  | [], _ => rfl
  | d :: r, h => by
    rw [List.all_cons, Bool.and_eq_true] at h
    rw [List.map_cons, List.map_cons, ← all_strs h.2]
    cases d with
    | str s => rfl
    | _ => exact absurd h.1 (by unfold amD; exact Bool.false_ne_true)
def okCA (C : Addr) : OkO := fun vs H o => ∃ v d x e, vs = [v, x] ∧ Rep H v d ∧ d.bld = true ∧ Rep H x e ∧ o = if amD e (areasD d) = true then .ret .non else .exc C
/-- a row of unlike doors of the building -/
def D.fre (d : D) (ns : List Str) : Bool := match d with
  | .lst ds => ds.all (fun e => amD e ns) && decide (ds.map D.txt).Nodup
  | .tup ds => ds.all (fun e => amD e ns) && decide (ds.map D.txt).Nodup
  | _ => false
def okFr (C : Addr) : OkO := fun vs H o => ∃ v d x e, vs = [v, x] ∧ Rep H v d ∧ d.bld = true ∧ Rep H x e ∧ e.Sz ∧ o = if e.fre d.dn = true then .ret .non else .exc C
section
variable {P : Program} {w : World} {K : PySem.W.Frag} {mg : Str → Option Value} {base : Heap} (T : Txt K mg)
theorem areas_at {d : D} {H : Hp} {v : V} (hb : d.bld = true) (hv : Rep H v d) : ∃ a vs p, v = .ref a ∧ TupS H a vs ∧ vs[1]? = some (.ref p) ∧ TupS H p (sv (areasD d)) := by
  obtain ⟨as, es, ks, rs, B⟩ := bld_is hb
  have ea : areasD d = as := by
    rw [B.eq]
    show (as.map D.str).map _ = as
    rw [List.map_map]
    exact List.map_id as
  rw [ea]
  rw [B.eq] at hv
  obtain ⟨a, vs, rfl, ha, hs⟩ := hv.tupD
  obtain ⟨z, hz, r⟩ := hs.getD (j := 1) (d := .tup (as.map D.str)) rfl
  obtain ⟨p, us, rfl, hp, hu⟩ := r.tupD
  rw [strs_of_reps hu] at hp
  exact ⟨a, vs, p, rfl, ha, hz, hp⟩
theorem ok_check_area : FnOk P w K mg base (L2.CX P w) 2 T.a_check_area T.d_check_area ["building", "area"] (spO (okCA T.c_BadArea)) := by
  refine T.F_check_area.okX sc_check_area (fun vs H Q E h => ?_) (fun cdv A outer s H vs Q E hr h => ?_)
  · obtain ⟨o, ⟨v, d, x, e, rfl, _⟩, _⟩ := h
    rfl
  · obtain ⟨o, ⟨v, d, x, e, rfl, hv, hb, he, rfl⟩, q⟩ := h
    have nd := sc_check_area.nd
    refine ⟨_, (pss_one (ps_if (pt_not (pt_val (pe_call (ok_is_among T) (hr.mono (by decide)) (by rfl) T.g_is_among T.F_is_among.kp (b_is_among T) .nil pass0 (pa_cons (pv 1) (pa_cons (pe_call (ok_areas_of T) (hr.mono (by decide)) (by rfl) T.g_areas_of T.F_areas_of.kp (b_areas_of T) .nil pass0 (pa_cons (pv 0) pa_nil)) pa_nil))))) (pss_one (ps_raise rfl (takes_of rfl rfl rfl rfl) (pmk_own PySem.F.excBase_ValueError T.E_BadArea.q T.E_BadArea.g T.E_BadArea.kp (raises_own T.E_BadArea.bx T.E_BadArea.ty) rfl))) pss_nil)), ?_⟩
    obtain ⟨a, vs, p, rfl, ha, h1, hp⟩ := areas_at hb hv
    refine s_if (b := !amD e (areasD d)) (et_not (et_B (ev_sp stb_among (ea_cons (ev_var rfl) (ea_cons (ev_sp (stb_item 1) (ea_cons (ev_var rfl) ea_nil) ⟨a, vs, rfl, ha, h1⟩) ea_nil)) ⟨x, e, p, areasD d, rfl, he, .inr (tup_rd hp), rfl⟩))) (fun hb H1 e => ?_) (fun hb H1 e => ?_)
    · rw [not_t hb] at q
      exact q H1 e
    · rw [not_f hb] at q
      exact q H1 e
theorem ok_check_fr : FnOk P w K mg base (L2.CX P w) 2 T.a_check_free T.d_check_free ["building", "free"] (spO (okFr T.c_BadDoors)) := by
  refine T.F_check_free.okX sc_check_free (fun vs H Q E h => ?_) (fun cdv A outer s H vs Q E hr h => ?_)
  · obtain ⟨o, ⟨v, d, x, e, rfl, _⟩, _⟩ := h
    rfl
  · obtain ⟨o, ⟨v, d, x, e, rfl, hv, hb, he, hz, rfl⟩, q⟩ := h
    have nd := sc_check_free.nd
    refine ⟨_, (pss_cons (ps_set (i := 2) nd rfl (.inr rfl) (pe_call (ok_door_names T) (hr.mono (by decide)) (by rfl) T.g_door_names T.F_door_names.kp (b_door_names T) .nil pass0 (pa_cons (pv 0) pa_nil)))
      (pss_one (ps_if (PW.pt (pw_or (pt_not (pt_val (pe_call (ok_is_row T) (hr.mono (by decide)) (by rfl) T.g_is_row T.F_is_row.kp (b_is_row T) .nil pass0 (pa_cons (pv 1) pa_nil)))) (pw_or (pt_not (pt_val (pe_callB (cr_all rfl) (by rfl) T.z_all bo_all (pa_cons (pe_lc (own := [("item", 3)]) (g := gName 3) (tt := tYes) (by rfl) nd (pi_lt K (pv 1)) (blkOk_by (N := ["building", "free", "names", "item"]) (sc := defScope s_check_free) (by decide +kernel)) (fun _ _ _ _ _ => (pg_name (i := 3) nd rfl (.inl rfl))) (fun _ _ _ _ _ => pts_nil) (fun _ _ _ _ _ => (pe_call (ok_is_among T) (hr.mono (by decide)) (by rfl) T.g_is_among T.F_is_among.kp (b_is_among T) .nil pass0 (pa_cons (pv 3) (pa_cons (pv 2) pa_nil))))) pa_nil)))) (pw_or1 (pt_not (pt_val (pe_call (ok_are_unlike T) (hr.mono (by decide)) (by rfl) T.g_are_unlike T.F_are_unlike.kp (b_are_unlike T) .nil pass0 (pa_cons (pv 1) pa_nil)))))))) (pss_one (ps_raise rfl (takes_of rfl rfl rfl rfl) (pmk_own PySem.F.excBase_ValueError T.E_BadDoors.q T.E_BadDoors.g T.E_BadDoors.kp (raises_own T.E_BadDoors.bx T.E_BadDoors.ty) rfl))) pss_nil))), ?_⟩
    refine ep_dn (ev_var rfl) hv hb H (Ex.refl H) _ fun p H1 e1 hp => ?_
    -- the part that is the same for lists and tuples
    have part : ∀ (ds : List D) (a : Addr), x = .ref a → ds.length ≤ 1000 → ItS S0 (iLT K (tVar 1)) [some (v), some (x), some (.ref p), none] H1 ds → (ds.all (fun y => amD y d.dn) = true → Txs H1 a (ds.map D.txt)) → (decide (e.ty = "list") || decide (e.ty = "tuple")) = true → e.fre d.dn = (ds.all (fun y => amD y d.dn) && decide (ds.map D.txt).Nodup) →
        tIfS (tOr (tNot (tB (tCall (spX okRow) [] E0 (tCons (tVar 1) tNil)))) (tOr (tNot (tB (tCB (rAll K) (tCons (tLc (iLT K (tVar 1)) (gName 3) tYes (tCall (spX okAmong) [] E0 (tCons (tVar 3) (tCons (tVar 2) tNil))) [3]) tNil)))) (tNot (tB (tCall (spX okUnlike) [] E0 (tCons (tVar 1) tNil))))))
          (fun _ _ H => E (.ref T.c_BadDoors) none H) tNext { nx := fun _ H' => Q .non H', rt := Q } [some (v), some (x), some (.ref p), none] H1 := fun ds a ex l1000 it tx row fr => by
      have L := ev_allS (K := K) (bs := ds.map fun y => amD y d.dn) (te := tLc (iLT K (tVar 1)) (gName 3) tYes (tCall (spX okAmong) [] E0 (tCons (tVar 3) (tCons (tVar 2) tNil))) [3]) (σ := [some (v), some (x), some (.ref p), none]) (H := H1) (S := S0) (by
        have c := lcS (S := S0) (ds := ds) (wi := iLT K (tVar 1)) (g := gName 3) (tt := tYes) (te := tCall (spX okAmong) [] E0 (tCons (tVar 3) (tCons (tVar 2) tNil))) (own := [3]) (σ := [some (v), some (x), some (.ref p), none]) (H := H1) (fun _ => true) (fun y => D.bl (amD y d.dn)) in0 it (by omega) fun S' y e' H5 he' in5 e5 x5 ry =>
          ⟨[some (v), some (x), some (.ref p), some (y)], fun Q h => h, rfl, fun H6 e6 Q q => q H6 (Ex.refl _), fun _ => es_of (ev_sp stb_among (ea_cons (ev_var rfl) (ea_cons (ev_var rfl) ea_nil)) ⟨y, e', p, d.dn, rfl, ry.up hidP_sub, .inr (tup_rd (hp.up e5)), rfl⟩) (.bl _)⟩
        rw [List.filter_eq_self.mpr fun _ _ => rfl] at c
        rw [List.map_map]
        exact c)
      have all : (ds.map fun y => amD y d.dn).all id = ds.all fun y => amD y d.dn := by rw [List.all_map]; rfl
      rw [all] at L
      refine s_if (b := !(ds.all (fun y => amD y d.dn) && decide (ds.map D.txt).Nodup)) (et_is (et_or (a := false) (b := !(ds.all (fun y => amD y d.dn) && decide (ds.map D.txt).Nodup)) (et_is (et_not (et_B (ev_sp stb_row (ea_cons (ev_var rfl) ea_nil) ⟨x, e, rfl, he.up e1, rfl⟩))) (by rw [row]; rfl)) fun _ => et_is (et_or (a := !ds.all (fun y => amD y d.dn)) (b := !decide (ds.map D.txt).Nodup) (et_not (et_B L)) fun h0 => ?_) ?_) rfl) (fun hb2 H2 e2 => ?_) (fun hb2 H2 e2 => ?_)
      · have h1 : ds.all (fun y => amD y d.dn) = true := not_f h0
        exact et_not (et_B (ev_sp stb_unlike (ea_cons (ev_var rfl) ea_nil) ⟨a, ds.map D.txt, by rw [ex], tx h1, by rw [List.length_map]; exact l1000, rfl⟩))
      · rw [Bool.not_and]
      · rw [fr, not_t hb2] at q
        exact q H2 (e1.trans e2)
      · rw [fr, not_f hb2] at q
        exact q H2 (e1.trans e2)
    have bad : (decide (e.ty = "list") || decide (e.ty = "tuple")) = false → e.fre d.dn = false →
        tIfS (tOr (tNot (tB (tCall (spX okRow) [] E0 (tCons (tVar 1) tNil)))) (tOr (tNot (tB (tCB (rAll K) (tCons (tLc (iLT K (tVar 1)) (gName 3) tYes (tCall (spX okAmong) [] E0 (tCons (tVar 3) (tCons (tVar 2) tNil))) [3]) tNil)))) (tNot (tB (tCall (spX okUnlike) [] E0 (tCons (tVar 1) tNil))))))
          (fun _ _ H => E (.ref T.c_BadDoors) none H) tNext { nx := fun _ H' => Q .non H', rt := Q } [some (v), some (x), some (.ref p), none] H1 := fun row fr => by
      refine s_if (b := true || false) (et_or (a := true) (b := false) (et_is (et_not (et_B (ev_sp stb_row (ea_cons (ev_var rfl) ea_nil) ⟨x, e, rfl, he.up e1, rfl⟩))) (by rw [row]; rfl)) fun h => by cases h) (fun _ H2 e2 => ?_) (fun h => by cases h)
      rw [fr] at q
      exact q H2 (e1.trans e2)
    have he1 := he.up e1
    cases he1 with
    | @lst a vs ds ha rs =>
      refine part ds a rfl (by unfold D.Sz at hz; exact hz.1) (its_ltL (es_of (ev_var rfl) (Rep.up (.lst ha rs) hid0))) (fun h => .inl ?_) rfl rfl
      have r2 := rs
      rw [all_strs h] at r2
      rw [strs_of_reps r2] at ha
      exact ha
    | @tup a vs ds ha rs =>
      refine part ds a rfl (by unfold D.Sz at hz; exact hz.1) (its_ltT (es_of (ev_var rfl) (Rep.up (.tup ha rs) hid0))) (fun h => .inr (tup_rd ?_)) rfl rfl
      have r2 := rs
      rw [all_strs h] at r2
      rw [strs_of_reps r2] at ha
      exact ha
    | _ => exact bad rfl rfl
end
end Kx

set_option Elab.async false
set_option linter.all false
set_option maxRecDepth 100000
set_option maxHeartbeats 400000
namespace Kx
open PySem PySem.Spec PyProof.Rows L2 Evl
/-! ## the ends, the least way -/
def D.row : D → List Str
  | .lst ds => ds.map D.txt
  | .tup ds => ds.map D.txt
  | _ => []
theorem fre_at {e : D} {ns : List Str} {H : Hp} {x : V} (r : Rep H x e) (h : e.fre ns = true) : ∃ p, x = .ref p ∧ Txs H p e.row := by
  cases r with
  | @lst a vs ds ha rs =>
    have h : (ds.all (fun e => amD e ns) && decide (ds.map D.txt).Nodup) = true := h
    rw [Bool.and_eq_true] at h
    rw [all_strs h.1] at rs
    rw [strs_of_reps rs] at ha
    exact ⟨a, rfl, .inl ha⟩
  | @tup a vs ds ha rs =>
    have h : (ds.all (fun e => amD e ns) && decide (ds.map D.txt).Nodup) = true := h
    rw [Bool.and_eq_true] at h
    rw [all_strs h.1] at rs
    rw [strs_of_reps rs] at ha
    exact ⟨a, rfl, .inr (tup_rd ha)⟩
  | _ => cases h
theorem am_at {e : D} {ns : List Str} {H : Hp} {x : V} (r : Rep H x e) (h : amD e ns = true) : ∃ s, e = .str s ∧ x = .str s ∧ s ∈ ns := by
  cases e with
  | str s => exact ⟨s, rfl, r.strD, amg_iff.mp h⟩
  | _ => cases h
def leastD (ws : List (List Str × List Str)) : D := match ws with
  | [] => .non
  | w :: _ => .lst (w.1.map D.str)
/-- what all that asks of two areas refuses first -/
structure Asks (H : Hp) (vs : List V) (v : V) (d : D) (x : V) (e : D) (y : V) (f : D) (z : V) (g : D) : Prop where
  eq : vs = [v, x, y, z]
  rv : Rep H v d
  hz : d.Sz
  hb : d.bld = true
  rx : Rep H x e
  ez : e.Sz
  ry : Rep H y f
  rz : Rep H z g
def firstErr (cD cA : Addr) (d e f g : D) : Option Addr := if e.fre d.dn = false then some cD else if amD f (areasD d) = false then some cA else if amD g (areasD d) = false then some cA else none
def spLeast (cD cA : Addr) : Sp := fun vs H Q E => ∃ (S : Addr → Prop) (v : V) (d : D) (x : V) (e : D) (y : V) (f : D) (z : V) (g : D), Asks H vs v d x e y f z g ∧ InS S H ∧ (∀ C, firstErr cD cA d e f g = some C → ∀ H', Ex H H' → E (.ref C) none H') ∧
  (firstErr cD cA d e f g = none → ∀ w H', Ex H H' → RepS S H' w (leastD (waysL d e.row f.txt g.txt)) → Q w H')
section
variable {P : Program} {w : World} {K : PySem.W.Frag} {mg : Str → Option Value} {base : Heap} (T : Txt K mg)
theorem ok_least_way : FnOk P w K mg base (L2.CX P w) 6 T.a_least_way T.d_least_way ["building", "free", "area", "other"] (spLeast T.c_BadDoors T.c_BadArea) := by
  refine T.F_least_way.okX sc_least_way (fun vs H Q E h => ?_) (fun cdv A outer s H vs Q E hr h => ?_)
  · obtain ⟨S, v, d, x, e, y, f, z, g, a, _⟩ := h
    rw [a.eq]
    rfl
  · obtain ⟨S, v, d, x, e, y, f, z, g, ⟨rfl, rv, hz, hb, rx, ez, ry, rz⟩, hin, qe, q⟩ := h
    have nd := sc_least_way.nd
    refine ⟨_, (pss_cons (ps_expr (pe_call (E := E) (ok_check_building T) (hr.mono (by decide)) (by rfl) T.g_check_building T.F_check_building.kp (b_check_building T) .nil (passes_call (takes_of rfl rfl rfl rfl) fun _ _ _ _ h => h) (pa_cons (pv 0) pa_nil)))
      (pss_cons (ps_expr (pe_call (E := E) (ok_check_fr T) (hr.mono (by decide)) (by rfl) T.g_check_free T.F_check_free.kp (b_check_free T) .nil (passes_call (takes_of rfl rfl rfl rfl) fun _ _ _ _ h => h) (pa_cons (pv 0) (pa_cons (pv 1) pa_nil))))
      (pss_cons (ps_expr (pe_call (E := E) (ok_check_area T) (hr.mono (by decide)) (by rfl) T.g_check_area T.F_check_area.kp (b_check_area T) .nil (passes_call (takes_of rfl rfl rfl rfl) fun _ _ _ _ h => h) (pa_cons (pv 0) (pa_cons (pv 2) pa_nil))))
      (pss_cons (ps_expr (pe_call (E := E) (ok_check_area T) (hr.mono (by decide)) (by rfl) T.g_check_area T.F_check_area.kp (b_check_area T) .nil (passes_call (takes_of rfl rfl rfl rfl) fun _ _ _ _ h => h) (pa_cons (pv 0) (pa_cons (pv 3) pa_nil))))
      (pss_cons (ps_set (i := 4) nd rfl (.inl rfl) (pe_call (ok_ways T) (hr.mono (by decide)) (by rfl) T.g_all_ways T.F_all_ways.kp (b_all_ways T) .nil pass0 (pa_cons (pv 0) (pa_cons (pv 1) (pa_cons (pv 2) (pa_cons (pv 3) pa_nil))))))
      (pss_one (ps_ret (pe_ifExp (pt_tru K (pv 4)) (pe_ix (r := rIxT K) ix_tup (pe_ix (r := rIxL K) ix_list (pv 4) pe_int (fun _ _ => rfl)) pe_int (fun _ _ => rfl)) pe_non)))))))), ?_⟩
    refine s_callO (o := .ret .non) (ea_cons (ev_var rfl) ea_nil) (fun H1 e1 => ⟨v, d, rfl, rv.up e1, hz, by rw [if_pos hb]⟩) fun H2 e2 => ?_
    refine s_callO (o := if e.fre d.dn = true then .ret .non else .exc T.c_BadDoors) (ea_cons (ev_var rfl) (ea_cons (ev_var rfl) ea_nil)) (fun H1 e1 => ⟨v, d, x, e, rfl, rv.up (e2.trans e1), hb, rx.up (e2.trans e1), ez, rfl⟩) fun H3 e3 => ?_
    cases hf : e.fre d.dn with
    | false => exact qe T.c_BadDoors (by unfold firstErr; rw [hf]; rfl) H3 (e2.trans e3)
    | true =>
      refine s_callO (o := if amD f (areasD d) = true then .ret .non else .exc T.c_BadArea) (ea_cons (ev_var rfl) (ea_cons (ev_var rfl) ea_nil)) (fun H1 e1 => ⟨v, d, y, f, rfl, rv.up ((e2.trans e3).trans e1), hb, ry.up ((e2.trans e3).trans e1), rfl⟩) fun H4 e4 => ?_
      cases hf2 : amD f (areasD d) with
      | false => exact qe T.c_BadArea (by unfold firstErr; rw [hf, hf2]; rfl) H4 ((e2.trans e3).trans e4)
      | true =>
        refine s_callO (o := if amD g (areasD d) = true then .ret .non else .exc T.c_BadArea) (ea_cons (ev_var rfl) (ea_cons (ev_var rfl) ea_nil)) (fun H1 e1 => ⟨v, d, z, g, rfl, rv.up (((e2.trans e3).trans e4).trans e1), hb, rz.up (((e2.trans e3).trans e4).trans e1), rfl⟩) fun H5 e5 => ?_
        have E5 := ((e2.trans e3).trans e4).trans e5
        cases hf3 : amD g (areasD d) with
        | false => exact qe T.c_BadArea (by unfold firstErr; rw [hf, hf2, hf3]; rfl) H5 E5
        | true =>
          have q := q (by unfold firstErr; rw [hf, hf2, hf3]; rfl)
          obtain ⟨p, rfl, tx⟩ := fre_at rx hf
          obtain ⟨a, rfl, rfl, ma⟩ := am_at ry hf2
          obtain ⟨b, rfl, rfl, mb⟩ := am_at rz hf3
          refine s_asgS (S := S) (d := .lst ((waysL d e.row a b).map (wayD a))) (σ := [some (v), some (.ref p), some (.str a), some (.str b), none]) (fun H1 e1 Q1 q1 => ⟨v, rfl, .ref p, rfl, .str a, rfl, .str b, rfl, S, v, d, p, e.row, a, b, rfl, rv.up (E5.trans e1), hb, txs_up tx (E5.trans e1), ma, hin.up (E5.trans e1), q1⟩) fun u H6 e6 ru => ?_
          refine s_retS (S := S) (d := leastD (waysL d e.row a b)) (σ := [some (v), some (.ref p), some (.str a), some (.str b), some (u)]) ?_ fun w H7 e7 r7 => q w H7 ((E5.trans e6).trans e7) r7
          intro H7 e7 Q7 q7
          refine et_truL (K := K) (es_of (ev_var rfl) ru) H7 e7 _ fun H8 e8 => ?_
          cases hw : waysL d e.row a b with
          | nil =>
            rw [hw] at q7
            show if (!([] : List D).isEmpty) = true then _ else _
            exact iteF (q7 .non H8 e8 .non)
          | cons w0 r =>
            rw [hw] at ru q7
            show if (!(wayD a w0 :: r.map (wayD a)).isEmpty) = true then _ else _
            rw [if_pos (by rfl)]
            have ru8 := ru.up (hidP_ex (e7.trans e8))
            cases ru8 with
            | @lst l vs _ hl rs =>
              cases rs with
              | @cons x0 _ _ _ r0 rs =>
                obtain ⟨c, l1, m1, rfl, hc, h1, h2⟩ := way_at r0
                have i1 : Ev (tOp (rIxL K) (tVar 4) (tC (.int 0))) [some (v), some (.ref p), some (.str a), some (.str b), some (.ref l)] H8 (.ref c) := ev_op (ev_var rfl) ev_c (rv_ixL (i := 0) (.of (hidP_get hl).1) (atI_nat (j := 0) rfl))
                have i2 : Ev (tOp (rIxT K) (tOp (rIxL K) (tVar 4) (tC (.int 0))) (tC (.int 0))) [some (v), some (.ref p), some (.str a), some (.str b), some (.ref l)] H8 (.ref l1) := ev_ixT (j := 0) i1 (hc.up hidP_sub) rfl
                exact i2 H8 (Ex.refl _) _ fun H9 e9 => q7 _ H9 (e8.trans e9) (Rep.up (.lst h1 (reps_strs _)) (hidP_ex e9))
end
end Kx

set_option Elab.async false
set_option linter.all false
set_option maxRecDepth 100000
set_option maxHeartbeats 400000
namespace Kx
open PySem PySem.Spec PyProof.Rows L2 Evl
/-! ## the ends -/
def okEnds (cD cA cS : Addr) : OkO := fun vs H o => ∃ (v : V) (d : D) (x : V) (e : D) (y : V) (f : D) (z : V) (g : D), Asks H vs v d x e y f z g ∧ o = match firstErr cD cA d e f g with
  | some C => .exc C
  | none => if f.txt = g.txt then .exc cS else .ret .non
section
variable {P : Program} {w : World} {K : PySem.W.Frag} {mg : Str → Option Value} {base : Heap} (T : Txt K mg)
theorem ok_check_ends : FnOk P w K mg base (L2.CX P w) 6 T.a_check_ends T.d_check_ends ["building", "free", "area", "other"] (spO (okEnds T.c_BadDoors T.c_BadArea T.c_SameArea)) := by
  refine T.F_check_ends.okX sc_check_ends (fun vs H Q E h => ?_) (fun cdv A outer s H vs Q E hr h => ?_)
  · obtain ⟨o, ⟨v, d, x, e, y, f, z, g, a, _⟩, _⟩ := h
    rw [a.eq]
    rfl
  · obtain ⟨o, ⟨v, d, x, e, y, f, z, g, ⟨rfl, rv, hz, hb, rx, ez, ry, rz⟩, rfl⟩, q⟩ := h
    have nd := sc_check_ends.nd
    refine ⟨_, (pss_cons (ps_expr (pe_call (E := E) (ok_check_building T) (hr.mono (by decide)) (by rfl) T.g_check_building T.F_check_building.kp (b_check_building T) .nil (passes_call (takes_of rfl rfl rfl rfl) fun _ _ _ _ h => h) (pa_cons (pv 0) pa_nil)))
      (pss_cons (ps_expr (pe_call (E := E) (ok_check_fr T) (hr.mono (by decide)) (by rfl) T.g_check_free T.F_check_free.kp (b_check_free T) .nil (passes_call (takes_of rfl rfl rfl rfl) fun _ _ _ _ h => h) (pa_cons (pv 0) (pa_cons (pv 1) pa_nil))))
      (pss_cons (ps_expr (pe_call (E := E) (ok_check_area T) (hr.mono (by decide)) (by rfl) T.g_check_area T.F_check_area.kp (b_check_area T) .nil (passes_call (takes_of rfl rfl rfl rfl) fun _ _ _ _ h => h) (pa_cons (pv 0) (pa_cons (pv 2) pa_nil))))
      (pss_cons (ps_expr (pe_call (E := E) (ok_check_area T) (hr.mono (by decide)) (by rfl) T.g_check_area T.F_check_area.kp (b_check_area T) .nil (passes_call (takes_of rfl rfl rfl rfl) fun _ _ _ _ h => h) (pa_cons (pv 0) (pa_cons (pv 3) pa_nil))))
      (pss_one (ps_if (pt_cmpR op_eq (pv 2) (pv 3) (nomark _)) (pss_one (ps_raise rfl (takes_of rfl rfl rfl rfl) (pmk_own PySem.F.excBase_ValueError T.E_SameArea.q T.E_SameArea.g T.E_SameArea.kp (raises_own T.E_SameArea.bx T.E_SameArea.ty) rfl))) pss_nil)))))), ?_⟩
    refine s_callO (o := .ret .non) (ea_cons (ev_var rfl) ea_nil) (fun H1 e1 => ⟨v, d, rfl, rv.up e1, hz, by rw [if_pos hb]⟩) fun H2 e2 => ?_
    refine s_callO (o := if e.fre d.dn = true then .ret .non else .exc T.c_BadDoors) (ea_cons (ev_var rfl) (ea_cons (ev_var rfl) ea_nil)) (fun H1 e1 => ⟨v, d, x, e, rfl, rv.up (e2.trans e1), hb, rx.up (e2.trans e1), ez, rfl⟩) fun H3 e3 => ?_
    unfold firstErr at q
    cases hf : e.fre d.dn with
    | false =>
      rw [hf] at q
      exact q H3 (e2.trans e3)
    | true =>
      refine s_callO (o := if amD f (areasD d) = true then .ret .non else .exc T.c_BadArea) (ea_cons (ev_var rfl) (ea_cons (ev_var rfl) ea_nil)) (fun H1 e1 => ⟨v, d, y, f, rfl, rv.up ((e2.trans e3).trans e1), hb, ry.up ((e2.trans e3).trans e1), rfl⟩) fun H4 e4 => ?_
      rw [hf] at q
      cases hf2 : amD f (areasD d) with
      | false =>
        rw [hf2] at q
        exact q H4 ((e2.trans e3).trans e4)
      | true =>
        refine s_callO (o := if amD g (areasD d) = true then .ret .non else .exc T.c_BadArea) (ea_cons (ev_var rfl) (ea_cons (ev_var rfl) ea_nil)) (fun H1 e1 => ⟨v, d, z, g, rfl, rv.up (((e2.trans e3).trans e4).trans e1), hb, rz.up (((e2.trans e3).trans e4).trans e1), rfl⟩) fun H5 e5 => ?_
        have E5 := ((e2.trans e3).trans e4).trans e5
        rw [hf2] at q
        cases hf3 : amD g (areasD d) with
        | false =>
          rw [hf3] at q
          exact q H5 E5
        | true =>
          rw [hf3] at q
          obtain ⟨a, rfl, rfl, ma⟩ := am_at ry hf2
          obtain ⟨b, rfl, rfl, mb⟩ := am_at rz hf3
          have q : ∀ H', Ex H H' → outOk (if a = b then .exc T.c_SameArea else .ret .non) H' Q E := q
          rw [if_pos rfl]
          unfold outOk
          dsimp only
          unfold outOk at q
          refine s_if (σ := [some (v), some (x), some (.str a), some (.str b)]) (b := decide (a = b)) (et_test (ev_is (ev_op (ev_var (i := 2) rfl) (ev_var (i := 3) rfl) (rv_eq rfl)) (congrArg V.bl (decide_eq_decide.mpr ⟨fun h => V.str.inj h, fun h => congrArg V.str h⟩)))) (fun hb2 H6 e6 => ?_) (fun hb2 H6 e6 => ?_)
          · rw [if_pos (of_decide_eq_true hb2)] at q
            exact q H6 (E5.trans e6)
          · rw [if_neg (of_decide_eq_false hb2)] at q
            exact q H6 (E5.trans e6)
end
end Kx

set_option Elab.async false
set_option linter.all false
set_option maxRecDepth 100000
set_option maxHeartbeats 400000
namespace Kx
open PySem PySem.Spec PyProof.Rows L2 Evl
/-! ## ways without a common door -/
theorem sc_dw : FnScope ["ways", "many", "at", "rest", "found", "way", "door"] ["ways", "many"] (defScope s_disjoint_ways) := ⟨rfl, rfl, rfl, by decide +kernel, rfl, by decide +kernel, by decide +kernel⟩
def rowD (p : List Str) : D := .lst (p.map D.str)
def disjD (o : Option (List (List Str))) : D := match o with
  | some f => .lst (f.map rowD)
  | none => .non
def spDisj (n : Nat) : Sp := fun vs H Q _ => ∃ (S : Addr → Prop) (x : V) (W : List (List Str)) (k : Nat), vs = [x, .int (k : Int)] ∧ k ≤ n ∧ k ≤ 1000 ∧ RepS S H x (.lst (W.map rowD)) ∧ W.length ≤ 60000 ∧ (∀ p ∈ W, p.length ≤ 100) ∧ InS S H ∧ ∀ u H', Ex H H' → RepS S H' u (disjD (Wy.disj k W)) → Q u H'
theorem disj_some {m : Nat} {p : List Str} {ws f : List (List Str)} (h : Wy.disj m (ws.filter (Wy.apart p)) = some f) : Wy.disj (m + 1) (p :: ws) = some (p :: f) := by
  unfold Wy.disj
  rw [h]
theorem disj_none {m : Nat} {p : List Str} {ws : List (List Str)} (h : Wy.disj m (ws.filter (Wy.apart p)) = none) : Wy.disj (m + 1) (p :: ws) = Wy.disj (m + 1) ws := by
  conv => lhs; unfold Wy.disj
  rw [h]
theorem cut_from {α : Type} (xs : List α) (i : Nat) : cutX xs (some ((i : Int) + 1)) none = xs.drop (i + 1) := by
  unfold cutX
  show (xs.drop (HT.sIx xs.length 0 (some (((i + 1 : Nat)) : Int)))).take (xs.length - HT.sIx xs.length 0 (some (((i + 1 : Nat)) : Int))) = _
  rw [HT.sIx_nat]
  by_cases h : i + 1 ≤ xs.length
  · rw [Nat.min_eq_left h, List.take_of_length_le (by rw [List.length_drop]; exact Nat.le_refl _)]
  · rw [Nat.min_eq_right (by omega), List.drop_of_length_le (Nat.le_refl _), List.drop_of_length_le (by omega), List.take_nil]
section
variable {K : PySem.W.Frag} {S : Addr → Prop} {σ : L2.St} {H H' : Hp} {te tl : TE} {ds : List D}
theorem ev_anyS {bs : List Bool} (h : EvS S te σ H (.lst (bs.map D.bl))) : Ev (tCB (rAny K) (tCons te tNil)) σ H (.bl (bs.any id)) := fun H1 e Q q => h H1 e _ fun v H2 e2 r => by
  cases r with
  | @lst p vs _ hp rs =>
    rw [bls_of rs] at hp
    exact ⟨p, bs, rfl, .of (hidP_get hp).1, q H2 e2⟩
/-- xs[i + 1:] -/
theorem es_from {x : V} {i : Nat} {j : Nat} {k : Nat} (hin : InS S H) (hx : σ[k]? = some (some x)) (r : RepS S H x (.lst ds)) (hj : σ[j]? = some (some (.int (i : Int)))) : EvS S (tSl (rSlL K) (tVar k) (tPart (tOp (rI0 fun i j => .int (i + j)) (tVar j) (tC (.int 1)))) tNoPart) σ H (.lst (ds.drop (i + 1))) := fun H1 e Q q => by
  have r := r.up (hidP_ex e)
  cases r with
  | @lst a vs _ ha rs =>
    refine el_sl (K := K) (H := H1) (ev_var hx) (eo_some (ev_op (ev_var hj) ev_c rv_I0)) eo_none (.of (hidP_get ha).1) H1 (Ex.refl _) _ fun p H2 fp e2 hp => q (.ref p) H2 e2 (.lst (hidP_at hp ((hin.up e).new fp)) ?_)
    have c := rs.cut (some ((i : Int) + 1)) none
    rw [cut_from] at c
    exact c.up (hidP_ex e2)
end
section
variable {P : Program} {w : World} {K : PySem.W.Frag} {mg : Str → Option Value} {base : Heap} (T : Txt K mg)
theorem ok_disj_step (n : Nat) (sp : Sp) (hrec : FnOk P w K mg base CX0 (n + 1) T.a_disjoint_ways T.d_disjoint_ways ["ways", "many"] sp) (hsp : ∀ m, n = m + 1 → sp = spDisj m) : FnOk P w K mg base CX0 (n + 2) T.a_disjoint_ways T.d_disjoint_ways ["ways", "many"] (spDisj n) := by
  refine T.F_disjoint_ways.ok sc_dw (fun vs H Q E h => ?_) (fun cdv A outer s H vs Q E hr h => ?_)
  · obtain ⟨S, x, W, k, rfl, _⟩ := h
    rfl
  · obtain ⟨S, x, W, k, rfl, kn, k1000, rx, wl, pl, hin, q⟩ := h
    have nd := sc_dw.nd
    refine ⟨_, (pss_cons (ps_if (pt_cmpR op_eq (pv 1) pe_int (nomark _)) (pss_one (ps_ret (pe_lst pa_nil))) pss_nil)
      (pss_cons (ps_for PassesOwn.never rfl (pi_range1 (by rfl) T.z_range (pa_cons (pe_callB call_len_seq (by rfl) T.z_len bo_len (pa_cons (pv 0) pa_nil)) pa_nil)) (pg_name (i := 2) nd rfl (.inr rfl)) (pss_cons (ps_setLc (i := 3) (own := [("way", 5)]) (g := gName 5) (tt := tNot (tB (tCB (rAny K) (tCons (tLc (iList K (tVar 5)) (gName 6) tYes (tOp (rIn K false) (tVar 6) (tOp (rIxL K) (tVar 0) (tVar 2))) [6]) tNil)))) (te := tVar 5) (by rfl) nd rfl rfl (by rfl) (pi_list (pe_slice sl_list (pv 0) (po_some (pe_op op_add (pv 2) pe_int)) po_none)) (blkOk_by (N := ["ways", "many", "at", "rest", "found", "way", "door"]) (sc := defScope s_disjoint_ways) (by decide +kernel)) (fun _ _ _ _ _ => (pg_name (i := 5) nd rfl (.inl rfl))) (fun _ _ _ _ _ => (pts_one (pt_not (pt_val (pe_callB (cr_any rfl) (by rfl) T.z_any bo_any (pa_cons (pe_lc (own := [("door", 6)]) (g := gName 6) (tt := tYes) (te := tOp (rIn K false) (tVar 6) (tOp (rIxL K) (tVar 0) (tVar 2))) (by rfl) nd (pi_list (pv 5)) (blkOk_by (N := ["ways", "many", "at", "rest", "found", "way", "door"]) (by rfl)) (fun _ _ _ _ _ => (pg_name (i := 6) nd rfl (.inl rfl))) (fun _ _ _ _ _ => pts_nil) (fun _ _ _ _ _ => (pe_cmpR (r := rIn K false) op_in_seq (pv 6) (pe_ix (r := rIxL K) ix_list (pv 0) (pv 2) (fun _ _ => rfl)) (by rfl)))) pa_nil)))))) (fun _ _ _ _ _ => (pv 5)))
      (pss_cons (ps_set (i := 4) nd rfl (.inl rfl) (pe_call (hrec) (hr.mono (by omega)) (by rfl) T.g_disjoint_ways T.F_disjoint_ways.kp (b_disjoint_ways T) .nil pass0 (pa_cons (pv 3) (pa_cons (pe_op op_sub (pv 1) pe_int) pa_nil))))
      (pss_one (ps_if (pt_cmpR op_notN (pv 4) pe_non (nomark _)) (pss_one (ps_ret (pe_op op_cat (pe_lst (pa_cons (pe_ix (r := rIxL K) ix_list (pv 0) (pv 2) (fun _ _ => rfl)) pa_nil)) (pv 4)))) pss_nil)))))
      (pss_one (ps_ret pe_non)))), ?_⟩
    cases k with
    | zero =>
      refine s_ifX (σ := [some (x), some (.int 0), none, none, none, none, none]) (b := true) (et_test (ev_is (ev_op (ev_var (i := 1) rfl) ev_c (rv_eq rfl)) (by decide))) (fun _ H1 e1 => ?_) (fun h => by cases h)
      refine s_retS (S := S) (es_lst (hin.up e1) eas_nil (by decide)) fun u H2 e2 r2 => q u H2 (e1.trans e2) ?_
      unfold Wy.disj
      exact r2
    | succ k =>
      cases n with
      | zero => omega
      | succ m =>
        rw [hsp m rfl]
        refine s_ifX (σ := [some (x), some (.int ((k + 1 : Nat) : Int)), none, none, none, none, none]) (b := false) (et_test (ev_is (ev_op (ev_var (i := 1) rfl) ev_c (rv_eq rfl)) (by
          have : decide (V.int ((k + 1 : Nat) : Int) = V.int 0) = false := decide_eq_false fun z => by
            have := V.int.inj z
            omega
          rw [this]))) (fun h => by cases h) (fun _ H1 e1 => ?_)
        have rx1 := rx.up (hidP_ex e1)
        cases rx1 with
        | @lst a vs _ ha rs =>
          have vl : vs.length = W.length := by rw [rs.length, List.length_map]
          refine q_forR1 (σ := [some (.ref a), some (.int ((k + 1 : Nat) : Int)), none, none, none, none, none]) (n := (W.length : Int)) (ea_cons (ev_cb (ea_cons (ev_var rfl) ea_nil) fun H2 e2 Q2 q2 => ⟨a, vs, rfl, .inl (.of (e2 _ _ (hidP_get ha).1)), by rw [vl]; exact q2 H2 (Ex.refl _)⟩) ea_nil) ⟨by omega, by omega⟩
            (fun i σ' H' => ∃ y2 y3 y4, σ' = [some (.ref a), some (.int ((k + 1 : Nat) : Int)), y2, y3, y4, none, none] ∧ Ex H1 H' ∧ Wy.disj (k + 1) W = Wy.disj (k + 1) (W.drop i)) (fun H2 e2 => ⟨none, none, none, rfl, e2, rfl⟩) (fun i σ' H2 hi hq => ?_) (fun σ' H2 hq => ?_)
          · obtain ⟨y2, y3, y4, rfl, e2, hd⟩ := hq
            have il : i < W.length := by omega
            have hW : W[i]? = some W[i] := List.getElem?_eq_getElem il
            have in2 := hin.up (e1.trans e2)
            have rx2 : RepS S H2 (.ref a) (.lst (W.map rowD)) := Rep.up (.lst ha rs) (hidP_ex e2)
            obtain ⟨wi, hwi, rwi⟩ := rs.getD (j := i) (d := rowD W[i]) (by rw [List.getElem?_map, hW]; rfl)
            have dr : W.drop i = W[i] :: W.drop (i + 1) := List.drop_eq_getElem_cons il
            -- ways[at]
            have at_ : ∀ {σ : L2.St} {H3 : Hp}, σ[0]? = some (some (.ref a)) → σ[2]? = some (some (.int (i : Int))) → Ex H2 H3 → Ev (tOp (rIxL K) (tVar 0) (tVar 2)) σ H3 wi := fun {σ H3} h0 h2 e3 => ev_op (ev_var h0) (ev_var h2) (rv_ixL (i := (i : Int)) (.of ((e2.trans e3) _ _ (hidP_get ha).1)) (atI_nat hwi))
            have rest := lcS (S := S) (ds := (W.map rowD).drop (i + 1)) (wi := iList K (tSl (rSlL K) (tVar 0) (tPart (tOp (rI0 fun i j => .int (i + j)) (tVar 2) (tC (.int 1)))) tNoPart)) (g := gName 5)
              (tt := tNot (tB (tCB (rAny K) (tCons (tLc (iList K (tVar 5)) (gName 6) tYes (tOp (rIn K false) (tVar 6) (tOp (rIxL K) (tVar 0) (tVar 2))) [6]) tNil)))) (te := tVar 5) (own := [5]) (σ := [some (.ref a), some (.int ((k + 1 : Nat) : Int)), some (.int (i : Int)), y3, y4, none, none]) (H := H2)
              (fun d => !(d.row.any fun n => amg n W[i])) id in2 (its_list (es_from in2 rfl rx2 rfl)) (by rw [List.length_drop, List.length_map]; omega) fun S' y d1 H3 hd1 in3 e3 x3 ry => by
                obtain ⟨q1, hq1, rfl⟩ := List.mem_map.mp (List.mem_of_mem_drop hd1)
                refine ⟨[some (.ref a), some (.int ((k + 1 : Nat) : Int)), some (.int (i : Int)), y3, y4, some (y), none], fun Q h => h, rfl, ?_, fun _ => es_of (ev_var rfl) ry⟩
                refine et_not (et_B (ev_is (ev_anyS (K := K) (S := S') (bs := q1.map fun n => amg n W[i]) ?_) ?_))
                · have c := lcS (S := S') (ds := q1.map D.str) (wi := iList K (tVar 5)) (g := gName 6) (tt := tYes) (te := tOp (rIn K false) (tVar 6) (tOp (rIxL K) (tVar 0) (tVar 2))) (own := [6]) (σ := [some (.ref a), some (.int ((k + 1 : Nat) : Int)), some (.int (i : Int)), y3, y4, some (y), none]) (H := H3) (fun _ => true) (fun d => D.bl (amg d.txt W[i])) in3 (its_list (es_of (ev_var rfl) ry)) (by rw [List.length_map]; have := pl q1 hq1; omega) fun S2 z d2 H4 hd2 in4 e4 x4 rz => by
                    obtain ⟨n0, _, rfl⟩ := List.mem_map.mp hd2
                    obtain rfl := rz.strD
                    refine ⟨[some (.ref a), some (.int ((k + 1 : Nat) : Int)), some (.int (i : Int)), y3, y4, some (y), some (.str n0)], fun Q h => h, rfl, fun H6 e6 Q q => q H6 (Ex.refl _), fun _ => es_of (v := .bl (amg n0 W[i])) ?_ (.bl _)⟩
                    have rw2 := (rwi.up (hidP_ex e2)).up (hidP_ex (e3.trans e4))
                    cases rw2 with
                    | @lst l us _ hl ru =>
                      rw [strs_of_reps ru] at hl
                      exact ev_op (ev_var rfl) (at_ rfl rfl (e3.trans e4)) (rv_inTx (.inl (hidP_get hl).1))
                  rw [List.filter_eq_self.mpr fun _ _ => rfl, List.map_map] at c
                  rw [List.map_map]
                  exact c
                · rw [List.any_map]
                  congr 1
                  show _ = ((q1.map D.str).map D.txt).any _
                  rw [List.map_map, List.any_map]
                  rfl
            have er : (((W.map rowD).drop (i + 1)).filter fun d => !(d.row.any fun n => amg n W[i])).map id = ((W.drop (i + 1)).filter (Wy.apart W[i])).map rowD := by
              rw [List.map_id, ← List.map_drop, List.filter_map]
              congr 1
              congr 1
              funext p
              show (!(((p.map D.str).map D.txt).any fun n => amg n W[i])) = Wy.apart W[i] p
              rw [List.map_map, show (D.txt ∘ D.str) = id from rfl, List.map_id]
              unfold Wy.apart
              congr 2
              funext n
              rw [Bool.eq_iff_iff, amg_iff, decide_eq_true_iff]
            rw [er] at rest
            refine s_asgS (S := S) (σ := [some (.ref a), some (.int ((k + 1 : Nat) : Int)), some (.int (i : Int)), y3, y4, none, none]) rest fun u H3 e3 ru => ?_
            have fl := List.length_filter_le (Wy.apart W[i]) (W.drop (i + 1))
            rw [List.length_drop] at fl
            refine s_asgS (S := S) (d := disjD (Wy.disj k ((W.drop (i + 1)).filter (Wy.apart W[i])))) (σ := [some (.ref a), some (.int ((k + 1 : Nat) : Int)), some (.int (i : Int)), some (u), y4, none, none]) (fun H4 e4 Q1 q1 => ⟨u, rfl, .int ((k + 1 : Nat) : Int), rfl, ((k + 1 : Nat) : Int), 1, rfl, rfl, S, u, _, k, by show [u, V.int (((k + 1 : Nat) : Int) - 1)] = [u, V.int (k : Int)]; rw [show (((k + 1 : Nat) : Int) - 1) = (k : Int) by omega], by omega, by omega, ru.up (hidP_ex e4), by omega, fun p hp => pl p (List.mem_of_mem_drop (List.mem_filter.mp hp).1), (in2.up e3).up e4, q1⟩) fun fo H4 e4 rf => ?_
            have E4 := e2.trans (e3.trans e4)
            cases hf : Wy.disj k ((W.drop (i + 1)).filter (Wy.apart W[i])) with
            | none =>
              rw [hf] at rf
              have unf := disj_none hf
              rw [← dr] at unf
              have ef : fo = .non := by cases rf; rfl
              subst ef
              refine s_if (σ := [some (.ref a), some (.int ((k + 1 : Nat) : Int)), some (.int (i : Int)), some (u), some (.non), none, none]) (b := false) (et_test fun H5 e5 Q5 q5 => ⟨.non, rfl, rfl, q5 H5 (Ex.refl _)⟩) (fun h => by cases h) (fun _ H5 e5 => ⟨_, _, _, rfl, E4.trans e5, hd.trans unf⟩)
            | some f =>
              rw [hf] at rf
              have unf := disj_some hf
              rw [← dr] at unf
              obtain ⟨l, rfl⟩ : ∃ l, fo = V.ref l := by
                cases rf with
                | @lst l us _ hl ru => exact ⟨l, rfl⟩
              refine s_if (σ := [some (.ref a), some (.int ((k + 1 : Nat) : Int)), some (.int (i : Int)), some (u), some (.ref l), none, none]) (b := true) (et_test fun H5 e5 Q5 q5 => ⟨.ref l, rfl, rfl, q5 H5 (Ex.refl _)⟩) (fun _ H5 e5 => ?_) (fun h => by cases h)
              have right := (Wy.disj_right k _ f hf).1
              refine s_retS (S := S) (σ := [some (.ref a), some (.int ((k + 1 : Nat) : Int)), some (.int (i : Int)), some (u), some (.ref l), none, none]) (d := .lst ((W[i] :: f).map rowD)) (es_catL (ds := [rowD W[i]]) ((in2.up (e3.trans e4)).up e5) (es_lst ((in2.up (e3.trans e4)).up e5) (eas_cons (es_of (at_ rfl rfl ((e3.trans e4).trans e5)) ((rwi.up (hidP_ex e2)).up (hidP_ex ((e3.trans e4).trans e5)))) eas_nil) (by show 1 ≤ 100000; decide)) (es_of (ev_var rfl) (rf.up (hidP_ex e5))) (by rw [List.length_map, right]; show 1 + k ≤ 100000; omega)) fun z H6 e6 r6 => q z H6 (((e1.trans E4).trans e5).trans e6) ?_
              rw [hd, unf]
              exact r6
          · obtain ⟨y2, y3, y4, rfl, e2, hd⟩ := hq
            rw [show ((W.length : Int)).toNat = W.length from rfl, List.drop_of_length_le (Nat.le_refl _)] at hd
            refine s_ret (v := .non) ev_c fun H3 e3 => q .non H3 ((e1.trans e2).trans e3) ?_
            rw [hd]
            unfold Wy.disj
            exact .non
theorem ok_disj : ∀ n : Nat, FnOk P w K mg base CX0 (n + 2) T.a_disjoint_ways T.d_disjoint_ways ["ways", "many"] (spDisj n)
  | 0 => ok_disj_step T 0 (fun _ _ _ _ => False) (T.F_disjoint_ways.ok sc_dw (fun vs H Q E h => h.elim) (fun cdv A outer s H vs Q E hr h => h.elim)) fun m h => by omega
  | n + 1 => ok_disj_step T (n + 1) (spDisj n) (ok_disj n) fun m h => by
    cases h
    rfl
end
end Kx

set_option Elab.async false
set_option linter.all false
set_option maxRecDepth 100000
set_option maxHeartbeats 400000
namespace Kx
open PySem PySem.Spec PyProof.Rows L2 Evl
/-! ## the doors' names, apart from S -/
theorem es_tupOf {K : PySem.W.Frag} {S : Addr → Prop} {σ : L2.St} {H : Hp} {te : TE} {ds : List D} (hin : InS S H) (h : EvS S te σ H (.lst ds)) : EvS S (tCB (rTupOf K) (tCons te tNil)) σ H (.tup ds) := fun H1 e Q q => h H1 e _ fun v H2 e2 r => by
  cases r with
  | @lst p vs _ hp rs =>
    exact ⟨p, vs, rfl, .of (hidP_get hp).1, fun r o hr ho => q (.ref r) _ (e2.trans (Ex.new hr)) (.tup ⟨o, ho, hidP_at upd_same ((hin.up (e.trans e2)).new hr)⟩ (rs.up (hidP_ex (Ex.new hr))))⟩
def spDNS : Sp := fun vs H Q _ => ∃ (S : Addr → Prop) (v : V) (d : D), vs = [v] ∧ RepS S H v d ∧ d.bld = true ∧ InS S H ∧ ∀ u H', Ex H H' → RepS S H' u (.tup (d.dn.map D.str)) → Q u H'
section
variable {P : Program} {w : World} {K : PySem.W.Frag} {mg : Str → Option Value} {base : Heap} (T : Txt K mg)
theorem ok_door_namesS : FnOk P w K mg base CX0 1 T.a_door_names T.d_door_names ["building"] spDNS := by
  refine T.F_door_names.ok sc_door_names (fun vs H Q E h => ?_) (fun cdv A outer s H vs Q E hr h => ?_)
  · obtain ⟨S, v, d, rfl, _⟩ := h
    rfl
  · obtain ⟨S, v, d, rfl, hv, hb, hin, q⟩ := h
    have nd := sc_door_names.nd
    refine ⟨_, (pss_one (ps_ret (pe_callTy call_tupF (by rfl) T.z_tuple bo_tuple (pa_cons (pe_lc (own := [("door", 1)]) (g := gName 1) (tt := tYes) (te := tOp (rIxT K) (tVar 1) (tC (.int 0))) (by rfl) nd (pi_tup (pe_ix (r := rIxT K) ix_tup (pv 0) pe_int (fun _ _ => rfl))) (blkOk_by (N := ["building", "door"]) (sc := defScope s_door_names) (by decide +kernel)) (fun _ _ _ _ _ => (pg_name (i := 1) nd rfl (.inl rfl))) (fun _ _ _ _ _ => pts_nil) (fun _ _ _ _ _ => (pe_ix (r := rIxT K) ix_tup (pv 1) pe_int (fun _ _ => rfl)))) pa_nil)))), ?_⟩
    obtain ⟨as, es, ks, rs, B⟩ := bld_is hb
    obtain ⟨a, vs, b, ws, rfl, ha, h2, hbt, hbs⟩ := door_at B hv
    have e1 : EvS S (tOp (rIxT K) (tVar 0) (tC (.int 2))) [some (.ref a), none] H (.tup es) := es_of (ev_ixT (j := 2) (ev_var rfl) (ha.up hidP_sub) h2) (.tup hbt hbs)
    have c := lcS (S := S) (ds := es) (wi := iTup K (tOp (rIxT K) (tVar 0) (tC (.int 2)))) (g := gName 1) (tt := tYes) (te := tOp (rIxT K) (tVar 1) (tC (.int 0))) (own := [1]) (σ := [some (.ref a), none]) (H := H) (fun _ => true) (fun e => .str e.fst.txt) hin (its_tup e1) (by have := B.e6; omega) fun S' x e H1 he in1 e2 x1 rx => by
      obtain ⟨n, a1, b1, s1, rfl, _⟩ := dr_shape (B.ed e he)
      obtain ⟨c, us, rfl, hc, hcs⟩ := rx.tupD
      cases hcs with
      | cons q0 _ =>
        obtain rfl := q0.strD
        exact ⟨[some (.ref a), some (.ref c)], fun Q h => h, rfl, fun H6 e6 Q q => q H6 (Ex.refl _), fun _ => es_of (ev_ixT (j := 0) (ev_var rfl) (hc.up hidP_sub) rfl) (.str n)⟩
    rw [List.filter_eq_self.mpr fun _ _ => rfl] at c
    refine s_retS (S := S) (es_tupOf (K := K) hin c) fun u H1 e2 r2 => q u H1 e2 ?_
    rw [B.dn, List.map_map]
    exact r2
end
end Kx

set_option Elab.async false
set_option linter.all false
set_option maxRecDepth 100000
set_option maxHeartbeats 400000
namespace Kx
open PySem PySem.Spec PyProof.Rows L2 Evl
/-! ## the least cut -/
theorem find_step {α : Type} {f : α → Bool} {ds : List α} {i : Nat} {x : α} (hx : ds[i]? = some x) (h : (ds.take i).find? f = none) : (f x = true → ds.find? f = some x) ∧ (f x = false → (ds.take (i + 1)).find? f = none) := by
  have e : ds.take (i + 1) = ds.take i ++ [x] := by rw [List.take_add_one, hx]; rfl
  constructor
  · intro hf
    have e2 : ds = ds.take (i + 1) ++ ds.drop (i + 1) := (List.take_append_drop _ _).symm
    rw [e2, List.find?_append, e, List.find?_append, h, List.find?_singleton, if_pos hf]
    rfl
  · intro hf
    rw [e, List.find?_append, h, List.find?_singleton, if_neg (by rw [hf]; exact Bool.false_ne_true)]
    rfl
def numD : D → Nat
  | .int j => j.toNat
  | _ => 0
def endsErr (cD cA cS : Addr) (d e f g : D) : Option Addr := match firstErr cD cA d e f g with
  | some C => some C
  | none => if f.txt = g.txt then some cS else none
def cutOf (ns : List Str) (c : List Nat) : List Str := c.map fun i => (ns[i]?).getD Str.empty
def hitL (ws : List (List Str)) (ns : List Str) (c : List Nat) : Bool := ws.all fun p => p.any fun n => amg n (cutOf ns c)
def openD (d : D) (fr : List Str) : List Str := d.dn.filter fun n => amg n fr
def partD (d : D) (fr : List Str) (a b : Str) : D := match (Wy.lotsTo (openD d fr).length ((openD d fr).length + 1)).find? (hitL ((waysL d fr a b).map (·.1)) (openD d fr)) with
  | some c => .tup [.lst ((cutOf (openD d fr) c).map D.str), disjD (Wy.disj (cutOf (openD d fr) c).length ((waysL d fr a b).map (·.1)))]
  | none => .non
def spParting (cD cA cS : Addr) : Sp := fun vs H Q E => ∃ (S : Addr → Prop) (v : V) (d : D) (x : V) (e : D) (y : V) (f : D) (z : V) (g : D), Asks H vs v d x e y f z g ∧ InS S H ∧ RepS S H v d ∧ (∀ C, endsErr cD cA cS d e f g = some C → ∀ H', Ex H H' → E (.ref C) none H') ∧
  (endsErr cD cA cS d e f g = none → ∀ w H', Ex H H' → RepS S H' w (partD d e.row f.txt g.txt) → Q w H')
section
variable {P : Program} {w : World} {K : PySem.W.Frag} {mg : Str → Option Value} {base : Heap} (T : Txt K mg)
theorem ok_parting : FnOk P w K mg base (L2.CX P w) 10 T.a_parting T.d_parting ["building", "free", "area", "other"] (spParting T.c_BadDoors T.c_BadArea T.c_SameArea) := by
  refine T.F_parting.okX sc_parting (fun vs H Q E h => ?_) (fun cdv A outer s H vs Q E hr h => ?_)
  · obtain ⟨S, v, d, x, e, y, f, z, g, a, _⟩ := h
    rw [a.eq]
    rfl
  · obtain ⟨S, v, d, x, e, y, f, z, g, ⟨rfl, rv, hz, hb, rx, ez, ry, rz⟩, hin, rvS, qe, q⟩ := h
    have nd := sc_parting.nd
    refine ⟨_, (pss_cons (ps_expr (pe_call (E := E) (ok_check_ends T) (hr.mono (by decide)) (by rfl) T.g_check_ends T.F_check_ends.kp (b_check_ends T) .nil (passes_call (takes_of rfl rfl rfl rfl) fun _ _ _ _ h => h) (pa_cons (pv 0) (pa_cons (pv 1) (pa_cons (pv 2) (pa_cons (pv 3) pa_nil))))))
      (pss_cons (ps_setLc (i := 4) (own := [("doors", 8), ("_", 9)]) (g := gTup K 2 (gCons (gName 8) (gCons (gName 9) gNil))) (tt := tYes) (te := tVar 8) (by rfl) nd rfl rfl (by rfl) (pi_list (pe_call (ok_ways T) (hr.mono (by decide)) (by rfl) T.g_all_ways T.F_all_ways.kp (b_all_ways T) .nil pass0 (pa_cons (pv 0) (pa_cons (pv 1) (pa_cons (pv 2) (pa_cons (pv 3) pa_nil)))))) (blkOk_by (N := ["building", "free", "area", "other", "ways", "names", "lot", "cut", "doors", "_", "name", "at", "way", "door"]) (sc := defScope s_parting) (by decide +kernel)) (fun _ _ _ _ _ => (pg_tup rfl (pgs_cons (pg_name (i := 8) nd rfl (.inl rfl)) (pgs_cons (pg_name (i := 9) nd rfl (.inl rfl)) pgs_nil)))) (fun _ _ _ _ _ => pts_nil) (fun _ _ _ _ _ => (pv 8)))
      (pss_cons (ps_set (i := 5) nd rfl (.inr rfl) (pe_lc (own := [("name", 10)]) (g := gName 10) (tt := tTest (tOp (rIn K false) (tVar 10) (tVar 1))) (te := tVar 10) (by rfl) nd (pi_tup (pe_call (ok_door_namesS T) (hr.mono (by decide)) (by rfl) T.g_door_names T.F_door_names.kp (b_door_names T) .nil pass0 (pa_cons (pv 0) pa_nil))) (blkOk_by (N := ["building", "free", "area", "other", "ways", "names", "lot", "cut", "doors", "_", "name", "at", "way", "door"]) (sc := defScope s_parting) (by decide +kernel)) (fun _ _ _ _ _ => (pg_name (i := 10) nd rfl (.inl rfl))) (fun _ _ _ _ _ => (pts_one (pt_cmpR (r := rIn K false) op_in_seq (pv 10) (pv 1) (by rfl)))) (fun _ _ _ _ _ => (pv 10))))
      (pss_cons (ps_for (passes_of rfl) rfl (pi_list (pe_call (ok_lots T) (hr.mono (by decide)) (by rfl) T.g_lots_below T.F_lots_below.kp (b_lots_below T) .nil pass0 (pa_cons (pe_callB call_len_seq (by rfl) T.z_len bo_len (pa_cons (pv 5) pa_nil)) pa_nil))) (pg_name (i := 6) nd rfl (.inl rfl)) (pss_cons (ps_set (i := 7) nd rfl (.inr rfl) (pe_lc (own := [("at", 11)]) (g := gName 11) (tt := tYes) (te := tOp (rIxL K) (tVar 5) (tVar 11)) (by rfl) nd (pi_tup (pv 6)) (blkOk_by (N := ["building", "free", "area", "other", "ways", "names", "lot", "cut", "doors", "_", "name", "at", "way", "door"]) (sc := defScope s_parting) (by decide +kernel)) (fun _ _ _ _ _ => (pg_name (i := 11) nd rfl (.inl rfl))) (fun _ _ _ _ _ => pts_nil) (fun _ _ _ _ _ => (pe_ix (r := rIxL K) ix_list (pv 5) (pv 11) (fun _ _ => rfl)))))
      (pss_one (ps_if (pt_val (pe_callB (cr_all rfl) (by rfl) T.z_all bo_all (pa_cons (pe_lc (own := [("way", 12)]) (g := gName 12) (tt := tYes) (te := tCB (rAny K) (tCons (tLc (iList K (tVar 12)) (gName 13) tYes (tOp (rIn K false) (tVar 13) (tVar 7)) [13]) tNil)) (by rfl) nd (pi_list (pv 4)) (blkOk_by (N := ["building", "free", "area", "other", "ways", "names", "lot", "cut", "doors", "_", "name", "at", "way", "door"]) (sc := defScope s_parting) (by decide +kernel)) (fun _ _ _ _ _ => (pg_name (i := 12) nd rfl (.inl rfl))) (fun _ _ _ _ _ => pts_nil) (fun _ _ _ _ _ => (pe_callB (cr_any rfl) (by rfl) T.z_any bo_any (pa_cons (pe_lc (own := [("door", 13)]) (g := gName 13) (tt := tYes) (te := tOp (rIn K false) (tVar 13) (tVar 7)) (by rfl) nd (pi_list (pv 12)) (blkOk_by (N := ["building", "free", "area", "other", "ways", "names", "lot", "cut", "doors", "_", "name", "at", "way", "door"]) (by rfl)) (fun _ _ _ _ _ => (pg_name (i := 13) nd rfl (.inl rfl))) (fun _ _ _ _ _ => pts_nil) (fun _ _ _ _ _ => (pe_cmpR (r := rIn K false) op_in_seq (pv 13) (pv 7) (by rfl)))) pa_nil)))) pa_nil))) (pss_one (ps_ret (pe_tupF (pa_cons (pv 7) (pa_cons (pe_call (ok_disj T 6) (hr.mono (by decide)) (by rfl) T.g_disjoint_ways T.F_disjoint_ways.kp (b_disjoint_ways T) .nil pass0 (pa_cons (pv 4) (pa_cons (pe_callB call_len_seq (by rfl) T.z_len bo_len (pa_cons (pv 7) pa_nil)) pa_nil))) pa_nil))))) pss_nil))))
      (pss_one (ps_ret pe_non)))))), ?_⟩
    have ends : ∀ H1, Ex H H1 → okEnds T.c_BadDoors T.c_BadArea T.c_SameArea [v, x, y, z] H1 (match endsErr T.c_BadDoors T.c_BadArea T.c_SameArea d e f g with | some C => .exc C | none => .ret .non) := fun H1 e1 => ⟨v, d, x, e, y, f, z, g, ⟨rfl, rv.up e1, hz, hb, rx.up e1, ez, ry.up e1, rz.up e1⟩, by
      unfold endsErr
      cases firstErr T.c_BadDoors T.c_BadArea d e f g with
      | some C => rfl
      | none =>
        show (match (if f.txt = g.txt then some T.c_SameArea else none) with | some C => Out.exc C | none => .ret .non) = if f.txt = g.txt then .exc T.c_SameArea else .ret .non
        by_cases h : f.txt = g.txt
        · rw [if_pos h, if_pos h]
        · rw [if_neg h, if_neg h]⟩
    refine s_callO (o := match endsErr T.c_BadDoors T.c_BadArea T.c_SameArea d e f g with | some C => .exc C | none => .ret .non) (ea_cons (ev_var rfl) (ea_cons (ev_var rfl) (ea_cons (ev_var rfl) (ea_cons (ev_var rfl) ea_nil)))) ends fun H2 e2 => ?_
    cases he : endsErr T.c_BadDoors T.c_BadArea T.c_SameArea d e f g with
    | some C => exact qe C he H2 e2
    | none =>
      have q := q he
      unfold outOk
      dsimp only
      have e0 : firstErr T.c_BadDoors T.c_BadArea d e f g = none := by
        unfold endsErr at he
        cases h : firstErr T.c_BadDoors T.c_BadArea d e f g with
        | none => rfl
        | some C => rw [h] at he; cases he
      have ⟨hf, hf2, hf3⟩ : e.fre d.dn = true ∧ amD f (areasD d) = true ∧ amD g (areasD d) = true := by
        unfold firstErr at e0
        cases h1 : e.fre d.dn <;> cases h2 : amD f (areasD d) <;> cases h3 : amD g (areasD d) <;> simp_all
      obtain ⟨p, rfl, tx⟩ := fre_at rx hf
      obtain ⟨a, rfl, rfl, ma⟩ := am_at ry hf2
      obtain ⟨b, rfl, rfl, mb⟩ := am_at rz hf3
      have in2 := hin.up e2
      have wlen := upto_len (fr := e.row) (a := a) (b := b) hb 6
      have p6 := pow6 (k := 6) (by decide)
      -- the ways
      have wy : ∀ H1, Ex H2 H1 → EvS S (tCall spWays [] E0 (tCons (tVar 0) (tCons (tVar 1) (tCons (tVar 2) (tCons (tVar 3) tNil))))) [some (v), some (.ref p), some (.str a), some (.str b), none, none, none, none, none, none, none, none, none, none] H1 (.lst ((waysL d e.row a b).map (wayD a))) := fun H1 e1 H3 e3 Q1 q1 => ⟨v, rfl, .ref p, rfl, .str a, rfl, .str b, rfl, S, v, d, p, e.row, a, b, rfl, rv.up ((e2.trans e1).trans e3), hb, txs_up tx ((e2.trans e1).trans e3), ma, hin.up ((e2.trans e1).trans e3), q1⟩
      have c1 := lcS (S := S) (ds := (waysL d e.row a b).map (wayD a)) (wi := iList K (tCall spWays [] E0 (tCons (tVar 0) (tCons (tVar 1) (tCons (tVar 2) (tCons (tVar 3) tNil)))))) (g := gTup K 2 (gCons (gName 8) (gCons (gName 9) gNil))) (tt := tYes) (te := tVar 8) (own := [8, 9]) (σ := [some (v), some (.ref p), some (.str a), some (.str b), none, none, none, none, none, none, none, none, none, none]) (H := H2) (fun _ => true) D.fst in2 (its_list (wy H2 (Ex.refl _))) (by rw [List.length_map]; exact Nat.le_trans wlen (by omega)) fun S' u d1 H3 hd1 in3 e3 x3 ru => by
        obtain ⟨w0, _, rfl⟩ := List.mem_map.mp hd1
        obtain ⟨c, l, m, rfl, hc, hl, hm⟩ := way_at ru
        exact ⟨[some (v), some (.ref p), some (.str a), some (.str b), none, none, none, none, some (.ref l), some (.ref m), none, none, none, none], fun Q h => ⟨c, _, rfl, (hc.up hidP_sub).sq, rfl, .ref l, _, rfl, .ref m, _, rfl, rfl, h⟩, rfl, fun H6 e6 Q q => q H6 (Ex.refl _), fun _ => es_of (ev_var rfl) (.lst hl (reps_strs _))⟩
      rw [List.filter_eq_self.mpr fun _ _ => rfl, List.map_map, show (waysL d e.row a b).map (D.fst ∘ wayD a) = ((waysL d e.row a b).map (·.1)).map rowD by rw [List.map_map]; rfl] at c1
      refine s_asgS (S := S) (σ := [some (v), some (.ref p), some (.str a), some (.str b), none, none, none, none, none, none, none, none, none, none]) c1 fun ww H3 e3 rw1 => ?_
      have in3 := in2.up e3
      have E3 := e2.trans e3
      -- the free doors
      have c2 := lcS (S := S) (ds := d.dn.map D.str) (wi := iTup K (tCall spDNS [] E0 (tCons (tVar 0) tNil))) (g := gName 10) (tt := tTest (tOp (rIn K false) (tVar 10) (tVar 1))) (te := tVar 10) (own := [10]) (σ := [some (v), some (.ref p), some (.str a), some (.str b), some (ww), none, none, none, none, none, none, none, none, none]) (H := H3) (fun e1 => amg e1.txt e.row) id in3 (its_tup fun H4 e4 Q1 q1 => ⟨v, rfl, S, v, d, rfl, rvS.up (hidP_ex (E3.trans e4)), hb, in3.up e4, q1⟩) (by
        obtain ⟨as, es, ks, rs, B⟩ := bld_is hb
        rw [B.dn, List.length_map, List.length_map]
        have := B.e6
        omega) fun S' u d1 H4 hd1 in4 e4 x4 ru => by
        obtain ⟨n, _, rfl⟩ := List.mem_map.mp hd1
        obtain rfl := ru.strD
        exact ⟨[some (v), some (.ref p), some (.str a), some (.str b), some (ww), none, none, none, none, none, some (.str n), none, none, none], fun Q h => h, rfl, et_test (ev_op (ev_var rfl) (ev_var rfl) (rv_inTx (txs_up tx (E3.trans e4)))), fun _ => es_of (ev_var rfl) (.str n)⟩
      rw [List.map_id, List.filter_map, show ((fun e1 => amg e1.txt e.row) ∘ D.str) = fun n => amg n e.row from rfl] at c2
      have c2 : EvS S _ _ H3 (.lst ((openD d e.row).map D.str)) := c2
      refine s_asgS (S := S) (σ := [some (v), some (.ref p), some (.str a), some (.str b), some (ww), none, none, none, none, none, none, none, none, none]) c2 fun nn H4 e4 rn => ?_
      have in4 := in3.up e4
      have E4 := E3.trans e4
      have rw4 := rw1.up (hidP_ex e4)
      have n6 : (openD d e.row).length ≤ 6 := by
        obtain ⟨as, es, ks, rs, B⟩ := bld_is hb
        have l := List.length_filter_le (fun n => amg n e.row) d.dn
        have : d.dn.length = es.length := by rw [B.dn, List.length_map]
        have := B.e6
        unfold openD
        omega
      cases rn with
      | @lst pn vn _ hpn rsn =>
        rw [strs_of_reps rsn] at hpn
        have svl : (sv (openD d e.row)).length = (openD d e.row).length := List.length_map _
        refine ⟨.ref pn, rfl, pn, sv (openD d e.row), rfl, .inl (.of (hidP_get hpn).1), S, (openD d e.row).length, by rw [svl]; rfl, n6, in4, fun lv H5 e5 rl => ?_⟩
        cases rl with
        | @lst q1 vs1 _ hq rs1 =>
          refine ⟨q1, rfl, ⟨vs1, .of (hidP_get hq).1⟩, for_list (xs := vs1) (fun i σ' H' => ∃ y6 y7, σ' = [some (v), some (.ref p), some (.str a), some (.str b), some (ww), some (.ref pn), y6, y7, none, none, none, none, none, none] ∧ Ex H5 H' ∧ ((Wy.lotsTo (openD d e.row).length ((openD d e.row).length + 1)).take i).find? (hitL ((waysL d e.row a b).map (·.1)) (openD d e.row)) = none) ⟨none, none, rfl, Ex.refl _, rfl⟩ (fun i σ' H' _ ⟨_, _, _, ex, _⟩ => .of (ex _ _ (hidP_get hq).1)) (fun i x σ' H' hx ⟨y6, y7, es, ex, hno⟩ => ?_) (fun σ' H' ⟨y6, y7, es, ex, hno⟩ => ?_)⟩
          · subst es
            obtain ⟨dl, hdl, rc⟩ := rs1.get hx
            rw [List.getElem?_map] at hdl
            obtain ⟨c, hc, rfl⟩ := Option.map_eq_some_iff.mp hdl
            obtain ⟨casc, cb, cl⟩ := (Wy.mem_lots _ c).mp (List.mem_of_getElem? hc)
            have st := find_step (f := hitL ((waysL d e.row a b).map (·.1)) (openD d e.row)) hc hno
            have E5 := e5.trans ex
            have inx := in4.up E5
            have rcx := rc.up (hidP_ex ex)
            have c3 := lcS (S := S) (ds := c.map nD) (wi := iTup K (tVar 6)) (g := gName 11) (tt := tYes) (te := tOp (rIxL K) (tVar 5) (tVar 11)) (own := [11]) (σ := [some (v), some (.ref p), some (.str a), some (.str b), some (ww), some (.ref pn), some (x), y7, none, none, none, none, none, none]) (H := H') (fun _ => true) (fun e1 => .str (((openD d e.row)[numD e1]?).getD Str.empty)) inx (its_tup (es_of (ev_var rfl) rcx)) (by rw [List.length_map]; omega) fun S' u d1 H6 hd1 in6 e6 x6 ru => by
              obtain ⟨j, hj, rfl⟩ := List.mem_map.mp hd1
              obtain rfl := ru.intD
              have jl := cb j hj
              refine ⟨[some (v), some (.ref p), some (.str a), some (.str b), some (ww), some (.ref pn), some (x), y7, none, none, none, some (.int (j : Int)), none, none], fun Q h => h, rfl, fun H6 e6 Q q => q H6 (Ex.refl _), fun _ => es_of (v := .str (openD d e.row)[j]) (ev_op (ev_var rfl) (ev_var rfl) (rv_ixL (i := (j : Int)) (.of (e6 _ _ (E5 _ _ (hidP_get hpn).1))) (atI_nat (by unfold sv; rw [List.getElem?_map, List.getElem?_eq_getElem jl]; rfl)))) ?_⟩
              rw [show numD (nD j) = j from Int.toNat_natCast j, List.getElem?_eq_getElem jl]
              exact .str _
            rw [List.filter_eq_self.mpr fun _ _ => rfl, List.map_map] at c3
            rw [show c.map ((fun e1 => D.str (((openD d e.row)[numD e1]?).getD Str.empty)) ∘ nD) = (cutOf (openD d e.row) c).map D.str by
              unfold cutOf
              rw [List.map_map]
              rfl] at c3
            refine s_asgS (S := S) (σ := [some (v), some (.ref p), some (.str a), some (.str b), some (ww), some (.ref pn), some (x), y7, none, none, none, none, none, none]) c3 fun cu H6 e6 rcu => ?_
            have E6 := E5.trans e6
            have iny := inx.up e6
            have rwy := rw4.up (hidP_ex E6)
            have wsl : ((waysL d e.row a b).map (·.1)).length ≤ 46656 := by rw [List.length_map]; exact Nat.le_trans wlen p6
            have wp : ∀ p1 ∈ (waysL d e.row a b).map (·.1), p1.length ≤ 6 := fun p1 hp1 => by
              obtain ⟨w0, hw0, rfl⟩ := List.mem_map.mp hp1
              have := ((Wy.mem_upto (st := fun n x y => (n, y) ∈ stepsD d e.row x) (fun _ _ _ => Iff.rfl) 6 w0).mp hw0).2
              exact Nat.le_of_lt this
            cases rcu with
            | @lst cl vc _ hcl rsc =>
              rw [strs_of_reps rsc] at hcl
              have tst : EvT (tB (tCB (rAll K) (tCons (tLc (iList K (tVar 4)) (gName 12) tYes (tCB (rAny K) (tCons (tLc (iList K (tVar 12)) (gName 13) tYes (tOp (rIn K false) (tVar 13) (tVar 7)) [13]) tNil)) [12]) tNil))) [some (v), some (.ref p), some (.str a), some (.str b), some (ww), some (.ref pn), some (x), some (.ref cl), none, none, none, none, none, none] H6 (hitL ((waysL d e.row a b).map (·.1)) (openD d e.row) c) := by
                refine et_B (ev_is (ev_allS (K := K) (S := S) (bs := ((waysL d e.row a b).map (·.1)).map fun p1 => p1.any fun n => amg n (cutOf (openD d e.row) c)) ?_) (by rw [List.all_map]; rfl))
                have c4 := lcS (S := S) (ds := ((waysL d e.row a b).map (·.1)).map rowD) (wi := iList K (tVar 4)) (g := gName 12) (tt := tYes) (te := tCB (rAny K) (tCons (tLc (iList K (tVar 12)) (gName 13) tYes (tOp (rIn K false) (tVar 13) (tVar 7)) [13]) tNil)) (own := [12]) (σ := [some (v), some (.ref p), some (.str a), some (.str b), some (ww), some (.ref pn), some (x), some (.ref cl), none, none, none, none, none, none]) (H := H6) (fun _ => true) (fun d1 => .bl (d1.row.any fun n => amg n (cutOf (openD d e.row) c))) iny (its_list (es_of (ev_var rfl) rwy)) (by rw [List.length_map]; omega) fun S' u d1 H7 hd1 in7 e7 x7 ru => by
                  obtain ⟨p1, hp1, rfl⟩ := List.mem_map.mp hd1
                  refine ⟨[some (v), some (.ref p), some (.str a), some (.str b), some (ww), some (.ref pn), some (x), some (.ref cl), none, none, none, none, some (u), none], fun Q h => h, rfl, fun H6 e6 Q q => q H6 (Ex.refl _), fun _ => es_of (ev_is (ev_anyS (K := K) (S := S') (bs := p1.map fun n => amg n (cutOf (openD d e.row) c)) ?_) ?_) (.bl _)⟩
                  · have c5 := lcS (S := S') (ds := p1.map D.str) (wi := iList K (tVar 12)) (g := gName 13) (tt := tYes) (te := tOp (rIn K false) (tVar 13) (tVar 7)) (own := [13]) (σ := [some (v), some (.ref p), some (.str a), some (.str b), some (ww), some (.ref pn), some (x), some (.ref cl), none, none, none, none, some (u), none]) (H := H7) (fun _ => true) (fun d2 => .bl (amg d2.txt (cutOf (openD d e.row) c))) in7 (its_list (es_of (ev_var rfl) ru)) (by rw [List.length_map]; have := wp p1 hp1; omega) fun S2 z d2 H8 hd2 in8 e8 x8 rz => by
                      obtain ⟨n0, _, rfl⟩ := List.mem_map.mp hd2
                      obtain rfl := rz.strD
                      exact ⟨[some (v), some (.ref p), some (.str a), some (.str b), some (ww), some (.ref pn), some (x), some (.ref cl), none, none, none, none, some (u), some (.str n0)], fun Q h => h, rfl, fun H6 e6 Q q => q H6 (Ex.refl _), fun _ => es_of (ev_op (ev_var rfl) (ev_var rfl) (rv_inTx (.inl ((e7.trans e8) _ _ (hidP_get hcl).1)))) (.bl _)⟩
                    rw [List.filter_eq_self.mpr fun _ _ => rfl, List.map_map] at c5
                    rw [List.map_map]
                    exact c5
                  · rw [List.any_map]
                    congr 1
                    show _ = ((p1.map D.str).map D.txt).any _
                    rw [List.map_map, List.any_map]
                    rfl
                rw [List.filter_eq_self.mpr fun _ _ => rfl, List.map_map] at c4
                rw [List.map_map]
                refine cast ?_ c4
                congr 2
                refine List.map_congr_left fun p1 _ => ?_
                show D.bl (((p1.map D.str).map D.txt).any _) = _
                rw [List.map_map, show (D.txt ∘ D.str) = id from rfl, List.map_id]
                rfl
              refine s_if (σ := [some (v), some (.ref p), some (.str a), some (.str b), some (ww), some (.ref pn), some (x), some (.ref cl), none, none, none, none, none, none]) tst (fun hb2 H7 e7 => ?_) (fun hb2 H7 e7 => ⟨_, _, rfl, (ex.trans e6).trans e7, st.2 hb2⟩)
              have cl6 : (cutOf (openD d e.row) c).length ≤ 6 := by
                unfold cutOf
                rw [List.length_map]
                exact Nat.le_trans (Wy.asc_len casc cb) n6
              have in7 := iny.up e7
              have rw7 := rwy.up (hidP_ex e7)
              have hcl7 := hidP_ex e7 _ _ hcl
              have svc : (sv (cutOf (openD d e.row) c)).length = (cutOf (openD d e.row) c).length := List.length_map _
              refine s_retS (S := S) (σ := [some (v), some (.ref p), some (.str a), some (.str b), some (ww), some (.ref pn), some (x), some (.ref cl), none, none, none, none, none, none]) (es_tup (ds := [.lst ((cutOf (openD d e.row) c).map D.str), disjD (Wy.disj (cutOf (openD d e.row) c).length ((waysL d e.row a b).map (·.1)))]) in7 (eas_cons (es_of (ev_var rfl) (.lst hcl7 (reps_strs _))) (eas_cons (fun H8 e8 Q1 q1 => ⟨ww, rfl, .ref cl, rfl, cl, sv (cutOf (openD d e.row) c), rfl, .inl (.of (e8 _ _ (hidP_get hcl7).1)), S, ww, (waysL d e.row a b).map (·.1), (cutOf (openD d e.row) c).length, by rw [svc]; rfl, cl6, by omega, rw7.up (hidP_ex e8), by omega, fun p1 hp1 => Nat.le_trans (wp p1 hp1) (by decide), in7.up e8, q1⟩) eas_nil)) (by show 2 ≤ 100000; decide)) fun u H8 e8 r8 => q u H8 (((E4.trans E6).trans e7).trans e8) ?_
              unfold partD
              rw [show (D.str a).txt = a from rfl, show (D.str b).txt = b from rfl, st.1 hb2]
              exact r8
          · subst es
            rw [List.take_of_length_le (by rw [rs1.length, List.length_map]; exact Nat.le_refl _)] at hno
            dsimp only
            refine s_ret (v := .non) ev_c fun H6 e6 => q .non H6 (((E4.trans e5).trans ex).trans e6) ?_
            unfold partD
            rw [show (D.str a).txt = a from rfl, show (D.str b).txt = b from rfl, hno]
            exact .non
end
end Kx

set_option Elab.async false
set_option linter.all false
set_option maxRecDepth 100000
set_option maxHeartbeats 400000
namespace Kx
open PySem PySem.Spec PyProof.Rows L2 Evl
/-! ## narrows -/
theorem sc_nr : FnScope ["building", "free", "area", "other", "found", "between", "item", "_", "met"] ["building", "free", "area", "other"] (defScope s_narrows) := ⟨rfl, rfl, rfl, by decide +kernel, rfl, by decide +kernel, by decide +kernel⟩
def narD (ws : List (List Str × List Str)) (a : Str) : D := match ws with
  | [] => .non
  | w0 :: _ => .tup (((cutX (a :: w0.2) (some 1) (some (-1))).filter fun it => ws.all fun w => amg it (a :: w.2)).map D.str)
def spNarrows (cD cA cS cN : Addr) : Sp := fun vs H Q E => ∃ (S : Addr → Prop) (v : V) (d : D) (x : V) (e : D) (y : V) (f : D) (z : V) (g : D), Asks H vs v d x e y f z g ∧ InS S H ∧ (∀ C, endsErr cD cA cS d e f g = some C → ∀ H', Ex H H' → E (.ref C) none H') ∧
  (endsErr cD cA cS d e f g = none → waysL d e.row f.txt g.txt = [] → ∀ H', Ex H H' → E (.ref cN) none H') ∧ (endsErr cD cA cS d e f g = none → waysL d e.row f.txt g.txt ≠ [] → ∀ u H', Ex H H' → RepS S H' u (narD (waysL d e.row f.txt g.txt) f.txt) → Q u H')
section
variable {P : Program} {w : World} {K : PySem.W.Frag} {mg : Str → Option Value} {base : Heap} (T : Txt K mg)
theorem ok_narrows : FnOk P w K mg base (L2.CX P w) 10 T.a_narrows T.d_narrows ["building", "free", "area", "other"] (spNarrows T.c_BadDoors T.c_BadArea T.c_SameArea T.c_NoWay) := by
  refine T.F_narrows.okX sc_nr (fun vs H Q E h => ?_) (fun cdv A outer s H vs Q E hr h => ?_)
  · obtain ⟨S, v, d, x, e, y, f, z, g, a, _⟩ := h
    rw [a.eq]
    rfl
  · obtain ⟨S, v, d, x, e, y, f, z, g, ⟨rfl, rv, hz, hb, rx, ez, ry, rz⟩, hin, qe, qn, q⟩ := h
    have nd := sc_nr.nd
    refine ⟨_, (pss_cons (ps_expr (pe_call (E := E) (ok_check_ends T) (hr.mono (by decide)) (by rfl) T.g_check_ends T.F_check_ends.kp (b_check_ends T) .nil (passes_call (takes_of rfl rfl rfl rfl) fun _ _ _ _ h => h) (pa_cons (pv 0) (pa_cons (pv 1) (pa_cons (pv 2) (pa_cons (pv 3) pa_nil))))))
      (pss_cons (ps_set (i := 4) nd rfl (.inr rfl) (pe_call (ok_ways T) (hr.mono (by decide)) (by rfl) T.g_all_ways T.F_all_ways.kp (b_all_ways T) .nil pass0 (pa_cons (pv 0) (pa_cons (pv 1) (pa_cons (pv 2) (pa_cons (pv 3) pa_nil))))))
      (pss_cons (ps_if (pt_not (pt_tru K (pv 4))) (pss_one (ps_raise rfl (takes_of rfl rfl rfl rfl) (pmk_own PySem.F.excBase_ValueError T.E_NoWay.q T.E_NoWay.g T.E_NoWay.kp (raises_own T.E_NoWay.bx T.E_NoWay.ty) rfl))) pss_nil)
      (pss_cons (ps_set (i := 5) nd rfl (.inl rfl) (pe_slice sl_list (pe_ix (r := rIxT K) ix_tup (pe_ix (r := rIxL K) ix_list (pv 4) pe_int (fun _ _ => rfl)) pe_int (fun _ _ => rfl)) (po_some pe_int) (po_some (pe_un un_neg pe_int))))
      (pss_one (ps_ret (pe_callTy call_tupF (by rfl) T.z_tuple bo_tuple (pa_cons (pe_lc (own := [("item", 6)]) (g := gName 6) (tt := tTest (tCB (rAll K) (tCons (tLc (iList K (tVar 4)) (gTup K 2 (gCons (gName 7) (gCons (gName 8) gNil))) tYes (tOp (rIn K false) (tVar 6) (tVar 8)) [7, 8]) tNil))) (te := tVar 6) (by rfl) nd (pi_list (pv 5)) (blkOk_by (N := ["building", "free", "area", "other", "found", "between", "item", "_", "met"]) (sc := defScope s_narrows) (by decide +kernel)) (fun _ _ _ _ _ => (pg_name (i := 6) nd rfl (.inr rfl))) (fun _ _ _ _ _ => (pts_one (pt_val (pe_callB (cr_all rfl) (by rfl) T.z_all bo_all (pa_cons (pe_lc (own := [("_", 7), ("met", 8)]) (g := gTup K 2 (gCons (gName 7) (gCons (gName 8) gNil))) (tt := tYes) (te := tOp (rIn K false) (tVar 6) (tVar 8)) (by rfl) nd (pi_list (pv 4)) (blkOk_by (N := ["building", "free", "area", "other", "found", "between", "item", "_", "met"]) (by rfl)) (fun _ _ _ _ _ => (pg_tup rfl (pgs_cons (pg_name (i := 7) nd rfl (.inl rfl)) (pgs_cons (pg_name (i := 8) nd rfl (.inl rfl)) pgs_nil)))) (fun _ _ _ _ _ => pts_nil) (fun _ _ _ _ _ => (pe_cmpR (r := rIn K false) op_in_seq (pv 6) (pv 8) (by rfl)))) pa_nil))))) (fun _ _ _ _ _ => (pv 6))) pa_nil)))))))), ?_⟩
    have ends : ∀ H1, Ex H H1 → okEnds T.c_BadDoors T.c_BadArea T.c_SameArea [v, x, y, z] H1 (match endsErr T.c_BadDoors T.c_BadArea T.c_SameArea d e f g with | some C => .exc C | none => .ret .non) := fun H1 e1 => ⟨v, d, x, e, y, f, z, g, ⟨rfl, rv.up e1, hz, hb, rx.up e1, ez, ry.up e1, rz.up e1⟩, by
      unfold endsErr
      cases firstErr T.c_BadDoors T.c_BadArea d e f g with
      | some C => rfl
      | none =>
        show (match (if f.txt = g.txt then some T.c_SameArea else none) with | some C => Out.exc C | none => .ret .non) = if f.txt = g.txt then .exc T.c_SameArea else .ret .non
        by_cases h : f.txt = g.txt
        · rw [if_pos h, if_pos h]
        · rw [if_neg h, if_neg h]⟩
    refine s_callO (o := match endsErr T.c_BadDoors T.c_BadArea T.c_SameArea d e f g with | some C => .exc C | none => .ret .non) (ea_cons (ev_var rfl) (ea_cons (ev_var rfl) (ea_cons (ev_var rfl) (ea_cons (ev_var rfl) ea_nil)))) ends fun H2 e2 => ?_
    cases he : endsErr T.c_BadDoors T.c_BadArea T.c_SameArea d e f g with
    | some C => exact qe C he H2 e2
    | none =>
      have q := q he
      have qn := qn he
      unfold outOk
      dsimp only
      have e0 : firstErr T.c_BadDoors T.c_BadArea d e f g = none := by
        unfold endsErr at he
        cases h : firstErr T.c_BadDoors T.c_BadArea d e f g with
        | none => rfl
        | some C => rw [h] at he; cases he
      have ⟨hf, hf2, hf3⟩ : e.fre d.dn = true ∧ amD f (areasD d) = true ∧ amD g (areasD d) = true := by
        unfold firstErr at e0
        cases h1 : e.fre d.dn <;> cases h2 : amD f (areasD d) <;> cases h3 : amD g (areasD d) <;> simp_all
      obtain ⟨p, rfl, tx⟩ := fre_at rx hf
      obtain ⟨a, rfl, rfl, ma⟩ := am_at ry hf2
      obtain ⟨b, rfl, rfl, mb⟩ := am_at rz hf3
      have in2 := hin.up e2
      have wlen := upto_len (fr := e.row) (a := a) (b := b) hb 6
      have p6 := pow6 (k := 6) (by decide)
      refine s_asgS (S := S) (d := .lst ((waysL d e.row a b).map (wayD a))) (σ := [some (v), some (.ref p), some (.str a), some (.str b), none, none, none, none, none]) (fun H3 e3 Q1 q1 => ⟨v, rfl, .ref p, rfl, .str a, rfl, .str b, rfl, S, v, d, p, e.row, a, b, rfl, rv.up (e2.trans e3), hb, txs_up tx (e2.trans e3), ma, in2.up e3, q1⟩) fun u H3 e3 ru => ?_
      have in3 := in2.up e3
      have E3 := e2.trans e3
      have q : waysL d e.row a b ≠ [] → ∀ u H', Ex H H' → RepS S H' u (narD (waysL d e.row a b) a) → Q u H' := q
      have qn : waysL d e.row a b = [] → ∀ H', Ex H H' → E (.ref T.c_NoWay) none H' := qn
      refine s_ifX (σ := [some (v), some (.ref p), some (.str a), some (.str b), some (u), none, none, none, none]) (b := (waysL d e.row a b).isEmpty) (et_is (et_not (et_truL (K := K) (es_of (ev_var rfl) ru))) (by rw [List.isEmpty_map, Bool.not_not])) (fun hb2 H4 e4 => ?_) (fun hb2 H4 e4 => ?_)
      · exact qn (List.isEmpty_iff.mp hb2) H4 (E3.trans e4)
      · cases hw : waysL d e.row a b with
        | nil => rw [hw] at hb2; cases hb2
        | cons w0 r =>
          have q := q (by rw [hw]; exact List.cons_ne_nil _ _)
          rw [hw] at ru q
          have in4 := in3.up e4
          have ru4 := ru.up (hidP_ex e4)
          have ru5 := ru4
          have wl : (w0 :: r).length ≤ 46656 := by rw [← hw]; exact Nat.le_trans wlen p6
          have w6 : w0.2.length ≤ 6 := by
            have hm : w0 ∈ waysL d e.row a b := by rw [hw]; exact List.mem_cons_self
            have h := (Wy.mem_upto (st := fun n x y => (n, y) ∈ stepsD d e.row x) (fun _ _ _ => Iff.rfl) 6 w0).mp hm
            have := h.1.1.len
            have := h.2
            omega
          cases ru5 with
          | @lst l vs _ hl rs =>
            cases rs with
            | @cons x0 _ _ _ r0 rs =>
              obtain ⟨c, l1, m1, rfl, hc, h1, h2⟩ := way_at r0
              have i1 : Ev (tOp (rIxL K) (tVar 4) (tC (.int 0))) [some (v), some (.ref p), some (.str a), some (.str b), some (.ref l), none, none, none, none] H4 (.ref c) := ev_op (ev_var rfl) ev_c (rv_ixL (i := 0) (.of (hidP_get hl).1) (atI_nat (j := 0) rfl))
              have i2 : Ev (tOp (rIxT K) (tOp (rIxL K) (tVar 4) (tC (.int 0))) (tC (.int 1))) [some (v), some (.ref p), some (.str a), some (.str b), some (.ref l), none, none, none, none] H4 (.ref m1) := ev_ixT (j := 1) i1 (hc.up hidP_sub) rfl
              have sl : EvS S (tSl (rSlL K) (tOp (rIxT K) (tOp (rIxL K) (tVar 4) (tC (.int 0))) (tC (.int 1))) (tPart (tC (.int 1))) (tPart (tUn (rU fun i => .int (-i)) (tC (.int 1))))) [some (v), some (.ref p), some (.str a), some (.str b), some (.ref l), none, none, none, none] H4 (.lst ((cutX (a :: w0.2) (some 1) (some (-1))).map D.str)) := fun H5 e5 Q1 q1 =>
                el_sl (K := K) i2 (eo_some ev_c) (eo_some (ev_un ev_c fun H1 e Q q => ⟨1, rfl, q H1 (Ex.refl _)⟩)) (.of (hidP_get h2).1) H5 e5 _ fun p1 H6 fp e6 hp1 => q1 (.ref p1) H6 e6 (.lst (hidP_at hp1 ((in4.up e5).new fp)) (by
                  have c := (reps_strs (H := hidP S H6) (a :: w0.2)).cut (some 1) (some (-1))
                  have e : cutX ((a :: w0.2).map D.str) (some 1) (some (-1)) = (cutX (a :: w0.2) (some 1) (some (-1))).map D.str := by
                    unfold cutX
                    rw [List.length_map, List.map_take, List.map_drop]
                  rw [e] at c
                  exact c))
              refine s_asgS (S := S) (σ := [some (v), some (.ref p), some (.str a), some (.str b), some (.ref l), none, none, none, none]) sl fun bt H5 e5 rb => ?_
              have in5 := in4.up e5
              have ru6 : RepS S H5 (.ref l) (.lst ((w0 :: r).map (wayD a))) := ru4.up (hidP_ex e5)
              have cl : (cutX (a :: w0.2) (some 1) (some (-1))).length ≤ 100 := by
                unfold cutX
                rw [List.length_take, List.length_drop, List.length_cons]
                omega
              have c6 := lcS (S := S) (ds := (cutX (a :: w0.2) (some 1) (some (-1))).map D.str) (wi := iList K (tVar 5)) (g := gName 6) (tt := tTest (tCB (rAll K) (tCons (tLc (iList K (tVar 4)) (gTup K 2 (gCons (gName 7) (gCons (gName 8) gNil))) tYes (tOp (rIn K false) (tVar 6) (tVar 8)) [7, 8]) tNil))) (te := tVar 6) (own := [6]) (σ := [some (v), some (.ref p), some (.str a), some (.str b), some (.ref l), some (bt), none, none, none]) (H := H5) (fun d1 => (w0 :: r).all fun w => amg d1.txt (a :: w.2)) id in5 (its_list (es_of (ev_var rfl) rb)) (by rw [List.length_map]; omega) fun S' y d1 H6 hd1 in6 e6 x6 ry => by
                obtain ⟨s0, _, rfl⟩ := List.mem_map.mp hd1
                obtain rfl := ry.strD
                refine ⟨[some (v), some (.ref p), some (.str a), some (.str b), some (.ref l), some (bt), some (.str s0), none, none], fun Q h => h, rfl, et_test (ev_is (ev_allS (K := K) (S := S') (bs := (w0 :: r).map fun w => amg s0 (a :: w.2)) ?_) (by rw [List.all_map]; rfl)), fun _ => es_of (ev_var rfl) (.str s0)⟩
                have c7 := lcS (S := S') (ds := (w0 :: r).map (wayD a)) (wi := iList K (tVar 4)) (g := gTup K 2 (gCons (gName 7) (gCons (gName 8) gNil))) (tt := tYes) (te := tOp (rIn K false) (tVar 6) (tVar 8)) (own := [7, 8]) (σ := [some (v), some (.ref p), some (.str a), some (.str b), some (.ref l), some (bt), some (.str s0), none, none]) (H := H6) (fun _ => true) (fun d2 => .bl (amg s0 (metD d2))) in6 (its_list (es_of (ev_var rfl) (ru6.up x6))) (by rw [List.length_map]; omega) fun S2 z d2 H7 hd2 in7 e7 x7 rz => by
                  obtain ⟨w1, _, rfl⟩ := List.mem_map.mp hd2
                  obtain ⟨c1, l2, m2, rfl, hc1, hl1, hm1⟩ := way_at rz
                  exact ⟨[some (v), some (.ref p), some (.str a), some (.str b), some (.ref l), some (bt), some (.str s0), some (.ref l2), some (.ref m2)], fun Q h => ⟨c1, _, rfl, (hc1.up hidP_sub).sq, rfl, .ref l2, _, rfl, .ref m2, _, rfl, rfl, h⟩, rfl, fun H6 e6 Q q => q H6 (Ex.refl _), fun _ => es_of (ev_op (ev_var rfl) (ev_var rfl) (rv_inTx (.inl (hidP_get hm1).1))) (by rw [metD_way]; exact .bl _)⟩
                rw [List.filter_eq_self.mpr fun _ _ => rfl, List.map_map, show (w0 :: r).map ((fun d2 => D.bl (amg s0 (metD d2))) ∘ wayD a) = ((w0 :: r).map fun w => amg s0 (a :: w.2)).map D.bl by
                  rw [List.map_map]
                  refine List.map_congr_left fun w1 _ => ?_
                  show D.bl (amg s0 (metD (wayD a w1))) = _
                  rw [metD_way]
                  rfl] at c7
                exact c7
              rw [List.map_id, List.filter_map] at c6
              refine s_retS (S := S) (σ := [some (v), some (.ref p), some (.str a), some (.str b), some (.ref l), some (bt), none, none, none]) (es_tupOf (K := K) in5 c6) fun z H6 e6 rz => q z H6 (((E3.trans e4).trans e5).trans e6) rz
end
end Kx

set_option linter.all false
namespace Wy
/-! # areas that all ways have; what can be reached; the least way -/
section
variable {N A : Type} [DecidableEq N] [DecidableEq A] {st : N → A → A → Prop} {a b x y : A}
theorem fin_app (x : A) (as bs : List A) : fin x (as ++ bs) = fin (fin x as) bs := by
  induction as generalizing x with
  | nil => rfl
  | cons y r ih =>
    rw [List.cons_append, fin_cons, fin_cons]
    exact ih y
theorem path_app : ∀ {x : A} {ds : List N} {as bs : List A}, Path st x ds (as ++ bs) → ∃ d1 d2, ds = d1 ++ d2 ∧ Path st x d1 as ∧ Path st (fin x as) d2 bs
  | x, ds, [], bs, p => ⟨[], ds, rfl, trivial, p⟩
  | x, [], y :: as, bs, p => p.elim
  | x, n :: ds, y :: as, bs, p => by
    obtain ⟨d1, d2, e, h1, h2⟩ := path_app (x := y) (ds := ds) (as := as) (bs := bs) p.2
    refine ⟨n :: d1, d2, by rw [e]; rfl, ⟨p.1, h1⟩, ?_⟩
    rw [fin_cons]
    exact h2
theorem path_cat : ∀ {x : A} {d1 d2 : List N} {as bs : List A}, Path st x d1 as → Path st (fin x as) d2 bs → Path st x (d1 ++ d2) (as ++ bs)
  | x, [], d2, [], bs, _, q => q
  | x, n :: d1, d2, y :: as, bs, p, q => ⟨p.1, path_cat p.2 (by rw [fin_cons] at q; exact q)⟩
  | x, [], _, _ :: _, _, p, _ => p.elim
  | x, _ :: _, _, [], _, p, _ => p.elim
/-- from a place on the way -/
theorem path_from {ds : List N} {as pre post : List A} (p : Path st x ds as) (e : x :: as = pre ++ y :: post) : ∃ d1 d2, ds = d1 ++ d2 ∧ Path st y d2 post ∧ fin y post = fin x as ∧ ∃ m, y :: post = y :: post ∧ pre ++ [y] = x :: m ∧ Path st x d1 m ∧ fin x m = y := by
  cases pre with
  | nil =>
    injection e with e1 e2
    subst e1 e2
    exact ⟨[], ds, rfl, p, rfl, [], rfl, rfl, trivial, rfl⟩
  | cons z pre =>
    injection e with e1 e2
    subst e1
    have e3 : as = (pre ++ [y]) ++ post := by rw [e2, List.append_assoc]; rfl
    rw [e3] at p
    obtain ⟨d1, d2, ed, h1, h2⟩ := path_app p
    rw [fin_snoc] at h2
    refine ⟨d1, d2, ed, h2, ?_, pre ++ [y], rfl, rfl, h1, fin_snoc _ _ _⟩
    rw [e3, fin_app, fin_snoc]
/-- a walk has a way among its areas -/
theorem simple : ∀ {x : A} {ds : List N} {as : List A}, Path st x ds as → ∃ w : Way N A, IsWay st x (fin x as) w ∧ ∀ z ∈ w.2, z ∈ as
  | x, [], [], _ => ⟨([], []), ⟨trivial, by simp, rfl⟩, fun z h => h⟩
  | x, n :: ds, y :: as, p => by
    obtain ⟨w, ⟨wp, wn, wf⟩, ws⟩ := simple p.2
    by_cases h : x ∈ y :: w.2
    · obtain ⟨pre, post, e⟩ := List.append_of_mem h
      obtain ⟨d1, d2, ed, h1, h2, _⟩ := path_from wp e
      refine ⟨(d2, post), ⟨h1, ?_, ?_⟩, fun z hz => ?_⟩
      · rw [e] at wn
        exact (List.nodup_append.mp wn).2.1
      · rw [fin_cons]
        exact h2.trans wf
      · have : z ∈ y :: w.2 := by rw [e]; exact List.mem_append_right _ (List.mem_cons_of_mem _ hz)
        rcases List.mem_cons.mp this with h | h
        · rw [h]; exact List.mem_cons_self
        · exact List.mem_cons_of_mem _ (ws z h)
    · refine ⟨(n :: w.1, y :: w.2), ⟨⟨p.1, wp⟩, List.nodup_cons.mpr ⟨h, wn⟩, ?_⟩, fun z hz => ?_⟩
      · rw [fin_cons, fin_cons]
        exact wf
      · rcases List.mem_cons.mp hz with h | h
        · rw [h]; exact List.mem_cons_self
        · exact List.mem_cons_of_mem _ (ws z h)
  | x, [], _ :: _, p => p.elim
  | x, _ :: _, [], p => p.elim
/-! ## in one order -/
theorem same_order {α : Type} : ∀ {l m : List α}, l.Nodup → m.Nodup → (∀ x, x ∈ l ↔ x ∈ m) → (∀ x y, [x, y].Sublist l → ¬ [y, x].Sublist m) → l = m
  | [], [], _, _, _, _ => rfl
  | [], y :: m, _, _, h, _ => absurd ((h y).mpr List.mem_cons_self) (by simp)
  | x :: l, [], _, _, h, _ => absurd ((h x).mp List.mem_cons_self) (by simp)
  | x :: l, y :: m, hl, hm, h, o => by
    have one : ∀ {z : α} {r : List α} {u : α}, u ∈ r → [z, u].Sublist (z :: r) := fun hu => List.Sublist.cons_cons _ (List.singleton_sublist.mpr hu)
    have exy : x = y := by
      refine Classical.byContradiction fun ne => ?_
      have hx : x ∈ m := (List.mem_cons.mp ((h x).mp List.mem_cons_self)).resolve_left ne
      have hy : y ∈ l := (List.mem_cons.mp ((h y).mpr List.mem_cons_self)).resolve_left fun e => ne e.symm
      exact o x y (one hy) (one hx)
    subst exy
    obtain ⟨n1, l1⟩ := List.nodup_cons.mp hl
    obtain ⟨n2, m1⟩ := List.nodup_cons.mp hm
    rw [same_order l1 m1 (fun z => ?_) fun u v s t => o u v (s.cons _) (t.cons _)]
    constructor
    · intro hz
      exact (List.mem_cons.mp ((h z).mp (List.mem_cons_of_mem _ hz))).resolve_left fun e => n1 (e ▸ hz)
    · intro hz
      exact (List.mem_cons.mp ((h z).mpr (List.mem_cons_of_mem _ hz))).resolve_left fun e => n2 (e ▸ hz)
theorem sub_two {α : Type} {u v : α} : ∀ {l : List α}, [u, v].Sublist l → ∃ p s, l = p ++ v :: s ∧ u ∈ p
  | [], h => by cases h
  | z :: l, h => by
    cases h with
    | cons _ h =>
      obtain ⟨p, s, e, m⟩ := sub_two h
      exact ⟨z :: p, s, by rw [e]; rfl, List.mem_cons_of_mem _ m⟩
    | cons_cons _ h =>
      obtain ⟨p, s, e⟩ := List.append_of_mem (List.singleton_sublist.mp h)
      exact ⟨u :: p, s, by rw [e]; rfl, List.mem_cons_self⟩
theorem sub_two2 {α : Type} {u v : α} : ∀ {l : List α}, [u, v].Sublist l → ∃ p s, l = p ++ u :: s ∧ v ∈ s
  | [], h => by cases h
  | z :: l, h => by
    cases h with
    | cons _ h =>
      obtain ⟨p, s, e, m⟩ := sub_two2 h
      exact ⟨z :: p, s, by rw [e]; rfl, m⟩
    | cons_cons _ h => exact ⟨[], l, rfl, List.singleton_sublist.mp h⟩
/-- the areas that all ways have stand in one order in all ways -/
theorem common_order {C : A → Bool} (hC : ∀ z, C z = true → ∀ w, IsWay st a b w → z ∈ a :: w.2) {w1 w2 : Way N A} (h1 : IsWay st a b w1) (h2 : IsWay st a b w2) : (a :: w1.2).filter C = (a :: w2.2).filter C := by
  refine same_order (h1.2.1.filter _) (h2.2.1.filter _) (fun z => ?_) fun x y s t => ?_
  · rw [List.mem_filter, List.mem_filter]
    exact ⟨fun h => ⟨hC z h.2 _ h2, h.2⟩, fun h => ⟨hC z h.2 _ h1, h.2⟩⟩
  · have cx : C x = true := (List.mem_filter.mp (s.subset (by simp))).2
    obtain ⟨p1, s1, e1, m1⟩ := sub_two (s.trans List.filter_sublist)
    obtain ⟨p2, s2, e2, m2⟩ := sub_two2 (t.trans List.filter_sublist)
    have n1 : x ∉ s1 := fun h => by
      have nd := h1.2.1
      rw [e1] at nd
      exact (List.nodup_append.mp nd).2.2 x m1 x (List.mem_cons_of_mem _ h) rfl
    have nxy : x ≠ y := fun e => by
      have nd := h1.2.1
      rw [e1] at nd
      exact (List.nodup_append.mp nd).2.2 x m1 y List.mem_cons_self e
    have n2 : x ∉ p2 := fun h => by
      have nd := h2.2.1
      rw [e2] at nd
      exact (List.nodup_append.mp nd).2.2 x h x (List.mem_cons_of_mem _ m2) rfl
    obtain ⟨_, d2, _, q1, f1, _⟩ := path_from h1.1 e1
    obtain ⟨d1, _, _, _, _, m, _, em, q2, f2⟩ := path_from h2.1 e2
    have q : Path st a (d1 ++ d2) (m ++ s1) := path_cat q2 (by rw [f2]; exact q1)
    obtain ⟨w3, hw, hs⟩ := simple q
    rw [fin_app, f2, f1, h1.2.2] at hw
    have hx := hC x cx w3 hw
    have hm : ∀ z, z ∈ a :: m → z ∈ p2 ++ [y] := fun z hz => em ▸ hz
    have out : x ∉ p2 ++ [y] := fun h => (List.mem_append.mp h).elim n2 fun h => nxy (List.mem_singleton.mp h)
    rcases List.mem_cons.mp hx with h | h
    · exact out (hm x (h ▸ List.mem_cons_self))
    · rcases List.mem_append.mp (hs x h) with h | h
      · exact out (hm x (List.mem_cons_of_mem _ h))
      · exact n1 h
/-- between the ends -/
theorem mid_of (ab : a ≠ b) {w : Way N A} (h : IsWay st a b w) : ∃ mid, w.2 = mid ++ [b] := by
  have f := h.2.2
  cases e : w.2 with
  | nil =>
    rw [e] at f
    exact absurd f ab
  | cons z r =>
    obtain ⟨m, y, e2⟩ := snoc_of (l := z :: r) (by simp)
    rw [e, e2, fin_snoc] at f
    exact ⟨m, by rw [e2, f]⟩
theorem common_mid (ab : a ≠ b) {C : A → Bool} (hC : ∀ z, C z = true ↔ ∀ w, IsWay st a b w → z ∈ a :: w.2) {w1 w2 : Way N A} {m1 m2 : List A} (h1 : IsWay st a b w1) (h2 : IsWay st a b w2) (e1 : w1.2 = m1 ++ [b]) (e2 : w2.2 = m2 ++ [b]) : m1.filter C = m2.filter C := by
  have e := common_order (fun z h => (hC z).mp h) h1 h2
  have ca : C a = true := (hC a).mpr fun w _ => List.mem_cons_self
  rw [e1, e2, List.filter_cons_of_pos ca, List.filter_cons_of_pos ca, List.filter_append, List.filter_append] at e
  injection e with _ e
  exact List.append_cancel_right e
/-! ## what can be reached -/
theorem IsWay.self (a : A) : IsWay st a a ([], []) := ⟨trivial, by simp, rfl⟩
/-- what has been met: each has a way among what has been met -/
structure Met (st : N → A → A → Prop) (a : A) (R : List A) : Prop where
  beg : a ∈ R
  nd : R.Nodup
  w : ∀ r ∈ R, ∃ w, IsWay st a r w ∧ ∀ z ∈ w.2, z ∈ R
theorem Met.start : Met st a [a] := ⟨List.mem_cons_self, by simp, fun r h => by
  rw [List.mem_singleton.mp h]
  exact ⟨([], []), .self a, fun z h => by cases h⟩⟩
theorem Met.go {R : List A} {n : N} (h : Met st a R) (hx : x ∈ R) (hs : st n x y) (hn : y ∉ R) : Met st a (R ++ [y]) := by
  refine ⟨List.mem_append_left _ h.beg, ?_, fun r hr => ?_⟩
  · refine List.nodup_append.mpr ⟨h.nd, by simp, fun u hu v hv e => ?_⟩
    rw [List.mem_singleton.mp hv] at e
    exact hn (e ▸ hu)
  rcases List.mem_append.mp hr with hr | hr
  · obtain ⟨w, h1, h2⟩ := h.w r hr
    exact ⟨w, h1, fun z hz => List.mem_append_left _ (h2 z hz)⟩
  · rw [List.mem_singleton.mp hr]
    obtain ⟨w, ⟨p, nd, f⟩, h2⟩ := h.w x hx
    refine ⟨(w.1 ++ [n], w.2 ++ [y]), ⟨(path_snoc p.len).mpr ⟨p, by rw [f]; exact hs⟩, ?_, fin_snoc _ _ _⟩, fun z hz => ?_⟩
    · show (a :: w.2 ++ [y]).Nodup
      refine List.nodup_append.mpr ⟨nd, by simp, fun u hu v hv e => ?_⟩
      rw [List.mem_singleton.mp hv] at e
      subst e
      rcases List.mem_cons.mp hu with e | hu
      · exact hn (e ▸ h.beg)
      · exact hn (h2 u hu)
    · rcases List.mem_append.mp hz with hz | hz
      · exact List.mem_append_left _ (h2 z hz)
      · exact List.mem_append_right _ hz
theorem closed {R : List A} (hc : ∀ x ∈ R, ∀ n y, st n x y → y ∈ R) : ∀ {x : A} {ds : List N} {as : List A}, x ∈ R → Path st x ds as → fin x as ∈ R
  | x, [], [], h, _ => h
  | x, n :: ds, y :: as, h, p => by
    rw [fin_cons]
    exact closed hc (hc x h n y p.1) p.2
  | _, [], _ :: _, _, p => p.elim
  | _, _ :: _, [], _, p => p.elim
theorem Met.all {R : List A} (h : Met st a R) (hc : ∀ x ∈ R, ∀ n y, st n x y → y ∈ R) (y : A) : y ∈ R ↔ ∃ w, IsWay st a y w :=
  ⟨fun m => let ⟨w, h1, _⟩ := h.w y m; ⟨w, h1⟩, fun ⟨w, h1⟩ => h1.2.2 ▸ closed hc h.beg h1.1⟩
theorem nodup_le {α : Type} [DecidableEq α] : ∀ (l m : List α), l.Nodup → (∀ x ∈ l, x ∈ m) → l.length ≤ m.length := fun l => by
  induction l with
  | nil => intro m _ _; exact Nat.zero_le _
  | cons x r ih =>
    intro m h hs
    have hx := hs x List.mem_cons_self
    have h2 := List.nodup_cons.mp h
    have le := ih (m.erase x) h2.2 fun k hk => (List.mem_erase_of_ne (fun e => h2.1 (by rw [← e]; exact hk))).mpr (hs k (List.mem_cons_of_mem _ hk))
    have l1 := List.length_erase_of_mem hx
    have l2 := List.length_pos_of_mem hx
    rw [List.length_cons]
    omega
theorem path_in {V : List A} (hV : ∀ n x y, st n x y → y ∈ V) : ∀ {x : A} {ds : List N} {as : List A}, Path st x ds as → ∀ z ∈ as, z ∈ V
  | _, [], [], _ => fun z h => by cases h
  | _, n :: ds, y :: as, p => fun z hz => (List.mem_cons.mp hz).elim (fun e => e ▸ hV _ _ _ p.1) fun hz => path_in hV p.2 z hz
  | _, [], _ :: _, p => p.elim
  | _, _ :: _, [], p => p.elim
theorem way_short {V : List A} (hV : ∀ n x y, st n x y → y ∈ V) (ha : a ∈ V) {w : Way N A} (h : IsWay st a b w) : w.1.length < V.length := by
  have := nodup_le (a :: w.2) V h.2.1 fun z hz => (List.mem_cons.mp hz).elim (fun e => e ▸ ha) fun hz => path_in hV h.1 z hz
  rw [List.length_cons, ← h.1.len] at this
  omega
/-! ## the least way -/
theorem Lx.asym : ∀ {r s : List Nat}, Lx r s → ¬ Lx s r
  | [], _, h, _ => h.elim
  | _ :: _, [], h, _ => h.elim
  | i :: r, j :: s, h, g => by
    rcases h with h | ⟨h, h2⟩
    · rcases g with g | ⟨g, _⟩ <;> omega
    · rcases g with g | ⟨_, g2⟩
      · omega
      · exact Lx.asym h2 g2
end
end Wy

set_option Elab.async false
set_option linter.all false
set_option maxRecDepth 100000
set_option maxHeartbeats 400000
namespace Kx
open PySem PySem.Spec PyProof.Rows L2 Evl
/-! ## the areas that are reached -/
theorem sc_rf : FnScope ["building", "free", "area", "reached", "at", "here", "_", "behind", "item"] ["building", "free", "area"] (defScope s_reached_from) := ⟨rfl, rfl, rfl, by decide +kernel, rfl, by decide +kernel, by decide +kernel⟩
abbrev stL (d : D) (fr : List Str) (n x y : Str) : Prop := (n, y) ∈ stepsD d fr x
theorem stL_in {d : D} {fr : List Str} (hb : d.bld = true) (n x y : Str) (h : stL d fr n x y) : y ∈ areasD d := by
  obtain ⟨l6, ends⟩ := door_ends hb
  obtain ⟨e, he, h⟩ := List.mem_flatMap.mp h
  obtain ⟨e1, e2, _⟩ := ends e he
  unfold stepL at h
  split at h
  · cases List.mem_singleton.mp h
    exact e2
  · split at h
    · cases List.mem_singleton.mp h
      exact e1
    · cases h
theorem ways_some {d : D} {fr : List Str} {a y : Str} (hb : d.bld = true) (ha : a ∈ areasD d) : waysL d fr a y ≠ [] ↔ ∃ w, Wy.IsWay (stL d fr) a y w := by
  constructor
  · intro h
    obtain ⟨w, hw⟩ := List.exists_mem_of_ne_nil _ h
    exact ⟨w, ((Wy.mem_upto (st := stL d fr) (fun _ _ _ => Iff.rfl) 6 w).mp hw).1⟩
  · intro ⟨w, hw⟩ e
    have s := Wy.way_short (stL_in hb) ha hw
    have := (door_ends hb).1
    have := (Wy.mem_upto (st := stL d fr) (fun _ _ _ => Iff.rfl) 6 w).mpr ⟨hw, by omega⟩
    unfold waysL at e
    rw [e] at this
    cases this
def reachL (d : D) (fr : List Str) (a : Str) : List Str := (areasD d).filter fun y => !(waysL d fr a y).isEmpty
theorem met_in {d : D} {fr : List Str} {a : Str} {R : List Str} (hb : d.bld = true) (ha : a ∈ areasD d) (m : Wy.Met (stL d fr) a R) : ∀ r ∈ R, r ∈ areasD d := fun r hr => by
  obtain ⟨w, h, _⟩ := m.w r hr
  have := Wy.fin_mem a w.2
  rw [h.2.2] at this
  rcases List.mem_cons.mp this with e | h2
  · exact e ▸ ha
  · exact Wy.path_in (stL_in hb) h.1 _ h2
theorem met_len {d : D} {fr : List Str} {a : Str} {R : List Str} (hb : d.bld = true) (ha : a ∈ areasD d) (m : Wy.Met (stL d fr) a R) : R.length ≤ 6 :=
  Nat.le_trans (Wy.nodup_le R _ m.nd (met_in hb ha m)) (door_ends hb).1
theorem met_reach {d : D} {fr : List Str} {a : Str} {R : List Str} (hb : d.bld = true) (ha : a ∈ areasD d) (m : Wy.Met (stL d fr) a R) (hc : ∀ x ∈ R, ∀ n y, stL d fr n x y → y ∈ R) : ((areasD d).filter fun y => amg y R) = reachL d fr a := by
  unfold reachL
  congr 1
  funext y
  rw [Bool.eq_iff_iff, amg_iff, m.all hc y, ← ways_some hb ha]
  cases waysL d fr a y with
  | nil => exact ⟨fun h => absurd rfl h, fun h => by cases h⟩
  | cons w r => exact ⟨fun _ => rfl, fun _ => List.cons_ne_nil _ _⟩
def spReachF : Sp := fun vs H Q _ => ∃ (S : Addr → Prop) (v : V) (d : D) (f : Addr) (fr : List Str) (a : Str), vs = [v, .ref f, .str a] ∧ RepS S H v d ∧ d.bld = true ∧ Txs H f fr ∧ a ∈ areasD d ∧ InS S H ∧ ∀ w H', Ex H H' → RepS S H' w (.lst ((reachL d fr a).map D.str)) → Q w H'
section
variable {P : Program} {w : World} {K : PySem.W.Frag} {mg : Str → Option Value} {base : Heap} (T : Txt K mg)
theorem ok_reachF : FnOk P w K mg base CX0 3 T.a_reached_from T.d_reached_from ["building", "free", "area"] spReachF := by
  refine T.F_reached_from.ok sc_rf (fun vs H Q E h => ?_) (fun cdv A outer s H vs Q E hr h => ?_)
  · obtain ⟨S, v, d, f, fr, a, rfl, _⟩ := h
    rfl
  · obtain ⟨S, v, d, f, fr, a, rfl, hvS, hb, hf, ha, hin, q⟩ := h
    have hv : Rep H v d := hvS.up hidP_sub
    have nd := sc_rf.nd
    refine ⟨_, (pss_cons (ps_set (i := 3) nd rfl (.inr rfl) (pe_lst (pa_cons (pv 2) pa_nil)))
      (pss_cons (ps_set (i := 4) nd rfl (.inl rfl) pe_int)
      (pss_cons (ps_while PassesOwn.never (pt_cmpR op_lt (pv 4) (pe_callB call_len_seq (by rfl) T.z_len bo_len (pa_cons (pv 3) pa_nil)) (nomark _)) (pss_cons (ps_set (i := 5) nd rfl (.inl rfl) (pe_ix (r := rIxL K) ix_list (pv 3) (pv 4) (fun _ _ => rfl)))
      (pss_cons (ps_for PassesOwn.never rfl (pi_list (pe_call (ok_steps T) (hr.mono (by decide)) (by rfl) T.g_steps_from T.F_steps_from.kp (b_steps_from T) .nil pass0 (pa_cons (pv 0) (pa_cons (pv 1) (pa_cons (pv 5) pa_nil))))) (pg_tup rfl (pgs_cons (pg_name (i := 6) nd rfl (.inl rfl)) (pgs_cons (pg_name (i := 7) nd rfl (.inl rfl)) pgs_nil))) (pss_one (ps_if (pt_cmpR (r := rIn K true) op_notIn_seq (pv 7) (pv 3) (by rfl)) (pss_one (ps_expr (pe_bm PySem.F.plainAttrs_list PySem.F.slot_list_append PySem.F.type_list_append mt_append (pv 3) (pa_cons (pv 7) pa_nil)))) pss_nil)))
      (pss_one (ps_aug (i := 4) nd rfl (.inl rfl) pe_int ip_add)))))
      (pss_one (ps_ret (pe_lc (own := [("item", 8)]) (g := gName 8) (tt := tTest (tOp (rIn K false) (tVar 8) (tVar 3))) (te := tVar 8) (by rfl) nd (pi_tup (pe_call (ok_areas_of T) (hr.mono (by decide)) (by rfl) T.g_areas_of T.F_areas_of.kp (b_areas_of T) .nil pass0 (pa_cons (pv 0) pa_nil))) (blkOk_by (N := ["building", "free", "area", "reached", "at", "here", "_", "behind", "item"]) (sc := defScope s_reached_from) (by decide +kernel)) (fun _ _ _ _ _ => (pg_name (i := 8) nd rfl (.inl rfl))) (fun _ _ _ _ _ => (pts_one (pt_cmpR (r := rIn K false) op_in_seq (pv 8) (pv 3) (by rfl)))) (fun _ _ _ _ _ => (pv 8)))))))), ?_⟩
    refine s_asgLX (xs := [.str a]) (σ := [some (v), some (.ref f), some (.str a), none, none, none, none, none, none]) (el_lst (ea_cons (ev_var rfl) ea_nil) (by simp)) fun p H1 np e1 hp => ?_
    have nS : ¬ S p := hin.new np
    refine s_asgX (v := .int 0) ev_c fun H2 e2 => ?_
    refine q_while (fun m σ' H' => ∃ (k : Nat) (R : List Str) (y5 y6 y7 : Option V), m = 7 - k ∧ k ≤ R.length ∧ σ' = [some (v), some (.ref f), some (.str a), some (.ref p), some (.int (k : Int)), y5, y6, y7, none] ∧ Ex H H' ∧ H' p = some (.lst (sv R)) ∧ Wy.Met (stL d fr) a R ∧ ∀ x ∈ R.take k, ∀ n y, stL d fr n x y → y ∈ R) 7
      ⟨0, [a], none, none, none, rfl, Nat.zero_le _, rfl, e1.trans e2, e2 _ _ hp, .start, fun x hx => by cases hx⟩ fun m σ' H3 ⟨k, R, y5, y6, y7, em, kl, es, e3, hR, met, hc⟩ => ?_
    subst es
    have R6 := met_len hb ha met
    have svR : (sv R).length = R.length := List.length_map _
    refine ⟨decide (k < R.length), et_is (et_test (ev_op (ev_var rfl) (ev_lenT (ev_var rfl) (.inl hR)) (rv_I0 (g := fun i j => .bl (decide (i < j)))))) (by rw [decide_eq_decide]; omega), fun hb2 H4 e4 => ?_, fun hb2 H4 e4 => ?_⟩
    · have kR : k < R.length := of_decide_eq_true hb2
      refine ⟨fun σ5 H5 => ∃ (R : List Str) (y5 y6 y7 : Option V), k + 1 ≤ R.length ∧ σ5 = [some (v), some (.ref f), some (.str a), some (.ref p), some (.int ((k + 1 : Nat) : Int)), y5, y6, y7, none] ∧ Ex H H5 ∧ H5 p = some (.lst (sv R)) ∧ Wy.Met (stL d fr) a R ∧ ∀ x ∈ R.take (k + 1), ∀ n y, stL d fr n x y → y ∈ R, fun σ5 H5 ⟨R, y5, y6, y7, k1, es, e5, hR, met, hc⟩ => ⟨7 - (k + 1), by omega, k + 1, R, y5, y6, y7, rfl, k1, es, e5, hR, met, hc⟩, ?_⟩
      have hR4 := e4 _ _ hR
      have hx : R[k]? = some R[k] := List.getElem?_eq_getElem kR
      refine s_asgX (v := .str R[k]) (ev_op (ev_var rfl) (ev_var rfl) (rv_ixL (i := (k : Int)) (.of hR4) (atI_nat (by unfold sv; rw [List.getElem?_map, hx]; rfl)))) fun H5 e5 => ?_
      have E5 := (e3.trans e4).trans e5
      have hR5 := e5 _ _ hR4
      have in5 := inS_also (hin.up E5) hR5
      refine ⟨v, rfl, .ref f, rfl, .str R[k], rfl, also S p, v, d, f, fr, R[k], rfl, hv.up E5, hb, txs_up hf E5, in5, fun u H6 e6 ru => ?_⟩
      cases ru with
      | @lst g vs _ hg rs =>
        refine ⟨g, rfl, ⟨vs, .of (hidP_get hg).1⟩, ?_⟩
        refine for_list (xs := vs) (fun i σ6 H7 => ∃ (R' : List Str) (y6 y7 : Option V), σ6 = [some (v), some (.ref f), some (.str a), some (.ref p), some (.int (k : Int)), some (.str R[k]), y6, y7, none] ∧ Ex H H7 ∧ H7 p = some (.lst (sv R')) ∧ Wy.Met (stL d fr) a R' ∧ Ex (hidP (also S p) H6) (hidP (also S p) H7) ∧ (∃ t, R' = R ++ t) ∧ ∀ s ∈ (stepsD d fr R[k]).take i, s.2 ∈ R')
          ⟨R, y6, y7, rfl, E5.trans e6, e6 _ _ hR5, met, Ex.refl _, ⟨[], (List.append_nil _).symm⟩, fun s hs => by cases hs⟩ (fun i σ6 H7 _ ⟨_, _, _, _, _, _, _, x7, _⟩ => .of (hidP_get (x7 _ _ hg)).1) (fun i x σ6 H7 hxi ⟨R', z6, z7, es, e7, hp7, met7, x7, ⟨t, et⟩, hs7⟩ => ?_) (fun σ6 H7 ⟨R', z6, z7, es, e7, hp7, met7, x7, ⟨t, et⟩, hs7⟩ => ?_)
        · subst es
          obtain ⟨dx, hdx, rx⟩ := rs.get hxi
          rw [List.getElem?_map] at hdx
          obtain ⟨s0, hs0, rfl⟩ := Option.map_eq_some_iff.mp hdx
          obtain ⟨c, us, rfl, hc2, hs2⟩ := (rx.up x7).tupD
          cases hs2 with
          | cons r1 hs2 => cases hs2 with
            | cons r2 hs2 =>
              cases hs2
              obtain rfl := r1.strD
              obtain rfl := r2.strD
              refine ⟨c, _, rfl, (hc2.up hidP_sub).sq, rfl, .str s0.1, _, rfl, .str s0.2, _, rfl, rfl, ?_⟩
              have ms0 := List.mem_of_getElem? hs0
              have kR' : R[k] ∈ R' := by rw [et]; exact List.mem_append_left _ (List.getElem_mem kR)
              have tk : (stepsD d fr R[k]).take (i + 1) = (stepsD d fr R[k]).take i ++ [s0] := by rw [List.take_add_one, hs0]; rfl
              refine s_if (σ := [some (v), some (.ref f), some (.str a), some (.ref p), some (.int (k : Int)), some (.str R[k]), some (.str s0.1), some (.str s0.2), none]) (b := !amg s0.2 R') (et_test (ev_op (ev_var rfl) (ev_var rfl) (rv_niTx (.inl hp7)))) (fun hb3 H8 e8 => ?_) (fun hb3 H8 e8 => ?_)
              · have nin : s0.2 ∉ R' := fun h => by
                  rw [amg_iff.mpr h] at hb3
                  cases hb3
                have R6' := met_len hb ha met7
                refine s_appS (S := S) (ev_var rfl) (e8 _ _ hp7) (es_of (ev_var rfl) (.str s0.2)) (by unfold sv; rw [List.length_map]; omega) fun y H9 e9 ry => ?_
                obtain rfl := ry.strD
                refine ⟨R' ++ [s0.2], _, _, rfl, ((e7.trans e8).trans e9).mut np, ?_, met7.go kR' ms0 nin, (x7.trans (hidP_ex (e8.trans e9))).trans (hidP_mut (show also S p p from .inr rfl)), ⟨t ++ [s0.2], by rw [et, List.append_assoc]⟩, fun s hs => ?_⟩
                · rw [upd_same]
                  unfold sv
                  rw [List.map_append]
                  rfl
                · rw [tk] at hs
                  rcases List.mem_append.mp hs with hs | hs
                  · exact List.mem_append_left _ (hs7 s hs)
                  · rw [List.mem_singleton.mp hs]
                    exact List.mem_append_right _ List.mem_cons_self
              · have inn : s0.2 ∈ R' := amg_iff.mp (not_f hb3)
                refine ⟨R', _, _, rfl, e7.trans e8, e8 _ _ hp7, met7, x7.trans (hidP_ex e8), ⟨t, et⟩, fun s hs => ?_⟩
                rw [tk] at hs
                rcases List.mem_append.mp hs with hs | hs
                · exact hs7 s hs
                · rw [List.mem_singleton.mp hs]
                  exact inn
        · subst es
          have vl : vs.length = (stepsD d fr R[k]).length := by rw [rs.length, List.length_map]
          rw [vl, List.take_length] at hs7
          refine ⟨.int (k : Int), rfl, (k : Int), 1, rfl, rfl, R', _, _, _, by rw [et, List.length_append]; omega, by rw [Int.natCast_add]; rfl, e7, hp7, met7, fun x hx n y hs => ?_⟩
          have tkR : R'.take (k + 1) = R.take k ++ [R[k]] := by
            rw [et, List.take_append_of_le_length (by omega), List.take_add_one, List.getElem?_eq_getElem kR]
            rfl
          rw [tkR] at hx
          rcases List.mem_append.mp hx with hx | hx
          · rw [et]
            exact List.mem_append_left _ (hc x hx n y hs)
          · rw [List.mem_singleton.mp hx] at hs
            exact hs7 (n, y) hs
    · have ke : k = R.length := by
        have := of_decide_eq_false hb2
        omega
      subst ke
      rw [List.take_length] at hc
      have E4 := e3.trans e4
      have in4 := hin.up E4
      obtain ⟨c, vs, pa, rfl, hcv, h1, hpa⟩ := areas_at hb (hvS.up (hidP_ex E4))
      have ea : EvS S (tCall (spX (okItem 1)) [] E0 (tCons (tVar 0) tNil)) [some (.ref c), some (.ref f), some (.str a), some (.ref p), some (.int (R.length : Int)), y5, y6, y7, none] H4 (.tup ((areasD d).map D.str)) := by
        refine es_of (ev_sp (stb_item 1) (ea_cons (ev_var rfl) ea_nil) ⟨c, vs, rfl, hcv.up hidP_sub, h1⟩) (.tup hpa (reps_strs _))
      have cc := lcS (S := S) (ds := (areasD d).map D.str) (wi := iTup K (tCall (spX (okItem 1)) [] E0 (tCons (tVar 0) tNil))) (g := gName 8) (tt := tTest (tOp (rIn K false) (tVar 8) (tVar 3))) (te := tVar 8) (own := [8]) (σ := [some (.ref c), some (.ref f), some (.str a), some (.ref p), some (.int (R.length : Int)), y5, y6, y7, none]) (H := H4) (fun d => amg d.txt R) id in4 (its_tup ea) (by rw [List.length_map]; have := (door_ends hb).1; omega) fun S' x d1 H5 hd1 in5 e5 x5 rx => by
        obtain ⟨s0, _, rfl⟩ := List.mem_map.mp hd1
        obtain rfl := rx.strD
        exact ⟨[some (.ref c), some (.ref f), some (.str a), some (.ref p), some (.int (R.length : Int)), y5, y6, y7, some (.str s0)], fun Q h => h, rfl, et_test (ev_op (ev_var rfl) (ev_var rfl) (rv_inTx (.inl (e5 _ _ (e4 _ _ hR))))), fun _ => es_of (ev_var rfl) (.str s0)⟩
      rw [List.map_id, List.filter_map, show ((fun d1 => amg d1.txt R) ∘ D.str) = fun y => amg y R from rfl, met_reach hb ha met hc] at cc
      exact s_retS (S := S) cc fun u H5 e5 r5 => q u H5 (E4.trans e5) r5
end
end Kx

set_option Elab.async false
set_option linter.all false
set_option maxRecDepth 100000
set_option maxHeartbeats 400000
namespace Kx
open PySem PySem.Spec PyProof.Rows L2 Evl
/-! ## joined -/
theorem sc_aj : FnScope ["building", "free", "groups", "area", "group"] ["building", "free"] (defScope s_areas_joined) := ⟨rfl, rfl, rfl, by decide +kernel, rfl, by decide +kernel, by decide +kernel⟩
def grow1 (ts : List (List Str)) (t : List Str) : List (List Str) := if t ∈ ts then ts else ts ++ [t]
def groupsL (xs : List (List Str)) : List (List Str) := xs.foldl grow1 []
def joinL (d : D) (fr : List Str) : List (List Str) := groupsL ((areasD d).map (reachL d fr))
theorem groups_snoc (xs : List (List Str)) (t : List Str) : groupsL (xs ++ [t]) = grow1 (groupsL xs) t := by
  unfold groupsL
  rw [List.foldl_append]
  rfl
theorem grow1_mem {ts : List (List Str)} {t u : List Str} (h : u ∈ grow1 ts t) : u ∈ ts ∨ u = t := by
  unfold grow1 at h
  split at h
  · exact .inl h
  · exact (List.mem_append.mp h).imp id List.mem_singleton.mp
theorem grow1_len (ts : List (List Str)) (t : List Str) : (grow1 ts t).length ≤ ts.length + 1 := by
  unfold grow1
  split
  · omega
  · rw [List.length_append]
    exact Nat.le_refl _
theorem eqv_strs : ∀ t u : List Str, PyData.eqvAll (t.map PyData.str) (u.map PyData.str) = decide (t = u)
  | [], [] => by simp [PyData.eqvAll]
  | [], _ :: _ => by simp [PyData.eqvAll]
  | _ :: _, [] => by simp [PyData.eqvAll]
  | s :: t, z :: u => by
    rw [List.map_cons, List.map_cons, PyData.eqvAll, eqv_strs t u]
    simp [PyData.eqv]
    rfl
theorem eqv_T (t u : List Str) : PyData.eqv (pyT t) (pyT u) = decide (t = u) := by
  unfold pyT
  rw [PyData.eqv, eqv_strs]
theorem any_T (ts : List (List Str)) (t : List Str) : ((ts.map pyT).any fun z => PyData.eqv z (pyT t)) = decide (t ∈ ts) := by
  rw [List.any_map, Bool.eq_iff_iff, List.any_eq_true, decide_eq_true_iff]
  constructor
  · intro ⟨u, hu, e⟩
    have e : PyData.eqv (pyT u) (pyT t) = true := e
    rw [eqv_T] at e
    exact of_decide_eq_true e ▸ hu
  · intro h
    refine ⟨t, h, ?_⟩
    show PyData.eqv (pyT t) (pyT t) = true
    rw [eqv_T]
    exact decide_eq_true rfl
theorem areas_ok {d : D} (hb : d.bld = true) : ∀ s ∈ areasD d, PyData.strOk s = true := fun s hs => by
  obtain ⟨as, es, ks, rs, B⟩ := bld_is hb
  have ea : areasD d = as := by
    rw [B.eq]
    show (as.map D.str).map _ = as
    rw [List.map_map]
    exact List.map_id as
  rw [ea] at hs
  exact strOk_nm (B.av s hs)
theorem reach_ok {d : D} {fr : List Str} {a : Str} (hb : d.bld = true) : ∀ s ∈ reachL d fr a, PyData.strOk s = true := fun s hs => areas_ok hb s (List.mem_filter.mp hs).1
theorem groups_ok {d : D} {fr : List Str} (hb : d.bld = true) : ∀ (as : List Str), ∀ t ∈ groupsL (as.map (reachL d fr)), ∀ s ∈ t, PyData.strOk s = true := fun as => by
  have gen : ∀ (xs : List (List Str)) (ts : List (List Str)), (∀ t ∈ ts, ∀ s ∈ t, PyData.strOk s = true) → (∀ t ∈ xs, ∀ s ∈ t, PyData.strOk s = true) → ∀ t ∈ xs.foldl grow1 ts, ∀ s ∈ t, PyData.strOk s = true := fun xs => by
    induction xs with
    | nil => exact fun ts h _ => h
    | cons x xs ih =>
      intro ts h1 h2
      refine ih _ (fun t ht => ?_) fun t ht => h2 t (List.mem_cons_of_mem _ ht)
      rcases grow1_mem ht with h | h
      · exact h1 t h
      · exact h ▸ h2 x List.mem_cons_self
  refine gen _ [] (fun t h => by cases h) fun t ht => ?_
  obtain ⟨a, _, rfl⟩ := List.mem_map.mp ht
  exact reach_ok hb
theorem groups_len (as : List (List Str)) : (groupsL as).length ≤ as.length := by
  have gen : ∀ (xs : List (List Str)) (ts : List (List Str)), (xs.foldl grow1 ts).length ≤ ts.length + xs.length := fun xs => by
    induction xs with
    | nil => exact fun ts => Nat.le_refl _
    | cons x xs ih =>
      intro ts
      have := ih (grow1 ts x)
      have := grow1_len ts x
      show (xs.foldl grow1 (grow1 ts x)).length ≤ _
      rw [List.length_cons]
      omega
  have := gen as []
  rw [List.length_nil, Nat.zero_add] at this
  exact this
def joinD (d : D) (fr : List Str) : D := .lst ((joinL d fr).map dT)
def spAJ : Sp := fun vs H Q _ => ∃ (S : Addr → Prop) (v : V) (d : D) (f : Addr) (fr : List Str), vs = [v, .ref f] ∧ RepS S H v d ∧ d.bld = true ∧ Txs H f fr ∧ InS S H ∧ ∀ w H', Ex H H' → RepS S H' w (joinD d fr) → Q w H'
def spJoined (cD : Addr) : Sp := fun vs H Q E => ∃ (S : Addr → Prop) (v : V) (d : D) (x : V) (e : D), vs = [v, x] ∧ RepS S H v d ∧ d.Sz ∧ d.bld = true ∧ Rep H x e ∧ e.Sz ∧ InS S H ∧ (e.fre d.dn = false → ∀ H', Ex H H' → E (.ref cD) none H') ∧
  (e.fre d.dn = true → ∀ w H', Ex H H' → RepS S H' w (joinD d e.row) → Q w H')
section
variable {P : Program} {w : World} {K : PySem.W.Frag} {mg : Str → Option Value} {base : Heap} (T : Txt K mg)
theorem ok_aj : FnOk P w K mg base CX0 4 T.a_areas_joined T.d_areas_joined ["building", "free"] spAJ := by
  refine T.F_areas_joined.ok sc_aj (fun vs H Q E h => ?_) (fun cdv A outer s H vs Q E hr h => ?_)
  · obtain ⟨S, v, d, f, fr, rfl, _⟩ := h
    rfl
  · obtain ⟨S, v, d, f, fr, rfl, hvS, hb, hf, hin, q⟩ := h
    have nd := sc_aj.nd
    have hu5 : (A.deeper (envOfC "areas_joined" (defScope s_areas_joined) s.heap.objs.size T.a_areas_joined cdv)).units + 65 < cLine := by have := hr.un; omega
    refine ⟨_, (pss_cons (ps_set (i := 2) nd rfl (.inl rfl) (pe_lst pa_nil))
      (pss_cons (ps_for PassesOwn.never rfl (pi_tup (pe_call (ok_areas_of T) (hr.mono (by decide)) (by rfl) T.g_areas_of T.F_areas_of.kp (b_areas_of T) .nil pass0 (pa_cons (pv 0) pa_nil))) (pg_name (i := 3) nd rfl (.inl rfl)) (pss_cons (ps_set (i := 4) nd rfl (.inl rfl) (pe_callTy call_tupF (by rfl) T.z_tuple bo_tuple (pa_cons (pe_call (ok_reachF T) (hr.mono (by decide)) (by rfl) T.g_reached_from T.F_reached_from.kp (b_reached_from T) .nil pass0 (pa_cons (pv 0) (pa_cons (pv 1) (pa_cons (pv 3) pa_nil)))) pa_nil)))
      (pss_one (ps_if (pt_cmpR (op_notInD hu5) (pv 4) (pv 2) (by rfl)) (pss_one (ps_expr (pe_bm PySem.F.plainAttrs_list PySem.F.slot_list_append PySem.F.type_list_append mt_append (pv 2) (pa_cons (pv 4) pa_nil)))) pss_nil))))
      (pss_one (ps_ret (pv 2))))), ?_⟩
    refine s_asgLX (xs := []) (σ := [some (v), some (.ref f), none, none, none]) (el_lst ea_nil (by decide)) fun p H1 np e1 hp => ?_
    have nS : ¬ S p := hin.new np
    obtain ⟨c, vs, pa, rfl, hcv, h1, hpa⟩ := areas_at hb (hvS.up (hidP_ex e1))
    have hcv1 : TupS H1 c vs := hcv.up hidP_sub
    have hpa1 : TupS H1 pa (sv (areasD d)) := hpa.up hidP_sub
    have a6 := (door_ends hb).1
    refine q_forT (xs := sv (areasD d)) (σ := [some (.ref c), some (.ref f), some (.ref p), none, none]) (ev_sp (stb_item 1) (ea_cons (ev_var rfl) ea_nil) ⟨c, vs, rfl, hcv1, h1⟩) hpa1.sq
      (fun i σ' H' => ∃ (y3 y4 : Option V) (gs : List V), σ' = [some (.ref c), some (.ref f), some (.ref p), y3, y4] ∧ Ex H H' ∧ Tp H1 H' ∧ Ex (hidP (also S p) H1) (hidP (also S p) H') ∧ H' p = some (.lst gs) ∧ RepsS (also S p) H' gs ((groupsL (((areasD d).take i).map (reachL d fr))).map dT))
      (fun H2 e2 => ⟨none, none, [], rfl, e1.trans e2, Ex.tp e2, hidP_ex e2, e2 _ _ hp, .nil⟩) (fun i σ' H' _ ⟨_, _, _, _, _, tp, _⟩ => (hpa1.tp tp).sq) (fun i x σ' H' hx ⟨y3, y4, gs, es, e2, tp, x2, hg, rg⟩ => ?_) (fun σ' H' ⟨y3, y4, gs, es, e2, tp, x2, hg, rg⟩ => ?_)
    · subst es
      have il : i < (areasD d).length := by
        have := (List.getElem?_eq_some_iff.mp hx).1
        unfold sv at this
        rwa [List.length_map] at this
      have hi : (areasD d)[i]? = some (areasD d)[i] := List.getElem?_eq_getElem il
      obtain rfl : V.str (areasD d)[i] = x := by
        unfold sv at hx
        rw [List.getElem?_map, hi] at hx
        exact Option.some.inj hx
      have inA := inS_also (hin.up e2) hg
      have tk : groupsL (((areasD d).take (i + 1)).map (reachL d fr)) = grow1 (groupsL (((areasD d).take i).map (reachL d fr))) (reachL d fr (areasD d)[i]) := by
        rw [List.take_add_one, hi, List.map_append]
        exact groups_snoc _ _
      have gl := groups_len (((areasD d).take i).map (reachL d fr))
      rw [List.length_map, List.length_take] at gl
      have lift : Ex (hidP S H) (hidP (also S p) H') := (hidP_also np).trans ((hidP_ex e1).trans x2)
      have hv2 : RepS (also S p) H' (.ref c) d := hvS.up lift
      have cl : EvS (also S p) (tCall spReachF [] E0 (tCons (tVar 0) (tCons (tVar 1) (tCons (tVar 3) tNil)))) [some (.ref c), some (.ref f), some (.ref p), some (.str (areasD d)[i]), y4] H' (.lst ((reachL d fr (areasD d)[i]).map D.str)) := fun H3 e3 Q1 q1 =>
        ⟨.ref c, rfl, .ref f, rfl, .str _, rfl, also S p, .ref c, d, f, fr, _, rfl, hv2.up (hidP_ex e3), hb, txs_up hf (e2.trans e3), List.getElem_mem il, inA.up e3, q1⟩
      refine s_asgS (S := also S p) (σ := [some (.ref c), some (.ref f), some (.ref p), some (.str (areasD d)[i]), y4]) (es_tupOf (K := K) inA cl) fun u H3 e3 ru => ?_
      have ru : RepS (also S p) H3 u (dT (reachL d fr (areasD d)[i])) := ru
      have rok := reach_ok (fr := fr) (a := (areasD d)[i]) hb
      have gok := groups_ok (fr := fr) hb ((areasD d).take i)
      refine s_if (σ := [some (.ref c), some (.ref f), some (.ref p), some (.str (areasD d)[i]), some (u)]) (b := !decide (reachL d fr (areasD d)[i] ∈ groupsL (((areasD d).take i).map (reachL d fr)))) (et_test fun H4 e4 Q4 q4 => ⟨u, rfl, .ref p, rfl, pyT _, List.map pyT _, dp_T ((ru.up (hidP_ex e4)).up hidP_sub), .lst (.of ((e3.trans e4) _ _ hg)) (dp_Ts ((rg.up (hidP_ex (e3.trans e4))).up hidP_sub)), pyT_shaped _ rok, pyTs_shaped _ gok, by rw [any_T]; exact q4 H4 (Ex.refl _)⟩) (fun hb3 H4 e4 => ?_) (fun hb3 H4 e4 => ?_)
      · have nin : reachL d fr (areasD d)[i] ∉ groupsL (((areasD d).take i).map (reachL d fr)) := of_decide_eq_false (not_t hb3)
        refine s_appS (S := also S p) (ev_var rfl) ((e3.trans e4) _ _ hg) (es_of (ev_var rfl) (ru.up (hidP_ex e4))) (by rw [rg.length, List.length_map]; omega) fun y H5 e5 ry => ⟨_, _, gs ++ [y], rfl, ((e2.trans (e3.trans e4)).trans e5).mut np, ?_, (x2.trans (hidP_ex ((e3.trans e4).trans e5))).trans (hidP_mut (show also S p p from .inr rfl)), upd_same, ?_⟩
        · exact (tp.trans (Ex.tp ((e3.trans e4).trans e5))).trans (Tp.lst (((e3.trans e4).trans e5) _ _ hg))
        · rw [tk]
          unfold grow1
          rw [if_neg nin, List.map_append]
          exact reps_and ((rg.up (hidP_ex ((e3.trans e4).trans e5))).up (hidP_mut (show also S p p from .inr rfl))) (.cons (ry.up (hidP_mut (show also S p p from .inr rfl))) .nil)
      · have inn : reachL d fr (areasD d)[i] ∈ groupsL (((areasD d).take i).map (reachL d fr)) := of_decide_eq_true (not_f hb3)
        refine ⟨_, _, gs, rfl, e2.trans (e3.trans e4), tp.trans (Ex.tp (e3.trans e4)), x2.trans (hidP_ex (e3.trans e4)), (e3.trans e4) _ _ hg, ?_⟩
        rw [tk]
        unfold grow1
        rw [if_pos inn]
        exact rg.up (hidP_ex (e3.trans e4))
    · subst es
      rw [show (sv (areasD d)).length = (areasD d).length from List.length_map _, List.take_length] at rg
      exact s_ret (v := .ref p) (ev_var rfl) fun H3 e3 => q (.ref p) H3 (e2.trans e3) (.lst (hidP_at (e3 _ _ hg) nS) ((rg.up (hidP_ex e3)).up (hidP_less fun a h => .inl h)))
theorem ok_joinedF : FnOk P w K mg base (L2.CX P w) 6 T.a_joined T.d_joined ["building", "free"] (spJoined T.c_BadDoors) := by
  refine T.F_joined.okX sc_joined (fun vs H Q E h => ?_) (fun cdv A outer s H vs Q E hr h => ?_)
  · obtain ⟨S, v, d, x, e, rfl, _⟩ := h
    rfl
  · obtain ⟨S, v, d, x, e, rfl, rvS, hz, hb, rx, ez, hin, qe, q⟩ := h
    have rv : Rep H v d := rvS.up hidP_sub
    have nd := sc_joined.nd
    refine ⟨_, (pss_cons (ps_expr (pe_call (E := E) (ok_check_building T) (hr.mono (by decide)) (by rfl) T.g_check_building T.F_check_building.kp (b_check_building T) .nil (passes_call (takes_of rfl rfl rfl rfl) fun _ _ _ _ h => h) (pa_cons (pv 0) pa_nil)))
      (pss_cons (ps_expr (pe_call (E := E) (ok_check_fr T) (hr.mono (by decide)) (by rfl) T.g_check_free T.F_check_free.kp (b_check_free T) .nil (passes_call (takes_of rfl rfl rfl rfl) fun _ _ _ _ h => h) (pa_cons (pv 0) (pa_cons (pv 1) pa_nil))))
      (pss_one (ps_ret (pe_call (ok_aj T) (hr.mono (by decide)) (by rfl) T.g_areas_joined T.F_areas_joined.kp (b_areas_joined T) .nil pass0 (pa_cons (pv 0) (pa_cons (pv 1) pa_nil))))))), ?_⟩
    refine s_callO (o := .ret .non) (ea_cons (ev_var rfl) ea_nil) (fun H1 e1 => ⟨v, d, rfl, rv.up e1, hz, by rw [if_pos hb]⟩) fun H2 e2 => ?_
    refine s_callO (o := if e.fre d.dn = true then .ret .non else .exc T.c_BadDoors) (ea_cons (ev_var rfl) (ea_cons (ev_var rfl) ea_nil)) (fun H1 e1 => ⟨v, d, x, e, rfl, rv.up (e2.trans e1), hb, rx.up (e2.trans e1), ez, rfl⟩) fun H3 e3 => ?_
    cases hf : e.fre d.dn with
    | false => exact qe hf H3 (e2.trans e3)
    | true =>
      obtain ⟨p, rfl, tx⟩ := fre_at rx hf
      unfold outOk
      dsimp only
      refine s_retS (S := S) (d := joinD d e.row) (te := tCall spAJ [] E0 (tCons (tVar 0) (tCons (tVar 1) tNil))) (σ := [some (v), some (.ref p)]) ?_ fun u H4 e4 r4 => q hf u H4 ((e2.trans e3).trans e4) r4
      exact fun H4 e4 Q1 q1 => ⟨v, rfl, .ref p, rfl, S, v, d, p, e.row, rfl, rvS.up (hidP_ex ((e2.trans e3).trans e4)), hb, txs_up tx ((e2.trans e3).trans e4), hin.up ((e2.trans e3).trans e4), q1⟩
end
end Kx

set_option Elab.async false
set_option linter.all false
set_option maxRecDepth 100000
set_option maxHeartbeats 400000
namespace Kx
open PySem PySem.Spec PyProof.Rows L2 Evl
/-! ## texts in a drawn order -/
theorem pyL_shaped (t : List Str) (hs : ∀ s ∈ t, PyData.strOk s = true) : SeqAt.shaped (.list (t.map PyData.str)) = true := by
  have h := pyT_dep t
  show (PyData.canLay0 (.list (t.map PyData.str)) && decide (PyData.depth (.list (t.map PyData.str)) ≤ 64)) = true
  rw [Bool.and_eq_true]
  exact ⟨by simp only [PyData.canLay0]; exact pyT_lay t hs, decide_eq_true (by simp only [PyData.depth]; omega)⟩
theorem eqv_L (t u : List Str) : PyData.eqv (.list (t.map PyData.str)) (.list (u.map PyData.str)) = decide (t = u) := by
  rw [PyData.eqv, eqv_strs]
theorem erase_map {α β : Type} (f : α → β) : ∀ (l : List α) (k : Nat), (l.map f).eraseIdx k = (l.eraseIdx k).map f
  | [], _ => rfl
  | x :: l, 0 => rfl
  | x :: l, k + 1 => by
    show f x :: (l.map f).eraseIdx k = f x :: (l.eraseIdx k).map f
    rw [erase_map f l k]
theorem erase_perm {α : Type} : ∀ (l : List α) (k : Nat) (h : k < l.length), (l[k] :: l.eraseIdx k).Perm l
  | x :: l, 0, h => .refl _
  | x :: l, k + 1, h => (List.Perm.swap x _ _).trans ((erase_perm l k (Nat.lt_of_succ_lt_succ h)).cons x)
section
variable {K : PySem.W.Frag} {σ : L2.St} {H H' : Hp} {te : TE}
/-- te != [], te a list of texts -/
theorem et_neNil {a : Addr} {ss : List Str} (h : Ev te σ H (.ref a)) (ha : H a = some (.lst (sv ss))) (ok : ∀ s ∈ ss, PyData.strOk s = true) : EvT (tTest (tOp (rNeD K) te (tLst tNil))) σ H (!ss.isEmpty) := fun H1 e Q q =>
  h H1 e _ fun H2 e2 => ⟨Nat.zero_le _, fun p np => ⟨.list (ss.map PyData.str), .list [], .lst (.of ((e.trans e2).trans (Ex.new np) _ _ ha)) (dp_strs ss), .lst (.of upd_same) .nil, pyL_shaped ss ok, pyL_shaped [] (fun s h => by cases h), _, rfl, by
    rw [show (PyData.list []) = .list (([] : List Str).map PyData.str) from rfl, eqv_L]
    have : decide (ss = []) = ss.isEmpty := by cases ss <;> rfl
    rw [this]
    exact q _ (e2.trans (Ex.new np))⟩⟩
end
def spShuf : Sp := fun vs H Q _ => ∃ (sd sg sc : Addr) (b : Nat) (l : Addr) (ss : List Str), vs = [.ref sd, .ref l] ∧ H l = some (.lst (sv ss)) ∧ ss.length ≤ 100 ∧ (∀ s ∈ ss, PyData.strOk s = true) ∧ Sta H sd sg sc (b + ss.length) ∧
  ∀ (p : Addr) (ts : List Str) (H' : Hp), H p = none → H' p = some (.lst (sv ts)) → ts.Perm ss → Sta H' sd sg sc b → ExS sd sg H H' → Q (.ref p) H'
section
variable {P : Program} {w : World} {K : PySem.W.Frag} {mg : Str → Option Value} {base : Heap} (T : Txt K mg)
theorem ok_shuf : FnOk P w K mg base CX0 3 T.a_law_shuffled T.d_law_shuffled ["state", "some"] spShuf := by
  refine T.F_law_shuffled.ok sc_law_shuffled (fun vs H Q E h => ?_) (fun cdv A outer s H vs Q E hr h => ?_)
  · obtain ⟨sd, sg, sc, b, l, ss, rfl, _⟩ := h
    rfl
  · obtain ⟨sd, sg, sc, b, l, ss, rfl, hl, l100, sok, hS, q⟩ := h
    have nd := sc_law_shuffled.nd
    have hu4 : (A.deeper (envOfC "_law_shuffled" (defScope s_law_shuffled) s.heap.objs.size T.a_law_shuffled cdv)).units + 64 < cLine := by have := hr.un; omega
    refine ⟨_, (pss_cons (ps_par (i := 2) (j := 3) rfl nd rfl rfl (by decide) rfl rfl (pa_cons (pe_callTy call_list_of (by rfl) T.z_list bo_list (pa_cons (pv 1) pa_nil)) (pa_cons (pe_lst pa_nil) pa_nil)) (by rfl))
      (pss_cons (ps_while PassesOwn.never (pt_cmpR (op_neD hu4) (pv 2) (pe_lst pa_nil) (nomark _)) (pss_one (ps_expr (pe_bm PySem.F.plainAttrs_list PySem.F.slot_list_append PySem.F.type_list_append mt_append (pv 3) (pa_cons (pe_bm PySem.F.plainAttrs_list PySem.F.slot_list_pop PySem.F.type_list_pop mt_popAt (pv 2) (pa_cons (pe_call (ok_draw T) (hr.mono (by decide)) (by rfl) T.g_law_draw T.F_law_draw.kp (b_law_draw T) .nil pass0 (pa_cons (pv 0) (pa_cons (pe_callB call_len_seq (by rfl) T.z_len bo_len (pa_cons (pv 2) pa_nil)) pa_nil))) pa_nil)) pa_nil)))))
      (pss_one (ps_ret (pv 3))))), ?_⟩
    refine ⟨.ref l, rfl, l, sv ss, rfl, .inl (.of hl), fun p np => ⟨Nat.zero_le _, fun r nr => ⟨.ref p, .ref r, rfl, ?_⟩⟩⟩
    have hp : upd H p (.lst (sv ss)) p = some (.lst (sv ss)) := upd_same
    have rp : r ≠ p := fun e => by rw [e, hp] at nr; cases nr
    have E1 : Ex H (upd (upd H p (.lst (sv ss))) r (.lst [])) := (Ex.new np).trans (Ex.new nr)
    have S1 := hS.up E1
    have nrH : H r = none := fresh_back (Ex.new np) nr
    obtain ⟨p1, p2, p3⟩ := hS.off np
    obtain ⟨r1, r2, r3⟩ := hS.off nrH
    have hp1 : upd (upd H p (.lst (sv ss))) r (.lst []) p = some (.lst (sv ss)) := (upd_ne (Ne.symm rp)).trans hp
    have hr1 : upd (upd H p (.lst (sv ss))) r (.lst []) r = some (.lst []) := upd_same
    generalize upd (upd H p (.lst (sv ss))) r (.lst []) = H1 at E1 S1 hp1 hr1
    refine q_while (σ := [some (.ref sd), some (.ref l), some (.ref p), some (.ref r)]) (fun m σ' H' => ∃ left found : List Str, m = left.length ∧ σ' = [some (.ref sd), some (.ref l), some (.ref p), some (.ref r)] ∧ H' p = some (.lst (sv left)) ∧ H' r = some (.lst (sv found)) ∧ (found ++ left).Perm ss ∧ Sta H' sd sg sc (b + left.length) ∧ ExS sd sg H H') ss.length
      ⟨ss, [], rfl, rfl, hp1, hr1, .refl _, S1, .of E1⟩ fun m σ' H' ⟨left, found, em, es, hp', hr', pm, S', X'⟩ => ?_
    subst es em
    have lok : ∀ s ∈ left, PyData.strOk s = true := fun s hs => sok s (pm.mem_iff.mp (List.mem_append_right _ hs))
    have ll : (found ++ left).length = ss.length := pm.length_eq
    rw [List.length_append] at ll
    refine ⟨!left.isEmpty, et_neNil (ev_var rfl) hp' lok, fun hb H2 e2 => ?_, fun hb H2 e2 => ?_⟩
    · have lpos : 0 < left.length := by
        cases left with
        | nil => cases hb
        | cons _ _ => exact Nat.zero_lt_succ _
      have svl : (sv left).length = left.length := List.length_map _
      refine ⟨fun σ2 H3 => ∃ left' found' : List Str, left'.length + 1 = left.length ∧ σ2 = [some (.ref sd), some (.ref l), some (.ref p), some (.ref r)] ∧ H3 p = some (.lst (sv left')) ∧ H3 r = some (.lst (sv found')) ∧ (found' ++ left').Perm ss ∧ Sta H3 sd sg sc (b + left'.length) ∧ ExS sd sg H H3, fun σ2 H3 ⟨left', found', ll, es, a1, a2, a3, a4, a5⟩ => ⟨left'.length, by omega, left', found', rfl, es, a1, a2, a3, a4, a5⟩, ?_⟩
      refine ⟨.ref r, rfl, .inl ⟨rfl, _, .of (e2 _ _ hr')⟩, .ref p, rfl, .inl ⟨rfl, _, .of (e2 _ _ hp')⟩, .ref sd, rfl, .ref p, rfl, p, sv left, rfl, .inl (.of (e2 _ _ hp')), sd, sg, sc, b + (left.length - 1), (sv left).length, rfl, by omega, by omega, (S'.up e2).less (by omega), fun z H3 z0 zl S3 X3 => ?_⟩
      obtain ⟨k, rfl⟩ : ∃ k : Nat, z = (k : Int) := ⟨z.toNat, by omega⟩
      have kl : k < left.length := by omega
      have hp3 := X3 _ _ (e2 _ _ hp') p1 p2
      have hr3 := X3 _ _ (e2 _ _ hr') r1 r2
      refine ⟨p, sv left, (k : Int), k, .str left[k], rfl, rfl, hp3, by omega, by omega, by unfold seqIndex?; simp; omega, by unfold sv; rw [List.getElem?_map, List.getElem?_eq_getElem kl]; rfl, r, sv found, .str left[k], rfl, rfl, (upd_ne rp).trans hr3, sz_lt (by unfold sv; rw [List.length_map]; omega), left.eraseIdx k, found ++ [left[k]], ?_, rfl, ?_, ?_, ?_, ?_, ?_⟩
      · rw [List.length_eraseIdx_of_lt kl]
        omega
      · rw [upd_ne (Ne.symm rp), upd_same]
        unfold sv
        rw [erase_map]
      · rw [upd_same]
        unfold sv
        rw [List.map_append]
        rfl
      · refine List.Perm.trans ?_ pm
        rw [List.append_assoc]
        exact List.Perm.append_left _ (erase_perm left k kl)
      · rw [List.length_eraseIdx_of_lt kl]
        exact (S3.upd p1 p2 p3).upd r1 r2 r3
      · exact fun a o h n m => (upd_ne (ne_of_none h nrH)).trans ((upd_ne (ne_of_none h np)).trans ((X'.trans ((ExS.of e2).trans X3)) a o h n m))
    · have nil : left = [] := by
        cases left with
        | nil => rfl
        | cons _ _ => cases hb
      subst nil
      rw [List.append_nil] at pm
      exact s_ret (v := .ref r) (ev_var rfl) fun H3 e3 => q r found H3 nrH (e3 _ _ (e2 _ _ hr')) pm ((S'.up (e2.trans e3)).less (by omega)) (X'.trans (.of (e2.trans e3)))
end
end Kx

set_option Elab.async false
set_option linter.all false
set_option maxRecDepth 100000
set_option maxHeartbeats 400000
namespace Kx
open PySem PySem.Spec PyProof.Rows L2 Evl
/-! ## loops by what they go through -/
section
variable {K : PySem.W.Frag} {S : Addr → Prop} {σ : L2.St} {H H' : Hp} {wi : TI} {g : TG} {tu tz : TS} {D0 : Ends} {ds : List D}
theorem s_forS (h : ItS S wi σ H ds) (Pv : Hp → Nat → L2.St → Hp → Prop) (h0 : ∀ H1, Ex H H1 → Pv H1 0 σ H1) (hk : ∀ H1 i σ' H', Ex H H1 → Pv H1 i σ' H' → Ex (hidP S H1) (hidP S H'))
    (hs : ∀ H1 i d x σ' H', Ex H H1 → ds[i]? = some d → Pv H1 i σ' H' → RepS S H' x d → g x σ' H' fun σ2 H2 => tu { D0 with nx := Pv H1 (i + 1), ct := Pv H1 (i + 1), bk := D0.nx } σ2 H2)
    (hd : ∀ H1 σ' H', Ex H H1 → Pv H1 ds.length σ' H' → D0.nx σ' H') : tFor wi g tu D0 σ H := h H (Ex.refl _) _ fun J H2 e2 turn => by
  refine ⟨fun i m σ' H' => m = ds.length - i ∧ i ≤ ds.length ∧ Pv H2 i σ' H', ⟨ds.length, rfl, Nat.zero_le _, h0 H2 e2⟩, ?_⟩
  rintro i m σ' H' ⟨rfl, hi, pv⟩
  obtain ⟨t1, t2⟩ := turn i H' (hk H2 i σ' H' e2 pv)
  by_cases lt : i < ds.length
  · have hd1 : ds[i]? = some ds[i] := List.getElem?_eq_getElem lt
    obtain ⟨go, yl⟩ := t1 _ hd1
    refine .inr ⟨go, Pv H2 (i + 1), fun σ3 H3 p3 => ⟨ds.length - (i + 1), by omega, rfl, lt, p3⟩, fun x H'' y => ?_⟩
    obtain ⟨rfl, rx⟩ := yl x H'' y
    exact hs H2 i _ x σ' H'' e2 hd1 pv (rx.up (hk H2 i σ' H'' e2 pv))
  · have ei : i = ds.length := by omega
    subst ei
    exact .inl ⟨t2 (Nat.le_refl _), hd H2 σ' H' e2 pv⟩
theorem q_forS (h : ItS S wi σ H ds) (Pv : Hp → Nat → L2.St → Hp → Prop) (h0 : ∀ H1, Ex H H1 → Pv H1 0 σ H1) (hk : ∀ H1 i σ' H', Ex H H1 → Pv H1 i σ' H' → Ex (hidP S H1) (hidP S H'))
    (hs : ∀ H1 i d x σ' H', Ex H H1 → ds[i]? = some d → Pv H1 i σ' H' → RepS S H' x d → g x σ' H' fun σ2 H2 => tu { D0 with nx := Pv H1 (i + 1), ct := Pv H1 (i + 1), bk := tz D0 } σ2 H2)
    (hd : ∀ H1 σ' H', Ex H H1 → Pv H1 ds.length σ' H' → tz D0 σ' H') : tSeq (tFor wi g tu) tz D0 σ H := s_forS (D0 := { D0 with nx := tz D0 }) h Pv h0 hk hs hd
theorem g_pair {i j : Nat} {x : V} {d1 d2 : D} {Q : L2.St → Hp → Prop} (r : RepS S H x (.tup [d1, d2])) (k : ∀ v1 v2, RepS S H v1 d1 → RepS S H v2 d2 → Q ((σ.set i (some v1)).set j (some v2)) H) : gTup K 2 (gCons (gName i) (gCons (gName j) gNil)) x σ H Q := by
  obtain ⟨c, us, rfl, hc, hs⟩ := r.tupD
  cases hs with
  | cons r1 hs => cases hs with
    | cons r2 hs =>
      cases hs
      exact ⟨c, _, rfl, (hc.up hidP_sub).sq, rfl, _, _, rfl, _, _, rfl, rfl, k _ _ r1 r2⟩
end
theorem flat_take {α β : Type} {xs : List α} {G : α → List β} {i : Nat} {e : α} (h : xs[i]? = some e) : ((xs.take i).flatMap G).length + (G e).length ≤ (xs.flatMap G).length := by
  obtain ⟨lt, rfl⟩ := List.getElem?_eq_some_iff.mp h
  have e := List.take_append_drop i xs
  rw [List.drop_eq_getElem_cons lt] at e
  have e2 := congrArg (fun l => (l.flatMap G).length) e
  simp only [List.flatMap_append, List.length_append, List.flatMap_cons] at e2
  omega
theorem flat_succ {α β : Type} {xs : List α} {G : α → List β} {i : Nat} {e : α} (h : xs[i]? = some e) : (xs.take (i + 1)).flatMap G = (xs.take i).flatMap G ++ G e := by
  rw [List.take_add_one, h, List.flatMap_append]
  congr 1
  show List.flatMap G [e] = _
  rw [List.flatMap_cons, List.flatMap_nil, List.append_nil]
/-! ## the law's own walk -/
def goG2 (E : List (Str × Str × Str)) (fr : List Str) (goal : Str) (k : Nat) (x : Str) (been : List Str) (n : Str) (e : Str × Str) : List (List Str × List Str) :=
  if amg n fr = true ∧ e.1 = x ∧ e.2 ∉ been then (Wy.goIn E (fun n => amg n fr) goal k e.2 (been ++ [e.2])).map fun w => (n :: w.1, e.2 :: w.2) else []
def goG (E : List (Str × Str × Str)) (fr : List Str) (goal : Str) (k : Nat) (x : Str) (been : List Str) (d : Str × Str × Str) : List (List Str × List Str) := [(d.2.1, d.2.2), (d.2.2, d.2.1)].flatMap (goG2 E fr goal k x been d.1)
theorem goIn_succ {E : List (Str × Str × Str)} {fr : List Str} {goal : Str} {k : Nat} {x : Str} {been : List Str} (h : x ≠ goal) : Wy.goIn E (fun n => amg n fr) goal (k + 1) x been = E.flatMap (goG E fr goal k x been) := by
  show (if x = goal then _ else _) = _
  rw [if_neg h]
  rfl
theorem goIn_len {E : List (Str × Str × Str)} {fr : List Str} {goal : Str} (l6 : E.length ≤ 6) (ends : ∀ e ∈ E, e.2.1 ≠ e.2.2) : ∀ (k : Nat) (x : Str) (been : List Str), (Wy.goIn E (fun n => amg n fr) goal (k + 1) x been).length ≤ 6 ^ k
  | 0, x, been => by
    by_cases h : x = goal
    · show (if x = goal then _ else _ : List _).length ≤ _
      rw [if_pos h]
      exact Nat.le_refl _
    · rw [goIn_succ h]
      have := flat_len (n := 0) (F := goG E fr goal 0 x been) (L := E) fun d _ => by
        have z : ∀ e, goG2 E fr goal 0 x been d.1 e = [] := fun e => by
          unfold goG2
          split
          · rfl
          · rfl
        unfold goG
        rw [List.flatMap_cons, List.flatMap_cons, z, z]
        exact Nat.le_refl _
      omega
  | k + 1, x, been => by
    by_cases h : x = goal
    · show (if x = goal then _ else _ : List _).length ≤ _
      rw [if_pos h]
      exact Nat.one_le_pow _ _ (by decide)
    · rw [goIn_succ h]
      refine Nat.le_trans (flat_len (n := 6 ^ k) (F := goG E fr goal (k + 1) x been) (L := E) fun d hd => ?_) ?_
      · have up : ∀ e, (goG2 E fr goal (k + 1) x been d.1 e).length ≤ 6 ^ k := fun e => by
          unfold goG2
          split
          · rw [List.length_map]
            exact goIn_len l6 ends k e.2 _
          · exact Nat.zero_le _
        have no : ∀ e : Str × Str, e.1 ≠ x → goG2 E fr goal (k + 1) x been d.1 e = [] := fun e h => if_neg fun z => h z.2.1
        unfold goG
        rw [List.flatMap_cons, List.flatMap_cons, List.flatMap_nil, List.append_nil, List.length_append]
        by_cases h1 : d.2.1 = x
        · rw [no (d.2.2, d.2.1) fun z => ends d hd (h1.trans z.symm)]
          exact up _
        · rw [no (d.2.1, d.2.2) h1]
          have := up (d.2.2, d.2.1)
          rw [List.length_nil, Nat.zero_add]
          exact this
      · rw [Nat.pow_succ]
        exact Nat.mul_le_mul_left _ l6
abbrev goL (d : D) (fr : List Str) (goal : Str) (k : Nat) (x : Str) (been : List Str) : List (List Str × List Str) := Wy.goIn (doorsD d) (fun n => amg n fr) goal k x been
theorem doors_len {d : D} (hb : d.bld = true) : (doorsD d).length ≤ 6 := by
  obtain ⟨as, es, ks, rs, B⟩ := bld_is hb
  have de : doorsD d = es.map trip := by rw [B.eq]; rfl
  rw [de, List.length_map]
  exact B.e6
def spGo (n : Nat) : Sp := fun vs H Q _ => ∃ (S : Addr → Prop) (v : V) (d : D) (f : Addr) (fr : List Str) (x goal : Str) (pb : Addr) (been : List Str), vs = [v, .ref f, .str x, .str goal, .ref pb] ∧ RepS S H v d ∧ d.bld = true ∧ Txs H f fr ∧ H pb = some (.lst (sv been)) ∧
  x ∈ been ∧ been.Nodup ∧ (∀ z ∈ been, z ∈ areasD d) ∧ 6 - been.length ≤ n ∧ InS S H ∧ ∀ w H', Ex H H' → RepS S H' w (.lst ((goL d fr goal (7 - been.length) x been).map (wayD x))) → Q w H'
section
variable {P : Program} {w : World} {K : PySem.W.Frag} {mg : Str → Option Value} {base : Heap} (T : Txt K mg)
theorem ok_go_step (n : Nat) (sp : Sp) (hrec : FnOk P w K mg base CX0 (n + 1) T.a_law_all_ways T.d_law_all_ways ["house", "open_ones", "here", "goal", "been"] sp) (hsp : ∀ m, n = m + 1 → sp = spGo m) : FnOk P w K mg base CX0 (n + 2) T.a_law_all_ways T.d_law_all_ways ["house", "open_ones", "here", "goal", "been"] (spGo n) := by
  refine T.F_law_all_ways.ok sc_law_all_ways (fun vs H Q E h => ?_) (fun cdv A outer s H vs Q E hr h => ?_)
  · obtain ⟨S, v, d, f, fr, x, goal, pb, been, rfl, _⟩ := h
    rfl
  · obtain ⟨S, v, d, f, fr, x, goal, pb, been, rfl, hvS, hb, hf, hpb, hx, nd0, sub, ln, hin, q⟩ := h
    have nd := sc_law_all_ways.nd
    refine ⟨_, (pss_cons (ps_if (pt_cmpR op_eq (pv 2) (pv 3) (nomark _)) (pss_one (ps_ret (pe_lst (pa_cons (pe_tupF (pa_cons (pe_lst pa_nil) (pa_cons (pe_lst (pa_cons (pv 2) pa_nil)) pa_nil))) pa_nil)))) pss_nil)
      (pss_cons (ps_set (i := 5) nd rfl (.inl rfl) (pe_lst pa_nil))
      (pss_cons (ps_for PassesOwn.never rfl (pi_tup (pe_ix (r := rIxT K) ix_tup (pv 0) pe_int (fun _ _ => rfl))) (pg_tup rfl (pgs_cons (pg_name (i := 6) nd rfl (.inl rfl)) (pgs_cons (pg_name (i := 7) nd rfl (.inl rfl)) (pgs_cons (pg_name (i := 8) nd rfl (.inl rfl)) (pgs_cons (pg_name (i := 9) nd rfl (.inl rfl)) pgs_nil))))) (pss_one (ps_for PassesOwn.never rfl (pi_list (pe_lst (pa_cons (pe_tupF (pa_cons (pv 7) (pa_cons (pv 8) pa_nil))) (pa_cons (pe_tupF (pa_cons (pv 8) (pa_cons (pv 7) pa_nil))) pa_nil)))) (pg_tup rfl (pgs_cons (pg_name (i := 10) nd rfl (.inl rfl)) (pgs_cons (pg_name (i := 11) nd rfl (.inl rfl)) pgs_nil))) (pss_one (ps_if (PW.pt (pw_and (pt_cmpR (r := rIn K false) op_in_seq (pv 6) (pv 1) (by rfl)) (pw_and (pt_cmpR op_eq (pv 10) (pv 2) (nomark _)) (pw_and1 (pt_cmpR (r := rIn K true) op_notIn_seq (pv 11) (pv 4) (by rfl)))))) (pss_one (ps_for PassesOwn.never rfl (pi_list (pe_call (hrec) (hr.mono (by omega)) (by rfl) T.g_law_all_ways T.F_law_all_ways.kp (b_law_all_ways T) .nil pass0 (pa_cons (pv 0) (pa_cons (pv 1) (pa_cons (pv 11) (pa_cons (pv 3) (pa_cons (pe_op op_cat (pv 4) (pe_lst (pa_cons (pv 11) pa_nil))) pa_nil))))))) (pg_tup rfl (pgs_cons (pg_name (i := 12) nd rfl (.inl rfl)) (pgs_cons (pg_name (i := 13) nd rfl (.inl rfl)) pgs_nil))) (pss_one (ps_expr (pe_bm PySem.F.plainAttrs_list PySem.F.slot_list_append PySem.F.type_list_append mt_append (pv 5) (pa_cons (pe_tupF (pa_cons (pe_op op_cat (pe_lst (pa_cons (pv 6) pa_nil)) (pv 12)) (pa_cons (pe_op op_cat (pe_lst (pa_cons (pv 2) pa_nil)) (pv 13)) pa_nil))) pa_nil)))))) pss_nil)))))
      (pss_one (ps_ret (pv 5)))))), ?_⟩
    have L6 : been.length ≤ 6 := Nat.le_trans (Wy.nodup_le been _ nd0 sub) (door_ends hb).1
    have L1 : 1 ≤ been.length := List.length_pos_of_mem hx
    obtain ⟨_, ends⟩ := door_ends hb
    have d6 := doors_len hb
    by_cases hg : x = goal
    · subst hg
      refine s_ifX (σ := [some (v), some (.ref f), some (.str x), some (.str x), some (.ref pb), none, none, none, none, none, none, none, none, none]) (b := true) (et_test (ev_is (ev_op (ev_var rfl) (ev_var rfl) (rv_eq rfl)) (congrArg V.bl (decide_eq_true rfl)))) (fun _ H1 e1 => ?_) (fun h => by cases h)
      have in1 := hin.up e1
      refine s_retS (S := S) (es_lst in1 (eas_cons (es_tup in1 (eas_cons (es_lst in1 eas_nil (by decide)) (eas_cons (es_lst in1 (eas_cons (es_of (ev_var rfl) (.str x)) eas_nil) (by show 1 ≤ 100000; decide)) eas_nil)) (by show 2 ≤ 100000; decide)) eas_nil) (by show 1 ≤ 100000; decide)) fun u H2 e2 r2 => q u H2 (e1.trans e2) ?_
      have : goL d fr x (7 - been.length) x been = [([], [])] := by
        rw [show 7 - been.length = (6 - been.length) + 1 by omega]
        show (if x = x then _ else _) = _
        rw [if_pos rfl]
      rw [this]
      exact r2
    · refine s_ifX (σ := [some (v), some (.ref f), some (.str x), some (.str goal), some (.ref pb), none, none, none, none, none, none, none, none, none]) (b := false) (et_test (ev_is (ev_op (ev_var rfl) (ev_var rfl) (rv_eq rfl)) (congrArg V.bl (decide_eq_false fun h => hg (V.str.inj h))))) (fun h => by cases h) (fun _ H1 e1 => ?_)
      refine s_asgLX (xs := []) (σ := [some (v), some (.ref f), some (.str x), some (.str goal), some (.ref pb), none, none, none, none, none, none, none, none, none]) (el_lst ea_nil (by decide)) fun p H2 np e2 hp => ?_
      have npH : H p = none := fresh_back e1 np
      have nS : ¬ S p := hin.new npH
      have etot : goL d fr goal (7 - been.length) x been = (doorsD d).flatMap (goG (doorsD d) fr goal (6 - been.length) x been) := by
        rw [show 7 - been.length = (6 - been.length) + 1 by omega]
        exact goIn_succ hg
      have tot : ((doorsD d).flatMap (goG (doorsD d) fr goal (6 - been.length) x been)).length ≤ 7776 := by
        have a := goIn_len (fr := fr) (goal := goal) d6 (fun e he => (ends e he).2.2) (6 - been.length) x been
        have b := Nat.pow_le_pow_right (n := 6) (i := 6 - been.length) (j := 5) (by decide) (by omega)
        rw [goIn_succ hg] at a
        exact Nat.le_trans a b
      rw [etot] at q
      obtain ⟨as, es, ks, rs, B⟩ := bld_is hb
      have de : doorsD d = es.map trip := by rw [B.eq]; rfl
      have lift2 : Ex (hidP S H) (hidP (also S p) H2) := (hidP_also npH).trans (hidP_ex (e1.trans e2))
      obtain ⟨a, vs, b, ws, rfl, ha, h2, hbt, hbs⟩ := door_at B (hvS.up lift2)
      have edoors : EvS (also S p) (tOp (rIxT K) (tVar 0) (tC (.int 2))) [some (.ref a), some (.ref f), some (.str x), some (.str goal), some (.ref pb), some (.ref p), none, none, none, none, none, none, none, none] H2 (.tup es) := es_of (ev_ixT (j := 2) (ev_var rfl) (ha.up hidP_sub) h2) (.tup hbt hbs)
      refine q_forS (S := also S p) (its_tup edoors) (fun H3 i σ' H' => ∃ (y6 y7 y8 y9 y10 y11 y12 y13 : Option V) (acc : List V), σ' = [some (.ref a), some (.ref f), some (.str x), some (.str goal), some (.ref pb), some (.ref p), y6, y7, y8, y9, y10, y11, y12, y13] ∧ Ex H H' ∧ Ex (hidP (also S p) H2) (hidP (also S p) H') ∧ Ex (hidP (also S p) H3) (hidP (also S p) H') ∧ H' p = some (.lst acc) ∧ RepsS (also S p) H' acc ((((doorsD d).take i).flatMap (goG (doorsD d) fr goal (6 - been.length) x been)).map (wayD x)))
        (fun H3 e3 => ⟨none, none, none, none, none, none, none, none, [], rfl, (e1.trans e2).trans e3, hidP_ex e3, Ex.refl _, e3 _ _ hp, .nil⟩) (fun H3 i σ' H' e3 ⟨_, _, _, _, _, _, _, _, _, _, _, _, x3, _⟩ => x3) (fun H3 i e0 u σ' H' e3 he ⟨y6, y7, y8, y9, y10, y11, y12, y13, acc, es', e', x2, x3, hacc, racc⟩ ru => ?_) (fun H3 σ' H' e3 ⟨y6, y7, y8, y9, y10, y11, y12, y13, acc, es', e', x2, x3, hacc, racc⟩ => ?_)
      · subst es'
        obtain ⟨n0, a1, b1, s1, rfl, _⟩ := dr_shape (B.ed e0 (List.mem_of_getElem? he))
        obtain ⟨c, us, rfl, hc, hcs⟩ := ru.tupD
        have hdo : (doorsD d)[i]? = some (n0, a1, b1) := by
          rw [de, List.getElem?_map, he]
          rfl
        obtain ⟨ha1, hb1, hab⟩ := ends _ (List.mem_of_getElem? hdo)
        cases hcs with
        | cons q0 hcs => cases hcs with
          | cons q1 hcs => cases hcs with
            | cons q2 hcs => cases hcs with
              | cons q3 hcs =>
                cases hcs
                obtain rfl := q0.strD
                obtain rfl := q1.strD
                obtain rfl := q2.strD
                obtain rfl := q3.strD
                refine ⟨c, _, rfl, (hc.up hidP_sub).sq, rfl, .str n0, _, rfl, .str a1, _, rfl, .str b1, _, rfl, .str s1, _, rfl, rfl, ?_⟩
                have inA := inS_also (hin.up e') hacc
                have epairs : EvS (also S p) (tLst (tCons (tTupF (tCons (tVar 7) (tCons (tVar 8) tNil))) (tCons (tTupF (tCons (tVar 8) (tCons (tVar 7) tNil))) tNil))) [some (.ref a), some (.ref f), some (.str x), some (.str goal), some (.ref pb), some (.ref p), some (.str n0), some (.str a1), some (.str b1), some (.str s1), y10, y11, y12, y13] H' (.lst ([(a1, b1), (b1, a1)].map pairD)) :=
                  es_lst inA (eas_cons (es_tup inA (eas_cons (es_of (ev_var rfl) (.str a1)) (eas_cons (es_of (ev_var rfl) (.str b1)) eas_nil)) (by show 2 ≤ 100000; decide)) (eas_cons (es_tup inA (eas_cons (es_of (ev_var rfl) (.str b1)) (eas_cons (es_of (ev_var rfl) (.str a1)) eas_nil)) (by show 2 ≤ 100000; decide)) eas_nil)) (by show 2 ≤ 100000; decide)
                have tot1 := flat_take (G := goG (doorsD d) fr goal (6 - been.length) x been) hdo
                refine s_forS (S := also S p) (its_list epairs) (fun H4 j σ' H'' => ∃ (y10 y11 y12 y13 : Option V) (acc : List V), σ' = [some (.ref a), some (.ref f), some (.str x), some (.str goal), some (.ref pb), some (.ref p), some (.str n0), some (.str a1), some (.str b1), some (.str s1), y10, y11, y12, y13] ∧ Ex H H'' ∧ Ex (hidP (also S p) H') (hidP (also S p) H'') ∧ Ex (hidP (also S p) H4) (hidP (also S p) H'') ∧ H'' p = some (.lst acc) ∧ RepsS (also S p) H'' acc ((((doorsD d).take i).flatMap (goG (doorsD d) fr goal (6 - been.length) x been) ++ ([(a1, b1), (b1, a1)].take j).flatMap (goG2 (doorsD d) fr goal (6 - been.length) x been n0)).map (wayD x)))
                  (fun H4 e4 => ⟨_, _, _, _, acc, rfl, e'.trans e4, hidP_ex e4, Ex.refl _, e4 _ _ hacc, by rw [List.take_zero, List.flatMap_nil, List.append_nil]; exact racc.up (hidP_ex e4)⟩) (fun H4 j σ' H'' e4 ⟨_, _, _, _, _, _, _, _, x4, _⟩ => x4) (fun H4 j e1 u1 σ' H'' e4 he1 ⟨z10, z11, z12, z13, acc1, es1, e5, x5, x4, hacc1, racc1⟩ ru1 => ?_) (fun H4 σ' H'' e4 ⟨z10, z11, z12, z13, acc1, es1, e5, x5, x4, hacc1, racc1⟩ => ?_)
                · subst es1
                  rw [List.getElem?_map] at he1
                  obtain ⟨⟨st, th⟩, hst, rfl⟩ := Option.map_eq_some_iff.mp he1
                  have mst := List.mem_of_getElem? hst
                  have thA : th ∈ areasD d := by
                    simp only [List.mem_cons, List.not_mem_nil, or_false, Prod.mk.injEq] at mst
                    rcases mst with ⟨_, rfl⟩ | ⟨_, rfl⟩
                    · exact hb1
                    · exact ha1
                  refine g_pair (d1 := .str st) (d2 := .str th) ru1 fun v1 v2 r1 r2 => ?_
                  obtain rfl := r1.strD
                  obtain rfl := r2.strD
                  have tot2 := flat_take (G := goG2 (doorsD d) fr goal (6 - been.length) x been n0) hst
                  have succ2 := flat_succ (G := goG2 (doorsD d) fr goal (6 - been.length) x been n0) hst
                  have inB := inS_also (hin.up e5) hacc1
                  have cond : EvT (tAnd (tTest (tOp (rIn K false) (tVar 6) (tVar 1))) (tAnd (tTest (tOp rEq (tVar 10) (tVar 2))) (tTest (tOp (rIn K true) (tVar 11) (tVar 4))))) [some (.ref a), some (.ref f), some (.str x), some (.str goal), some (.ref pb), some (.ref p), some (.str n0), some (.str a1), some (.str b1), some (.str s1), some (.str st), some (.str th), z12, z13] H'' (amg n0 fr && (decide (st = x) && !amg th been)) :=
                    et_and (et_test (ev_op (ev_var rfl) (ev_var rfl) (rv_inTx (txs_up hf e5)))) fun _ => et_and (et_test (ev_is (ev_op (ev_var rfl) (ev_var rfl) (rv_eq rfl)) (congrArg V.bl (decide_eq_decide.mpr ⟨fun h => V.str.inj h, fun h => congrArg V.str h⟩)))) fun _ => et_test (ev_op (ev_var rfl) (ev_var rfl) (rv_niTx (.inl (e5 _ _ hpb))))
                  refine s_if cond (fun hc1 H5 e6 => ?_) (fun hc1 H5 e6 => ?_)
                  · rw [Bool.and_eq_true, Bool.and_eq_true, decide_eq_true_iff, Bool.not_eq_true'] at hc1
                    obtain ⟨hc1, rfl, hc3⟩ := hc1
                    have nb : th ∉ been := fun h => by rw [amg_iff.mpr h] at hc3; cases hc3
                    have nd1 : (been ++ [th]).Nodup := List.nodup_append.mpr ⟨nd0, by simp, fun y hy z hz e => nb (by rw [List.mem_singleton.mp hz] at e; exact e ▸ hy)⟩
                    have sub1 : ∀ z ∈ been ++ [th], z ∈ areasD d := fun z hz => (List.mem_append.mp hz).elim (sub z) fun h => List.mem_singleton.mp h ▸ thA
                    have L7 : been.length + 1 ≤ 6 := by
                      have := Wy.nodup_le _ _ nd1 sub1
                      rw [List.length_append] at this
                      exact Nat.le_trans this (door_ends hb).1
                    have eG : goG2 (doorsD d) fr goal (6 - been.length) st been n0 (st, th) = (goL d fr goal (6 - been.length) th (been ++ [th])).map fun w => (n0 :: w.1, th :: w.2) := if_pos ⟨hc1, rfl, nb⟩
                    rw [eG] at tot2 succ2
                    cases n with
                    | zero => omega
                    | succ m =>
                      rw [hsp m rfl]
                      have E5 := e5.trans e6
                      have X5 : Ex (hidP (also S p) H') (hidP (also S p) H5) := x5.trans (hidP_ex e6)
                      have hres : EvS (also S p) (tCall (spGo m) [] E0 (tCons (tVar 0) (tCons (tVar 1) (tCons (tVar 11) (tCons (tVar 3) (tCons (tOp rCat (tVar 4) (tLst (tCons (tVar 11) tNil))) tNil)))))) [some (.ref a), some (.ref f), some (.str st), some (.str goal), some (.ref pb), some (.ref p), some (.str n0), some (.str a1), some (.str b1), some (.str s1), some (.str st), some (.str th), z12, z13] H5 (.lst ((goL d fr goal (6 - been.length) th (been ++ [th])).map (wayD th))) := fun H6 e7 Q1 q1 => by
                        refine ⟨.ref a, rfl, .ref f, rfl, .str th, rfl, .str goal, rfl, .ref pb, rfl, .str th, rfl, by show 1 ≤ sizeLine; rw [sizeLine_eq]; decide, fun p1 np1 => ⟨pb, p1, sv been, [.str th], rfl, rfl, (Ex.new np1) _ _ (e7 _ _ (E5 _ _ hpb)), upd_same, by unfold sv; rw [List.length_map]; exact sz_of (by show been.length + 1 ≤ 100000; omega), fun p2 np2 => ?_⟩⟩
                        have E7 : Ex H6 (upd (upd H6 p1 (.lst [.str th])) p2 (.lst (sv been ++ [.str th]))) := (Ex.new np1).trans (Ex.new np2)
                        refine ⟨also S p, .ref a, d, f, fr, th, goal, p2, been ++ [th], rfl, (hvS.up lift2).up (x2.trans (X5.trans (hidP_ex (e7.trans E7)))), hb, txs_up hf (E5.trans (e7.trans E7)), ?_, List.mem_append_right _ List.mem_cons_self, nd1, sub1, by rw [List.length_append]; show 6 - (been.length + 1) ≤ m; omega, (inB.up (e6.trans e7)).up E7, fun u2 H8 e8 r8 => q1 u2 H8 (E7.trans e8) ?_⟩
                        · rw [upd_same]
                          unfold sv
                          rw [List.map_append]
                          rfl
                        · rw [List.length_append, show 7 - (been.length + [th].length) = 6 - been.length by show 7 - (been.length + 1) = _; omega] at r8
                          exact r8
                      refine s_forS (S := also S p) (its_list hres) (fun H6 k σ' H7 => ∃ (y12 y13 : Option V) (acc : List V), σ' = [some (.ref a), some (.ref f), some (.str st), some (.str goal), some (.ref pb), some (.ref p), some (.str n0), some (.str a1), some (.str b1), some (.str s1), some (.str st), some (.str th), y12, y13] ∧ Ex H H7 ∧ Ex (hidP (also S p) H') (hidP (also S p) H7) ∧ Ex (hidP (also S p) H4) (hidP (also S p) H7) ∧ Ex (hidP (also S p) H6) (hidP (also S p) H7) ∧ H7 p = some (.lst acc) ∧ RepsS (also S p) H7 acc ((((doorsD d).take i).flatMap (goG (doorsD d) fr goal (6 - been.length) st been) ++ ([(a1, b1), (b1, a1)].take j).flatMap (goG2 (doorsD d) fr goal (6 - been.length) st been n0) ++ ((goL d fr goal (6 - been.length) th (been ++ [th])).take k).map fun w => (n0 :: w.1, th :: w.2)).map (wayD st)))
                        (fun H6 e7 => ⟨_, _, acc1, rfl, E5.trans e7, X5.trans (hidP_ex e7), x4.trans (hidP_ex (e6.trans e7)), Ex.refl _, e7 _ _ (e6 _ _ hacc1), by rw [List.take_zero, List.map_nil, List.append_nil]; exact racc1.up (hidP_ex (e6.trans e7))⟩) (fun H6 k σ' H7 e7 ⟨_, _, _, _, _, _, _, x7, _⟩ => x7) (fun H6 k e2 u2 σ' H7 e7 he2 ⟨w12, w13, acc2, es2, e8, x8, x84, x7, hacc2, racc2⟩ ru2 => ?_) (fun H6 σ' H7 e7 ⟨w12, w13, acc2, es2, e8, x8, x84, x7, hacc2, racc2⟩ => ?_)
                      · subst es2
                        rw [List.getElem?_map] at he2
                        obtain ⟨w0, hw0, rfl⟩ := Option.map_eq_some_iff.mp he2
                        have kl : k < (goL d fr goal (6 - been.length) th (been ++ [th])).length := (List.getElem?_eq_some_iff.mp hw0).1
                        obtain ⟨c3, l3, m3, rfl, hc3, hl3, hm3⟩ := way_at ru2
                        refine ⟨c3, _, rfl, (hc3.up hidP_sub).sq, rfl, .ref l3, _, rfl, .ref m3, _, rfl, rfl, ?_⟩
                        have inC := inS_also (hin.up e8) hacc2
                        have wl : w0.1.length ≤ 6 ∧ w0.2.length ≤ 6 := by
                          have h := (Wy.mem_goIn (doorsD d) (fun n => amg n fr) (6 - been.length) th (been ++ [th]) w0.1 w0.2 (List.mem_append_right _ List.mem_cons_self)).mp (List.mem_of_getElem? hw0)
                          have := h.1.len
                          have := h.2.2.2.2
                          omega
                        have one : ∀ {j : Nat} {q : Addr} {ss : List Str} {i : Nat} {z : Str}, ss.length ≤ 7 → ([some (.ref a), some (.ref f), some (.str st), some (.str goal), some (.ref pb), some (.ref p), some (.str n0), some (.str a1), some (.str b1), some (.str s1), some (.str st), some (.str th), some (.ref l3), some (.ref m3)] : L2.St)[j]? = some (some (.ref q)) → ([some (.ref a), some (.ref f), some (.str st), some (.str goal), some (.ref pb), some (.ref p), some (.str n0), some (.str a1), some (.str b1), some (.str s1), some (.str st), some (.str th), some (.ref l3), some (.ref m3)] : L2.St)[i]? = some (some (.str z)) → hidP (also S p) H7 q = some (.lst (sv ss)) →
                            EvS (also S p) (tOp rCat (tLst (tCons (tVar i) tNil)) (tVar j)) [some (.ref a), some (.ref f), some (.str st), some (.str goal), some (.ref pb), some (.ref p), some (.str n0), some (.str a1), some (.str b1), some (.str s1), some (.str st), some (.str th), some (.ref l3), some (.ref m3)] H7 (.lst ((z :: ss).map D.str)) := fun {j q ss i z} l7 hj hi hq =>
                          es_catL (ds := [.str z]) inC (es_lst inC (eas_cons (es_of (ev_var hi) (.str z)) eas_nil) (by show 1 ≤ 100000; decide)) (es_of (ev_var hj) (.lst hq (reps_strs ss))) (by rw [List.length_map]; show 1 + ss.length ≤ 100000; omega)
                        have al := racc2.length
                        rw [List.length_map, List.length_append, List.length_append, List.length_map, List.length_take] at al
                        rw [List.length_map] at tot2
                        have eGG : ([(a1, b1), (b1, a1)].flatMap (goG2 (doorsD d) fr goal (6 - been.length) st been n0)).length = (goG (doorsD d) fr goal (6 - been.length) st been (n0, a1, b1)).length := rfl
                        refine s_appS (S := also S p) (ev_var rfl) hacc2 (es_tup inC (eas_cons (one (j := 12) (i := 6) (by omega) rfl rfl hl3) (eas_cons (one (ss := th :: w0.2) (by show w0.2.length + 1 ≤ 7; omega) (j := 13) (i := 2) rfl rfl hm3) eas_nil)) (by show 2 ≤ 100000; decide)) (by omega) fun y H8 e9 ry => ⟨_, _, acc2 ++ [y], rfl, (e8.trans e9).mut npH, (x8.trans (hidP_ex e9)).trans (hidP_mut (show also S p p from .inr rfl)), (x84.trans (hidP_ex e9)).trans (hidP_mut (show also S p p from .inr rfl)), (x7.trans (hidP_ex e9)).trans (hidP_mut (show also S p p from .inr rfl)), upd_same, ?_⟩
                        have tkk : ((goL d fr goal (6 - been.length) th (been ++ [th])).take (k + 1)).map (fun w => (n0 :: w.1, th :: w.2)) = ((goL d fr goal (6 - been.length) th (been ++ [th])).take k).map (fun w => (n0 :: w.1, th :: w.2)) ++ [(n0 :: w0.1, th :: w0.2)] := by
                          rw [List.take_add_one, hw0, List.map_append]
                          rfl
                        rw [tkk, ← List.append_assoc, List.map_append]
                        exact reps_and ((racc2.up (hidP_ex e9)).up (hidP_mut (show also S p p from .inr rfl))) (.cons (ry.up (hidP_mut (show also S p p from .inr rfl))) .nil)
                      · subst es2
                        refine ⟨_, _, _, _, acc2, rfl, e8, x8, x84, hacc2, ?_⟩
                        rw [List.length_map, List.take_length] at racc2
                        rw [succ2, ← List.append_assoc]
                        exact racc2
                  · have eG : goG2 (doorsD d) fr goal (6 - been.length) x been n0 (st, th) = [] := if_neg fun z => by
                      have h3 : amg th been = false := by
                        cases h : amg th been with
                        | false => rfl
                        | true => exact absurd (amg_iff.mp h) z.2.2
                      rw [z.1, decide_eq_true z.2.1, h3] at hc1
                      cases hc1
                    refine ⟨_, _, _, _, acc1, rfl, e5.trans e6, x5.trans (hidP_ex e6), x4.trans (hidP_ex e6), e6 _ _ hacc1, ?_⟩
                    rw [succ2, eG, List.append_nil]
                    exact racc1.up (hidP_ex e6)
                · subst es1
                  refine ⟨_, _, _, _, _, _, _, _, acc1, rfl, e5, x2.trans x5, x3.trans x5, hacc1, ?_⟩
                  rw [flat_succ hdo]
                  exact racc1
      · subst es'
        rw [List.take_of_length_le (by rw [de, List.length_map]; exact Nat.le_refl _)] at racc
        exact s_ret (v := .ref p) (ev_var rfl) fun H4 e4 => q (.ref p) H4 (e'.trans e4) (.lst (hidP_at (e4 _ _ hacc) nS) ((racc.up (hidP_ex e4)).up (hidP_less fun a h => .inl h)))
theorem ok_go : ∀ n : Nat, FnOk P w K mg base CX0 (n + 2) T.a_law_all_ways T.d_law_all_ways ["house", "open_ones", "here", "goal", "been"] (spGo n)
  | 0 => ok_go_step T 0 (fun _ _ _ _ => False) (T.F_law_all_ways.ok sc_law_all_ways (fun vs H Q E h => h.elim) (fun cdv A outer s H vs Q E hr h => h.elim)) fun m h => by omega
  | n + 1 => ok_go_step T (n + 1) (spGo n) (ok_go n) fun m h => by
    cases h
    rfl
end
end Kx

set_option Elab.async false
set_option linter.all false
set_option maxRecDepth 100000
set_option maxHeartbeats 400000
namespace Kx
open PySem PySem.Spec PyProof.Rows L2 Evl
/-! ## sorted of tuples (a length, a list of as many numbers) -/
inductive All2 {α β : Type} (R : α → β → Prop) : List α → List β → Prop
  | nil : All2 R [] []
  | cons {x : α} {y : β} {xs : List α} {ys : List β} : R x y → All2 R xs ys → All2 R (x :: xs) (y :: ys)
/-- the data of a row -/
def encR (ks : List Int) : PyData := .tuple [.int (ks.length : Int), .list (ks.map PyData.int)]
def rowR (ks : List Int) : List Int := (ks.length : Int) :: ks
theorem encR_alike (p q : List Int) : PySem.W.alike (encR p) (encR q) = true := by
  unfold encR
  rw [PySem.W.alike, PySem.W.alikeAll, PySem.W.alikeAll, PySem.W.alikeAll, PySem.W.alike, PySem.W.alike, PySem.W.alike_ints]
  rfl
theorem eqv_intL : ∀ p q : List Int, PyData.eqvAll (p.map PyData.int) (q.map PyData.int) = decide (p = q)
  | [], [] => by simp [PyData.eqvAll]
  | [], _ :: _ => by simp [PyData.eqvAll]
  | _ :: _, [] => by simp [PyData.eqvAll]
  | i :: p, j :: q => by
    rw [List.map_cons, List.map_cons, PyData.eqvAll, eqv_intL p q]
    simp [PyData.eqv]
    by_cases h : i = j <;> by_cases h2 : p = q <;> simp [h, h2]
theorem encR_lt (p q : List Int) : PySem.W.dataLt (encR p) (encR q) = decide (rowR p < rowR q) := by
  unfold encR rowR
  rw [PySem.W.dataLt_pair (by rw [PySem.W.alike]) (by rw [PySem.W.alike, PySem.W.alike_ints]), PySem.W.dataLt_list, PySem.W.dataLt_int]
  have e1 : PyData.eqv (PyData.int (p.length : Int)) (PyData.int (q.length : Int)) = decide ((p.length : Int) = (q.length : Int)) := by
    rw [PyData.eqv]
    by_cases h : (p.length : Int) = (q.length : Int)
    · rw [decide_eq_true h, beq_iff_eq.mpr h]
    · rw [decide_eq_false h, beq_eq_false_iff_ne.mpr h]
  have e2 : PyData.eqv (PyData.list (p.map PyData.int)) (PyData.list (q.map PyData.int)) = decide (p = q) := by rw [PyData.eqv, eqv_intL]
  have e3 : PyProof.Rows.lexLt PyProof.Rows.itemOrd (PySem.W.keyToksAll (p.map PyData.int)) (PySem.W.keyToksAll (q.map PyData.int)) = decide (p < q) := PySem.W.dataLt_ints p q
  rw [e1, e2, e3]
  by_cases h : (p.length : Int) = (q.length : Int)
  · rw [if_pos (decide_eq_true h), h]
    by_cases h2 : p = q
    · rw [if_pos (decide_eq_true h2), h2]
      exact (decide_eq_false (List.lt_irrefl _)).symm
    · rw [if_neg (by rw [decide_eq_false h2]; decide)]
      refine decide_eq_decide.mpr ?_
      rw [List.cons_lt_cons_iff]
      exact ⟨fun h => .inr ⟨rfl, h⟩, fun h => h.elim (fun h => absurd h (Int.lt_irrefl _)) fun h => h.2⟩
  · rw [if_neg (by rw [decide_eq_false h]; decide)]
    refine decide_eq_decide.mpr ?_
    rw [List.cons_lt_cons_iff]
    exact ⟨fun z => .inl z, fun z => z.elim id fun z => absurd z.1 h⟩
theorem encR_le : PySem.W.dataLe false encR = fun p q => decide (rowR p ≤ rowR q) := by
  funext p q
  show (!PySem.W.dataLt (encR q) (encR p)) = _
  rw [encR_lt]
  by_cases h : rowR q < rowR p
  · have h' : ¬ rowR p ≤ rowR q := fun r => List.not_lt.mpr r h
    simp [h, h']
  · have h' : rowR p ≤ rowR q := List.not_lt.mp h
    simp [h, h']
/-- the first of the sorted rows is at most all rows -/
theorem first_row {bs : List (List Int)} {k : List Int} {r : List (List Int)} (e : bs.mergeSort (PySem.W.dataLe false encR) = k :: r) : k ∈ bs ∧ ∀ z ∈ bs, rowR k ≤ rowR z := by
  have pm := List.mergeSort_perm bs (PySem.W.dataLe false encR)
  have pw := List.pairwise_mergeSort (le := PySem.W.dataLe false encR) (fun a b c h1 h2 => by
    rw [encR_le] at h1 h2 ⊢
    exact decide_eq_true (List.le_trans (of_decide_eq_true h1) (of_decide_eq_true h2))) (fun a b => by
    rw [encR_le]
    rcases List.le_total (rowR a) (rowR b) with h | h
    · show (decide (rowR a ≤ rowR b) || decide (rowR b ≤ rowR a)) = true
      rw [decide_eq_true h]; rfl
    · show (decide (rowR a ≤ rowR b) || decide (rowR b ≤ rowR a)) = true
      rw [decide_eq_true h, Bool.or_true]) bs
  rw [e] at pm pw
  refine ⟨pm.mem_iff.mp List.mem_cons_self, fun z hz => ?_⟩
  rcases List.mem_cons.mp (pm.mem_iff.mpr hz) with h | h
  · rw [h]
    exact List.le_refl _
  · have := (List.pairwise_cons.mp pw).1 z h
    rw [encR_le] at this
    exact of_decide_eq_true this
def rSortR (K : PySem.W.Frag) : List V → Hp → VK → Prop := fun vs H Q => ∃ (a : Addr) (xs : List V) (bs : List (List Int)) (Pr : V → List Int → Prop), vs = [V.ref a] ∧ SqL K H a xs ∧ (∀ x ∈ xs, ∃ t, x = V.ref t) ∧ DpAll K H xs (bs.map encR) ∧ All2 Pr xs bs ∧
  ∀ ys p, H p = none → All2 Pr ys (bs.mergeSort (PySem.W.dataLe false encR)) → Q (.ref p) (upd H p (.lst ys))
theorem each2 {Pr : V → List Int → Prop} : ∀ {xs : List V} {us : List Value} {bs : List (List Int)}, Vals xs us → (∀ x ∈ xs, ∃ t, x = V.ref t) → All2 Pr xs bs → PySem.W.EachIs (fun u b => (∃ t, u = Value.ref t) ∧ Pr (backV u) b) us bs
  | _, _, _, .nil, _, .nil => .nil
  | x :: xs, _ :: us, _, .cons r t, h, .cons p q => by
    obtain ⟨a, e⟩ := h x List.mem_cons_self
    subst e
    cases r
    exact .cons ⟨⟨a, rfl⟩, p⟩ (each2 t (fun y hy => h y (List.mem_cons_of_mem _ hy)) q)
theorem back2 {Pr : V → List Int → Prop} : ∀ {us : List Value} {bs : List (List Int)}, PySem.W.EachIs (fun u b => (∃ t, u = Value.ref t) ∧ Pr (backV u) b) us bs → (∀ u ∈ us, ∃ a, u = Value.ref a) ∧ All2 Pr (us.map backV) bs
  | _, _, .nil => ⟨(fun u h => by cases h), .nil⟩
  | _, _, .cons h t => by
    obtain ⟨a, b⟩ := back2 t
    exact ⟨fun u hu => (List.mem_cons.mp hu).elim (fun e => e ▸ h.1) (a u), .cons h.2 b⟩
theorem encR_depth (p : List Int) : (encR p).depth ≤ 3 := by
  have := PySem.W.depth_ints p
  unfold encR
  simp only [PyData.depth, PyData.depthAll]
  omega
section
variable {X : Cx}
theorem cr_sortR (hu : X.A.units + 64 < cLine) : CallR X (.builtin "sorted") (rSortR X.K) := by
  intro pins s σ H vs us Q I r h
  obtain ⟨a, xs, bs, Pr, rfl, hs, hx, hd, h2, q⟩ := h
  obtain ⟨its, rv, hl, hz⟩ := I.list hs
  cases r with
  | cons ru rr =>
    cases rr
    rename_i u
    obtain rfl : u = Value.ref a := ru
    have er := each2 rv hx h2
    obtain ⟨as, ra⟩ := Dp.readsAll I _ _ _ hd rv
    have ea := PySem.W.readsAll_each encR ra
    have bl : bs.length = its.length := er.length.symm
    refine PySem.W.sorted_data (enc := encR) hl.isList er ea (PySem.W.AllAlike.of encR_alike) (PySem.W.Sortable.tuples fun b => ⟨_, _, rfl⟩) (by rw [bl, ← rv.length]; exact hz) (fun b _ => by have := encR_depth b; omega) fun out ho eo => ?_
    obtain ⟨h3, h4⟩ := back2 eo
    obtain ⟨c, hc⟩ := sortedAll_at s.heap its out.toArray
    refine ⟨.ref (s.heap.objs.size + 1), upd H (s.heap.objs.size + 1) (.lst (out.map backV)), I.laid (t' := s.toks) (fun b o e => sortedAll_old e) (Nat.le_succ _) ⟨?_, out, c, vals_back h3, hc⟩, rfl, q _ _ ?_ h4⟩
    · rw [List.length_map, ho, bl, ← rv.length]
      exact hz
    · exact I.hok.fresh (Nat.le_succ _)
end
end Kx

set_option Elab.async false
set_option linter.all false
set_option maxRecDepth 100000
set_option maxHeartbeats 400000
namespace Kx
open PySem PySem.Spec PyProof.Rows L2 Evl
/-! ## what the program's ways and the law's have to do with one another -/
theorem dn_doors {d : D} (hb : d.bld = true) : d.dn = (doorsD d).map (·.1) ∧ d.dn.Nodup := by
  obtain ⟨as, es, ks, rs, B⟩ := bld_is hb
  have e1 : d.dn = es.map fun x => x.fst.txt := by rw [B.eq]; rfl
  have e2 : doorsD d = es.map trip := by rw [B.eq]; rfl
  rw [e1]
  refine ⟨?_, B.en⟩
  rw [e2, List.map_map]
  refine List.map_congr_left fun x hx => ?_
  obtain ⟨n, p, q, s, rfl, _⟩ := dr_shape (B.ed x hx)
  rfl
theorem an_areas {d : D} (hb : d.bld = true) : (areasD d).Nodup := by
  obtain ⟨as, es, ks, rs, B⟩ := bld_is hb
  have ea : areasD d = as := by
    rw [B.eq]
    show (as.map D.str).map _ = as
    rw [List.map_map]
    exact List.map_id as
  rw [ea]
  exact B.an
section
variable {d : D} {fr : List Str} {a b : Str}
theorem stL_iff (hb : d.bld = true) (n x y : Str) : stL d fr n x y ↔ ∃ e ∈ doorsD d, e.1 = n ∧ amg n fr = true ∧ ((e.2.1 = x ∧ e.2.2 = y) ∨ (e.2.2 = x ∧ e.2.1 = y)) := by
  obtain ⟨_, ends⟩ := door_ends hb
  constructor
  · intro h
    obtain ⟨e, he, h⟩ := List.mem_flatMap.mp h
    unfold stepL at h
    split at h
    · rename_i c
      cases List.mem_singleton.mp h
      exact ⟨e, he, rfl, c.1, .inl ⟨c.2.symm, rfl⟩⟩
    · split at h
      · rename_i c
        cases List.mem_singleton.mp h
        exact ⟨e, he, rfl, c.1, .inr ⟨c.2.symm, rfl⟩⟩
      · cases h
  · intro ⟨e, he, e1, e2, h⟩
    subst e1
    refine List.mem_flatMap.mpr ⟨e, he, ?_⟩
    unfold stepL
    rcases h with ⟨h1, h2⟩ | ⟨h1, h2⟩
    · rw [if_pos ⟨e2, h1.symm⟩, h2]
      exact List.mem_cons_self
    · rw [if_neg fun z => (ends e he).2.2 (z.2.symm.trans h1.symm), if_pos ⟨e2, h1.symm⟩, h2]
      exact List.mem_cons_self
theorem way_imp {N A : Type} [DecidableEq N] [DecidableEq A] {st su : N → A → A → Prop} (h : ∀ n x y, st n x y ↔ su n x y) {a b : A} {w : Wy.Way N A} : Wy.IsWay st a b w ↔ Wy.IsWay su a b w :=
  ⟨fun z => ⟨Wy.Path.imp (fun n x y => (h n x y).mp) z.1, z.2⟩, fun z => ⟨Wy.Path.imp (fun n x y => (h n x y).mpr) z.1, z.2⟩⟩
theorem mem_ways {w : List Str × List Str} : w ∈ waysL d fr a b ↔ Wy.IsWay (stL d fr) a b w ∧ w.1.length < 6 := Wy.mem_upto (st := stL d fr) (fun _ _ _ => Iff.rfl) 6 w
theorem mem_way (hb : d.bld = true) (ha : a ∈ areasD d) {w : List Str × List Str} : w ∈ waysL d fr a b ↔ Wy.IsWay (stL d fr) a b w := by
  rw [mem_ways]
  refine ⟨fun h => h.1, fun h => ⟨h, ?_⟩⟩
  have := Wy.way_short (stL_in hb) ha h
  have := (door_ends hb).1
  omega
abbrev everyL (d : D) (fr : List Str) (a b : Str) : List (List Str × List Str) := goL d fr b 6 a [a]
theorem mem_every (hb : d.bld = true) (w : List Str × List Str) : w ∈ everyL d fr a b ↔ w ∈ waysL d fr a b := by
  rw [mem_ways]
  refine (Wy.goIn_way (doorsD d) (fun n => amg n fr) 6 w).trans ?_
  rw [way_imp fun n x y => ?_]
  rw [stL_iff hb]
  unfold Wy.stD
  constructor
  · rintro ⟨e, he, rfl, h⟩
    exact ⟨e, he, rfl, h⟩
  · rintro ⟨e, he, rfl, h⟩
    exact ⟨e, he, rfl, h⟩
theorem every_nil (hb : d.bld = true) : everyL d fr a b = [] ↔ waysL d fr a b = [] := by
  constructor
  · intro h
    refine List.eq_nil_iff_forall_not_mem.mpr fun w hw => ?_
    have := (mem_every hb w).mpr hw
    rw [h] at this
    cases this
  · intro h
    refine List.eq_nil_iff_forall_not_mem.mpr fun w hw => ?_
    have := (mem_every hb w).mp hw
    rw [h] at this
    cases this
/-! ## the least way -/
def keyI (d : D) (ds : List Str) : List Int := ds.map fun n => ((d.dn.idxOf n : Nat) : Int)
theorem lx_lt : ∀ {r s : List Nat}, Wy.Lx r s → r.map (fun n : Nat => (n : Int)) < s.map fun n : Nat => (n : Int)
  | [], _, h => h.elim
  | _ :: _, [], h => h.elim
  | i :: r, j :: s, h => by
    rw [List.map_cons, List.map_cons, List.cons_lt_cons_iff]
    rcases h with h | ⟨h, h2⟩
    · exact .inl (by omega)
    · exact .inr ⟨by rw [h], lx_lt h2⟩
theorem idx_pair {α : Type} [DecidableEq α] {l : List α} (nd : l.Nodup) : l.Pairwise fun x y => l.idxOf x < l.idxOf y := by
  have at_ : ∀ (i : Nat) (h : i < l.length), l.idxOf l[i] = i := fun i h => by
    have lt : l.idxOf l[i] < l.length := List.idxOf_lt_length_of_mem (List.getElem_mem h)
    exact (List.getElem_inj nd).mp (List.getElem_idxOf lt)
  refine List.pairwise_iff_getElem.mpr fun i j hi hj ij => ?_
  rw [at_ i hi, at_ j hj]
  exact ij
theorem steps_asc (hb : d.bld = true) (x : Str) : (stepsD d fr x).Pairwise fun p q => d.dn.idxOf p.1 < d.dn.idxOf q.1 := by
  obtain ⟨e1, nd⟩ := dn_doors hb
  have pw := idx_pair nd
  have nm : ∀ e p, p ∈ stepL fr x e → p.1 = e.1 := fun e p h => by
    unfold stepL at h
    split at h
    · rw [List.mem_singleton.mp h]
    · split at h
      · rw [List.mem_singleton.mp h]
      · cases h
  rw [e1, List.pairwise_map] at pw
  refine List.pairwise_flatMap.mpr ⟨fun e he => ?_, pw.imp fun {e1' e2'} h p hp q hq => ?_⟩
  · unfold stepL
    split
    · exact List.pairwise_singleton _ _
    · split
      · exact List.pairwise_singleton _ _
      · exact .nil
  · rw [nm _ _ hp, nm _ _ hq, e1]
    exact h
theorem key_first (hb : d.bld = true) {w0 : List Str × List Str} {r : List (List Str × List Str)} (e : waysL d fr a b = w0 :: r) : ∀ w ∈ waysL d fr a b, rowR (keyI d w0.1) ≤ rowR (keyI d w.1) := fun w hw => by
  have pw := Wy.upto_order (st := stL d fr) (a := a) (b := b) (fun _ _ _ => Iff.rfl) (fun n => d.dn.idxOf n) (steps_asc hb) 6
  have pw : (waysL d fr a b).Pairwise _ := pw
  rw [e] at pw hw
  rcases List.mem_cons.mp hw with h | h
  · rw [h]
    exact List.le_refl _
  · have bf := (List.pairwise_cons.mp pw).1 w h
    have kk : ∀ w : List Str × List Str, keyI d w.1 = (Wy.ky (fun n => d.dn.idxOf n) w).map fun n : Nat => (n : Int) := fun w => by
      unfold keyI Wy.ky
      rw [List.map_map]
      rfl
    have kl : ∀ w : List Str × List Str, (keyI d w.1).length = w.1.length := fun w => List.length_map _
    refine List.le_of_lt ?_
    unfold rowR
    rw [List.cons_lt_cons_iff, kl, kl]
    rcases bf with h | ⟨h1, h2⟩
    · exact .inl (by omega)
    · refine .inr ⟨by omega, ?_⟩
      rw [kk, kk]
      exact lx_lt h2
theorem way_names (hb : d.bld = true) {w : List Str × List Str} (h : w ∈ waysL d fr a b) : ∀ n ∈ w.1, n ∈ openD d fr := fun n hn => by
  have p := (mem_ways.mp h).1.1
  have gen : ∀ {x : Str} {ds : List Str} {as : List Str}, Wy.Path (stL d fr) x ds as → ∀ n ∈ ds, n ∈ openD d fr := fun {x ds as} p => by
    induction ds generalizing x as with
    | nil => exact fun n h => by cases h
    | cons m ds ih => cases as with
      | nil => exact p.elim
      | cons y as =>
        intro n hn
        rcases List.mem_cons.mp hn with rfl | hn
        · obtain ⟨e, he, e1, e2, _⟩ := (stL_iff hb _ _ _).mp p.1
          refine List.mem_filter.mpr ⟨?_, e2⟩
          rw [(dn_doors hb).1]
          exact List.mem_map.mpr ⟨e, he, e1⟩
        · exact ih p.2 n hn
  exact gen p n hn
theorem open_in {n : Str} (h : n ∈ openD d fr) : n ∈ d.dn := (List.mem_filter.mp h).1
/-- the names at the key are the doors -/
theorem key_back (hb : d.bld = true) {ds : List Str} (h : ∀ n ∈ ds, n ∈ d.dn) : (keyI d ds).map (fun j => (d.dn[j.toNat]?).getD Str.empty) = ds := by
  unfold keyI
  rw [List.map_map]
  conv => rhs; rw [← List.map_id ds]
  refine List.map_congr_left fun n hn => ?_
  show (d.dn[((d.dn.idxOf n : Nat) : Int).toNat]?).getD Str.empty = n
  rw [Int.toNat_natCast, (idx_at (h n hn)).1]
  rfl
/-! ## the least cut -/
theorem sub_filter {α : Type} [DecidableEq α] {l m : List α} (h : l.Sublist m) (nd : m.Nodup) (p : α → Bool) (hp : ∀ x, p x = decide (x ∈ l)) : m.filter p = l := by
  induction h generalizing p with
  | slnil => rfl
  | @cons l m x h ih =>
    obtain ⟨n1, n2⟩ := List.nodup_cons.mp nd
    rw [List.filter_cons_of_neg (by rw [hp]; exact fun z => n1 (h.subset (of_decide_eq_true z)))]
    exact ih n2 p hp
  | @cons_cons l m x h ih =>
    obtain ⟨n1, n2⟩ := List.nodup_cons.mp nd
    rw [List.filter_cons_of_pos (by rw [hp]; exact decide_eq_true List.mem_cons_self)]
    congr 1
    have e : m.filter p = m.filter fun y => decide (y ∈ l) := List.filter_congr fun y hy => by
      rw [hp]
      refine decide_eq_decide.mpr ⟨fun z => (List.mem_cons.mp z).resolve_left fun e => n1 (e ▸ hy), fun z => List.mem_cons_of_mem _ z⟩
    rw [e]
    exact ih n2 _ fun y => rfl
theorem cut_sub (ns : List Str) : ∀ (c : List Nat) (k : Nat), c.Pairwise (· < ·) → (∀ i ∈ c, k ≤ i ∧ i < ns.length) → (cutOf ns c).Sublist (ns.drop k)
  | [], k, _, _ => List.nil_sublist _
  | i :: c, k, pw, h => by
    obtain ⟨p1, p2⟩ := List.pairwise_cons.mp pw
    obtain ⟨ki, il⟩ := h i List.mem_cons_self
    have s1 : (cutOf ns (i :: c)).Sublist (ns.drop i) := by
      have e : cutOf ns (i :: c) = ns[i] :: cutOf ns c := by
        unfold cutOf
        rw [List.map_cons, List.getElem?_eq_getElem il]
        rfl
      rw [e, List.drop_eq_getElem_cons il]
      exact List.Sublist.cons_cons _ (cut_sub ns c (i + 1) p2 fun j hj => ⟨p1 j hj, (h j (List.mem_cons_of_mem _ hj)).2⟩)
    refine s1.trans ?_
    have : ns.drop i = (ns.drop k).drop (i - k) := by
      rw [List.drop_drop]
      congr 1
      omega
    rw [this]
    exact List.drop_sublist _ _
structure PartOk (d : D) (fr : List Str) (a b : Str) (cut : List Str) (f : List (List Str)) : Prop where
  eq : partD d fr a b = .tup [.lst (cut.map D.str), .lst (f.map rowD)]
  sub : cut.Sublist (openD d fr)
  hit : ∀ w ∈ waysL d fr a b, ∃ n ∈ w.1, n ∈ cut
  len : f.length = cut.length
  mem : ∀ p ∈ f, ∃ w ∈ waysL d fr a b, w.1 = p
  pw : f.Pairwise fun p q => ∀ n ∈ q, n ∉ p
theorem part_right (hb : d.bld = true) (ha : a ∈ areasD d) (ab : a ≠ b) : ∃ cut f, PartOk d fr a b cut f := by
  obtain ⟨e1, nd⟩ := dn_doors hb
  obtain ⟨_, ends⟩ := door_ends hb
  let E := (doorsD d).filter fun e => amg e.1 fr
  have eo : openD d fr = E.map (·.1) := by
    unfold openD
    rw [e1, List.filter_map]
    rfl
  have el : (openD d fr).length = E.length := by rw [eo, List.length_map]
  have ndE : (E.map (·.1)).Nodup := by
    rw [← eo]
    exact nd.filter _
  have stE : ∀ n x y, stL d fr n x y ↔ Wy.stE E n x y := fun n x y => by
    rw [stL_iff hb]
    unfold Wy.stE
    constructor
    · rintro ⟨e, he, rfl, h1, h2⟩
      exact ⟨e, List.mem_filter.mpr ⟨he, h1⟩, rfl, h2⟩
    · rintro ⟨e, he, rfl, h2⟩
      obtain ⟨h0, h1⟩ := List.mem_filter.mp he
      exact ⟨e, h0, rfl, h1, h2⟩
  have hws : ∀ p, p ∈ (waysL d fr a b).map (·.1) ↔ ∃ as, Wy.IsWay (Wy.stE E) a b (p, as) := fun p => by
    rw [List.mem_map]
    constructor
    · rintro ⟨w, hw, rfl⟩
      exact ⟨w.2, (way_imp stE).mp ((mem_way hb ha).mp hw)⟩
    · rintro ⟨as, h⟩
      exact ⟨(p, as), (mem_way hb ha).mpr ((way_imp stE).mpr h), rfl⟩
  have nm : ∀ {i n}, Wy.nms E i = some n → (openD d fr)[i]? = some n := fun {i n} h => by
    unfold Wy.nms at h
    rw [eo, List.getElem?_map]
    exact h
  have hh : ∀ L, hitL ((waysL d fr a b).map (·.1)) (openD d fr) L = false → ∃ p ∈ (waysL d fr a b).map (·.1), ∀ i ∈ L, ∀ n, Wy.nms E i = some n → n ∉ p := fun L hL => by
    unfold hitL at hL
    rw [List.all_eq_false] at hL
    obtain ⟨p, hp, hn⟩ := hL
    refine ⟨p, hp, fun i hi n hin hnp => hn (List.any_eq_true.mpr ⟨n, hnp, amg_iff.mpr ?_⟩)⟩
    refine List.mem_map.mpr ⟨i, hi, ?_⟩
    rw [nm hin]
    rfl
  have hall : hitL ((waysL d fr a b).map (·.1)) (openD d fr) (List.range E.length) = true := by
    unfold hitL
    refine List.all_eq_true.mpr fun p hp => ?_
    obtain ⟨w, hw, rfl⟩ := List.mem_map.mp hp
    have ne : w.1 ≠ [] := fun z => by
      have h := (mem_ways.mp hw).1
      have l := h.1.len
      rw [z] at l
      have e2 : w.2 = [] := List.length_eq_zero_iff.mp l.symm
      have f := h.2.2
      rw [e2] at f
      exact ab f
    obtain ⟨n, hn⟩ := List.exists_mem_of_ne_nil _ ne
    refine List.any_eq_true.mpr ⟨n, hn, amg_iff.mpr ?_⟩
    have hm := way_names hb hw n hn
    obtain ⟨i, hi, e⟩ := List.getElem_of_mem hm
    refine List.mem_map.mpr ⟨i, List.mem_range.mpr (el ▸ hi), ?_⟩
    rw [List.getElem?_eq_getElem hi, e]
    rfl
  obtain ⟨c, hc⟩ := Wy.some_cut (E := E) hall
  obtain ⟨f, hf⟩ := Wy.first_cut ab ndE (fun e he => (ends e (List.mem_filter.mp he).1).2.2) _ hws _ hh hc
  obtain ⟨casc, cb, _⟩ := (Wy.mem_lots _ c).mp (List.mem_of_find?_eq_some hc)
  have cl : (cutOf (openD d fr) c).length = c.length := by
    unfold cutOf
    rw [List.length_map]
  obtain ⟨r1, r2, r3⟩ := Wy.disj_right _ _ _ hf
  have hit := List.find?_some hc
  refine ⟨cutOf (openD d fr) c, f, ?_, ?_, fun w hw => ?_, by rw [cl]; exact r1, fun p hp => ?_, r3⟩
  · unfold partD
    rw [el, hc]
    dsimp only
    rw [cl, hf]
    rfl
  · exact cut_sub _ c 0 casc fun i hi => ⟨Nat.zero_le _, by rw [el]; exact cb i hi⟩
  · have h := List.all_eq_true.mp hit w.1 (List.mem_map.mpr ⟨w, hw, rfl⟩)
    obtain ⟨n, hn, h⟩ := List.any_eq_true.mp h
    exact ⟨n, hn, amg_iff.mp h⟩
  · obtain ⟨w, hw, e⟩ := List.mem_map.mp (r2 p hp)
    exact ⟨w, hw, e⟩
/-! ## the areas that all ways have -/
theorem cut_mid {α : Type} (x y : α) (m : List α) : cutX (x :: (m ++ [y])) (some 1) (some (-1)) = m := by
  unfold cutX
  have l : (x :: (m ++ [y])).length = m.length + 2 := by rw [List.length_cons, List.length_append]; rfl
  have e1 : HT.sIx (x :: (m ++ [y])).length 0 (some 1) = 1 := by
    rw [show HT.sIx (x :: (m ++ [y])).length 0 (some 1) = min 1 (x :: (m ++ [y])).length from HT.sIx_nat _ 0 1, l]
    omega
  have e2 : HT.sIx (x :: (m ++ [y])).length (x :: (m ++ [y])).length (some (-1)) = m.length + 1 := by
    rw [l]
    unfold HT.sIx
    simp
    omega
  rw [e1, e2]
  show ((m ++ [y]).take (m.length + 1 - 1)) = m
  rw [Nat.add_sub_cancel, List.take_left]
def narL (ws : List (List Str × List Str)) (L : List (List Str × List Str)) (a : Str) : List Str := match L with
  | [] => []
  | v0 :: _ => (cutX (a :: v0.2) (some 1) (some (-1))).filter fun it => ws.all fun w => amg it (a :: w.2)
theorem narrow_right (hb : d.bld = true) (ha : a ∈ areasD d) (ab : a ≠ b) (ne : waysL d fr a b ≠ []) : narD (waysL d fr a b) a = .tup ((narL (everyL d fr a b) (everyL d fr a b) a).map D.str) := by
  cases hw : waysL d fr a b with
  | nil => exact absurd hw ne
  | cons w0 r =>
    cases hv : everyL d fr a b with
    | nil => exact absurd ((every_nil hb).mp hv) ne
    | cons v0 r2 =>
      have m1 : w0 ∈ waysL d fr a b := by rw [hw]; exact List.mem_cons_self
      have m2 : v0 ∈ waysL d fr a b := (mem_every hb v0).mp (by rw [hv]; exact List.mem_cons_self)
      have i1 := (mem_way hb ha).mp m1
      have i2 := (mem_way hb ha).mp m2
      obtain ⟨g1, t1⟩ := Wy.mid_of ab i1
      obtain ⟨g2, t2⟩ := Wy.mid_of ab i2
      have same : (fun it => (v0 :: r2).all fun w => amg it (a :: w.2)) = fun it => (w0 :: r).all fun w => amg it (a :: w.2) := by
        funext it
        rw [Bool.eq_iff_iff, List.all_eq_true, List.all_eq_true, ← hv, ← hw]
        exact ⟨fun h w hw => h w ((mem_every hb w).mpr hw), fun h w hw => h w ((mem_every hb w).mp hw)⟩
      show D.tup (((cutX (a :: w0.2) (some 1) (some (-1))).filter fun it => (w0 :: r).all fun w => amg it (a :: w.2)).map D.str) = D.tup (((cutX (a :: v0.2) (some 1) (some (-1))).filter fun it => (v0 :: r2).all fun w => amg it (a :: w.2)).map D.str)
      rw [same, t1, t2, cut_mid, cut_mid]
      congr 2
      refine Wy.common_mid ab (fun z => ?_) i1 i2 t1 t2
      rw [List.all_eq_true, ← hw]
      exact ⟨fun h w hw => amg_iff.mp (h w ((mem_way hb ha).mpr hw)), fun h w hw => amg_iff.mpr (h w ((mem_way hb ha).mp hw))⟩
/-! ## the parts -/
theorem reach_every (hb : d.bld = true) : reachL d fr a = (areasD d).filter fun y => !(everyL d fr a y).isEmpty := by
  unfold reachL
  congr 1
  funext y
  have := every_nil (fr := fr) (a := a) (b := y) hb
  cases h1 : everyL d fr a y with
  | nil =>
    rw [this.mp h1]
  | cons w r => cases h2 : waysL d fr a y with
    | nil => rw [this.mpr h2] at h1; cases h1
    | cons _ _ => rfl
end
end Kx

set_option Elab.async false
set_option linter.all false
set_option maxRecDepth 100000
set_option maxHeartbeats 400000
namespace Kx
open PySem PySem.Spec PyProof.Rows L2 Evl
/-! ## the least way, by the law -/
def rowKD (ks : List Int) : D := .tup [.int (ks.length : Int), .lst (ks.map D.int)]
theorem dp_ints {K : PySem.W.Frag} {H : Hp} : ∀ {ks : List Int} {vs : List V}, Reps H vs (ks.map D.int) → DpAll K H vs (ks.map PyData.int)
  | [], _, .nil => .nil
  | i :: r, _, .cons h k => by
    cases h
    exact .cons (.int i) (dp_ints k)
theorem dp_row {K : PySem.W.Frag} {H : Hp} {v : V} {ks : List Int} (r : Rep H v (rowKD ks)) : Dp K H v (encR ks) ∧ ∃ t, v = .ref t := by
  obtain ⟨c, vs, rfl, hc, hs⟩ := r.tupD
  cases hs with
  | cons r1 hs => cases hs with
    | cons r2 hs =>
      cases hs
      cases r1
      cases r2 with
      | @lst l us _ h1 s1 => exact ⟨.tup hc.sq (.cons (.int _) (.cons (.lst (.of h1) (dp_ints s1)) .nil)), c, rfl⟩
theorem dp_rows {K : PySem.W.Frag} {H : Hp} : ∀ {bs : List (List Int)} {vs : List V}, Reps H vs (bs.map rowKD) → DpAll K H vs (bs.map encR) ∧ (∀ x ∈ vs, ∃ t, x = V.ref t) ∧ All2 (fun x ks => Rep H x (rowKD ks)) vs bs
  | [], _, .nil => ⟨.nil, (fun x h => by cases h), .nil⟩
  | b :: bs, _, .cons h k => by
    obtain ⟨a, b, c⟩ := dp_rows (K := K) k
    obtain ⟨h1, h2⟩ := dp_row (K := K) h
    exact ⟨.cons h1 a, fun x hx => (List.mem_cons.mp hx).elim (fun e => e ▸ h2) (b x), .cons h c⟩
theorem rows_back {H : Hp} : ∀ {bs : List (List Int)} {vs : List V}, All2 (fun x ks => Rep H x (rowKD ks)) vs bs → Reps H vs (bs.map rowKD)
  | _, _, .nil => .nil
  | _, _, .cons h k => .cons h (rows_back k)
theorem ints_lay : ∀ ns : List Int, PyData.canLayAll0 (ns.map PyData.int) = true
  | [] => by simp [PyData.canLayAll0]
  | i :: r => by simp [PyData.canLayAll0, PyData.canLay0, ints_lay r]
theorem rows_shaped (bs : List (List Int)) : SeqAt.shaped (.list (bs.map encR)) = true := by
  have lay : ∀ bs : List (List Int), PyData.canLayAll0 (bs.map encR) = true := fun bs => by
    induction bs with
    | nil => simp [PyData.canLayAll0]
    | cons b bs ih => simp [PyData.canLayAll0, encR, PyData.canLay0, ints_lay b]; exact ih
  have dep : ∀ bs : List (List Int), PyData.depthAll (bs.map encR) ≤ 3 := fun bs => by
    induction bs with
    | nil => simp [PyData.depthAll]
    | cons b bs ih =>
      have := encR_depth b
      simp only [List.map_cons, PyData.depthAll]
      omega
  have d := dep bs
  show (PyData.canLay0 (.list (bs.map encR)) && decide (PyData.depth (.list (bs.map encR)) ≤ 64)) = true
  rw [Bool.and_eq_true]
  exact ⟨by simp only [PyData.canLay0]; exact lay bs, decide_eq_true (by simp only [PyData.depth]; omega)⟩
theorem nil_shaped : SeqAt.shaped (.list []) = true := rows_shaped []
theorem eqv_nilL (ds : List PyData) : PyData.eqv (.list ds) (.list []) = ds.isEmpty := by
  cases ds <;> simp [PyData.eqv, PyData.eqvAll]
section
variable {K : PySem.W.Frag} {S : Addr → Prop} {σ : L2.St} {H H' : Hp} {te : TE}
theorem es_sort {bs : List (List Int)} (hin : InS S H) (h : EvS S te σ H (.lst (bs.map rowKD))) : EvS S (tCB (rSortR K) (tCons te tNil)) σ H (.lst ((bs.mergeSort (PySem.W.dataLe false encR)).map rowKD)) := fun H1 e Q q => h H1 e _ fun v H2 e2 r => by
  cases r with
  | @lst p vs _ hp rs =>
    obtain ⟨a, b, c⟩ := dp_rows (K := K) (rs.up hidP_sub)
    obtain ⟨_, _, c2⟩ := dp_rows (K := K) rs
    refine ⟨p, vs, bs, fun x ks => RepS S H2 x (rowKD ks), rfl, .of (hidP_get hp).1, b, a, c2, fun ys p2 np2 h2 => q (.ref p2) _ (e2.trans (Ex.new np2)) (.lst (hidP_at upd_same ((hin.up (e.trans e2)).new np2)) ((rows_back h2).up (hidP_ex (Ex.new np2))))⟩
end
theorem keyI_len (d : D) (ds : List Str) : (keyI d ds).length = ds.length := List.length_map _
theorem every_len {d : D} {fr : List Str} {a b : Str} (hb : d.bld = true) : (everyL d fr a b).length ≤ 7776 := goIn_len (doors_len hb) (fun e he => ((door_ends hb).2 e he).2.2) 5 a [a]
def spLL : Sp := fun vs H Q _ => ∃ (S : Addr → Prop) (v u : V) (d : D) (fr : List Str) (a b : Str), vs = [v, u] ∧ RepS S H v d ∧ d.bld = true ∧ a ∈ areasD d ∧ RepS S H u (.lst ((everyL d fr a b).map (wayD a))) ∧ InS S H ∧ ∀ w H', Ex H H' → RepS S H' w (leastD (waysL d fr a b)) → Q w H'
section
variable {P : Program} {w : World} {K : PySem.W.Frag} {mg : Str → Option Value} {base : Heap} (T : Txt K mg)
theorem ok_least : FnOk P w K mg base CX0 1 T.a_law_least T.d_law_least ["house", "every"] spLL := by
  refine T.F_law_least.ok sc_law_least (fun vs H Q E h => ?_) (fun cdv A outer s H vs Q E hr h => ?_)
  · obtain ⟨S, v, u, d, fr, a, b, rfl, _⟩ := h
    rfl
  · obtain ⟨S, v, u, d, fr, a, b, rfl, hv, hb, ha, hu, hin, q⟩ := h
    have nd := sc_law_least.nd
    have hu4 : (A.deeper (envOfC "_law_least" (defScope s_law_least) s.heap.objs.size T.a_law_least cdv)).units + 64 < cLine := by have := hr.un; omega
    refine ⟨_, (pss_cons (ps_set (i := 2) nd rfl (.inr rfl) (pe_lc (own := [("door", 4)]) (g := gName 4) (tt := tYes) (te := tOp (rIxT K) (tVar 4) (tC (.int 0))) (by rfl) nd (pi_tup (pe_ix (r := rIxT K) ix_tup (pv 0) pe_int (fun _ _ => rfl))) (blkOk_by (N := ["house", "every", "names", "rows", "door", "doors", "areas", "name", "at"]) (sc := defScope s_law_least) (by decide +kernel)) (fun _ _ _ _ _ => (pg_name (i := 4) nd rfl (.inl rfl))) (fun _ _ _ _ _ => pts_nil) (fun _ _ _ _ _ => (pe_ix (r := rIxT K) ix_tup (pv 4) pe_int (fun _ _ => rfl)))))
      (pss_cons (ps_set (i := 3) nd rfl (.inl rfl) (pe_callB (cr_sortR hu4) (by rfl) T.z_sorted bo_sorted (pa_cons (pe_lc (own := [("doors", 5), ("areas", 6)]) (g := gTup K 2 (gCons (gName 5) (gCons (gName 6) gNil))) (tt := tYes) (te := tTupF (tCons (tCB (rLenS K) (tCons (tVar 5) tNil)) (tCons (tLc (iList K (tVar 5)) (gName 7) tYes (tBM K "list" (rIndex K) (tVar 2) (tCons (tVar 7) tNil)) [7]) tNil))) (by rfl) nd (pi_list (pv 1)) (blkOk_by (N := ["house", "every", "names", "rows", "door", "doors", "areas", "name", "at"]) (sc := defScope s_law_least) (by decide +kernel)) (fun _ _ _ _ _ => (pg_tup rfl (pgs_cons (pg_name (i := 5) nd rfl (.inl rfl)) (pgs_cons (pg_name (i := 6) nd rfl (.inl rfl)) pgs_nil)))) (fun _ _ _ _ _ => pts_nil) (fun _ _ _ _ _ => (pe_tupF (pa_cons (pe_callB call_len_seq (by rfl) T.z_len bo_len (pa_cons (pv 5) pa_nil)) (pa_cons (pe_lc (own := [("name", 7)]) (g := gName 7) (tt := tYes) (te := tBM K "list" (rIndex K) (tVar 2) (tCons (tVar 7) tNil)) (by rfl) nd (pi_list (pv 5)) (blkOk_by (N := ["house", "every", "names", "rows", "door", "doors", "areas", "name", "at"]) (by rfl)) (fun _ _ _ _ _ => (pg_name (i := 7) nd rfl (.inl rfl))) (fun _ _ _ _ _ => pts_nil) (fun _ _ _ _ _ => (pe_bm PySem.F.plainAttrs_list PySem.F.slot_list_index PySem.F.type_list_index mt_index (pv 2) (pa_cons (pv 7) pa_nil)))) pa_nil))))) pa_nil)))
      (pss_one (ps_ret (pe_ifExp (pt_cmpR (op_neD hu4) (pv 3) (pe_lst pa_nil) (nomark _)) (pe_lc (own := [("at", 8)]) (g := gName 8) (tt := tYes) (te := tOp (rIxL K) (tVar 2) (tVar 8)) (by rfl) nd (pi_list (pe_ix (r := rIxT K) ix_tup (pe_ix (r := rIxL K) ix_list (pv 3) pe_int (fun _ _ => rfl)) pe_int (fun _ _ => rfl))) (blkOk_by (N := ["house", "every", "names", "rows", "door", "doors", "areas", "name", "at"]) (sc := defScope s_law_least) (by decide +kernel)) (fun _ _ _ _ _ => (pg_name (i := 8) nd rfl (.inl rfl))) (fun _ _ _ _ _ => pts_nil) (fun _ _ _ _ _ => (pe_ix (r := rIxL K) ix_list (pv 2) (pv 8) (fun _ _ => rfl)))) pe_non))))), ?_⟩
    obtain ⟨as, es, ks, rs, B⟩ := bld_is hb
    obtain ⟨p0, vs, b0, ws, rfl, ha0, h2, hbt, hbs⟩ := door_at B hv
    -- the names
    have e1 : EvS S (tOp (rIxT K) (tVar 0) (tC (.int 2))) [some (.ref p0), some (u), none, none, none, none, none, none, none] H (.tup es) := es_of (ev_ixT (j := 2) (ev_var rfl) (ha0.up hidP_sub) h2) (.tup hbt hbs)
    have c1 := lcS (S := S) (ds := es) (wi := iTup K (tOp (rIxT K) (tVar 0) (tC (.int 2)))) (g := gName 4) (tt := tYes) (te := tOp (rIxT K) (tVar 4) (tC (.int 0))) (own := [4]) (σ := [some (.ref p0), some (u), none, none, none, none, none, none, none]) (H := H) (fun _ => true) (fun e => .str e.fst.txt) hin (its_tup e1) (by have := B.e6; omega) fun S' x e H1 he in1 e2 x1 rx => by
      obtain ⟨n, a1, b1, s1, rfl, _⟩ := dr_shape (B.ed e he)
      obtain ⟨c, us, rfl, hc, hcs⟩ := rx.tupD
      cases hcs with
      | cons q0 _ =>
        obtain rfl := q0.strD
        exact ⟨[some (.ref p0), some (u), none, none, some (.ref c), none, none, none, none], fun Q h => h, rfl, fun H6 e6 Q q => q H6 (Ex.refl _), fun _ => es_of (ev_ixT (j := 0) (ev_var rfl) (hc.up hidP_sub) rfl) (.str n)⟩
    rw [List.filter_eq_self.mpr fun _ _ => rfl] at c1
    have edn : es.map (fun e => D.str e.fst.txt) = d.dn.map D.str := by
      rw [B.dn, List.map_map]
      rfl
    rw [edn] at c1
    refine s_asgS (S := S) (σ := [some (.ref p0), some (u), none, none, none, none, none, none, none]) c1 fun nn H1 e3 rn => ?_
    have in1 := hin.up e3
    cases rn with
    | @lst pn vn _ hpn rsn =>
      rw [strs_of_reps rsn] at hpn
      have hpn1 := (hidP_get hpn).1
      -- the rows
      have c2 := lcS (S := S) (ds := (everyL d fr a b).map (wayD a)) (wi := iList K (tVar 1)) (g := gTup K 2 (gCons (gName 5) (gCons (gName 6) gNil))) (tt := tYes) (te := tTupF (tCons (tCB (rLenS K) (tCons (tVar 5) tNil)) (tCons (tLc (iList K (tVar 5)) (gName 7) tYes (tBM K "list" (rIndex K) (tVar 2) (tCons (tVar 7) tNil)) [7]) tNil))) (own := [5, 6]) (σ := [some (.ref p0), some (u), some (.ref pn), none, none, none, none, none, none]) (H := H1) (fun _ => true) (fun e => rowKD (keyI d e.fst.row)) in1 (its_list (es_of (ev_var rfl) (hu.up (hidP_ex e3)))) (by rw [List.length_map]; have := every_len (fr := fr) (a := a) (b := b) hb; omega) fun S' x e H2 he in2 e4 x2 rx => by
        obtain ⟨w0, hw0, rfl⟩ := List.mem_map.mp he
        obtain ⟨c, l, m, rfl, hc, hl, hm⟩ := way_at rx
        refine ⟨[some (.ref p0), some (u), some (.ref pn), none, none, some (.ref l), some (.ref m), none, none], fun Q h => ⟨c, _, rfl, (hc.up hidP_sub).sq, rfl, .ref l, _, rfl, .ref m, _, rfl, rfl, h⟩, rfl, fun H6 e6 Q q => q H6 (Ex.refl _), fun _ => ?_⟩
        have hw1 := (mem_every hb w0).mp hw0
        have w6 := (mem_ways.mp hw1).2
        have row : D.row (D.fst (wayD a w0)) = w0.1 := by
          show (w0.1.map D.str).map D.txt = w0.1
          rw [List.map_map]
          exact List.map_id _
        rw [row]
        have c3 := lcS (S := S') (ds := w0.1.map D.str) (wi := iList K (tVar 5)) (g := gName 7) (tt := tYes) (te := tBM K "list" (rIndex K) (tVar 2) (tCons (tVar 7) tNil)) (own := [7]) (σ := [some (.ref p0), some (u), some (.ref pn), none, none, some (.ref l), some (.ref m), none, none]) (H := H2) (fun _ => true) (fun e => .int ((d.dn.idxOf e.txt : Nat) : Int)) in2 (its_list (es_of (ev_var rfl) (.lst hl (reps_strs _)))) (by rw [List.length_map]; omega) fun S2 y e H3 he in3 e5 x3 ry => by
          obtain ⟨n, hn, rfl⟩ := List.mem_map.mp he
          obtain rfl := ry.strD
          exact ⟨[some (.ref p0), some (u), some (.ref pn), none, none, some (.ref l), some (.ref m), some (.str n), none], fun Q h => h, rfl, fun H6 e6 Q q => q H6 (Ex.refl _), fun _ => es_of (ev_lix (ev_var rfl) ((e4.trans e5) _ _ hpn1) (ev_var rfl) (open_in (way_names hb hw1 n hn))) (.int _)⟩
        rw [List.filter_eq_self.mpr fun _ _ => rfl, List.map_map] at c3
        have ek : w0.1.map ((fun e : D => D.int ((d.dn.idxOf e.txt : Nat) : Int)) ∘ D.str) = (keyI d w0.1).map D.int := by
          unfold keyI
          rw [List.map_map]
          rfl
        rw [ek] at c3
        have svl : (sv w0.1).length = w0.1.length := List.length_map _
        refine es_tup in2 (eas_cons (es_of (ev_is (ev_lenT (ev_var rfl) (.inl (hidP_get hl).1)) (by rw [svl, keyI_len])) (.int _)) (eas_cons c3 eas_nil)) (by show 2 ≤ 100000; decide)
      rw [List.filter_eq_self.mpr fun _ _ => rfl, List.map_map] at c2
      have er : (everyL d fr a b).map ((fun e : D => rowKD (keyI d e.fst.row)) ∘ wayD a) = ((everyL d fr a b).map fun w => keyI d w.1).map rowKD := by
        rw [List.map_map]
        refine List.map_congr_left fun w _ => ?_
        show rowKD (keyI d ((w.1.map D.str).map D.txt)) = rowKD (keyI d w.1)
        rw [List.map_map, show (D.txt ∘ D.str) = id from rfl, List.map_id]
      rw [er] at c2
      refine s_asgS (S := S) (σ := [some (.ref p0), some (u), some (.ref pn), none, none, none, none, none, none]) (es_sort (K := K) in1 c2) fun rr H2 e4 r2 => ?_
      have in2 := in1.up e4
      refine s_retS (S := S) (d := leastD (waysL d fr a b)) (σ := [some (.ref p0), some (u), some (.ref pn), some (rr), none, none, none, none, none]) ?_ fun z H3 e5 r3 => q z H3 ((e3.trans e4).trans e5) r3
      intro H3 e5 Q3 q3
      cases r2 with
      | @lst pr vr _ hpr rsr =>
        have hpr2 := (hidP_get hpr).1
        obtain ⟨dpa, _, _⟩ := dp_rows (K := K) (rsr.up hidP_sub)
        have tst : EvT (tTest (tOp (rNeD K) (tVar 3) (tLst tNil))) [some (.ref p0), some (u), some (.ref pn), some (.ref pr), none, none, none, none, none] H3 (!(((everyL d fr a b).map fun w => keyI d w.1).mergeSort (PySem.W.dataLe false encR)).isEmpty) := fun H4 e6 Q4 q4 => ⟨.ref pr, rfl, Nat.zero_le _, fun p5 np5 => by
          have E5 := (e5.trans e6).trans (Ex.new (o := .lst []) np5)
          obtain ⟨dpa, _, _⟩ := dp_rows (K := K) ((rsr.up hidP_sub).up E5)
          refine ⟨.list _, .list [], .lst (.of (E5 _ _ hpr2)) dpa, .lst (.of upd_same) .nil, rows_shaped _, nil_shaped, _, rfl, ?_⟩
          rw [eqv_nilL, List.isEmpty_map]
          exact q4 _ (Ex.new np5)⟩
        refine tst H3 (Ex.refl _) _ fun H4 e6 => ?_
        cases hs : ((everyL d fr a b).map fun w => keyI d w.1).mergeSort (PySem.W.dataLe false encR) with
        | nil =>
          have en : everyL d fr a b = [] := by
            have l := List.length_mergeSort (le := PySem.W.dataLe false encR) ((everyL d fr a b).map fun w => keyI d w.1)
            rw [hs, List.length_map] at l
            exact List.length_eq_zero_iff.mp l.symm
          rw [(every_nil hb).mp en] at q3
          show if (!([] : List (List Int)).isEmpty) = true then _ else _
          exact iteF (q3 .non H4 e6 .non)
        | cons k0 kr =>
          rw [hs] at rsr
          obtain ⟨kin, kle⟩ := first_row hs
          obtain ⟨wk, hwk, rfl⟩ := List.mem_map.mp kin
          have mwk := (mem_every hb wk).mp hwk
          have wk6 := (mem_ways.mp mwk).2
          have same : leastD (waysL d fr a b) = .lst (wk.1.map D.str) := by
            cases hw : waysL d fr a b with
            | nil => rw [hw] at mwk; cases mwk
            | cons w0 r =>
              have m0 : w0 ∈ waysL d fr a b := by rw [hw]; exact List.mem_cons_self
              have l1 := key_first hb hw wk mwk
              have l2 := kle (keyI d w0.1) (List.mem_map.mpr ⟨w0, (mem_every hb w0).mpr m0, rfl⟩)
              have eq := List.le_antisymm l1 l2
              unfold rowR at eq
              injection eq with _ eq
              have b1 := key_back hb (ds := w0.1) fun n hn => open_in (way_names hb m0 n hn)
              have b2 := key_back hb (ds := wk.1) fun n hn => open_in (way_names hb mwk n hn)
              rw [eq, b2] at b1
              show D.lst (w0.1.map D.str) = _
              rw [b1]
          rw [same] at q3
          show if (!(keyI d wk.1 :: kr).isEmpty) = true then _ else _
          rw [if_pos (by rfl)]
          have E4 := e5.trans e6
          cases rsr with
          | @cons x0 _ _ _ r0 rsr =>
            obtain ⟨c, us, rfl, hc, hcs⟩ := (r0.up (hidP_ex E4)).tupD
            cases hcs with
            | cons q0 hcs => cases hcs with
              | cons q1 hcs =>
                cases hcs
                cases q1 with
                | @lst l ks _ hl rl =>
                  have i1 : Ev (tOp (rIxL K) (tVar 3) (tC (.int 0))) [some (.ref p0), some (u), some (.ref pn), some (.ref pr), none, none, none, none, none] H4 (.ref c) := ev_op (ev_var rfl) ev_c (rv_ixL (i := 0) (.of (E4 _ _ hpr2)) (atI_nat (j := 0) rfl))
                  have i2 : EvS S (tOp (rIxT K) (tOp (rIxL K) (tVar 3) (tC (.int 0))) (tC (.int 1))) [some (.ref p0), some (u), some (.ref pn), some (.ref pr), none, none, none, none, none] H4 (.lst ((keyI d wk.1).map D.int)) := es_of (ev_ixT (j := 1) i1 (hc.up hidP_sub) rfl) (.lst hl rl)
                  have c4 := lcS (S := S) (ds := (keyI d wk.1).map D.int) (wi := iList K (tOp (rIxT K) (tOp (rIxL K) (tVar 3) (tC (.int 0))) (tC (.int 1)))) (g := gName 8) (tt := tYes) (te := tOp (rIxL K) (tVar 2) (tVar 8)) (own := [8]) (σ := [some (.ref p0), some (u), some (.ref pn), some (.ref pr), none, none, none, none, none]) (H := H4) (fun _ => true) (fun e => .str ((d.dn[numD e]?).getD Str.empty)) (in2.up E4) (its_list i2) (by rw [List.length_map, keyI_len]; omega) fun S2 y e H5 he in5 e7 x5 ry => by
                    obtain ⟨j, hj, rfl⟩ := List.mem_map.mp he
                    obtain rfl := ry.intD
                    obtain ⟨n, hn, rfl⟩ := List.mem_map.mp hj
                    have mn := open_in (way_names hb mwk n hn)
                    refine ⟨[some (.ref p0), some (u), some (.ref pn), some (.ref pr), none, none, none, none, some (.int ((d.dn.idxOf n : Nat) : Int))], fun Q h => h, rfl, fun H6 e6 Q q => q H6 (Ex.refl _), fun _ => es_of (v := .str n) (ev_op (ev_var rfl) (ev_var rfl) (rv_ixL (i := ((d.dn.idxOf n : Nat) : Int)) (.of (((e4.trans E4).trans e7) _ _ hpn1)) (atI_nat (by unfold sv; rw [List.getElem?_map, (idx_at mn).1]; rfl)))) ?_⟩
                    show RepS S2 H5 (.str n) (.str ((d.dn[((d.dn.idxOf n : Nat) : Int).toNat]?).getD Str.empty))
                    rw [Int.toNat_natCast, (idx_at mn).1]
                    exact .str n
                  rw [List.filter_eq_self.mpr fun _ _ => rfl, List.map_map] at c4
                  have ec : (keyI d wk.1).map ((fun e => D.str ((d.dn[numD e]?).getD Str.empty)) ∘ D.int) = wk.1.map D.str := by
                    conv => rhs; rw [← key_back hb (ds := wk.1) fun n hn => open_in (way_names hb mwk n hn)]
                    rw [List.map_map]
                    rfl
                  rw [ec] at c4
                  exact c4 H4 (Ex.refl _) Q3 fun z H5 e7 r5 => q3 z H5 (e6.trans e7) r5
end
end Kx

set_option Elab.async false
set_option linter.all false
set_option maxRecDepth 100000
set_option maxHeartbeats 400000
namespace Kx
open PySem PySem.Spec PyProof.Rows L2 Evl
/-! ## data as the interpreter compares them -/
mutual
def D.pyd : D → PyData
  | .int i => .int i
  | .str s => .str s
  | .tup ds => .tuple (pyds ds)
  | .lst ds => .list (pyds ds)
  | .bl b => .bool b
  | .non => .none
  | .dic => .none
def pyds : List D → List PyData
  | [] => []
  | d :: r => d.pyd :: pyds r
end
mutual
def D.pk : D → Bool
  | .str s => PyData.strOk s
  | .tup ds => pks ds
  | .lst ds => pks ds
  | .dic => false
  | .int _ => true
  | .bl _ => true
  | .non => true
def pks : List D → Bool
  | [] => true
  | d :: r => d.pk && pks r
end
mutual
def D.deep : D → Nat
  | .tup ds => deeps ds + 1
  | .lst ds => deeps ds + 1
  | .str _ => 0
  | .dic => 0
  | .int _ => 0
  | .bl _ => 0
  | .non => 0
def deeps : List D → Nat
  | [] => 0
  | d :: r => max d.deep (deeps r)
end
theorem pks_iff : ∀ {ds : List D}, pks ds = true ↔ ∀ d ∈ ds, d.pk = true
  | [] => ⟨fun _ d h => (by cases h), fun _ => by unfold pks; rfl⟩
  | x :: r => by
    unfold pks
    rw [Bool.and_eq_true, pks_iff (ds := r)]
    exact ⟨fun ⟨a, b⟩ d hd => (List.mem_cons.mp hd).elim (fun e => e ▸ a) (b d), fun h => ⟨h x List.mem_cons_self, fun d hd => h d (List.mem_cons_of_mem _ hd)⟩⟩
theorem deeps_le {n : Nat} : ∀ {ds : List D}, (∀ d ∈ ds, d.deep ≤ n) → deeps ds ≤ n
  | [], _ => by unfold deeps; exact Nat.zero_le _
  | x :: r, h => by
    have a := h x List.mem_cons_self
    have b := deeps_le (ds := r) fun d hd => h d (List.mem_cons_of_mem _ hd)
    unfold deeps
    omega
mutual
theorem dp_pyd {K : PySem.W.Frag} {H : Hp} : ∀ (d : D) (v : V), d.pk = true → Rep H v d → Dp K H v d.pyd
  | .int i, _, _, .int _ => by unfold D.pyd; exact .int i
  | .str s, _, _, .str _ => by unfold D.pyd; exact .str s
  | .non, _, _, .non => by unfold D.pyd; exact .non
  | .bl b, _, _, .bl _ => by unfold D.pyd; exact .bl b
  | .tup ds, _, h, .tup t r => by
    unfold D.pyd
    exact .tup t.sq (dp_pyds ds _ (by unfold D.pk at h; exact h) r)
  | .lst ds, _, h, .lst t r => by
    unfold D.pyd
    exact .lst (.of t) (dp_pyds ds _ (by unfold D.pk at h; exact h) r)
  | .dic, _, h, _ => by unfold D.pk at h; cases h
theorem dp_pyds {K : PySem.W.Frag} {H : Hp} : ∀ (ds : List D) (vs : List V), pks ds = true → Reps H vs ds → DpAll K H vs (pyds ds)
  | [], _, _, .nil => by unfold pyds; exact .nil
  | d :: ds, _, h, .cons r t => by
    unfold pks at h
    rw [Bool.and_eq_true] at h
    unfold pyds
    exact .cons (dp_pyd d _ h.1 r) (dp_pyds ds _ h.2 t)
end
mutual
theorem pyd_same : ∀ d : D, PyData.eqv d.pyd d.pyd = true
  | .int i => by simp [D.pyd, PyData.eqv]
  | .str s => by simp [D.pyd, PyData.eqv]
  | .non => by simp [D.pyd, PyData.eqv]
  | .dic => by simp [D.pyd, PyData.eqv]
  | .bl b => by simp [D.pyd, PyData.eqv]
  | .tup ds => by
    unfold D.pyd
    simp only [PyData.eqv]
    exact pyds_same ds
  | .lst ds => by
    unfold D.pyd
    simp only [PyData.eqv]
    exact pyds_same ds
theorem pyds_same : ∀ ds : List D, PyData.eqvAll (pyds ds) (pyds ds) = true
  | [] => by simp [pyds, PyData.eqvAll]
  | d :: r => by
    unfold pyds
    simp only [PyData.eqvAll, pyd_same d, pyds_same r, Bool.and_self]
end
mutual
theorem pyd_lay : ∀ d : D, d.pk = true → d.pyd.canLay0 = true
  | .int i, _ => by simp [D.pyd, PyData.canLay0]
  | .non, _ => by simp [D.pyd, PyData.canLay0]
  | .bl b, _ => by simp [D.pyd, PyData.canLay0]
  | .str s, h => by
    unfold D.pk at h
    simp only [D.pyd, PyData.canLay0, h]
  | .tup ds, h => by
    unfold D.pk at h
    unfold D.pyd
    simp only [PyData.canLay0]
    exact pyds_lay ds h
  | .lst ds, h => by
    unfold D.pk at h
    unfold D.pyd
    simp only [PyData.canLay0]
    exact pyds_lay ds h
  | .dic, h => by unfold D.pk at h; cases h
theorem pyds_lay : ∀ ds : List D, pks ds = true → PyData.canLayAll0 (pyds ds) = true
  | [], _ => by simp [pyds, PyData.canLayAll0]
  | d :: r, h => by
    unfold pks at h
    rw [Bool.and_eq_true] at h
    unfold pyds
    simp only [PyData.canLayAll0, pyd_lay d h.1, pyds_lay r h.2, Bool.and_self]
end
mutual
theorem pyd_dep : ∀ d : D, d.pyd.depth ≤ d.deep
  | .int i => by simp [D.pyd, PyData.depth]
  | .non => by simp [D.pyd, PyData.depth]
  | .bl b => by simp [D.pyd, PyData.depth]
  | .str s => by simp [D.pyd, PyData.depth]
  | .dic => by simp [D.pyd, PyData.depth]
  | .tup ds => by
    have := pyds_dep ds
    unfold D.pyd D.deep
    simp only [PyData.depth]
    omega
  | .lst ds => by
    have := pyds_dep ds
    unfold D.pyd D.deep
    simp only [PyData.depth]
    omega
theorem pyds_dep : ∀ ds : List D, PyData.depthAll (pyds ds) ≤ deeps ds
  | [] => by simp [pyds, PyData.depthAll]
  | d :: r => by
    have := pyd_dep d
    have := pyds_dep r
    unfold pyds deeps
    simp only [PyData.depthAll]
    omega
end
theorem pyd_shaped {d : D} (h : d.pk = true) (hd : d.deep ≤ 64) : SeqAt.shaped d.pyd = true := by
  show (PyData.canLay0 d.pyd && decide (PyData.depth d.pyd ≤ 64)) = true
  rw [Bool.and_eq_true]
  exact ⟨pyd_lay d h, decide_eq_true (Nat.le_trans (pyd_dep d) hd)⟩
theorem pyds_nil (ds : List D) : PyData.eqv (D.lst ds).pyd (.list []) = ds.isEmpty := by
  unfold D.pyd
  cases ds <;> simp [pyds, PyData.eqv, PyData.eqvAll]
/-- small enough and plain -/
structure Pln (d : D) : Prop where
  pk : d.pk = true
  dp : d.deep ≤ 60
theorem Pln.sh {d : D} (h : Pln d) : SeqAt.shaped d.pyd = true := pyd_shaped h.pk (Nat.le_trans h.dp (by decide))
theorem pln_lst {n : Nat} {ds : List D} (hn : n ≤ 59) (h : ∀ d ∈ ds, d.pk = true ∧ d.deep ≤ n) : Pln (.lst ds) := ⟨by unfold D.pk; exact pks_iff.mpr fun d hd => (h d hd).1, by
  have := deeps_le fun d hd => (h d hd).2
  unfold D.deep
  omega⟩
theorem pln_tup {n : Nat} {ds : List D} (hn : n ≤ 59) (h : ∀ d ∈ ds, d.pk = true ∧ d.deep ≤ n) : Pln (.tup ds) := ⟨by unfold D.pk; exact pks_iff.mpr fun d hd => (h d hd).1, by
  have := deeps_le fun d hd => (h d hd).2
  unfold D.deep
  omega⟩
theorem leaf_str {s : Str} (h : PyData.strOk s = true) : (D.str s).pk = true ∧ (D.str s).deep ≤ 0 := ⟨by unfold D.pk; exact h, by unfold D.deep; exact Nat.le_refl _⟩
theorem leaf_int (i : Int) : (D.int i).pk = true ∧ (D.int i).deep ≤ 0 := ⟨by unfold D.pk; rfl, by unfold D.deep; exact Nat.le_refl _⟩
theorem row_lst {ss : List Str} (h : ∀ s ∈ ss, PyData.strOk s = true) : (D.lst (ss.map D.str)).pk = true ∧ (D.lst (ss.map D.str)).deep ≤ 1 := by
  constructor
  · unfold D.pk
    exact pks_iff.mpr fun d hd => by
      obtain ⟨s, hs, rfl⟩ := List.mem_map.mp hd
      exact (leaf_str (h s hs)).1
  · have := deeps_le (n := 0) (ds := ss.map D.str) fun d hd => by
      obtain ⟨s, hs, rfl⟩ := List.mem_map.mp hd
      exact (leaf_str (h s hs)).2
    unfold D.deep
    omega
theorem row_tup {ss : List Str} (h : ∀ s ∈ ss, PyData.strOk s = true) : (D.tup (ss.map D.str)).pk = true ∧ (D.tup (ss.map D.str)).deep ≤ 1 := by
  have := row_lst h
  unfold D.pk D.deep at this ⊢
  exact this
section
variable {K : PySem.W.Frag} {S : Addr → Prop} {σ : L2.St} {H H' : Hp} {te tb : TE} {d : D} {ds : List D}
theorem ev_eqS (h1 : EvS S te σ H d) (h2 : EvS S tb σ H d) (p : Pln d) : Ev (tOp (rEqD K) te tb) σ H (.bl true) := fun H1 e Q q =>
  h1 H1 e _ fun v H2 e2 r => h2 H2 (e.trans e2) _ fun u H3 e3 r2 => ⟨d.pyd, d.pyd, dp_pyd d _ p.pk ((r.up (hidP_ex e3)).up hidP_sub), dp_pyd d _ p.pk (r2.up hidP_sub), p.sh, p.sh, by rw [pyd_same]; exact q H3 (e2.trans e3)⟩
theorem ev_neS (h1 : EvS S te σ H d) (h2 : EvS S tb σ H d) (p : Pln d) : Ev (tOp (rNeD K) te tb) σ H (.bl false) := fun H1 e Q q =>
  h1 H1 e _ fun v H2 e2 r => h2 H2 (e.trans e2) _ fun u H3 e3 r2 => ⟨d.pyd, d.pyd, dp_pyd d _ p.pk ((r.up (hidP_ex e3)).up hidP_sub), dp_pyd d _ p.pk (r2.up hidP_sub), p.sh, p.sh, by rw [pyd_same]; exact q H3 (e2.trans e3)⟩
theorem ev_neNilS (h1 : EvS S te σ H (.lst ds)) (p : Pln (.lst ds)) : Ev (tOp (rNeD K) te (tLst tNil)) σ H (.bl (!ds.isEmpty)) := fun H1 e Q q =>
  h1 H1 e _ fun v H2 e2 r => ⟨Nat.zero_le _, fun l nl => ⟨(D.lst ds).pyd, .list [], dp_pyd _ _ p.pk ((r.up hidP_sub).up (Ex.new nl)), .lst (.of upd_same) .nil, p.sh, nil_shaped, by rw [pyds_nil]; exact q _ (e2.trans (Ex.new nl))⟩⟩
theorem ev_eqNilS (h1 : EvS S te σ H (.lst ds)) (p : Pln (.lst ds)) : Ev (tOp (rEqD K) te (tLst tNil)) σ H (.bl ds.isEmpty) := fun H1 e Q q =>
  h1 H1 e _ fun v H2 e2 r => ⟨Nat.zero_le _, fun l nl => ⟨(D.lst ds).pyd, .list [], dp_pyd _ _ p.pk ((r.up hidP_sub).up (Ex.new nl)), .lst (.of upd_same) .nil, p.sh, nil_shaped, by rw [pyds_nil]; exact q _ (e2.trans (Ex.new nl))⟩⟩
/-- not in a list that has it -/
theorem ev_niS (h1 : EvS S te σ H d) (h2 : EvS S tb σ H (.lst ds)) (m : d ∈ ds) (p : Pln (.lst ds)) (pd : Pln d) : Ev (tOp (rNotInD K) te tb) σ H (.bl false) := fun H1 e Q q =>
  h1 H1 e _ fun v H2 e2 r => h2 H2 (e.trans e2) _ fun u H3 e3 r2 => ⟨d.pyd, pyds ds, dp_pyd d _ pd.pk ((r.up (hidP_ex e3)).up hidP_sub), by have := dp_pyd (K := K) _ _ p.pk (r2.up hidP_sub); unfold D.pyd at this; exact this, pd.sh, by have := p.sh; unfold D.pyd at this; exact this, by
    have : ((pyds ds).any fun z => PyData.eqv z d.pyd) = true := by
      have gen : ∀ {ds : List D}, d ∈ ds → ((pyds ds).any fun z => PyData.eqv z d.pyd) = true := fun {ds} m => by
        induction ds with
        | nil => cases m
        | cons x r ih =>
          unfold pyds
          rw [List.any_cons]
          rcases List.mem_cons.mp m with e | m
          · rw [← e, pyd_same]
            rfl
          · rw [ih m, Bool.or_true]
      exact gen m
    rw [this]
    exact q H3 (e2.trans e3)⟩
theorem es_listOf (hin : InS S H) (h : EvS S te σ H (.lst ds)) : EvS S (tCB (rListS K) (tCons te tNil)) σ H (.lst ds) := fun H1 e Q q => h H1 e _ fun v H2 e2 r => by
  cases r with
  | @lst p vs _ hp rs => exact ⟨p, vs, rfl, .inl (.of (hidP_get hp).1), fun l hl => q (.ref l) _ (e2.trans (Ex.new hl)) (.lst (hidP_at upd_same ((hin.up (e.trans e2)).new hl)) (rs.up (hidP_ex (Ex.new hl))))⟩
/-- a, b = x, y -/
theorem s_twoS {D0 : Ends} {tz : TS} {ta : TA} {i j : Nat} {d1 d2 : D} (hin : InS S H) (h : EvAS S ta σ H [d1, d2]) (k : ∀ v1 v2 H1, Ex H H1 → RepS S H1 v1 d1 → RepS S H1 v2 d2 → tz D0 ((σ.set i (some v1)).set j (some v2)) H1) : tSeq (tAsg (tTupF ta) (gTup K 2 (gCons (gName i) (gCons (gName j) gNil)))) tz D0 σ H :=
  es_tup hin h (by show 2 ≤ 100000; decide) H (Ex.refl _) _ fun v H1 e r => g_pair r fun v1 v2 r1 r2 => k v1 v2 H1 e r1 r2
end
end Kx

set_option Elab.async false
set_option linter.all false
set_option maxRecDepth 100000
set_option maxHeartbeats 400000
namespace Kx
open PySem PySem.Spec PyProof.Rows L2 Evl
/-! ## whether a parting is right, by the law -/
theorem path_at {N A : Type} [DecidableEq N] [DecidableEq A] {st : N → A → A → Prop} : ∀ {x : A} {ds : List N} {as : List A} {n : N}, Wy.Path st x ds as → n ∈ ds → ∃ y z, y ∈ x :: as ∧ z ∈ x :: as ∧ st n y z
  | x, m :: ds, y :: as, n, p, h => by
    rcases List.mem_cons.mp h with rfl | h
    · exact ⟨x, y, List.mem_cons_self, List.mem_cons_of_mem _ List.mem_cons_self, p.1⟩
    · obtain ⟨u, v, h1, h2, h3⟩ := path_at p.2 h
      exact ⟨u, v, List.mem_cons_of_mem _ h1, List.mem_cons_of_mem _ h2, h3⟩
  | _, [], _, _, _, h => by cases h
  | _, _ :: _, [], _, p, _ => p.elim
theorem path_nodup {N A : Type} [DecidableEq N] [DecidableEq A] {st : N → A → A → Prop} (hst : ∀ n x y u v, st n x y → st n u v → x = u ∨ x = v) : ∀ {x : A} {ds : List N} {as : List A}, Wy.Path st x ds as → (x :: as).Nodup → ds.Nodup
  | x, n :: ds, y :: as, p, nd => by
    obtain ⟨n1, n2⟩ := List.nodup_cons.mp nd
    refine List.nodup_cons.mpr ⟨fun h => ?_, path_nodup hst p.2 n2⟩
    obtain ⟨u, v, h1, h2, h3⟩ := path_at p.2 h
    rcases hst n x y u v p.1 h3 with e | e
    · exact n1 (e ▸ h1)
    · exact n1 (e ▸ h2)
  | _, [], _, _, _ => .nil
  | _, _ :: _, [], p, _ => p.elim
theorem way_nodup {d : D} {fr : List Str} {a b : Str} {w : List Str × List Str} (hb : d.bld = true) (h : w ∈ waysL d fr a b) : w.1.Nodup := by
  have hw := (mem_ways.mp h).1
  refine path_nodup (fun n x y u v h1 h2 => ?_) hw.1 hw.2.1
  obtain ⟨e, he, e1, _, h1⟩ := (stL_iff hb _ _ _).mp h1
  obtain ⟨g, hg, g1, _, h2⟩ := (stL_iff hb _ _ _).mp h2
  have same : e = g := by
    obtain ⟨q1, q2⟩ := dn_doors hb
    rw [q1] at q2
    obtain ⟨i, hi, rfl⟩ := List.getElem_of_mem he
    obtain ⟨j, hj, rfl⟩ := List.getElem_of_mem hg
    have : ((doorsD d).map (·.1))[i]'(by rw [List.length_map]; exact hi) = ((doorsD d).map (·.1))[j]'(by rw [List.length_map]; exact hj) := by
      rw [List.getElem_map, List.getElem_map, e1, g1]
    have ij := (List.getElem_inj q2).mp this
    subst ij
    rfl
  subst same
  rcases h1 with ⟨a1, a2⟩ | ⟨a1, a2⟩ <;> rcases h2 with ⟨b1, b2⟩ | ⟨b1, b2⟩
  · exact .inl (a1.symm.trans b1)
  · exact .inr (a1.symm.trans b2)
  · exact .inr (a1.symm.trans b2)
  · exact .inl (a1.symm.trans b1)
theorem flat_nodup {α : Type} : ∀ {f : List (List α)}, (∀ p ∈ f, p.Nodup) → f.Pairwise (fun p q => ∀ n ∈ q, n ∉ p) → (f.flatMap id).Nodup
  | [], _, _ => .nil
  | p :: f, h, pw => by
    obtain ⟨p1, p2⟩ := List.pairwise_cons.mp pw
    rw [List.flatMap_cons]
    refine List.nodup_append.mpr ⟨h p List.mem_cons_self, flat_nodup (fun q hq => h q (List.mem_cons_of_mem _ hq)) p2, fun x hx y hy e => ?_⟩
    obtain ⟨q, hq, hyq⟩ := List.mem_flatMap.mp hy
    exact p1 q hq y hyq (e ▸ hx)
theorem dn_ok {d : D} (hb : d.bld = true) : ∀ s ∈ d.dn, PyData.strOk s = true := fun s hs => by
  obtain ⟨as, es, ks, rs, B⟩ := bld_is hb
  rw [B.dn] at hs
  obtain ⟨x, hx, rfl⟩ := List.mem_map.mp hs
  obtain ⟨n, p, q, t, rfl, hn, _⟩ := dr_shape (B.ed x hx)
  exact strOk_nm hn
section
variable {K : PySem.W.Frag} {S : Addr → Prop} {σ : L2.St} {H H' : Hp} {te tb : TE} {d : D} {ds : List D}
theorem ev_isiLT {x : V} (h : Ev te σ H x) (ty : ∀ H1, Ex H H1 → TyX K H1 x (.type "list")) : Ev (tCB (rIsiT K) (tCons te (tCons (tTup (tCons (tC (.ty "list")) (tCons (tC (.ty "tuple")) tNil))) tNil))) σ H (.bl true) := fun H1 e Q q =>
  h H1 e _ fun H2 e2 => ⟨by show 2 ≤ sizeLine; rw [sizeLine_eq]; decide, fun p np => ⟨x, p, [.ty "list", .ty "tuple"], .type "list", [.type "list", .type "tuple"], true, rfl, upd_same, .cons (.ty _) (.cons (.ty _) .nil), ty _ ((e.trans e2).trans (Ex.new np)), kitAny_cons (b := true) (kit_ty (by decide +kernel)) (fun h => by cases h) (fun _ => rfl), q _ (e2.trans (Ex.new np))⟩⟩
end
theorem row_pln {ss : List Str} (h : ∀ s ∈ ss, PyData.strOk s = true) : Pln (.lst (ss.map D.str)) := ⟨(row_lst h).1, Nat.le_trans (row_lst h).2 (by decide)⟩
theorem ones_pln {α : Type} (l : List α) : Pln (.lst (l.map fun _ => D.int 1)) := pln_lst (n := 0) (by decide) fun d hd => by
  obtain ⟨_, _, rfl⟩ := List.mem_map.mp hd
  exact leaf_int 1
theorem row_of (ss : List Str) : D.row (.lst (ss.map D.str)) = ss := by
  show (ss.map D.str).map D.txt = ss
  rw [List.map_map]
  exact List.map_id _
def spPR : Sp := fun vs H Q _ => ∃ (S : Addr → Prop) (v : V) (d : D) (f : Addr) (fr : List Str) (a b : Str) (u z : V), vs = [v, .ref f, u, z] ∧ RepS S H v d ∧ d.bld = true ∧ Txs H f fr ∧ a ∈ areasD d ∧ a ≠ b ∧ RepS S H u (.lst ((everyL d fr a b).map (wayD a))) ∧ RepS S H z (partD d fr a b) ∧ InS S H ∧ ∀ H', Ex H H' → Q (.bl true) H'
section
variable {P : Program} {w : World} {K : PySem.W.Frag} {mg : Str → Option Value} {base : Heap} (T : Txt K mg)
theorem ok_part_right : FnOk P w K mg base CX0 1 T.a_law_parting_right T.d_law_parting_right ["house", "open_ones", "every", "told"] spPR := by
  refine T.F_law_parting_right.ok sc_law_parting_right (fun vs H Q E h => ?_) (fun cdv A outer s H vs Q E hr h => ?_)
  · obtain ⟨S, v, d, f, fr, a, b, u, z, rfl, _⟩ := h
    rfl
  · obtain ⟨S, v, d, f, fr, a, b, u, z, rfl, hv, hb, hf, ha, ab, hu, hz, hin, q⟩ := h
    have nd := sc_law_parting_right.nd
    have hu4 : (A.deeper (envOfC "_law_parting_right" (defScope s_law_parting_right) s.heap.objs.size T.a_law_parting_right cdv)).units + 64 < cLine := by have := hr.un; omega
    have hu5 : (A.deeper (envOfC "_law_parting_right" (defScope s_law_parting_right) s.heap.objs.size T.a_law_parting_right cdv)).units + 65 < cLine := by have := hr.un; omega
    refine ⟨_, (pss_cons (ps_if (PW.pt (pw_or (pt_not (pt_val (pe_isi T.z_isinstance T.z_tuple bo_tuple (pv 3)))) (pw_or (pt_cmpR op_ne (pe_callB call_len_seq (by rfl) T.z_len bo_len (pa_cons (pv 3) pa_nil)) pe_int (nomark _)) (pw_or1 (pt_not (pt_val (pe_callB call_isiT (by rfl) T.z_isinstance bo_isinstance (pa_cons (pe_ix (r := rIxT K) ix_tup (pv 3) pe_int (fun _ _ => rfl)) (pa_cons (pe_tup (pa_cons (pe_bltn (v := .ty "list") (by rfl) T.z_list bo_list rfl) (pa_cons (pe_bltn (v := .ty "tuple") (by rfl) T.z_tuple bo_tuple rfl) pa_nil))) pa_nil))))))))) (pss_one (ps_ret pe_bl)) pss_nil)
      (pss_cons (ps_asg (pe_tupF (pa_cons (pe_callTy call_list_of (by rfl) T.z_list bo_list (pa_cons (pe_ix (r := rIxT K) ix_tup (pv 3) pe_int (fun _ _ => rfl)) pa_nil)) (pa_cons (pe_lc (own := [("one", 8)]) (g := gName 8) (tt := tYes) (te := tCB (rListS K) (tCons (tVar 8) tNil)) (by rfl) nd (pi_list (pe_ix (r := rIxT K) ix_tup (pv 3) pe_int (fun _ _ => rfl))) (blkOk_by (N := ["house", "open_ones", "every", "told", "cut", "rows", "names", "used", "one", "door", "name", "doors", "areas"]) (sc := defScope s_law_parting_right) (by decide +kernel)) (fun _ _ _ _ _ => (pg_name (i := 8) nd rfl (.inl rfl))) (fun _ _ _ _ _ => pts_nil) (fun _ _ _ _ _ => (pe_callTy call_list_of (by rfl) T.z_list bo_list (pa_cons (pv 8) pa_nil)))) pa_nil))) (pg_tup rfl (pgs_cons (pg_name (i := 4) nd rfl (.inr rfl)) (pgs_cons (pg_name (i := 5) nd rfl (.inl rfl)) pgs_nil))))
      (pss_cons (ps_set (i := 6) nd rfl (.inr rfl) (pe_lc (own := [("door", 9)]) (g := gName 9) (tt := tTest (tOp (rIn K false) (tOp (rIxT K) (tVar 9) (tC (.int 0))) (tVar 1))) (te := tOp (rIxT K) (tVar 9) (tC (.int 0))) (by rfl) nd (pi_tup (pe_ix (r := rIxT K) ix_tup (pv 0) pe_int (fun _ _ => rfl))) (blkOk_by (N := ["house", "open_ones", "every", "told", "cut", "rows", "names", "used", "one", "door", "name", "doors", "areas"]) (sc := defScope s_law_parting_right) (by decide +kernel)) (fun _ _ _ _ _ => (pg_name (i := 9) nd rfl (.inl rfl))) (fun _ _ _ _ _ => (pts_one (pt_cmpR (r := rIn K false) op_in_seq (pe_ix (r := rIxT K) ix_tup (pv 9) pe_int (fun _ _ => rfl)) (pv 1) (by rfl)))) (fun _ _ _ _ _ => (pe_ix (r := rIxT K) ix_tup (pv 9) pe_int (fun _ _ => rfl)))))
      (pss_cons (ps_if (PW.pt (pw_or (pt_cmpR (op_neD hu4) (pe_lc (own := [("one", 8)]) (g := gName 8) (tt := tTest (tOp (rIn K true) (tVar 8) (tVar 6))) (te := tVar 8) (by rfl) nd (pi_list (pv 4)) (blkOk_by (N := ["house", "open_ones", "every", "told", "cut", "rows", "names", "used", "one", "door", "name", "doors", "areas"]) (sc := defScope s_law_parting_right) (by decide +kernel)) (fun _ _ _ _ _ => (pg_name (i := 8) nd rfl (.inl rfl))) (fun _ _ _ _ _ => (pts_one (pt_cmpR (r := rIn K true) op_notIn_seq (pv 8) (pv 6) (by rfl)))) (fun _ _ _ _ _ => (pv 8))) (pe_lst pa_nil) (nomark _)) (pw_or1 (pt_cmpR (op_neD hu4) (pv 4) (pe_lc (own := [("name", 10)]) (g := gName 10) (tt := tTest (tOp (rIn K false) (tVar 10) (tVar 4))) (te := tVar 10) (by rfl) nd (pi_list (pv 6)) (blkOk_by (N := ["house", "open_ones", "every", "told", "cut", "rows", "names", "used", "one", "door", "name", "doors", "areas"]) (sc := defScope s_law_parting_right) (by decide +kernel)) (fun _ _ _ _ _ => (pg_name (i := 10) nd rfl (.inl rfl))) (fun _ _ _ _ _ => (pts_one (pt_cmpR (r := rIn K false) op_in_seq (pv 10) (pv 4) (by rfl)))) (fun _ _ _ _ _ => (pv 10))) (nomark _))))) (pss_one (ps_ret pe_bl)) pss_nil)
      (pss_cons (ps_if (pt_cmpR (op_neD hu4) (pe_lc (own := [("doors", 11), ("areas", 12)]) (g := gTup K 2 (gCons (gName 11) (gCons (gName 12) gNil))) (tt := tTest (tOp (rEqD K) (tLc (iList K (tVar 11)) (gName 10) (tTest (tOp (rIn K false) (tVar 10) (tVar 4))) (tC (.int 1)) [10]) (tLst tNil))) (te := tC (.int 1)) (by rfl) nd (pi_list (pv 2)) (blkOk_by (N := ["house", "open_ones", "every", "told", "cut", "rows", "names", "used", "one", "door", "name", "doors", "areas"]) (sc := defScope s_law_parting_right) (by decide +kernel)) (fun _ _ _ _ _ => (pg_tup rfl (pgs_cons (pg_name (i := 11) nd rfl (.inl rfl)) (pgs_cons (pg_name (i := 12) nd rfl (.inl rfl)) pgs_nil)))) (fun _ _ _ _ _ => (pts_one (pt_cmpR (op_eqD hu4) (pe_lc (own := [("name", 10)]) (g := gName 10) (tt := tTest (tOp (rIn K false) (tVar 10) (tVar 4))) (te := tC (.int 1)) (by rfl) nd (pi_list (pv 11)) (blkOk_by (N := ["house", "open_ones", "every", "told", "cut", "rows", "names", "used", "one", "door", "name", "doors", "areas"]) (by rfl)) (fun _ _ _ _ _ => (pg_name (i := 10) nd rfl (.inl rfl))) (fun _ _ _ _ _ => (pts_one (pt_cmpR (r := rIn K false) op_in_seq (pv 10) (pv 4) (by rfl)))) (fun _ _ _ _ _ => pe_int)) (pe_lst pa_nil) (nomark _)))) (fun _ _ _ _ _ => pe_int)) (pe_lst pa_nil) (nomark _)) (pss_one (ps_ret pe_bl)) pss_nil)
      (pss_cons (ps_if (PW.pt (pw_or (pt_cmpR op_ne (pe_callB call_len_seq (by rfl) T.z_len bo_len (pa_cons (pv 5) pa_nil)) (pe_callB call_len_seq (by rfl) T.z_len bo_len (pa_cons (pv 4) pa_nil)) (nomark _)) (pw_or1 (pt_cmpR (op_neD hu4) (pe_lc (own := [("one", 8)]) (g := gName 8) (tt := tTest (tOp (rNotInD K) (tVar 8) (tLc (iList K (tVar 2)) (gTup K 2 (gCons (gName 11) (gCons (gName 12) gNil))) tYes (tVar 11) [11, 12]))) (te := tVar 8) (by rfl) nd (pi_list (pv 5)) (blkOk_by (N := ["house", "open_ones", "every", "told", "cut", "rows", "names", "used", "one", "door", "name", "doors", "areas"]) (sc := defScope s_law_parting_right) (by decide +kernel)) (fun _ _ _ _ _ => (pg_name (i := 8) nd rfl (.inl rfl))) (fun _ _ _ _ _ => (pts_one (pt_cmpR (op_notInD hu5) (pv 8) (pe_lc (own := [("doors", 11), ("areas", 12)]) (g := gTup K 2 (gCons (gName 11) (gCons (gName 12) gNil))) (tt := tYes) (te := tVar 11) (by rfl) nd (pi_list (pv 2)) (blkOk_by (N := ["house", "open_ones", "every", "told", "cut", "rows", "names", "used", "one", "door", "name", "doors", "areas"]) (by rfl)) (fun _ _ _ _ _ => (pg_tup rfl (pgs_cons (pg_name (i := 11) nd rfl (.inl rfl)) (pgs_cons (pg_name (i := 12) nd rfl (.inl rfl)) pgs_nil)))) (fun _ _ _ _ _ => pts_nil) (fun _ _ _ _ _ => (pv 11))) (by rfl)))) (fun _ _ _ _ _ => (pv 8))) (pe_lst pa_nil) (nomark _))))) (pss_one (ps_ret pe_bl)) pss_nil)
      (pss_cons (ps_set (i := 7) nd rfl (.inl rfl) (pe_lst pa_nil))
      (pss_cons (ps_for PassesOwn.never rfl (pi_list (pv 5)) (pg_name (i := 8) nd rfl (.inl rfl)) (pss_one (ps_set (i := 7) nd rfl (.inl rfl) (pe_op op_cat (pv 7) (pv 8)))))
      (pss_one (ps_ret (pe_cmpR op_eq (pe_callB call_len_seq (by rfl) T.z_len bo_len (pa_cons (pv 7) pa_nil)) (pe_lenSetS rfl T.z_len T.z_set (pv 7)) (nomark _)))))))))))), ?_⟩
    obtain ⟨cut, fl, PO⟩ := part_right (fr := fr) hb ha ab
    rw [PO.eq] at hz
    have z0 := hz
    obtain ⟨c, vs, rfl, hc, hcs⟩ := hz.tupD
    have el := every_len (fr := fr) (a := a) (b := b) hb
    have o6 : (openD d fr).length ≤ 6 := by
      have h1 := List.length_filter_le (fun n => amg n fr) d.dn
      have h2 := congrArg List.length (dn_doors hb).1
      rw [List.length_map] at h2
      have h3 := doors_len hb
      unfold openD
      omega
    have cut6 : cut.length ≤ 6 := Nat.le_trans PO.sub.length_le o6
    have ook : ∀ s ∈ openD d fr, PyData.strOk s = true := fun s hs => dn_ok hb s (open_in hs)
    have cok : ∀ s ∈ cut, PyData.strOk s = true := fun s hs => ook s (PO.sub.subset hs)
    cases hcs with
    | @cons v0 _ _ _ r0 hcs => cases hcs with
      | @cons v1 _ _ _ r1 hcs =>
        cases hcs
        have hcT : TupS H c [v0, v1] := hc.up hidP_sub
        have at0 : ∀ {σ : L2.St} {H1 : Hp}, σ[3]? = some (some (.ref c)) → Ex H H1 → Ev (tOp (rIxT K) (tVar 3) (tC (.int 0))) σ H1 v0 := fun h e => ev_ixT (j := 0) (ev_var h) (hcT.up e) rfl
        have at1 : ∀ {σ : L2.St} {H1 : Hp}, σ[3]? = some (some (.ref c)) → Ex H H1 → Ev (tOp (rIxT K) (tVar 3) (tC (.int 1))) σ H1 v1 := fun h e => ev_ixT (j := 1) (ev_var h) (hcT.up e) rfl
        -- of the right kind
        refine s_ifX (σ := [some (v), some (.ref f), some (u), some (.ref c), none, none, none, none, none, none, none, none, none]) (b := false || (false || false)) (et_or (et_is (et_not (et_B (ev_isi (ev_var rfl) (z0.up hidP_sub)))) (by rfl)) fun _ => et_or (a := false) (b := false) (et_test (ev_is (ev_op (ev_cb (ea_cons (ev_var rfl) ea_nil) fun H2 e2 Q2 q2 => ⟨c, [v0, v1], rfl, .inr (hcT.up e2).sq, q2 H2 (Ex.refl _)⟩) ev_c (rv_ne rfl)) (by rfl))) fun _ => et_is (et_not (et_B (ev_isiLT (K := K) (at0 rfl (Ex.refl _)) fun H1 e1 => ((r0.up hidP_sub).up e1).tyX))) rfl) (fun h => by cases h) (fun _ H1 e1 => ?_)
        -- cut, rows
        have in1 := hin.up e1
        have c1 := lcS (S := S) (ds := fl.map rowD) (wi := iList K (tOp (rIxT K) (tVar 3) (tC (.int 1)))) (g := gName 8) (tt := tYes) (te := tCB (rListS K) (tCons (tVar 8) tNil)) (own := [8]) (σ := [some (v), some (.ref f), some (u), some (.ref c), none, none, none, none, none, none, none, none, none]) (H := H1) (fun _ => true) id in1 (its_list (es_of (at1 rfl e1) (r1.up (hidP_ex e1)))) (by rw [List.length_map, PO.len]; omega) fun S' x e H2 he in2 e2 x2 rx => by
          obtain ⟨p, hp, rfl⟩ := List.mem_map.mp he
          exact ⟨[some (v), some (.ref f), some (u), some (.ref c), none, none, none, none, some (x), none, none, none, none], fun Q h => h, rfl, fun H6 e6 Q q => q H6 (Ex.refl _), fun _ => es_listOf in2 (es_of (ev_var rfl) rx)⟩
        rw [List.filter_eq_self.mpr fun _ _ => rfl, List.map_id] at c1
        refine s_twoS (K := K) (S := S) (σ := [some (v), some (.ref f), some (u), some (.ref c), none, none, none, none, none, none, none, none, none]) in1 (eas_cons (es_listOf in1 (es_of (at0 rfl e1) (r0.up (hidP_ex e1)))) (eas_cons c1 eas_nil)) fun vc vr H2 e2 rc rr => ?_
        have in2 := in1.up e2
        have E2 := e1.trans e2
        have vcR : ∃ pc, vc = .ref pc := by
          cases rc with
          | @lst pc _ _ _ _ => exact ⟨pc, rfl⟩
        obtain ⟨pc, rfl⟩ := vcR
        have hpc : H2 pc = some (.lst (sv cut)) := by
          cases rc with
          | @lst _ vs _ h1 s1 =>
            rw [strs_of_reps s1] at h1
            exact (hidP_get h1).1
        -- the names
        obtain ⟨as, es, ks, rs, B⟩ := bld_is hb
        obtain ⟨p0, vs0, b0, ws, rfl, ha0, h2, hbt, hbs⟩ := door_at B (hv.up (hidP_ex E2))
        have en : EvS S (tOp (rIxT K) (tVar 0) (tC (.int 2))) [some (.ref p0), some (.ref f), some (u), some (.ref c), some (.ref pc), some (vr), none, none, none, none, none, none, none] H2 (.tup es) := es_of (ev_ixT (j := 2) (ev_var rfl) (ha0.up hidP_sub) h2) (.tup hbt hbs)
        have c2 := lcS (S := S) (ds := es) (wi := iTup K (tOp (rIxT K) (tVar 0) (tC (.int 2)))) (g := gName 9) (tt := tTest (tOp (rIn K false) (tOp (rIxT K) (tVar 9) (tC (.int 0))) (tVar 1))) (te := tOp (rIxT K) (tVar 9) (tC (.int 0))) (own := [9]) (σ := [some (.ref p0), some (.ref f), some (u), some (.ref c), some (.ref pc), some (vr), none, none, none, none, none, none, none]) (H := H2) (fun e => amg e.fst.txt fr) (fun e => .str e.fst.txt) in2 (its_tup en) (by have := B.e6; omega) fun S' x e H3 he in3 e3 x3 rx => by
          obtain ⟨n, a1, b1, s1, rfl, _⟩ := dr_shape (B.ed e he)
          obtain ⟨c, us, rfl, hc, hcs⟩ := rx.tupD
          cases hcs with
          | cons q0 _ =>
            obtain rfl := q0.strD
            have i0 : ∀ {H4 : Hp}, Ex H3 H4 → Ev (tOp (rIxT K) (tVar 9) (tC (.int 0))) _ H4 (.str n) := fun e => ev_ixT (j := 0) (ev_var (σ := [some (.ref p0), some (.ref f), some (u), some (.ref c), some (.ref pc), some (vr), none, none, none, some (.ref c), none, none, none]) rfl) ((hc.up hidP_sub).up e) rfl
            exact ⟨_, fun Q h => h, rfl, et_test (ev_op (i0 (Ex.refl _)) (ev_var rfl) (rv_inTx (txs_up hf (E2.trans e3)))), fun _ => es_of (i0 (Ex.refl _)) (.str n)⟩
        have eno : (es.filter fun e => amg e.fst.txt fr).map (fun e => D.str e.fst.txt) = (openD d fr).map D.str := by
          unfold openD
          rw [B.dn, List.filter_map, List.map_map]
          rfl
        rw [eno] at c2
        refine s_asgS (S := S) (σ := [some (.ref p0), some (.ref f), some (u), some (.ref c), some (.ref pc), some (vr), none, none, none, none, none, none, none]) c2 fun nn H3 e3 rn => ?_
        have in3 := in2.up e3
        have E3 := E2.trans e3
        cases rn with
        | @lst pn vn _ hpn rsn =>
          rw [strs_of_reps rsn] at hpn
          have hpn3 := (hidP_get hpn).1
          have hpc3 := e3 _ _ hpc
          have rc3 := rc.up (hidP_ex e3)
          have rr3 := rr.up (hidP_ex e3)
          have hu3 := hu.up (hidP_ex E3)
          -- the cut is of the names, in their order
          have c3 := lcS (S := S) (ds := cut.map D.str) (wi := iList K (tVar 4)) (g := gName 8) (tt := tTest (tOp (rIn K true) (tVar 8) (tVar 6))) (te := tVar 8) (own := [8]) (σ := [some (.ref p0), some (.ref f), some (u), some (.ref c), some (.ref pc), some (vr), some (.ref pn), none, none, none, none, none, none]) (H := H3) (fun e => !amg e.txt (openD d fr)) id in3 (its_list (es_of (ev_var rfl) rc3)) (by rw [List.length_map]; omega) fun S' x e H4 he in4 e4 x4 rx => by
            obtain ⟨n, hn, rfl⟩ := List.mem_map.mp he
            obtain rfl := rx.strD
            exact ⟨[some (.ref p0), some (.ref f), some (u), some (.ref c), some (.ref pc), some (vr), some (.ref pn), none, some (.str n), none, none, none, none], fun Q h => h, rfl, et_test (ev_op (ev_var rfl) (ev_var rfl) (rv_niTx (.inl (e4 _ _ hpn3)))), fun _ => es_of (ev_var rfl) (.str n)⟩
          have ec3 : (cut.map D.str).filter (fun e => !amg e.txt (openD d fr)) = [] := List.filter_eq_nil_iff.mpr fun e he => by
            obtain ⟨n, hn, rfl⟩ := List.mem_map.mp he
            show ¬ (!amg n (openD d fr)) = true
            rw [amg_iff.mpr (PO.sub.subset hn)]
            decide
          rw [ec3, List.map_nil] at c3
          have c4 := fun {H4 : Hp} (e4 : Ex H3 H4) => lcS (S := S) (ds := (openD d fr).map D.str) (wi := iList K (tVar 6)) (g := gName 10) (tt := tTest (tOp (rIn K false) (tVar 10) (tVar 4))) (te := tVar 10) (own := [10]) (σ := [some (.ref p0), some (.ref f), some (u), some (.ref c), some (.ref pc), some (vr), some (.ref pn), none, none, none, none, none, none]) (H := H4) (fun e => amg e.txt cut) id (in3.up e4) (its_list (es_of (ev_var rfl) (.lst (hidP_ex e4 _ _ hpn) (reps_strs _)))) (by rw [List.length_map]; omega) fun S' x e H5 he in5 e5 x5 rx => by
            obtain ⟨n, hn, rfl⟩ := List.mem_map.mp he
            obtain rfl := rx.strD
            exact ⟨[some (.ref p0), some (.ref f), some (u), some (.ref c), some (.ref pc), some (vr), some (.ref pn), none, none, none, some (.str n), none, none], fun Q h => h, rfl, et_test (ev_op (ev_var rfl) (ev_var rfl) (rv_inTx (.inl ((e4.trans e5) _ _ hpc3)))), fun _ => es_of (ev_var rfl) (.str n)⟩
          have ec4 : (((openD d fr).map D.str).filter fun e => amg e.txt cut).map id = cut.map D.str := by
            rw [List.map_id, List.filter_map]
            congr 1
            exact sub_filter PO.sub ((dn_doors hb).2.filter _) _ fun x => by
              show amg x cut = decide (x ∈ cut)
              rw [Bool.eq_iff_iff, amg_iff, decide_eq_true_iff]
          refine s_ifX (σ := [some (.ref p0), some (.ref f), some (u), some (.ref c), some (.ref pc), some (vr), some (.ref pn), none, none, none, none, none, none]) (b := false || false) (et_or (a := false) (b := false) (et_test (ev_neNilS c3 (row_pln (ss := []) fun s h => by cases h))) fun _ => et_test fun H4 e4 Q4 q4 => ev_neS (es_of (ev_var rfl) (rc3.up (hidP_ex e4))) (by have c4 := c4 e4; rw [ec4] at c4; exact c4) (row_pln cok) H4 (Ex.refl _) Q4 q4) (fun h => by cases h) (fun _ H4 e4 => ?_)
          have in4 := in3.up e4
          -- no way without a door of it
          have c5 := lcS (S := S) (ds := (everyL d fr a b).map (wayD a)) (wi := iList K (tVar 2)) (g := gTup K 2 (gCons (gName 11) (gCons (gName 12) gNil))) (tt := tTest (tOp (rEqD K) (tLc (iList K (tVar 11)) (gName 10) (tTest (tOp (rIn K false) (tVar 10) (tVar 4))) (tC (.int 1)) [10]) (tLst tNil))) (te := tC (.int 1)) (own := [11, 12]) (σ := [some (.ref p0), some (.ref f), some (u), some (.ref c), some (.ref pc), some (vr), some (.ref pn), none, none, none, none, none, none]) (H := H4) (fun e => (e.fst.row.filter fun n => amg n cut).isEmpty) (fun _ => .int 1) in4 (its_list (es_of (ev_var rfl) (hu3.up (hidP_ex e4)))) (by rw [List.length_map]; omega) fun S' x e H5 he in5 e5 x5 rx => by
            obtain ⟨w0, hw0, rfl⟩ := List.mem_map.mp he
            obtain ⟨c7, l, m, rfl, hc7, hl, hm⟩ := way_at rx
            have w6 := (mem_ways.mp ((mem_every hb w0).mp hw0)).2
            have c6 := lcS (S := S') (ds := w0.1.map D.str) (wi := iList K (tVar 11)) (g := gName 10) (tt := tTest (tOp (rIn K false) (tVar 10) (tVar 4))) (te := tC (.int 1)) (own := [10]) (σ := [some (.ref p0), some (.ref f), some (u), some (.ref c), some (.ref pc), some (vr), some (.ref pn), none, none, none, none, some (.ref l), some (.ref m)]) (H := H5) (fun e => amg e.txt cut) (fun _ => .int 1) in5 (its_list (es_of (ev_var rfl) (.lst hl (reps_strs _)))) (by rw [List.length_map]; omega) fun S2 y e H6 he in6 e6 x6 ry => by
              obtain ⟨n, hn, rfl⟩ := List.mem_map.mp he
              obtain rfl := ry.strD
              exact ⟨[some (.ref p0), some (.ref f), some (u), some (.ref c), some (.ref pc), some (vr), some (.ref pn), none, none, none, some (.str n), some (.ref l), some (.ref m)], fun Q h => h, rfl, et_test (ev_op (ev_var rfl) (ev_var rfl) (rv_inTx (.inl (((e4.trans e5).trans e6) _ _ hpc3)))), fun _ => es_of ev_c (.int 1)⟩
            refine ⟨[some (.ref p0), some (.ref f), some (u), some (.ref c), some (.ref pc), some (vr), some (.ref pn), none, none, none, none, some (.ref l), some (.ref m)], fun Q h => ⟨c7, _, rfl, (hc7.up hidP_sub).sq, rfl, .ref l, _, rfl, .ref m, _, rfl, rfl, h⟩, rfl, et_test (ev_is (ev_eqNilS c6 (ones_pln _)) ?_), fun _ => es_of ev_c (.int 1)⟩
            rw [show D.fst (wayD a w0) = .lst (w0.1.map D.str) from rfl, row_of, List.isEmpty_map, List.filter_map, List.isEmpty_map]
            rfl
          have ec5 : ((everyL d fr a b).map (wayD a)).filter (fun e => (e.fst.row.filter fun n => amg n cut).isEmpty) = [] := List.filter_eq_nil_iff.mpr fun e he => by
            obtain ⟨w0, hw0, rfl⟩ := List.mem_map.mp he
            obtain ⟨n, hn1, hn2⟩ := PO.hit w0 ((mem_every hb w0).mp hw0)
            rw [show D.fst (wayD a w0) = .lst (w0.1.map D.str) from rfl, row_of]
            intro h
            have := List.isEmpty_iff.mp h
            have m : n ∈ w0.1.filter fun n => amg n cut := List.mem_filter.mpr ⟨hn1, amg_iff.mpr hn2⟩
            rw [this] at m
            cases m
          rw [ec5, List.map_nil] at c5
          refine s_ifX (σ := [some (.ref p0), some (.ref f), some (u), some (.ref c), some (.ref pc), some (vr), some (.ref pn), none, none, none, none, none, none]) (b := false) (et_test (ev_neNilS c5 (row_pln (ss := []) fun s h => by cases h))) (fun h => by cases h) (fun _ H5 e5 => ?_)
          have in5 := in4.up e5
          have E5 := e4.trans e5
          have rr5 := rr3.up (hidP_ex E5)
          have rr5b := rr5
          cases rr5b with
          | @lst pr vrs _ hpr rsr =>
            have wok : ∀ w ∈ everyL d fr a b, ∀ s ∈ w.1, PyData.strOk s = true := fun w hw s hs => ook s (way_names hb ((mem_every hb w).mp hw) s hs)
            have ev_rows : ∀ {p : List Str}, p ∈ fl → ∃ w ∈ everyL d fr a b, w.1 = p := fun {p} hp => by
              obtain ⟨w, hw, e⟩ := PO.mem p hp
              exact ⟨w, (mem_every hb w).mpr hw, e⟩
            -- as many rows as doors, and all of them are ways
            have c8 := lcS (S := S) (ds := fl.map rowD) (wi := iList K (tVar 5)) (g := gName 8) (tt := tTest (tOp (rNotInD K) (tVar 8) (tLc (iList K (tVar 2)) (gTup K 2 (gCons (gName 11) (gCons (gName 12) gNil))) tYes (tVar 11) [11, 12]))) (te := tVar 8) (own := [8]) (σ := [some (.ref p0), some (.ref f), some (u), some (.ref c), some (.ref pc), some (.ref pr), some (.ref pn), none, none, none, none, none, none]) (H := H5) (fun _ => false) id in5 (its_list (es_of (ev_var rfl) rr5)) (by rw [List.length_map, PO.len]; omega) fun S' x e H6 he in6 e6 x6 rx => by
              obtain ⟨p, hp, rfl⟩ := List.mem_map.mp he
              obtain ⟨w1, hw1, rfl⟩ := ev_rows hp
              refine ⟨[some (.ref p0), some (.ref f), some (u), some (.ref c), some (.ref pc), some (.ref pr), some (.ref pn), none, some (x), none, none, none, none], fun Q h => h, rfl, et_test ?_, fun h => by cases h⟩
              have c9 := lcS (S := S') (ds := (everyL d fr a b).map (wayD a)) (wi := iList K (tVar 2)) (g := gTup K 2 (gCons (gName 11) (gCons (gName 12) gNil))) (tt := tYes) (te := tVar 11) (own := [11, 12]) (σ := [some (.ref p0), some (.ref f), some (u), some (.ref c), some (.ref pc), some (.ref pr), some (.ref pn), none, some (x), none, none, none, none]) (H := H6) (fun _ => true) D.fst in6 (its_list (es_of (ev_var rfl) ((hu3.up (hidP_ex E5)).up x6))) (by rw [List.length_map]; omega) fun S2 y e H7 he in7 e7 x7 ry => by
                obtain ⟨w0, _, rfl⟩ := List.mem_map.mp he
                obtain ⟨c7, l, m, rfl, hc7, hl, hm⟩ := way_at ry
                exact ⟨[some (.ref p0), some (.ref f), some (u), some (.ref c), some (.ref pc), some (.ref pr), some (.ref pn), none, some (x), none, none, some (.ref l), some (.ref m)], fun Q h => ⟨c7, _, rfl, (hc7.up hidP_sub).sq, rfl, .ref l, _, rfl, .ref m, _, rfl, rfl, h⟩, rfl, fun H6 e6 Q q => q H6 (Ex.refl _), fun _ => es_of (ev_var rfl) (.lst hl (reps_strs _))⟩
              rw [List.filter_eq_self.mpr fun _ _ => rfl, List.map_map] at c9
              refine ev_niS (es_of (ev_var rfl) rx) c9 (List.mem_map.mpr ⟨w1, hw1, rfl⟩) (pln_lst (n := 1) (by decide) fun d hd => ?_) (row_pln (wok w1 hw1))
              obtain ⟨w2, hw2, rfl⟩ := List.mem_map.mp hd
              exact row_lst (wok w2 hw2)
            rw [List.filter_eq_nil_iff.mpr fun _ _ => by decide, List.map_nil] at c8
            have vrl : vrs.length = cut.length := by rw [rsr.length, List.length_map, PO.len]
            have svc : (sv cut).length = cut.length := List.length_map _
            refine s_ifX (σ := [some (.ref p0), some (.ref f), some (u), some (.ref c), some (.ref pc), some (.ref pr), some (.ref pn), none, none, none, none, none, none]) (b := false || false) (et_or (a := false) (b := false) (et_test (ev_is (ev_op (ev_lenT (ev_var rfl) (.inl (hidP_get hpr).1)) (ev_lenT (ev_var rfl) (.inl (E5 _ _ hpc3))) (rv_ne rfl)) (by rw [vrl, svc, decide_eq_true rfl]; rfl))) fun _ => et_test (ev_neNilS c8 (row_pln (ss := []) fun s h => by cases h))) (fun h => by cases h) (fun _ H6 e6 => ?_)
            -- no door twice
            have in6 := in5.up e6
            refine s_asgS (S := S) (σ := [some (.ref p0), some (.ref f), some (u), some (.ref c), some (.ref pc), some (.ref pr), some (.ref pn), none, none, none, none, none, none]) (es_lst in6 eas_nil (by decide)) fun us0 H7 e7 ru0 => ?_
            have ndf : (fl.flatMap id).Nodup := flat_nodup (fun p hp => by
              obtain ⟨w1, hw1, rfl⟩ := PO.mem p hp
              exact way_nodup hb hw1) PO.pw
            have f6 : (fl.flatMap id).length ≤ 6 := Nat.le_trans (Wy.nodup_le _ _ ndf fun n hn => by
              obtain ⟨p, hp, hnp⟩ := List.mem_flatMap.mp hn
              obtain ⟨w1, hw1, rfl⟩ := PO.mem p hp
              exact way_names hb hw1 n hnp) o6
            refine q_forS (S := S) (its_list (es_of (ev_var (σ := [some (.ref p0), some (.ref f), some (u), some (.ref c), some (.ref pc), some (.ref pr), some (.ref pn), some (us0), none, none, none, none, none]) rfl) (rr5.up (hidP_ex (e6.trans e7))))) (fun H8 i σ' H' => ∃ (y7 : V) (y8 : Option V), σ' = [some (.ref p0), some (.ref f), some (u), some (.ref c), some (.ref pc), some (.ref pr), some (.ref pn), some (y7), y8, none, none, none, none] ∧ Ex H7 H' ∧ Ex (hidP S H8) (hidP S H') ∧ RepS S H' y7 (.lst (((fl.take i).flatMap id).map D.str)))
              (fun H8 e8 => ⟨us0, none, rfl, e8, Ex.refl _, ru0.up (hidP_ex e8)⟩) (fun H8 i σ' H' e8 ⟨_, _, _, _, x8, _⟩ => x8) (fun H8 i e0 x σ' H' e8 he ⟨y7, y8, es', e', x8, ry⟩ rx => ?_) (fun H8 σ' H' e8 ⟨y7, y8, es', e', x8, ry⟩ => ?_)
            · subst es'
              rw [List.getElem?_map] at he
              obtain ⟨p, hp, rfl⟩ := Option.map_eq_some_iff.mp he
              have ft := flat_take (G := id) hp
              have fs := flat_succ (G := id) hp
              refine s_asgSN (S := S) (σ := [some (.ref p0), some (.ref f), some (u), some (.ref c), some (.ref pc), some (.ref pr), some (.ref pn), some (y7), some (x), none, none, none, none]) (es_catL ((in6.up e7).up e') (es_of (ev_var rfl) ry) (es_of (ev_var rfl) rx) (by rw [List.length_map, List.length_map]; have : (id p).length = p.length := rfl; omega)) fun y9 H9 e9 r9 => ⟨_, _, rfl, e'.trans e9, x8.trans (hidP_ex e9), ?_⟩
              rw [fs, List.map_append]
              exact r9
            · subst es'
              rw [List.length_map, List.take_length] at ry
              have ryb := ry
              cases ryb with
              | @lst py vy _ hpy rsy =>
                rw [strs_of_reps rsy] at hpy
                have hpy1 := (hidP_get hpy).1
                refine s_ret (v := .bl true) (ev_is (ev_op (ev_lenT (ev_var (σ := [some (.ref p0), some (.ref f), some (u), some (.ref c), some (.ref pc), some (.ref pr), some (.ref pn), some (.ref py), y8, none, none, none, none]) rfl) (.inl hpy1)) (ev_lenSetS (xs := fl.flatMap id) (ev_var rfl) (.inl (.of hpy1)) (by omega)) (rv_eq rfl)) ?_) fun H9 e9 => q H9 ((((E3.trans E5).trans e6).trans (e7.trans e')).trans e9)
                have : (fm (fl.flatMap id)).length = (fl.flatMap id).length := (fm_nodup _).mpr ndf
                rw [this, show (sv (fl.flatMap id)).length = (fl.flatMap id).length from List.length_map _]
                exact congrArg V.bl (decide_eq_true rfl)
end
end Kx

set_option Elab.async false
set_option linter.all false
set_option maxRecDepth 100000
set_option maxHeartbeats 400000
namespace Kx
open PySem PySem.Spec PyProof.Rows L2 Evl
/-! ## the areas that all ways have, by the law -/
theorem sc_ln : FnScope ["every", "first", "area", "doors", "areas"] ["every"] (defScope s_law_narrow) := ⟨rfl, rfl, rfl, by decide +kernel, rfl, by decide +kernel, by decide +kernel⟩
def spLN : Sp := fun vs H Q _ => ∃ (S : Addr → Prop) (u : V) (L : List (List Str × List Str)) (a : Str), vs = [u] ∧ RepS S H u (.lst (L.map (wayD a))) ∧ L ≠ [] ∧ L.length ≤ 7776 ∧ (∀ w ∈ L, w.2.length ≤ 6) ∧ InS S H ∧ ∀ z H', Ex H H' → RepS S H' z (.tup ((narL L L a).map D.str)) → Q z H'
section
variable {P : Program} {w : World} {K : PySem.W.Frag} {mg : Str → Option Value} {base : Heap} (T : Txt K mg)
theorem ok_law_narrow : FnOk P w K mg base CX0 1 T.a_law_narrow T.d_law_narrow ["every"] spLN := by
  refine T.F_law_narrow.ok sc_ln (fun vs H Q E h => ?_) (fun cdv A outer s H vs Q E hr h => ?_)
  · obtain ⟨S, u, L, a, rfl, _⟩ := h
    rfl
  · obtain ⟨S, u, L, a, rfl, hu, ne, l7, w6, hin, q⟩ := h
    have nd := sc_ln.nd
    have hu4 : (A.deeper (envOfC "_law_narrow" (defScope s_law_narrow) s.heap.objs.size T.a_law_narrow cdv)).units + 64 < cLine := by have := hr.un; omega
    refine ⟨_, (pss_cons (ps_set (i := 1) nd rfl (.inl rfl) (pe_ix (r := rIxT K) ix_tup (pe_ix (r := rIxL K) ix_list (pv 0) pe_int (fun _ _ => rfl)) pe_int (fun _ _ => rfl)))
      (pss_one (ps_ret (pe_callTy call_tupF (by rfl) T.z_tuple bo_tuple (pa_cons (pe_lc (own := [("area", 2)]) (g := gName 2) (tt := tTest (tOp (rEqD K) (tLc (iList K (tVar 0)) (gTup K 2 (gCons (gName 3) (gCons (gName 4) gNil))) (tTest (tOp (rIn K true) (tVar 2) (tVar 4))) (tC (.int 1)) [3, 4]) (tLst tNil))) (te := tVar 2) (by rfl) nd (pi_list (pe_slice sl_list (pv 1) (po_some pe_int) (po_some (pe_un un_neg pe_int)))) (blkOk_by (N := ["every", "first", "area", "doors", "areas"]) (sc := defScope s_law_narrow) (by decide +kernel)) (fun _ _ _ _ _ => (pg_name (i := 2) nd rfl (.inr rfl))) (fun _ _ _ _ _ => (pts_one (pt_cmpR (op_eqD hu4) (pe_lc (own := [("doors", 3), ("areas", 4)]) (g := gTup K 2 (gCons (gName 3) (gCons (gName 4) gNil))) (tt := tTest (tOp (rIn K true) (tVar 2) (tVar 4))) (te := tC (.int 1)) (by rfl) nd (pi_list (pv 0)) (blkOk_by (N := ["every", "first", "area", "doors", "areas"]) (by rfl)) (fun _ _ _ _ _ => (pg_tup rfl (pgs_cons (pg_name (i := 3) nd rfl (.inl rfl)) (pgs_cons (pg_name (i := 4) nd rfl (.inl rfl)) pgs_nil)))) (fun _ _ _ _ _ => (pts_one (pt_cmpR (r := rIn K true) op_notIn_seq (pv 2) (pv 4) (by rfl)))) (fun _ _ _ _ _ => pe_int)) (pe_lst pa_nil) (nomark _)))) (fun _ _ _ _ _ => (pv 2))) pa_nil))))), ?_⟩
    cases L with
    | nil => exact absurd rfl ne
    | cons w0 r =>
      have hu0 := hu
      cases hu0 with
      | @lst l vs _ hl rs =>
        cases rs with
        | @cons x0 _ _ _ r0 rs =>
          obtain ⟨c, l1, m1, rfl, hc, h1, h2⟩ := way_at r0
          have i1 : Ev (tOp (rIxL K) (tVar 0) (tC (.int 0))) [some (.ref l), none, none, none, none] H (.ref c) := ev_op (ev_var rfl) ev_c (rv_ixL (i := 0) (.of (hidP_get hl).1) (atI_nat (j := 0) rfl))
          refine s_asgX (σ := [some (.ref l), none, none, none, none]) (v := .ref m1) (ev_ixT (j := 1) i1 (hc.up hidP_sub) rfl) fun H1 e1 => ?_
          have in1 := hin.up e1
          have hu1 : RepS S H1 (.ref l) (.lst ((w0 :: r).map (wayD a))) := hu.up (hidP_ex e1)
          have h21 := hidP_ex e1 _ _ h2
          have w60 := w6 w0 List.mem_cons_self
          have sl : EvS S (tSl (rSlL K) (tVar 1) (tPart (tC (.int 1))) (tPart (tUn (rU fun i => .int (-i)) (tC (.int 1))))) [some (.ref l), some (.ref m1), none, none, none] H1 (.lst ((cutX (a :: w0.2) (some 1) (some (-1))).map D.str)) := fun H5 e5 Q1 q1 =>
            el_sl (K := K) (ev_var rfl) (eo_some ev_c) (eo_some (ev_un ev_c fun H1 e Q q => ⟨1, rfl, q H1 (Ex.refl _)⟩)) (.of (hidP_get h21).1) H5 e5 _ fun p1 H6 fp e6 hp1 => q1 (.ref p1) H6 e6 (.lst (hidP_at hp1 ((in1.up e5).new fp)) (by
              have c := (reps_strs (H := hidP S H6) (a :: w0.2)).cut (some 1) (some (-1))
              have e : cutX ((a :: w0.2).map D.str) (some 1) (some (-1)) = (cutX (a :: w0.2) (some 1) (some (-1))).map D.str := by
                unfold cutX
                rw [List.length_map, List.map_take, List.map_drop]
              rw [e] at c
              exact c))
          have cl : (cutX (a :: w0.2) (some 1) (some (-1))).length ≤ 100 := by
            unfold cutX
            rw [List.length_take, List.length_drop, List.length_cons]
            omega
          have c6 := lcS (S := S) (ds := (cutX (a :: w0.2) (some 1) (some (-1))).map D.str) (wi := iList K (tSl (rSlL K) (tVar 1) (tPart (tC (.int 1))) (tPart (tUn (rU fun i => .int (-i)) (tC (.int 1)))))) (g := gName 2) (tt := tTest (tOp (rEqD K) (tLc (iList K (tVar 0)) (gTup K 2 (gCons (gName 3) (gCons (gName 4) gNil))) (tTest (tOp (rIn K true) (tVar 2) (tVar 4))) (tC (.int 1)) [3, 4]) (tLst tNil))) (te := tVar 2) (own := [2]) (σ := [some (.ref l), some (.ref m1), none, none, none]) (H := H1) (fun d1 => (w0 :: r).all fun w => amg d1.txt (a :: w.2)) id in1 (its_list sl) (by rw [List.length_map]; omega) fun S' y d1 H6 hd1 in6 e6 x6 ry => by
            obtain ⟨s0, _, rfl⟩ := List.mem_map.mp hd1
            obtain rfl := ry.strD
            have c7 := lcS (S := S') (ds := (w0 :: r).map (wayD a)) (wi := iList K (tVar 0)) (g := gTup K 2 (gCons (gName 3) (gCons (gName 4) gNil))) (tt := tTest (tOp (rIn K true) (tVar 2) (tVar 4))) (te := tC (.int 1)) (own := [3, 4]) (σ := [some (.ref l), some (.ref m1), some (.str s0), none, none]) (H := H6) (fun d2 => !amg s0 (metD d2)) (fun _ => .int 1) in6 (its_list (es_of (ev_var rfl) (hu1.up x6))) (by rw [List.length_map]; omega) fun S2 z d2 H7 hd2 in7 e7 x7 rz => by
              obtain ⟨w1, _, rfl⟩ := List.mem_map.mp hd2
              obtain ⟨c1, l2, m2, rfl, hc1, hl1, hm1⟩ := way_at rz
              exact ⟨[some (.ref l), some (.ref m1), some (.str s0), some (.ref l2), some (.ref m2)], fun Q h => ⟨c1, _, rfl, (hc1.up hidP_sub).sq, rfl, .ref l2, _, rfl, .ref m2, _, rfl, rfl, h⟩, rfl, by rw [metD_way]; exact et_test (ev_op (ev_var rfl) (ev_var rfl) (rv_niTx (.inl (hidP_get hm1).1))), fun _ => es_of ev_c (.int 1)⟩
            refine ⟨[some (.ref l), some (.ref m1), some (.str s0), none, none], fun Q h => h, rfl, et_test (ev_is (ev_eqNilS c7 (ones_pln _)) ?_), fun _ => es_of (ev_var rfl) (.str s0)⟩
            congr 1
            rw [List.isEmpty_map, List.filter_map, List.isEmpty_map, Bool.eq_iff_iff, List.isEmpty_iff, List.filter_eq_nil_iff, List.all_eq_true]
            refine ⟨fun h w hw => ?_, fun h w hw => ?_⟩
            · have := h w hw
              show amg s0 (a :: w.2) = true
              cases h3 : amg s0 (a :: w.2) with
              | true => rfl
              | false =>
                refine absurd ?_ this
                show (!amg s0 (metD (wayD a w))) = true
                rw [metD_way, h3]
                rfl
            · show ¬ (!amg s0 (metD (wayD a w))) = true
              have h3 : amg s0 (a :: w.2) = true := h w hw
              rw [metD_way, h3]
              decide
          rw [List.map_id, List.filter_map] at c6
          refine s_retS (S := S) (σ := [some (.ref l), some (.ref m1), none, none, none]) (es_tupOf (K := K) in1 c6) fun z H6 e6 rz => q z H6 (e1.trans e6) rz
end
end Kx

set_option Elab.async false
set_option linter.all false
set_option maxRecDepth 100000
set_option maxHeartbeats 400000
namespace Kx
open PySem PySem.Spec PyProof.Rows L2 Evl
/-! ## whether the parts are told right -/
/-- the lists of a heap -/
def lsS (H : Hp) : Addr → Prop := fun a => ∃ xs, H a = some (.lst xs)
theorem lsS_in {H : Hp} : InS (lsS H) H := fun a ⟨xs, h⟩ n => by rw [h] at n; cases n
theorem repS_imm {S : Addr → Prop} {H : Hp} {v : V} {d : D} (r : Rep H v d) (im : d.imm = true) (h : ∀ a, S a → ∃ xs, H a = some (.lst xs)) : RepS S H v d := r.monoT (fun a o xs e => hidP_at e fun s => by
  obtain ⟨ys, z⟩ := h a s
  rw [z] at e
  cases e) _ _ im
/-- a list that lies apart from the lists of H is not of H -/
theorem lst_new {H H' : Hp} {l : Addr} {xs : List V} (e : Ex H H') (h : H' l = some (.lst xs)) (n : ¬ lsS H l) : H l = none := by
  cases z : H l with
  | none => rfl
  | some o =>
    have := e _ _ z
    rw [h] at this
    cases this
    exact absurd ⟨xs, z⟩ n
def gJ {α : Type} (us ws : List α) : List α := match us, ws with
  | [], [a, b] => [a, b]
  | _, _ => []
section
variable {K : PySem.W.Frag} {mg : Str → Option Value}
theorem kb_joined (T : Txt K mg) : KBinds K T.d_joined ["building", "free"] ["building", "free"] gJ gJ where
  to := fun s us ws X hl => by
    obtain ⟨oc, od, kV, doc, pm, an, cdv, ct, osl, ed, lk, hcd⟩ := T.F_joined.ex
    rw [ed]
    match us, ws, hl with
    | [], [a, b], _ => exact .of_eq rfl
  rel := fun {vs us zs ws} r rz => by
    cases r with
    | nil => cases rz with
      | nil => exact .nil
      | cons r1 rz => cases rz with
        | nil => exact .nil
        | cons r2 rz => cases rz with
          | nil => exact .cons r1 (.cons r2 .nil)
          | cons _ _ => exact .nil
    | cons _ _ => exact .nil
end
section
variable {K : PySem.W.Frag} {S : Addr → Prop} {σ : L2.St} {H H' : Hp} {te tb : TE} {d : D} {ds : List D}
theorem ev_isiL {v : V} (h : Ev te σ H v) (ty : ∀ H1, Ex H H1 → TyX K H1 v (.type "list")) : Ev (tIsi K te "list") σ H (.bl true) := fun H1 e Q q =>
  h H1 e _ fun H2 e2 => ⟨v, .ty "list", .type "list", .type "list", true, rfl, .ty _, ty H2 (e.trans e2), kit_ty (by decide +kernel), q H2 e2⟩
end
theorem ways_pln {d : D} {fr : List Str} {a b : Str} (hb : d.bld = true) (ha : a ∈ areasD d) {L : List (List Str × List Str)} (h : ∀ w ∈ L, w ∈ waysL d fr a b) : Pln (.lst (L.map (wayD a))) := pln_lst (n := 2) (by decide) fun e he => by
  obtain ⟨w, hw, rfl⟩ := List.mem_map.mp he
  have r1 := row_lst (ss := w.1) fun s hs => dn_ok hb s (open_in (way_names hb (h w hw) s hs))
  have r2 := row_lst (ss := a :: w.2) fun s hs => areas_ok hb s ((List.mem_cons.mp hs).elim (fun e => e ▸ ha) (Wy.path_in (stL_in hb) (mem_ways.mp (h w hw)).1.1 s))
  unfold wayD
  constructor
  · unfold D.pk
    exact pks_iff.mpr fun x hx => by
      simp only [List.mem_cons, List.not_mem_nil, or_false] at hx
      rcases hx with rfl | rfl
      · exact r1.1
      · exact r2.1
  · have := deeps_le (n := 1) (ds := [D.lst (w.1.map D.str), D.lst ((a :: w.2).map D.str)]) fun x hx => by
      simp only [List.mem_cons, List.not_mem_nil, or_false] at hx
      rcases hx with rfl | rfl
      · exact r1.2
      · exact r2.2
    unfold D.deep
    omega
theorem join_pln {d : D} {fr : List Str} (hb : d.bld = true) : Pln (joinD d fr) := pln_lst (n := 1) (by decide) fun e he => by
  obtain ⟨t, ht, rfl⟩ := List.mem_map.mp he
  exact row_tup (groups_ok (fr := fr) hb _ t ht)
theorem sz_strs {ss : List Str} (l : ss.length ≤ 1000) (h : ∀ s ∈ ss, s.length ≤ 1000) : (D.lst (ss.map D.str)).Sz := by
  unfold D.Sz
  refine ⟨by rw [List.length_map]; exact l, szs_of fun x hx => ?_⟩
  obtain ⟨s, hs, rfl⟩ := List.mem_map.mp hx
  unfold D.Sz
  exact h s hs
/-- a list of free doors -/
structure Opn (d : D) (fr : List Str) : Prop where
  nd : fr.Nodup
  mem : ∀ n ∈ fr, n ∈ d.dn
theorem dn_short {d : D} (hb : d.bld = true) : ∀ s ∈ d.dn, s.length ≤ 1000 := fun s hs => by
  obtain ⟨as, es, ks, rs, B⟩ := bld_is hb
  rw [B.dn] at hs
  obtain ⟨x, hx, rfl⟩ := List.mem_map.mp hs
  obtain ⟨n, p, q, t, rfl, hn, _⟩ := dr_shape (B.ed x hx)
  have : n.length ≤ 8 := by
    unfold nmS at hn
    simp only [Bool.and_eq_true] at hn
    exact of_decide_eq_true hn.1.1.2
  show n.length ≤ 1000
  omega
theorem Opn.fre {d : D} {fr : List Str} (hb : d.bld = true) (h : Opn d fr) : (D.lst (fr.map D.str)).fre d.dn = true ∧ (D.lst (fr.map D.str)).Sz ∧ (D.lst (fr.map D.str)).row = fr ∧ (D.tup (fr.map D.str)).fre d.dn = true ∧ (D.tup (fr.map D.str)).Sz ∧ (D.tup (fr.map D.str)).row = fr := by
  have l : fr.length ≤ 6 := by
    have := Wy.nodup_le fr d.dn h.nd h.mem
    have h2 := congrArg List.length (dn_doors hb).1
    rw [List.length_map] at h2
    have := doors_len hb
    omega
  have f1 : ((fr.map D.str).all (fun e => amD e d.dn) && decide ((fr.map D.str).map D.txt).Nodup) = true := by
    rw [Bool.and_eq_true]
    refine ⟨List.all_eq_true.mpr fun e he => ?_, ?_⟩
    · obtain ⟨n, hn, rfl⟩ := List.mem_map.mp he
      exact amg_iff.mpr (h.mem n hn)
    · rw [List.map_map, show (D.txt ∘ D.str) = id from rfl, List.map_id]
      exact decide_eq_true h.nd
  have s1 := sz_strs (ss := fr) (by omega) fun s hs => dn_short hb s (h.mem s hs)
  have s2 : (D.tup (fr.map D.str)).Sz := by
    unfold D.Sz at s1 ⊢
    exact s1
  exact ⟨f1, s1, row_of fr, f1, s2, row_of fr⟩
def spJR : Sp := fun vs H Q _ => ∃ (v : V) (d : D) (f : Addr) (fr : List Str), vs = [v, .ref f] ∧ Rep H v d ∧ d.imm = true ∧ d.Sz ∧ d.bld = true ∧ H f = some (.lst (sv fr)) ∧ Opn d fr ∧ ∀ H', Ex H H' → Q (.bl true) H'
section
variable {P : Program} {w : World} {K : PySem.W.Frag} {mg : Str → Option Value} {base : Heap} (T : Txt K mg)
theorem ok_joined_right : FnOk P w K mg base CX0 8 T.a_law_joined_right T.d_law_joined_right ["house", "open_ones"] spJR := by
  refine T.F_law_joined_right.ok sc_law_joined_right (fun vs H Q E h => ?_) (fun cdv A outer s H vs Q E hr h => ?_)
  · obtain ⟨v, d, f, fr, rfl, _⟩ := h
    rfl
  · obtain ⟨v, d, f, fr, rfl, hv, him, hsz, hb, hf, O, q⟩ := h
    have nd := sc_law_joined_right.nd
    have hu4 : (A.deeper (envOfC "_law_joined_right" (defScope s_law_joined_right) s.heap.objs.size T.a_law_joined_right cdv)).units + 64 < cLine := by have := hr.un; omega
    have hu5 : (A.deeper (envOfC "_law_joined_right" (defScope s_law_joined_right) s.heap.objs.size T.a_law_joined_right cdv)).units + 65 < cLine := by have := hr.un; omega
    refine ⟨_, (pss_cons (ps_set (i := 2) nd rfl (.inl rfl) (pe_lst pa_nil))
      (pss_cons (ps_for PassesOwn.never rfl (pi_tup (pe_ix (r := rIxT K) ix_tup (pv 0) pe_int (fun _ _ => rfl))) (pg_name (i := 3) nd rfl (.inr rfl)) (pss_cons (ps_set (i := 4) nd rfl (.inl rfl) (pe_callTy call_tupF (by rfl) T.z_tuple bo_tuple (pa_cons (pe_lc (own := [("one", 6)]) (g := gName 6) (tt := tTest (tOp (rNeD K) (tCall (spGo 5) [] E0 (tCons (tVar 0) (tCons (tVar 1) (tCons (tVar 3) (tCons (tVar 6) (tCons (tLst (tCons (tVar 3) tNil)) tNil)))))) (tLst tNil))) (te := tVar 6) (by rfl) nd (pi_tup (pe_ix (r := rIxT K) ix_tup (pv 0) pe_int (fun _ _ => rfl))) (blkOk_by (N := ["house", "open_ones", "due", "area", "some", "told", "one"]) (sc := defScope s_law_joined_right) (by decide +kernel)) (fun _ _ _ _ _ => (pg_name (i := 6) nd rfl (.inl rfl))) (fun _ _ _ _ _ => (pts_one (pt_cmpR (op_neD hu4) (pe_call (ok_go T 5) (hr.mono (by decide)) (by rfl) T.g_law_all_ways T.F_law_all_ways.kp (b_law_all_ways T) .nil pass0 (pa_cons (pv 0) (pa_cons (pv 1) (pa_cons (pv 3) (pa_cons (pv 6) (pa_cons (pe_lst (pa_cons (pv 3) pa_nil)) pa_nil)))))) (pe_lst pa_nil) (nomark _)))) (fun _ _ _ _ _ => (pv 6))) pa_nil)))
      (pss_one (ps_if (pt_cmpR (op_notInD hu5) (pv 4) (pv 2) (by rfl)) (pss_one (ps_expr (pe_bm PySem.F.plainAttrs_list PySem.F.slot_list_append PySem.F.type_list_append mt_append (pv 2) (pa_cons (pv 4) pa_nil)))) pss_nil))))
      (pss_cons (ps_set (i := 5) nd rfl (.inl rfl) (pe_call (E := fun _ _ _ => False) (ok_joinedF T) (hr.mono (by decide)) (by rfl) T.g_joined T.F_joined.kp (b_joined T) .nil (passes_call L2.takes0 fun _ _ _ _ h => h) (pa_cons (pv 0) (pa_cons (pv 1) pa_nil))))
      (pss_cons (ps_if (PW.pt (pw_or (pt_not (pt_val (pe_isi T.z_isinstance T.z_list bo_list (pv 5)))) (pw_or1 (pt_cmpR (op_neD hu4) (pv 5) (pv 2) (nomark _))))) (pss_one (ps_ret pe_bl)) pss_nil)
      (pss_cons (ps_expr (pe_bm0 PySem.F.plainAttrs_list PySem.F.slot_list_clear PySem.F.type_list_clear mt_clear (pv 5)))
      (pss_one (ps_ret (pe_cmpR (op_eqD hu4) (pe_named (E := fun _ _ _ => False) (ok_joinedF T) (hr.mono (by decide)) (by rfl) T.g_joined T.F_joined.kp (kb_joined T) (passes_call L2.takes0 fun _ _ _ _ h => h) (pk_cons (pv 0) (pk_cons (pv 1) pk_nil))) (pv 2) (nomark _))))))))), ?_⟩
    have hin : InS (lsS H) H := lsS_in
    have hvS : RepS (lsS H) H v d := repS_imm hv him fun a h => h
    have a6 := (door_ends hb).1
    refine s_asgLX (xs := []) (σ := [some (v), some (.ref f), none, none, none, none, none]) (el_lst ea_nil (by decide)) fun p H1 np e1 hp => ?_
    have lift1 : Ex (hidP (lsS H) H) (hidP (also (lsS H) p) H1) := (hidP_also np).trans (hidP_ex e1)
    obtain ⟨c, vs, pa, rfl, hcv, h1, hpa⟩ := areas_at hb (hvS.up lift1)
    have areas : ∀ {σ : L2.St} {H2 : Hp}, σ[0]? = some (some (.ref c)) → Ex (hidP (also (lsS H) p) H1) (hidP (also (lsS H) p) H2) → EvS (also (lsS H) p) (tOp (rIxT K) (tVar 0) (tC (.int 1))) σ H2 (.tup ((areasD d).map D.str)) := fun {σ H2} h0 x2 => es_of (ev_ixT (j := 1) (ev_var h0) ((hcv.up x2).up hidP_sub) h1) (.tup (hpa.up x2) (reps_strs _))
    refine q_forS (S := also (lsS H) p) (σ := [some (.ref c), some (.ref f), some (.ref p), none, none, none, none]) (its_tup (areas rfl (Ex.refl _))) (fun H2 i σ' H' => ∃ (y3 y4 y6 : Option V) (gs : List V), σ' = [some (.ref c), some (.ref f), some (.ref p), y3, y4, none, y6] ∧ Ex H H' ∧ Ex (hidP (also (lsS H) p) H1) (hidP (also (lsS H) p) H') ∧ Ex (hidP (also (lsS H) p) H2) (hidP (also (lsS H) p) H') ∧ H' p = some (.lst gs) ∧ RepsS (also (lsS H) p) H' gs ((groupsL (((areasD d).take i).map (reachL d fr))).map dT))
      (fun H2 e2 => ⟨none, none, none, [], rfl, e1.trans e2, hidP_ex e2, Ex.refl _, e2 _ _ hp, .nil⟩) (fun H2 i σ' H' e2 ⟨_, _, _, _, _, _, _, x3, _⟩ => x3) (fun H2 i e0 x σ' H' e2 he ⟨y3, y4, y6, gs, es, e', x1, x2, hg, rg⟩ rx => ?_) (fun H2 σ' H' e2 ⟨y3, y4, y6, gs, es, e', x1, x2, hg, rg⟩ => ?_)
    · subst es
      have il : i < (areasD d).length := by
        have := (List.getElem?_eq_some_iff.mp he).1
        rwa [List.length_map] at this
      have hi : (areasD d)[i]? = some (areasD d)[i] := List.getElem?_eq_getElem il
      rw [List.getElem?_map, hi] at he
      cases he
      obtain rfl := rx.strD
      have inA := inS_also (hin.up e') hg
      have ma := List.getElem_mem il
      have tk : groupsL (((areasD d).take (i + 1)).map (reachL d fr)) = grow1 (groupsL (((areasD d).take i).map (reachL d fr))) (reachL d fr (areasD d)[i]) := by
        rw [List.take_add_one, hi, List.map_append]
        exact groups_snoc _ _
      have gl := groups_len (((areasD d).take i).map (reachL d fr))
      rw [List.length_map, List.length_take] at gl
      have cc := lcS (S := also (lsS H) p) (ds := (areasD d).map D.str) (wi := iTup K (tOp (rIxT K) (tVar 0) (tC (.int 1)))) (g := gName 6) (tt := tTest (tOp (rNeD K) (tCall (spGo 5) [] E0 (tCons (tVar 0) (tCons (tVar 1) (tCons (tVar 3) (tCons (tVar 6) (tCons (tLst (tCons (tVar 3) tNil)) tNil)))))) (tLst tNil))) (te := tVar 6) (own := [6]) (σ := [some (.ref c), some (.ref f), some (.ref p), some (.str (areasD d)[i]), y4, none, y6]) (H := H')
          (fun e => !(everyL d fr (areasD d)[i] e.txt).isEmpty) id inA (its_tup (areas rfl x1)) (by rw [List.length_map]; omega) fun S' y e H3 he in3 e3 x3 ry => by
        obtain ⟨o, ho, rfl⟩ := List.mem_map.mp he
        obtain rfl := ry.strD
        have hcall : EvS S' (tCall (spGo 5) [] E0 (tCons (tVar 0) (tCons (tVar 1) (tCons (tVar 3) (tCons (tVar 6) (tCons (tLst (tCons (tVar 3) tNil)) tNil)))))) [some (.ref c), some (.ref f), some (.ref p), some (.str (areasD d)[i]), y4, none, some (.str o)] H3 (.lst ((everyL d fr (areasD d)[i] o).map (wayD (areasD d)[i]))) := fun H4 e4 Q1 q1 => by
          refine ⟨.ref c, rfl, .ref f, rfl, .str (areasD d)[i], rfl, .str o, rfl, .str (areasD d)[i], rfl, by show 1 ≤ sizeLine; rw [sizeLine_eq]; decide, fun pb npb => ?_⟩
          have E4 : Ex H' (upd H4 pb (.lst [.str (areasD d)[i]])) := e3.trans (e4.trans (Ex.new npb))
          exact ⟨S', .ref c, d, f, fr, (areasD d)[i], o, pb, [(areasD d)[i]], rfl, ((hvS.up lift1).up x1).up (x3.trans (hidP_ex (e4.trans (Ex.new npb)))), hb, .inl ((e'.trans E4) _ _ hf), upd_same, List.mem_cons_self, by simp, fun z hz => List.mem_singleton.mp hz ▸ ma, by show 6 - 1 ≤ 5; decide, (in3.up e4).up (Ex.new npb), fun u H5 e5 r5 => q1 u H5 ((Ex.new npb).trans e5) r5⟩
        refine ⟨[some (.ref c), some (.ref f), some (.ref p), some (.str (areasD d)[i]), y4, none, some (.str o)], fun Q h => h, rfl, et_test (ev_is (ev_neNilS hcall (ways_pln hb ma fun w hw => (mem_every hb w).mp hw)) (by rw [List.isEmpty_map]; rfl)), fun _ => es_of (ev_var rfl) (.str o)⟩
      have ec : (((areasD d).map D.str).filter fun e => !(everyL d fr (areasD d)[i] e.txt).isEmpty).map id = (reachL d fr (areasD d)[i]).map D.str := by
        rw [List.map_id, List.filter_map, reach_every hb]
        rfl
      rw [ec] at cc
      refine s_asgS (S := also (lsS H) p) (σ := [some (.ref c), some (.ref f), some (.ref p), some (.str (areasD d)[i]), y4, none, y6]) (es_tupOf (K := K) inA cc) fun u H3 e3 ru => ?_
      have ru : RepS (also (lsS H) p) H3 u (dT (reachL d fr (areasD d)[i])) := ru
      have rok := reach_ok (fr := fr) (a := (areasD d)[i]) hb
      have gok := groups_ok (fr := fr) hb ((areasD d).take i)
      refine s_if (σ := [some (.ref c), some (.ref f), some (.ref p), some (.str (areasD d)[i]), some (u), none, y6]) (b := !decide (reachL d fr (areasD d)[i] ∈ groupsL (((areasD d).take i).map (reachL d fr)))) (et_test fun H4 e4 Q4 q4 => ⟨u, rfl, .ref p, rfl, pyT _, List.map pyT _, dp_T ((ru.up (hidP_ex e4)).up hidP_sub), .lst (.of ((e3.trans e4) _ _ hg)) (dp_Ts ((rg.up (hidP_ex (e3.trans e4))).up hidP_sub)), pyT_shaped _ rok, pyTs_shaped _ gok, by rw [any_T]; exact q4 H4 (Ex.refl _)⟩) (fun hb3 H4 e4 => ?_) (fun hb3 H4 e4 => ?_)
      · have nin : reachL d fr (areasD d)[i] ∉ groupsL (((areasD d).take i).map (reachL d fr)) := of_decide_eq_false (not_t hb3)
        have m : ∀ {H0 : Hp} {o : HO}, Ex (hidP (also (lsS H) p) H0) (hidP (also (lsS H) p) (upd H0 p o)) := hidP_mut (show also (lsS H) p p from .inr rfl)
        refine s_appS (S := also (lsS H) p) (ev_var rfl) ((e3.trans e4) _ _ hg) (es_of (ev_var rfl) (ru.up (hidP_ex e4))) (by rw [rg.length, List.length_map]; omega) fun y H5 e5 ry => ⟨_, _, _, gs ++ [y], rfl, ((e'.trans (e3.trans e4)).trans e5).mut np, (x1.trans (hidP_ex ((e3.trans e4).trans e5))).trans m, (x2.trans (hidP_ex ((e3.trans e4).trans e5))).trans m, upd_same, ?_⟩
        rw [tk]
        unfold grow1
        rw [if_neg nin, List.map_append]
        exact reps_and ((rg.up (hidP_ex ((e3.trans e4).trans e5))).up m) (.cons (ry.up m) .nil)
      · have inn : reachL d fr (areasD d)[i] ∈ groupsL (((areasD d).take i).map (reachL d fr)) := of_decide_eq_true (not_f hb3)
        refine ⟨_, _, _, gs, rfl, e'.trans (e3.trans e4), x1.trans (hidP_ex (e3.trans e4)), x2.trans (hidP_ex (e3.trans e4)), (e3.trans e4) _ _ hg, ?_⟩
        rw [tk]
        unfold grow1
        rw [if_pos inn]
        exact rg.up (hidP_ex (e3.trans e4))
    · subst es
      rw [show ((areasD d).map D.str).length = (areasD d).length from List.length_map _, List.take_length] at rg
      have hjo : (joinL d fr).map dT = (groupsL ((areasD d).map (reachL d fr))).map dT := rfl
      obtain ⟨fre1, sz1, row1, _⟩ := O.fre hb
      have inA := inS_also (hin.up e') hg
      have hvA : RepS (also (lsS H) p) H' (.ref c) d := (hvS.up lift1).up x1
      -- told
      refine s_asgS (S := also (lsS H) p) (d := joinD d fr) (te := tCall (spJoined T.c_BadDoors) [] (fun _ _ _ => False) (tCons (tVar 0) (tCons (tVar 1) tNil))) (σ := [some (.ref c), some (.ref f), some (.ref p), y3, y4, none, y6]) (fun H3 e3 Q1 q1 => ⟨.ref c, rfl, .ref f, rfl, also (lsS H) p, .ref c, d, .ref f, .lst (fr.map D.str), rfl, hvA.up (hidP_ex e3), hsz, hb, .lst ((e'.trans e3) _ _ hf) (reps_strs _), sz1, inA.up e3, (fun h => by rw [fre1] at h; cases h), fun _ u H4 e4 r4 => q1 u H4 e4 (by rw [row1] at r4; exact r4)⟩) fun tv H3 e3 rt => ?_
      have rtb := rt
      unfold joinD at rtb
      cases rtb with
      | @lst l us _ hl rl =>
        have hl3 := (hidP_get hl).1
        have nlS := (hidP_get hl).2
        have nl : H l = none := lst_new (e'.trans e3) hl3 fun h => nlS (.inl h)
        have nlp : l ≠ p := fun h => nlS (.inr h)
        have hg3 := e3 _ _ hg
        have rg3 := rg.up (hidP_ex e3)
        have rdue : ∀ {H4 : Hp}, Ex H3 H4 → Rep H4 (.ref p) (joinD d fr) := fun e4 => .lst (e4 _ _ hg3) ((rg3.up hidP_sub).up e4)
        refine s_ifX (σ := [some (.ref c), some (.ref f), some (.ref p), y3, y4, some (.ref l), y6]) (b := false || false) (et_or (a := false) (b := false) (et_is (et_not (et_B (ev_isiL (K := K) (ev_var rfl) fun H1 e1 => .base (.lst (e1 _ _ hl3))))) rfl) fun _ => et_test fun H4 e4 Q4 q4 => ev_neS (S := S0) (es_of (ev_var rfl) (((rt.up hidP_sub).up e4).up hid0)) (es_of (ev_var rfl) ((rdue e4).up hid0)) (join_pln hb) H4 (Ex.refl _) Q4 q4) (fun h => by cases h) (fun _ H4 e4 => ?_)
        -- told.clear()
        refine ⟨.ref l, rfl, .inl ⟨rfl, us, .of (e4 _ _ hl3)⟩, l, us, rfl, rfl, e4 _ _ hl3, ?_⟩
        have E5 : Ex H (upd H4 l (.lst [])) := ((e'.trans e3).trans e4).mut nl
        have tp5 : Tp H4 (upd H4 l (.lst [])) := Tp.lst (e4 _ _ hl3)
        have hp5 : upd H4 l (.lst []) p = some (.lst gs) := (upd_ne (Ne.symm nlp)).trans (e4 _ _ hg3)
        have hv5 : Rep (upd H4 l (.lst [])) (.ref c) d := hv.up E5
        have imJ : imms ((joinL d fr).map dT) = true := imms_iff.mpr fun dd hd => by
          obtain ⟨t', _, rfl⟩ := List.mem_map.mp hd
          unfold dT D.imm
          exact imms_iff.mpr fun d2 hd2 => by
            obtain ⟨s', _, rfl⟩ := List.mem_map.mp hd2
            rfl
        have rg5 : Reps (upd H4 l (.lst [])) gs ((joinL d fr).map dT) := Reps.monoT tp5 _ _ imJ ((rg3.up hidP_sub).up e4)
        have due5 : Rep (upd H4 l (.lst [])) (.ref p) (joinD d fr) := .lst hp5 rg5
        generalize upd H4 l (.lst []) = H5 at E5 hv5 due5
        dsimp only
        have told2 : EvS S0 (tCallK (spJoined T.c_BadDoors) gJ (fun _ _ _ => False) tNil (tCons (tVar 0) (tCons (tVar 1) tNil))) [some (.ref c), some (.ref f), some (.ref p), y3, y4, some (.ref l), y6] H5 (joinD d fr) := fun H6 e6 Q1 q1 => ⟨.ref c, rfl, .ref f, rfl, S0, .ref c, d, .ref f, .lst (fr.map D.str), rfl, (hv5.up e6).up hid0, hsz, hb, .lst ((E5.trans e6) _ _ hf) (reps_strs _), sz1, in0, (fun h => by rw [fre1] at h; cases h), fun _ u H4 e4 r4 => q1 u H4 e4 (by rw [row1] at r4; exact r4)⟩
        exact s_ret (v := .bl true) (ev_eqS told2 (es_of (ev_var rfl) (due5.up hid0)) (join_pln hb)) fun H6 e6 => q H6 (E5.trans e6)
end
end Kx

set_option Elab.async false
set_option linter.all false
set_option maxRecDepth 100000
set_option maxHeartbeats 400000
namespace Kx
open PySem PySem.Spec PyProof.Rows L2 Evl
open LamX
/-! ## what is refused -/
def stS (sd sg : Addr) : Addr → Prop := fun a => a = sd ∨ a = sg
theorem hidP_exs {sd sg : Addr} {H H' : Hp} (e : ExS sd sg H H') : Ex (hidP (stS sd sg) H) (hidP (stS sd sg) H') := fun a o h => by
  obtain ⟨h1, h2⟩ := hidP_get h
  exact hidP_at (e a o h1 (fun z => h2 (.inl z)) fun z => h2 (.inr z)) h2
theorem Sta.inS {H : Hp} {sd sg sc : Addr} {b : Nat} (s : Sta H sd sg sc b) : InS (stS sd sg) H := fun a ha n => by
  obtain ⟨gs, cs, r, t, w, _, _⟩ := s
  rcases ha with rfl | rfl
  · rw [w.d] at n; cases n
  · rw [w.g] at n; cases n
theorem repS_tp {S : Addr → Prop} {H : Hp} {v : V} {d : D} (r : Rep H v d) (im : d.imm = true) (h : ∀ a, S a → ∀ o xs, H a ≠ some (.frz o (.tup xs))) : RepS S H v d := r.monoT (fun a o xs e => hidP_at e fun s => h a s o xs e) _ _ im
theorem Sta.rep {H : Hp} {sd sg sc : Addr} {b : Nat} {v : V} {d : D} (s : Sta H sd sg sc b) (r : Rep H v d) (im : d.imm = true) : RepS (stS sd sg) H v d := repS_tp r im fun a ha o xs e => by
  obtain ⟨gs, cs, rr, t, w, _, _⟩ := s
  rcases ha with rfl | rfl
  · rw [w.d] at e; cases e
  · rw [w.g] at e; cases e
/-- all but the state and the tables stay -/
def XT (sd sg : Addr) (H H' : Hp) : Prop := ∀ a o, H a = some o → a ≠ sd → a ≠ sg → (∀ ps, o ≠ .tbl ps) → H' a = some o
theorem XT.trans {sd sg : Addr} {H H1 H2 : Hp} (a : XT sd sg H H1) (b : XT sd sg H1 H2) : XT sd sg H H2 := fun c o h n m t => b c o (a c o h n m t) n m t
theorem XT.exs {sd sg : Addr} {H H' : Hp} (e : ExS sd sg H H') : XT sd sg H H' := fun a o h n m _ => e a o h n m
theorem XT.xn {sd sg : Addr} {H H' : Hp} (e : ExtN H H') : XT sd sg H H' := fun a o h _ _ t => e a o h t
theorem XT.ex {sd sg : Addr} {H H' : Hp} (e : Ex H H') : XT sd sg H H' := fun a o h _ _ _ => e a o h
theorem XT.tp {sd sg sc : Addr} {b : Nat} {H H' : Hp} (e : XT sd sg H H') (s : Sta H sd sg sc b) : Tp H H' := fun a o xs h =>
  let ⟨gs, cs, r, t, w, h1, h2⟩ := s; e a _ h (ne_of h w.d (fun z => by cases z)) (ne_of h w.g (fun z => by cases z)) fun ps z => by cases z
theorem XT.lst {sd sg : Addr} {H H' : Hp} {a : Addr} {xs : List V} (e : XT sd sg H H') (h : H a = some (.lst xs)) (n : a ≠ sd) (m : a ≠ sg) : H' a = some (.lst xs) := e a _ h n m fun ps z => by cases z
section
variable {K : PySem.W.Frag} {S : Addr → Prop} {σ : L2.St} {H H' : Hp} {sd sg sc : Addr} {b : Nat} {t0 te : TE} {ta : TA} {ds : List D} {v : V} {d : D} {CS : Addr}
theorem pickS {Q : VK} (h0 : Ev t0 σ H (.ref sd)) (St : Sta H sd sg sc (b + 1)) (ha : EvAS (stS sd sg) ta σ H ds) (hp : 0 < ds.length) (hz : ds.length ≤ 1000) (q : ∀ (j : Nat) (d : D) (v : V) (H' : Hp), ds[j]? = some d → RepS (stS sd sg) H' v d → Sta H' sd sg sc b → ExS sd sg H H' → Q v H') :
    tCall spPickL [] E0 (tCons t0 (tCons (tLst ta) tNil)) σ H Q := h0 H (Ex.refl _) _ fun H1 e1 => ha H1 e1 _ fun vs H2 e2 rs => ⟨by rw [rs.length]; exact sz_of (by omega), fun l fl => by
  have S2 := St.up (e1.trans e2)
  obtain ⟨n1, n2, _⟩ := S2.off fl
  have EB : Ex H2 (upd H2 l (.lst vs)) := Ex.new fl
  refine ⟨sd, sg, sc, b, l, vs, rfl, upd_same, n1, n2, by rw [rs.length]; exact hp, by rw [rs.length]; exact hz, S2.up EB, fun j x H3 hx S3 X3 => ?_⟩
  obtain ⟨d, hd, r⟩ := rs.get hx
  exact q j d x H3 hd ((r.up (hidP_ex EB)).up (hidP_exs X3)) S3 ((ExS.of ((e1.trans e2).trans EB)).trans X3)⟩
theorem es_dnew (hin : InS S H) : EvS S tDNewK σ H .dic := fun H1 e Q q p np => q (.ref p) _ (Ex.new np) (.dic (hidP_at upd_same ((hin.up e).new np)))
theorem es_listOfT (hin : InS S H) (h : EvS S te σ H (.tup ds)) : EvS S (tCB (rListS K) (tCons te tNil)) σ H (.lst ds) := fun H1 e Q q => h H1 e _ fun v H2 e2 r => by
  obtain ⟨p, vs, rfl, hp, rs⟩ := r.tupD
  exact ⟨p, vs, rfl, .inr (hp.up hidP_sub).sq, fun l hl => q (.ref l) _ (e2.trans (Ex.new hl)) (.lst (hidP_at upd_same ((hin.up (e.trans e2)).new hl)) (rs.up (hidP_ex (Ex.new hl))))⟩
/-- an action that raises -/
theorem caught_exc {C : Addr} {tl : XK → Hp → VK → Prop} {H1 : Hp} {Q : VK} (hc : PySem.W.exmOne K (.ref C) (.ref CS) = some true) (ht : ∀ (E : XK) (R : VK), (∀ H2, Ex H1 H2 → E (.ref C) none H2) → tl E H1 R) (q : ∀ x H3, Ex H1 H3 → Kept H3 x (.exc C) → Q x H3) : TCaught K CS tl H1 Q :=
  caught_go (o := .exc C) (fun C2 e => by cases e; exact hc) (fun E R _ k => ht E R k) q
theorem lam_exc {C : Addr} {Tb : List (Addr × Str)} {t : XK → TE} {Q : VK} (hT : Tabs Tb H) (hc : PySem.W.exmOne K (.ref C) (.ref CS) = some true) (ht : ∀ H1, ExtN H H1 → ∀ (E : XK) (R : VK), (∀ H2, Ex H1 H2 → E (.ref C) none H2) → t E σ H1 R)
    (q : ∀ x H3, ExtN H H3 → Tabs Tb H3 → Kept H3 x (.exc C) → Q x H3) : tLam Tb (TCaught K CS) t σ H Q := ⟨hT, fun H1 e1 T1 => caught_exc hc (fun E R k => ht H1 e1 E R k) fun x H3 e3 k3 => q x H3 (e1.trans (ExtN.of e3)) (T1.ext e3) k3⟩
/-- an action that gives a value -/
theorem lam_ret {Tb : List (Addr × Str)} {t : XK → TE} {Q : VK} (hT : Tabs Tb H) (ht : ∀ H1, ExtN H H1 → ∀ (E : XK) (R : VK), (∀ z H2, Ex H1 H2 → R z H2) → t E σ H1 R)
    (q : ∀ H3, ExtN H H3 → Tabs Tb H3 → Q .non H3) : tLam Tb (TCaught K CS) t σ H Q := ⟨hT, fun H1 e1 T1 => caught_go (o := .ret .non) (fun C2 e => by cases e) (fun E R k _ => ht H1 e1 E R fun z H2 e2 => k z H2 rfl e2) fun x H3 e3 k3 => by
  obtain rfl : x = .non := k3
  exact q H3 (e1.trans (ExtN.of e3)) (T1.ext e3)⟩
/-- [te for x in a list if tt], where no item is let -/
theorem el_none {i : Nat} {tt : TT} {a : Addr} {xs : List V} {tl : TE} (h : Ev tl σ H (.ref a)) (hx : H a = some (.lst xs)) (ht : ∀ x ∈ xs, ∀ H1, Ex H H1 → EvT tt ((σ.set i none).set i (some x)) H1 false) : EvL (tLc (iList K tl) (gName i) tt te [i]) σ H [] := fun H1 e Q q =>
  h H1 e _ fun H2 e2 => ⟨a, rfl, ⟨xs, .of ((e.trans e2) _ _ hx)⟩, fun D hD =>
    lc_list (xs := xs) (fun j H' => Ex H2 H' ∧ H' D = some (.lst [])) ⟨Ex.new hD, upd_same⟩ (fun j H' _ p => .of (((e.trans e2).trans p.1) _ _ hx))
      (fun j x H' hj pv => ⟨by show (((σ.set i none).set i (some x)).set i none) = (σ.set i none); rw [List.set_set, List.set_set], by
        refine ht x (List.mem_of_getElem? hj) H' ((e.trans e2).trans pv.1) H' (Ex.refl _) _ fun H3 e3 => ?_
        rw [if_neg Bool.false_ne_true]
        exact ⟨pv.1.trans e3, e3 _ _ pv.2⟩⟩)
      (fun H' pv => q D H' (fresh_back e2 hD) (e2.trans pv.1) pv.2)⟩
theorem ev_neNil0 (h : EvL te σ H []) : Ev (tOp (rNeD K) te (tLst tNil)) σ H (.bl false) := fun H1 e Q q => h H1 e _ fun p H2 np e2 hp => ⟨Nat.zero_le _, fun l nl => ⟨.list [], .list [], .lst (.of (Ex.new nl _ _ hp)) .nil, .lst (.of upd_same) .nil, nil_shaped, nil_shaped, by
  rw [eqv_nilL]
  exact q _ (e2.trans (Ex.new nl))⟩⟩
theorem ev_eqNil0 (h : EvL te σ H []) : Ev (tOp (rEqD K) te (tLst tNil)) σ H (.bl true) := fun H1 e Q q => h H1 e _ fun p H2 np e2 hp => ⟨Nat.zero_le _, fun l nl => ⟨.list [], .list [], .lst (.of (Ex.new nl _ _ hp)) .nil, .lst (.of upd_same) .nil, nil_shaped, nil_shaped, by
  rw [eqv_nilL]
  exact q _ (e2.trans (Ex.new nl))⟩⟩
end
/-! ## the names of a drawn building -/
def sixN : List Str := ["d", "e", "f", "g", "h", "k"]
def sixA : List Str := ["out", "hall", "lab", "yard", "attic", "cave"]
structure HN (d : D) : Prop where
  n : ∀ n ∈ d.dn, n ∈ sixN
  a : ∀ a ∈ areasD d, a ∈ sixA
def badL (n : Str) (door : D) : List D := [.non, .lst [.str n, .str n], .lst [.str "zz"], .str n, .lst [.non], .int 5, .dic, .lst [door], .lst [.str (n ++ "x")]]
def oddL (as : List Str) (a : Str) : List D := [.non, .str "zz", .int 0, .str "any", .lst (as.map D.str), .tup [.str a], .str ""]
theorem am_no {d : D} (hn : HN d) {s : Str} (h : s ∉ sixN) : amD (.str s) d.dn = false := by
  show amg s d.dn = false
  cases e : amg s d.dn with
  | false => rfl
  | true => exact absurd (hn.n s (amg_iff.mp e)) h
theorem zzN : ("zz" : Str) ∉ sixN := by unfold sixN; decide +kernel
theorem nxN : ∀ n ∈ sixN, (n ++ ("x" : Str)) ∉ sixN := by unfold sixN; decide +kernel
theorem oddA : ("zz" : Str) ∉ sixA ∧ ("any" : Str) ∉ sixA ∧ ("" : Str) ∉ sixA := by unfold sixA; decide +kernel
theorem six_len : ∀ n ∈ sixN, n.length = 1 := by unfold sixN; decide +kernel
theorem nx_len : ∀ n ∈ sixN, (n ++ ("x" : Str)).length = 2 := by unfold sixN; decide +kernel
theorem bad_fre {d : D} (hb : d.bld = true) (hn : HN d) {n : Str} (m : n ∈ d.dn) {door e : D} (hd : ∃ ds, door = .tup ds) (hz : door.Sz) (h : e ∈ badL n door) : e.fre d.dn = false ∧ e.Sz := by
  have one : ∀ x : D, x.Sz → (D.lst [x]).Sz := fun x hx => by
    unfold D.Sz
    exact ⟨by show 1 ≤ 1000; decide, szs_of fun y hy => by rw [List.mem_singleton.mp hy]; exact hx⟩
  have n1 := six_len n (hn.n n m)
  have strz : ∀ s : Str, s.length ≤ 1000 → (D.str s).Sz := fun s hs => by unfold D.Sz; exact hs
  unfold badL at h
  simp only [List.mem_cons, List.not_mem_nil, or_false] at h
  rcases h with rfl | rfl | rfl | rfl | rfl | rfl | rfl | rfl | rfl
  · exact ⟨rfl, by unfold D.Sz; trivial⟩
  · refine ⟨?_, ?_⟩
    · show (_ && decide ([n, n] : List Str).Nodup) = false
      rw [decide_eq_false (by simp), Bool.and_false]
    · unfold D.Sz
      refine ⟨by show 2 ≤ 1000; decide, szs_of fun y hy => ?_⟩
      simp only [List.mem_cons, List.not_mem_nil, or_false] at hy
      rcases hy with rfl | rfl <;> exact strz n (by omega)
  · refine ⟨?_, one _ (strz _ (by decide +kernel))⟩
    show (([D.str "zz"].all fun e => amD e d.dn) && _) = false
    rw [List.all_cons, am_no hn zzN]
    rfl
  · exact ⟨rfl, strz n (by omega)⟩
  · exact ⟨rfl, one _ (by unfold D.Sz; trivial)⟩
  · exact ⟨rfl, by unfold D.Sz; trivial⟩
  · exact ⟨rfl, by unfold D.Sz; trivial⟩
  · obtain ⟨ds, rfl⟩ := hd
    exact ⟨rfl, one _ hz⟩
  · refine ⟨?_, one _ (strz _ (by rw [nx_len n (hn.n n m)]; decide))⟩
    show (([D.str (n ++ "x")].all fun e => amD e d.dn) && _) = false
    rw [List.all_cons, am_no hn (nxN n (hn.n n m))]
    rfl
theorem odd_am {d : D} (hb : d.bld = true) (hn : HN d) {a : Str} (m : a ∈ areasD d) {e : D} (h : e ∈ oddL (areasD d) a) : amD e (areasD d) = false ∧ e.Sz := by
  have no : ∀ {s : Str}, s ∉ sixA → amD (.str s) (areasD d) = false := fun {s} h => by
    show amg s (areasD d) = false
    cases e : amg s (areasD d) with
    | false => rfl
    | true => exact absurd (hn.a s (amg_iff.mp e)) h
  have short : ∀ s ∈ areasD d, s.length ≤ 1000 := fun s hs => by
    obtain ⟨as, es, ks, rs, B⟩ := bld_is hb
    have ea : areasD d = as := by
      rw [B.eq]
      show (as.map D.str).map _ = as
      rw [List.map_map]
      exact List.map_id as
    rw [ea] at hs
    have hv := B.av s hs
    have : s.length ≤ 8 := by
      unfold nmS at hv
      simp only [Bool.and_eq_true] at hv
      exact of_decide_eq_true hv.1.1.2
    omega
  have strz : ∀ s : Str, s.length ≤ 1000 → (D.str s).Sz := fun s hs => by unfold D.Sz; exact hs
  unfold oddL at h
  simp only [List.mem_cons, List.not_mem_nil, or_false] at h
  rcases h with rfl | rfl | rfl | rfl | rfl | rfl | rfl
  · exact ⟨rfl, by unfold D.Sz; trivial⟩
  · exact ⟨no oddA.1, strz _ (by decide +kernel)⟩
  · exact ⟨rfl, by unfold D.Sz; trivial⟩
  · exact ⟨no oddA.2.1, strz _ (by decide +kernel)⟩
  · exact ⟨rfl, sz_strs (by have := (door_ends hb).1; omega) short⟩
  · refine ⟨rfl, ?_⟩
    unfold D.Sz
    exact ⟨by show 1 ≤ 1000; decide, szs_of fun y hy => by rw [List.mem_singleton.mp hy]; exact strz a (short a m)⟩
  · exact ⟨no oddA.2.2, strz _ (by decide +kernel)⟩
def qRef : Str := (envOfC "_law_refusals_right" (defScope s_law_refusals_right) 0 0 .none).qual ++ ("<lambda>" : Str)
def spRF (Tb : List (Addr × Str)) : Sp := fun vs H Q _ => ∃ (sd sg sc : Addr) (b : Nat) (v : V) (d : D) (f : Addr) (fr : List Str), vs = [.ref sd, v, .ref f] ∧ Rep H v d ∧ d.imm = true ∧ d.Sz ∧ d.bld = true ∧ HN d ∧ H f = some (.lst (sv fr)) ∧ f ≠ sd ∧ f ≠ sg ∧ Opn d fr ∧ Sta H sd sg sc (b + 2) ∧ Tabs Tb H ∧
  ∀ H', Sta H' sd sg sc b → XT sd sg H H' → Tabs Tb H' → Q (.bl true) H'
theorem kept3 {H : Hp} {p : Addr} {xs ys : List V} {C : Addr} (h : ∀ x ∈ xs, Kept H x (.exc C)) (hp : H p = some (.lst ys)) {zs : List V} : ∀ x ∈ xs, Kept (upd H p (.lst zs)) x (.exc C) := fun x hx => kept_upd (h x hx) hp
end Kx

set_option Elab.async false
set_option linter.all false
set_option maxRecDepth 100000
set_option maxHeartbeats 400000
namespace Kx
open PySem PySem.Spec PyProof.Rows L2 Evl
open LamX
/-! ## the law's look at what is refused -/
section
variable {σ : L2.St} {H : Hp} {tz : TS} {D0 : Ends}
theorem q_asgS {te : TE} {i : Nat} (S : V → Hp → Prop) (h : ∀ Q : VK, (∀ x H1, S x H1 → Q x H1) → te σ H Q) (k : ∀ x H1, S x H1 → tz D0 (σ.set i (some x)) H1) : tSeq (tAsg te (gName i)) tz D0 σ H := h _ k
end
theorem tabs_exs {Tb : List (Addr × Str)} {H H' : Hp} {sd sg sc : Addr} {b : Nat} (t : Tabs Tb H) (s : Sta H sd sg sc b) (X : ExS sd sg H H') : Tabs Tb H' := fun p hp => by
  obtain ⟨gs, cs, r, tt, w, _, _⟩ := s
  obtain ⟨ps, h1, h2, h3⟩ := t p hp
  refine ⟨ps, X _ _ h1 (ne_of h1 w.d (fun z => by cases z)) (ne_of h1 w.g (fun z => by cases z)), h2, fun pos cv hc => ?_⟩
  obtain ⟨c, e1, e2⟩ := h3 pos cv hc
  exact ⟨c, e1, X _ _ e2 (ne_of e2 w.d (fun z => by unfold CodeO at z; cases z)) (ne_of e2 w.g (fun z => by unfold CodeO at z; cases z))⟩
theorem first_bad {cD cA : Addr} {d e f g : D} (h : e.fre d.dn = false) : firstErr cD cA d e f g = some cD := by
  unfold firstErr
  rw [if_pos h]
theorem first_area {cD cA : Addr} {d e f g : D} (h : e.fre d.dn = true) (h2 : amD f (areasD d) = false) : firstErr cD cA d e f g = some cA := by
  unfold firstErr
  rw [if_neg (by rw [h]; decide), if_pos h2]
theorem first_area2 {cD cA : Addr} {d e f g : D} (h : e.fre d.dn = true) (h2 : amD f (areasD d) = true) (h3 : amD g (areasD d) = false) : firstErr cD cA d e f g = some cA := by
  unfold firstErr
  rw [if_neg (by rw [h]; decide), if_neg (by rw [h2]; decide), if_pos h3]
theorem ends_of {cD cA cS C : Addr} {d e f g : D} (h : firstErr cD cA d e f g = some C) : endsErr cD cA cS d e f g = some C := by
  unfold endsErr
  rw [h]
section
variable {P : Program} {w : World} {K : PySem.W.Frag} {mg : Str → Option Value} {base : Heap} (T : Txt K mg)
theorem ok_refusals {c Pt : Addr} {Tb : List (Addr × Str)} (F : FunC K "_law_refusals_right" s_law_refusals_right T.a_law_refusals_right c T.d_law_refusals_right) (TB : TabB base mg c Pt) (hm : (Pt, qRef) ∈ Tb) (hu : ∀ p ∈ Tb, p.1 = Pt → p.2 = qRef) :
    FnOk P w K mg base CX0 13 T.a_law_refusals_right T.d_law_refusals_right ["state", "house", "open_ones"] (spRF Tb) := by
  refine F.ok sc_law_refusals_right (fun vs H Q E h => ?_) (fun A outer s H vs Q E hr h => ?_)
  · obtain ⟨sd, sg, sc, b, v, d, f, fr, rfl, _⟩ := h
    rfl
  · obtain ⟨sd, sg, sc, b, v, d, f, fr, rfl, hv, him, hsz, hb, hn, hf, nf1, nf2, O, hS, hT, q⟩ := h
    have nd := sc_law_refusals_right.nd
    obtain ⟨oc, od, kV, doc, pm, an, cdv, ct, osl, ed, lk, hcd⟩ := T.F_law_caught.ex
    have hbd := b_law_caught T
    rw [ed] at hbd lk
    have hu4 : (A.deeper (envOfC "_law_refusals_right" (defScope s_law_refusals_right) s.heap.objs.size T.a_law_refusals_right (.ref c))).units + 64 < cLine := by have := hr.un; omega
    have G1 : GivesTo (cxOf CX0 P w K mg base ["state", "house", "open_ones", "name", "bad", "odd", "caught", "one"] "_law_refusals_right" (defScope s_law_refusals_right) T.a_law_refusals_right (.ref c) A outer s H E).nox ["action", "found", "error"] "_law_caught" (defScope s_law_caught) T.a_law_caught cdv (defBody s_law_caught) "action" qRef (TCaught K T.c_KeptError) := caught_gives T.E_KeptError.g
    refine ⟨_, (pss_cons (ps_set (i := 3) nd rfl (.inl rfl) (pe_ix (r := rIxT K) ix_tup (pe_ix (r := rIxT K) ix_tup (pe_ix (r := rIxT K) ix_tup (pv 1) pe_int (fun _ _ => rfl)) pe_int (fun _ _ => rfl)) pe_int (fun _ _ => rfl)))
      (pss_cons (ps_set (i := 4) nd rfl (.inr rfl) (pe_call (ok_pickL T) (hr.mono (by decide)) (by rfl) T.g_law_pick T.F_law_pick.kp (b_law_pick T) .nil pass0 (pa_cons (pv 0) (pa_cons (pe_lst (pa_cons pe_non (pa_cons (pe_lst (pa_cons (pv 3) (pa_cons (pv 3) pa_nil))) (pa_cons (pe_lst (pa_cons pe_str pa_nil)) (pa_cons (pv 3) (pa_cons (pe_lst (pa_cons pe_non pa_nil)) (pa_cons pe_int (pa_cons pe_dnewK (pa_cons (pe_lst (pa_cons (pe_ix (r := rIxT K) ix_tup (pe_ix (r := rIxT K) ix_tup (pv 1) pe_int (fun _ _ => rfl)) pe_int (fun _ _ => rfl)) pa_nil)) (pa_cons (pe_lst (pa_cons (pe_op op_add_str (pv 3) pe_str) pa_nil)) pa_nil)))))))))) pa_nil))))
      (pss_cons (ps_set (i := 5) nd rfl (.inr rfl) (pe_call (ok_pickL T) (hr.mono (by decide)) (by rfl) T.g_law_pick T.F_law_pick.kp (b_law_pick T) .nil pass0 (pa_cons (pv 0) (pa_cons (pe_lst (pa_cons pe_non (pa_cons pe_str (pa_cons pe_int (pa_cons pe_str (pa_cons (pe_callTy call_list_of (by rfl) T.z_list bo_list (pa_cons (pe_ix (r := rIxT K) ix_tup (pv 1) pe_int (fun _ _ => rfl)) pa_nil)) (pa_cons (pe_tupF (pa_cons (pe_ix (r := rIxT K) ix_tup (pe_ix (r := rIxT K) ix_tup (pv 1) pe_int (fun _ _ => rfl)) pe_int (fun _ _ => rfl)) pa_nil)) (pa_cons pe_str pa_nil)))))))) pa_nil))))
      (pss_cons (ps_set (i := 6) nd rfl (.inl rfl) (pe_lst (pa_cons (pe_lamcall (T := Tb) (k := 10) (TT := TCaught K T.c_KeptError) (t := fun E1 => tCall (spJoined T.c_BadDoors) [] E1 (tCons (tVar 1) (tCons (tVar 4) tNil))) (by rfl) T.g_law_caught T.F_law_caught.kp lk hcd hbd sc_law_caught rfl (.inl rfl) G1 TB rfl hm hu (hr.mono (by decide)) (lamS_by (by show lamSB (defScope s_law_refusals_right) _ = true; decide +kernel)) rfl (fun _ _ _ _ _ => rfl) (fun A outer s H E f c' hr => pe_call (E := E) (ok_joinedF T) (hr.mono (by decide)) (by rfl) T.g_joined T.F_joined.kp (b_joined T) .nil (passes_call (takes_of rfl rfl rfl rfl) fun _ _ _ _ h => h) (pa_cons (pv 1) (pa_cons (pv 4) pa_nil)))) pa_nil)))
      (pss_cons (ps_expr (pe_bm PySem.F.plainAttrs_list PySem.F.slot_list_append PySem.F.type_list_append mt_append (pv 6) (pa_cons (pe_lamcall (T := Tb) (k := 10) (TT := TCaught K T.c_KeptError) (t := fun E1 => tCall (spLeast T.c_BadDoors T.c_BadArea) [] E1 (tCons (tVar 1) (tCons (tVar 4) (tCons (tVar 5) (tCons (tVar 5) tNil))))) (by rfl) T.g_law_caught T.F_law_caught.kp lk hcd hbd sc_law_caught rfl (.inl rfl) G1 TB rfl hm hu (hr.mono (by decide)) (lamS_by (by show lamSB (defScope s_law_refusals_right) _ = true; decide +kernel)) rfl (fun _ _ _ _ _ => rfl) (fun A outer s H E f c' hr => pe_call (E := E) (ok_least_way T) (hr.mono (by decide)) (by rfl) T.g_least_way T.F_least_way.kp (b_least_way T) .nil (passes_call (takes_of rfl rfl rfl rfl) fun _ _ _ _ h => h) (pa_cons (pv 1) (pa_cons (pv 4) (pa_cons (pv 5) (pa_cons (pv 5) pa_nil)))))) pa_nil)))
      (pss_cons (ps_set (i := 6) nd rfl (.inl rfl) (pe_op op_cat (pv 6) (pe_lst (pa_cons (pe_lamcall (T := Tb) (k := 10) (TT := TCaught K T.c_KeptError) (t := fun E1 => tCall (spParting T.c_BadDoors T.c_BadArea T.c_SameArea) [] E1 (tCons (tVar 1) (tCons (tVar 4) (tCons (tOp (rIxT K) (tOp (rIxT K) (tVar 1) (tC (.int 1))) (tC (.int 0))) (tCons (tOp (rIxT K) (tOp (rIxT K) (tVar 1) (tC (.int 1))) (tC (.int 0))) tNil))))) (by rfl) T.g_law_caught T.F_law_caught.kp lk hcd hbd sc_law_caught rfl (.inl rfl) G1 TB rfl hm hu (hr.mono (by decide)) (lamS_by (by show lamSB (defScope s_law_refusals_right) _ = true; decide +kernel)) rfl (fun _ _ _ _ _ => rfl) (fun A outer s H E f c' hr => pe_call (E := E) (ok_parting T) (hr.mono (by decide)) (by rfl) T.g_parting T.F_parting.kp (b_parting T) .nil (passes_call (takes_of rfl rfl rfl rfl) fun _ _ _ _ h => h) (pa_cons (pv 1) (pa_cons (pv 4) (pa_cons (pe_ix (r := rIxT K) ix_tup (pe_ix (r := rIxT K) ix_tup (pv 1) pe_int (fun _ _ => rfl)) pe_int (fun _ _ => rfl)) (pa_cons (pe_ix (r := rIxT K) ix_tup (pe_ix (r := rIxT K) ix_tup (pv 1) pe_int (fun _ _ => rfl)) pe_int (fun _ _ => rfl)) pa_nil)))))) pa_nil))))
      (pss_cons (ps_if (pt_cmpR (op_neD hu4) (pe_lc (own := [("one", 7)]) (g := gName 7) (tt := tNot (tB (tCB (rIs2 K) (tCons (tVar 7) (tCons (tC (.ref T.c_BadDoors)) tNil))))) (te := tC (.int 1)) (by rfl) nd (pi_list (pv 6)) (blkOk_by (N := ["state", "house", "open_ones", "name", "bad", "odd", "caught", "one"]) (sc := defScope s_law_refusals_right) (by decide +kernel)) (fun _ _ _ _ _ => (pg_name (i := 7) nd rfl (.inl rfl))) (fun _ _ _ _ _ => (pts_one (pt_not (pt_val (pe_callB call_is2 (by rfl) T.z_isinstance bo_isinstance (pa_cons (pv 7) (pa_cons (pe_glob (v := .ref T.c_BadDoors) (by rfl) T.E_BadDoors.g rfl) pa_nil))))))) (fun _ _ _ _ _ => pe_int)) (pe_lst pa_nil) (nomark _)) (pss_one (ps_ret pe_bl)) pss_nil)
      (pss_cons (ps_set (i := 6) nd rfl (.inl rfl) (pe_lst (pa_cons (pe_lamcall (T := Tb) (k := 10) (TT := TCaught K T.c_KeptError) (t := fun E1 => tCall (spLeast T.c_BadDoors T.c_BadArea) [] E1 (tCons (tVar 1) (tCons (tVar 2) (tCons (tVar 5) (tCons (tOp (rIxT K) (tOp (rIxT K) (tVar 1) (tC (.int 1))) (tC (.int 0))) tNil))))) (by rfl) T.g_law_caught T.F_law_caught.kp lk hcd hbd sc_law_caught rfl (.inl rfl) G1 TB rfl hm hu (hr.mono (by decide)) (lamS_by (by show lamSB (defScope s_law_refusals_right) _ = true; decide +kernel)) rfl (fun _ _ _ _ _ => rfl) (fun A outer s H E f c' hr => pe_call (E := E) (ok_least_way T) (hr.mono (by decide)) (by rfl) T.g_least_way T.F_least_way.kp (b_least_way T) .nil (passes_call (takes_of rfl rfl rfl rfl) fun _ _ _ _ h => h) (pa_cons (pv 1) (pa_cons (pv 2) (pa_cons (pv 5) (pa_cons (pe_ix (r := rIxT K) ix_tup (pe_ix (r := rIxT K) ix_tup (pv 1) pe_int (fun _ _ => rfl)) pe_int (fun _ _ => rfl)) pa_nil)))))) (pa_cons (pe_lamcall (T := Tb) (k := 10) (TT := TCaught K T.c_KeptError) (t := fun E1 => tCall (spNarrows T.c_BadDoors T.c_BadArea T.c_SameArea T.c_NoWay) [] E1 (tCons (tVar 1) (tCons (tVar 2) (tCons (tOp (rIxT K) (tOp (rIxT K) (tVar 1) (tC (.int 1))) (tC (.int 0))) (tCons (tVar 5) tNil))))) (by rfl) T.g_law_caught T.F_law_caught.kp lk hcd hbd sc_law_caught rfl (.inl rfl) G1 TB rfl hm hu (hr.mono (by decide)) (lamS_by (by show lamSB (defScope s_law_refusals_right) _ = true; decide +kernel)) rfl (fun _ _ _ _ _ => rfl) (fun A outer s H E f c' hr => pe_call (E := E) (ok_narrows T) (hr.mono (by decide)) (by rfl) T.g_narrows T.F_narrows.kp (b_narrows T) .nil (passes_call (takes_of rfl rfl rfl rfl) fun _ _ _ _ h => h) (pa_cons (pv 1) (pa_cons (pv 2) (pa_cons (pe_ix (r := rIxT K) ix_tup (pe_ix (r := rIxT K) ix_tup (pv 1) pe_int (fun _ _ => rfl)) pe_int (fun _ _ => rfl)) (pa_cons (pv 5) pa_nil)))))) (pa_cons (pe_lamcall (T := Tb) (k := 10) (TT := TCaught K T.c_KeptError) (t := fun E1 => tCall (spParting T.c_BadDoors T.c_BadArea T.c_SameArea) [] E1 (tCons (tVar 1) (tCons (tVar 2) (tCons (tVar 5) (tCons (tVar 5) tNil))))) (by rfl) T.g_law_caught T.F_law_caught.kp lk hcd hbd sc_law_caught rfl (.inl rfl) G1 TB rfl hm hu (hr.mono (by decide)) (lamS_by (by show lamSB (defScope s_law_refusals_right) _ = true; decide +kernel)) rfl (fun _ _ _ _ _ => rfl) (fun A outer s H E f c' hr => pe_call (E := E) (ok_parting T) (hr.mono (by decide)) (by rfl) T.g_parting T.F_parting.kp (b_parting T) .nil (passes_call (takes_of rfl rfl rfl rfl) fun _ _ _ _ h => h) (pa_cons (pv 1) (pa_cons (pv 2) (pa_cons (pv 5) (pa_cons (pv 5) pa_nil)))))) pa_nil)))))
      (pss_one (ps_ret (pe_cmpR (op_eqD hu4) (pe_lc (own := [("one", 7)]) (g := gName 7) (tt := tNot (tB (tCB (rIs2 K) (tCons (tVar 7) (tCons (tC (.ref T.c_BadArea)) tNil))))) (te := tC (.int 1)) (by rfl) nd (pi_list (pv 6)) (blkOk_by (N := ["state", "house", "open_ones", "name", "bad", "odd", "caught", "one"]) (sc := defScope s_law_refusals_right) (by decide +kernel)) (fun _ _ _ _ _ => (pg_name (i := 7) nd rfl (.inl rfl))) (fun _ _ _ _ _ => (pts_one (pt_not (pt_val (pe_callB call_is2 (by rfl) T.z_isinstance bo_isinstance (pa_cons (pv 7) (pa_cons (pe_glob (v := .ref T.c_BadArea) (by rfl) T.E_BadArea.g rfl) pa_nil))))))) (fun _ _ _ _ _ => pe_int)) (pe_lst pa_nil) (nomark _)))))))))))), ?_⟩
    have hin := hS.inS
    have hvS := hS.rep hv him
    obtain ⟨as, es, ks, rs, B⟩ := bld_is hb
    obtain ⟨p0, vs, b0, ws, rfl, ha0, h2, hbt, hbs⟩ := door_at B hvS
    obtain ⟨p1, vs1, pa, ep, hcv, h1, hpa⟩ := areas_at hb hv
    cases ep
    have a0L : ∃ a0 ar, areasD d = a0 :: ar := by
      cases e : areasD d with
      | nil =>
        have := B.a2
        have ea : areasD d = as := by
          rw [B.eq]
          show (as.map D.str).map _ = as
          rw [List.map_map]
          exact List.map_id as
        rw [e] at ea
        rw [← ea] at this
        exact absurd this (by decide)
      | cons a0 ar => exact ⟨a0, ar, rfl⟩
    obtain ⟨a0, ar, ea⟩ := a0L
    have ma0 : a0 ∈ areasD d := by rw [ea]; exact List.mem_cons_self
    have sva : (sv (areasD d))[0]? = some (.str a0) := by rw [ea]; rfl
    cases hes : es with
    | nil =>
      have := B.e1
      rw [hes] at this
      exact absurd this (by decide)
    | cons e0 er =>
      have me0 : e0 ∈ es := by rw [hes]; exact List.mem_cons_self
      rw [hes] at hbs
      cases hbs with
      | @cons w0 wr _ _ r0 hbs =>
        obtain ⟨n, a1, b1, s1, ee0, hn1, ma1, mb1, _, ms1⟩ := dr_shape (B.ed e0 me0)
        have e0z : e0.Sz := by
          have z := hsz
          rw [B.eq] at z
          have z2 := (Rep.size z).2.2.1
          have := z2.tup.2
          rw [hes] at this
          exact this.get (j := 0) rfl
        have mn : n ∈ d.dn := by
          rw [B.dn]
          refine List.mem_map.mpr ⟨e0, me0, ?_⟩
          rw [ee0]
          rfl
        have r0' := r0
        rw [ee0] at r0'
        obtain ⟨c0, us0, rfl, hc0, hcs0⟩ := r0'.tupD
        have u00 : us0[0]? = some (.str n) := by
          cases hcs0 with
          | cons q0 _ =>
            obtain rfl := q0.strD
            rfl
        have hc0t : TupS H c0 us0 := hc0.up hidP_sub
        have hbtt : TupS H b0 (.ref c0 :: wr) := hbt.up hidP_sub
        have ha0t : TupS H p0 vs := ha0.up hidP_sub
        have door0 : ∀ {σ : L2.St} {H1 : Hp}, σ[1]? = some (some (.ref p0)) → Ex H H1 → Ev (tOp (rIxT K) (tOp (rIxT K) (tVar 1) (tC (.int 2))) (tC (.int 0))) σ H1 (.ref c0) := fun h e => ev_ixT (j := 0) (ev_ixT (j := 2) (ev_var h) (ha0t.up e) h2) (hbtt.up e) rfl
        -- name
        refine s_asgX (σ := [some (.ref sd), some (.ref p0), some (.ref f), none, none, none, none, none]) (v := .str n) (ev_ixT (j := 0) (door0 rfl (Ex.refl _)) hc0t u00) fun H1 e1 => ?_
        have S1 := hS.up e1
        have in1 := hin.up e1
        have lnx : n.length + ("x" : Str).length ≤ sizeLine := by
          have h1 := six_len n (hn.n n mn)
          have h2 : ("x" : Str).length = 1 := by decide +kernel
          rw [sizeLine_eq]
          omega
        -- bad
        refine q_asgS (σ := [some (.ref sd), some (.ref p0), some (.ref f), some (.str n), none, none, none, none]) (fun x H2 => ∃ e, e ∈ badL n e0 ∧ RepS (stS sd sg) H2 x e ∧ Sta H2 sd sg sc (b + 1) ∧ ExS sd sg H1 H2) (fun R r => ?_) fun vb H2 ⟨eb, meb, rb, S2, X2⟩ => ?_
        · refine pickS (sd := sd) (sg := sg) (sc := sc) (b := b + 1) (ds := badL n e0) (ev_var rfl) S1 (eas_cons (es_of ev_c .non) (eas_cons (es_lst in1 (eas_cons (es_of (ev_var rfl) (.str n)) (eas_cons (es_of (ev_var rfl) (.str n)) eas_nil)) (by show 2 ≤ 100000; decide)) (eas_cons (es_lst in1 (eas_cons (es_of ev_c (.str "zz")) eas_nil) (by show 1 ≤ 100000; decide)) (eas_cons (es_of (ev_var rfl) (.str n)) (eas_cons (es_lst in1 (eas_cons (es_of ev_c .non) eas_nil) (by show 1 ≤ 100000; decide)) (eas_cons (es_of ev_c (.int 5)) (eas_cons (es_dnew in1) (eas_cons (es_lst in1 (eas_cons (es_of (door0 rfl e1) (r0.up (hidP_ex e1))) eas_nil) (by show 1 ≤ 100000; decide)) (eas_cons (es_lst in1 (eas_cons (es_of (v := .str (n ++ "x")) (ev_op (ev_var rfl) ev_c fun H3 e3 Q q => ⟨n, "x", rfl, rfl, lnx, q H3 (Ex.refl _)⟩) (.str _)) eas_nil) (by show 1 ≤ 100000; decide)) eas_nil))))))))) (by show 0 < 9; decide) (by show 9 ≤ 1000; decide) fun j e v H2 hj rv S2 X2 => r _ _ ⟨e, List.mem_of_getElem? hj, rv, S2, X2⟩
        -- odd
        have XA2 : ExS sd sg H H2 := (ExS.of e1).trans X2
        have in2 := S2.inS
        have hcv2 : TupS H2 p0 vs1 := hcv.tp (hS.tp XA2)
        have hpa2 : TupS H2 pa (sv (areasD d)) := hpa.tp (hS.tp XA2)
        have paS : RepS (stS sd sg) H2 (.ref pa) (.tup ((areasD d).map D.str)) := S2.rep (.tup hpa2 (reps_strs _)) (by
          unfold D.imm
          exact imms_iff.mpr fun x hx => by
            obtain ⟨s, _, rfl⟩ := List.mem_map.mp hx
            rfl)
        have area : ∀ {σ : L2.St} {H3 : Hp}, σ[1]? = some (some (.ref p0)) → Ex H2 H3 → Ev (tOp (rIxT K) (tVar 1) (tC (.int 1))) σ H3 (.ref pa) := fun h e => ev_ixT (j := 1) (ev_var h) (hcv2.up e) h1
        refine q_asgS (σ := [some (.ref sd), some (.ref p0), some (.ref f), some (.str n), some (vb), none, none, none]) (fun x H3 => ∃ e, e ∈ oddL (areasD d) a0 ∧ RepS (stS sd sg) H3 x e ∧ Sta H3 sd sg sc b ∧ ExS sd sg H2 H3) (fun R r => ?_) fun vo H3 ⟨eo, meo, ro, S3, X3⟩ => ?_
        · refine pickS (sd := sd) (sg := sg) (sc := sc) (b := b) (ds := oddL (areasD d) a0) (ev_var rfl) S2 (eas_cons (es_of ev_c .non) (eas_cons (es_of ev_c (.str "zz")) (eas_cons (es_of ev_c (.int 0)) (eas_cons (es_of ev_c (.str "any")) (eas_cons (es_listOfT in2 (es_of (area rfl (Ex.refl _)) paS)) (eas_cons (es_tup in2 (eas_cons (es_of (ev_ixT (j := 0) (area rfl (Ex.refl _)) hpa2 sva) (.str a0)) eas_nil) (by show 1 ≤ 100000; decide)) (eas_cons (es_of ev_c (.str "")) eas_nil))))))) (by show 0 < 7; decide) (by show 7 ≤ 1000; decide) fun j e v H2 hj rv S2 X2 => r _ _ ⟨e, List.mem_of_getElem? hj, rv, S2, X2⟩
        obtain ⟨bf, bz⟩ := bad_fre hb hn mn ⟨_, ee0⟩ e0z meb
        obtain ⟨oa, oz⟩ := odd_am hb hn ma0 meo
        have X13 : ExS sd sg H H3 := XA2.trans X3
        have hv3 : Rep H3 (.ref p0) d := hv.monoT (hS.tp X13) _ _ him
        have hf3 := X13 _ _ hf nf1 nf2
        have rb3 : Rep H3 vb eb := (rb.up (hidP_exs X3)).up hidP_sub
        have ro3 : Rep H3 vo eo := ro.up hidP_sub
        have T3 := tabs_exs hT hS X13
        have hcv3 : TupS H3 p0 vs1 := hcv2.tp (S2.tp X3)
        have hpa3 : TupS H3 pa (sv (areasD d)) := hpa2.tp (S2.tp X3)
        obtain ⟨fre1, sz1, row1, _⟩ := O.fre hb
        have rf3 : Rep H3 (.ref f) (.lst (fr.map D.str)) := .lst hf3 (reps_strs _)
        have ama0 : amD (.str a0) (areasD d) = true := amg_iff.mpr ma0
        have a0z : (D.str a0).Sz := by
          unfold D.Sz
          have := hn.a a0 ma0
          unfold sixA at this
          have z : ∀ s ∈ sixA, s.length ≤ 1000 := by unfold sixA; decide +kernel
          exact z a0 (hn.a a0 ma0)
        -- house[1][0], then what comes behind
        have at0 : ∀ {σ : L2.St} {H4 H5 : Hp}, σ[1]? = some (some (.ref p0)) → ExtN H3 H4 → Ex H4 H5 → Ev (tOp (rIxT K) (tOp (rIxT K) (tVar 1) (tC (.int 1))) (tC (.int 0))) σ H5 (.str a0) := fun h e e2 => ev_ixT (j := 0) (ev_ixT (j := 1) (ev_var h) ((hcv3.xn e).up e2) h1) ((hpa3.xn e).up e2) sva
        have asks : ∀ {H4 H5 : Hp} {x y z : V} {e f g : D}, ExtN H3 H4 → Ex H4 H5 → Rep H3 x e → e.Sz → Rep H3 y f → Rep H3 z g → Asks H5 [.ref p0, x, y, z] (.ref p0) d x e y f z g := fun e4 e5 rx ez ry rz => ⟨rfl, (hv3.xn e4).up e5, hsz, hb, (rx.xn e4).up e5, ez, (ry.xn e4).up e5, (rz.xn e4).up e5⟩
        -- no list of unlike doors
        refine q_asgW (σ := [some (.ref sd), some (.ref p0), some (.ref f), some (.str n), some (vb), some (vo), none, none]) (lam_exc T3 (T.caught T.u_BadDoors) (fun H4 e4 E1 R k => ⟨.ref p0, rfl, vb, rfl, S0, .ref p0, d, vb, eb, rfl, (hv3.xn e4).up hid0, hsz, hb, rb3.xn e4, bz, in0, (fun _ H2 e2 => k H2 e2), (fun h => by rw [bf] at h; cases h)⟩) fun x1 H4 e4 T4 k1 => ⟨by show 1 ≤ sizeLine; rw [sizeLine_eq]; decide, fun p fp => ?_⟩)
        have np3 : ∀ {a : Addr} {o : HO}, H3 a = some o → (∀ ps, o ≠ .tbl ps) → a ≠ p := fun h t z => by
          have := e4 _ _ h t
          rw [z, fp] at this
          cases this
        have E5 : ExtN H3 (upd H4 p (.lst [x1])) := e4.trans (ExtN.of (Ex.new fp))
        have T5 : Tabs Tb (upd H4 p (.lst [x1])) := T4.ext (Ex.new fp)
        have hp5 : upd H4 p (.lst [x1]) p = some (.lst [x1]) := upd_same
        have k1 := k1.xn (ExtN.of (Ex.new (o := .lst [x1]) fp))
        generalize upd H4 p (.lst [x1]) = H5 at E5 T5 hp5 k1
        refine ⟨.ref p, rfl, .inl ⟨rfl, _, .of hp5⟩, lam_exc T5 (T.caught T.u_BadDoors) (fun H6 e6 E1 R k => ⟨.ref p0, rfl, vb, rfl, vo, rfl, vo, rfl, S0, .ref p0, d, vb, eb, vo, eo, vo, eo, asks (E5.trans e6) (Ex.refl _) rb3 bz ro3 ro3, in0, (fun C hC H2 e2 => by rw [first_bad bf] at hC; cases hC; exact k H2 e2), (fun h => by rw [first_bad bf] at h; cases h)⟩) fun x2 H6 e6 T6 k2 => ?_⟩
        have hp6 := e6 _ _ hp5 fun ps z => by cases z
        have k1 := k1.xn e6
        refine ⟨p, [x1], x2, rfl, rfl, hp6, by show 1 < sizeLine; rw [sizeLine_eq]; decide, ?_⟩
        have E7 : ExtN H3 (upd H6 p (.lst ([x1] ++ [x2]))) := fun a o h t => (upd_ne (np3 h t)).trans ((E5.trans e6) a o h t)
        have T7 : Tabs Tb (upd H6 p (.lst ([x1] ++ [x2]))) := tabs_upd T6 hp6
        have hp7 : upd H6 p (.lst ([x1] ++ [x2])) p = some (.lst [x1, x2]) := upd_same
        have k1 : Kept (upd H6 p (.lst ([x1] ++ [x2]))) x1 (.exc T.c_BadDoors) := kept_upd k1 hp6
        have k2 : Kept (upd H6 p (.lst ([x1] ++ [x2]))) x2 (.exc T.c_BadDoors) := kept_upd k2 hp6
        generalize upd H6 p (.lst ([x1] ++ [x2])) = H7 at E7 T7 hp7 k1 k2
        dsimp only
        refine q_asgW (σ := [some (.ref sd), some (.ref p0), some (.ref f), some (.str n), some (vb), some (vo), some (.ref p), none]) ⟨.ref p, rfl, lam_exc T7 (T.caught T.u_BadDoors) (fun H8 e8 E1 R k => ⟨.ref p0, rfl, vb, rfl, at0 rfl (E7.trans e8) (Ex.refl _) H8 (Ex.refl _) _ fun H9 e9 => at0 rfl (E7.trans e8) e9 H9 (Ex.refl _) _ fun H10 e10 => ⟨S0, .ref p0, d, vb, eb, .str a0, .str a0, .str a0, .str a0, asks (E7.trans e8) (e9.trans e10) rb3 bz (.str _) (.str _), in0, (((hv3.xn (E7.trans e8)).up (e9.trans e10))).up hid0, (fun C hC H2 e2 => by rw [ends_of (first_bad bf)] at hC; cases hC; exact k H2 ((e9.trans e10).trans e2)), (fun h => by rw [ends_of (first_bad bf)] at h; cases h)⟩⟩) fun x3 H8 e8 T8 k3 => ⟨by show 1 ≤ sizeLine; rw [sizeLine_eq]; decide, fun p2 fp2 => ⟨p, p2, [x1, x2], [x3], rfl, rfl, Ex.new fp2 _ _ (e8 _ _ hp7 fun ps z => by cases z), upd_same, by show 3 ≤ sizeLine; rw [sizeLine_eq]; decide, fun r fr2 => ?_⟩⟩⟩
        have E9 : ExtN H8 (upd (upd H8 p2 (.lst [x3])) r (.lst ([x1, x2] ++ [x3]))) := ExtN.of ((Ex.new fp2).trans (Ex.new fr2))
        have T9 : Tabs Tb (upd (upd H8 p2 (.lst [x3])) r (.lst ([x1, x2] ++ [x3]))) := T8.ext ((Ex.new fp2).trans (Ex.new fr2))
        have hr9 : upd (upd H8 p2 (.lst [x3])) r (.lst ([x1, x2] ++ [x3])) r = some (.lst [x1, x2, x3]) := upd_same
        have k1 := (k1.xn e8).xn E9
        have k2 := (k2.xn e8).xn E9
        have k3 := k3.xn E9
        have E9 := (E7.trans e8).trans E9
        generalize upd (upd H8 p2 (.lst [x3])) r (.lst ([x1, x2] ++ [x3])) = H9 at E9 T9 hr9 k1 k2 k3
        have all3 : ∀ {C : Addr} {H : Hp} {x1 x2 x3 : V}, Kept H x1 (.exc C) → Kept H x2 (.exc C) → Kept H x3 (.exc C) → ∀ x ∈ [x1, x2, x3], Kept H x (.exc C) := fun k1 k2 k3 x hx => by
          simp only [List.mem_cons, List.not_mem_nil, or_false] at hx
          rcases hx with rfl | rfl | rfl
          · exact k1
          · exact k2
          · exact k3
        refine s_ifX (σ := [some (.ref sd), some (.ref p0), some (.ref f), some (.str n), some (vb), some (vo), some (.ref r), none]) (b := false) (et_test (ev_neNil0 (el_none (ev_var rfl) hr9 fun x hx H10 e10 => et_is (et_not (et_B (ev_isErr (ev_var rfl) ((all3 k1 k2 k3 x hx).xn (ExtN.of e10)) T.E_BadDoors.ex T.q_BadDoors))) rfl))) (fun h => by cases h) (fun _ H10 e10 => ?_)
        have E10 := E9.trans (ExtN.of e10)
        have T10 := T9.ext e10
        -- no area
        refine q_asgW (σ := [some (.ref sd), some (.ref p0), some (.ref f), some (.str n), some (vb), some (vo), some (.ref r), none]) (lam_exc T10 (T.caught T.u_BadArea) (fun H8 e8 E1 R k => ⟨.ref p0, rfl, .ref f, rfl, vo, rfl, at0 rfl (E10.trans e8) (Ex.refl _) H8 (Ex.refl _) _ fun H9 e9 => ⟨S0, .ref p0, d, .ref f, .lst (fr.map D.str), vo, eo, .str a0, .str a0, asks (E10.trans e8) e9 rf3 sz1 ro3 (.str _), in0, (fun C hC H2 e2 => by rw [first_area fre1 oa] at hC; cases hC; exact k H2 (e9.trans e2)), (fun h => by rw [first_area fre1 oa] at h; cases h)⟩⟩) fun y1 H11 e11 T11 j1 => lam_exc T11 (T.caught T.u_BadArea) (fun H8 e8 E1 R k => ⟨.ref p0, rfl, .ref f, rfl, at0 rfl ((E10.trans e11).trans e8) (Ex.refl _) H8 (Ex.refl _) _ fun H9 e9 => ⟨vo, rfl, S0, .ref p0, d, .ref f, .lst (fr.map D.str), .str a0, .str a0, vo, eo, asks ((E10.trans e11).trans e8) e9 rf3 sz1 (.str _) ro3, in0, (fun C hC H2 e2 => by rw [ends_of (first_area2 fre1 ama0 oa)] at hC; cases hC; exact k H2 (e9.trans e2)), (fun h => by rw [ends_of (first_area2 fre1 ama0 oa)] at h; cases h), (fun h => by rw [ends_of (first_area2 fre1 ama0 oa)] at h; cases h)⟩⟩) fun y2 H12 e12 T12 j2 => lam_exc T12 (T.caught T.u_BadArea) (fun H8 e8 E1 R k => ⟨.ref p0, rfl, .ref f, rfl, vo, rfl, vo, rfl, S0, .ref p0, d, .ref f, .lst (fr.map D.str), vo, eo, vo, eo, asks (((E10.trans e11).trans e12).trans e8) (Ex.refl _) rf3 sz1 ro3 ro3, in0, (hv3.xn (((E10.trans e11).trans e12).trans e8)).up hid0, (fun C hC H2 e2 => by rw [ends_of (first_area fre1 oa)] at hC; cases hC; exact k H2 e2), (fun h => by rw [ends_of (first_area fre1 oa)] at h; cases h)⟩) fun y3 H13 e13 T13 j3 => ⟨by show 3 ≤ sizeLine; rw [sizeLine_eq]; decide, fun p3 fp3 => ?_⟩)
        have hp14 : upd H13 p3 (.lst [y1, y2, y3]) p3 = some (.lst [y1, y2, y3]) := upd_same
        have E14 : ExtN H3 (upd H13 p3 (.lst [y1, y2, y3])) := (((E10.trans e11).trans e12).trans e13).trans (ExtN.of (Ex.new fp3))
        have T14 : Tabs Tb (upd H13 p3 (.lst [y1, y2, y3])) := T13.ext (Ex.new fp3)
        have j1 := ((j1.xn e12).xn e13).xn (ExtN.of (Ex.new (o := .lst [y1, y2, y3]) fp3))
        have j2 := (j2.xn e13).xn (ExtN.of (Ex.new (o := .lst [y1, y2, y3]) fp3))
        have j3 := j3.xn (ExtN.of (Ex.new (o := .lst [y1, y2, y3]) fp3))
        generalize upd H13 p3 (.lst [y1, y2, y3]) = H14 at hp14 E14 T14 j1 j2 j3
        refine s_ret (v := .bl true) (ev_eqNil0 (el_none (ev_var rfl) hp14 fun x hx H15 e15 => et_is (et_not (et_B (ev_isErr (ev_var rfl) ((all3 j1 j2 j3 x hx).xn (ExtN.of e15)) T.E_BadArea.ex T.q_BadArea))) rfl)) fun H15 e15 => q H15 ((S3.xn E14).up e15) ((XT.exs X13).trans ((XT.xn E14).trans (XT.ex e15))) (T14.ext e15)
end
end Kx

set_option Elab.async false
set_option linter.all false
set_option maxRecDepth 100000
set_option maxHeartbeats 400000
namespace Kx
open PySem PySem.Spec PyProof.Rows L2 Evl
open LamX
/-! ## whether all that is told of two areas is right -/
def spPickT : Sp := fun vs H Q _ => ∃ (sd sg sc : Addr) (b : Nat) (l : Addr) (xs : List V), vs = [.ref sd, .ref l] ∧ TupS H l xs ∧ 0 < xs.length ∧ xs.length ≤ 1000 ∧ Sta H sd sg sc (b + 1) ∧ ∀ (j : Nat) (x : V) (H' : Hp), xs[j]? = some x → Sta H' sd sg sc b → ExS sd sg H H' → Q x H'
def gLW {α : Type} (us ws : List α) : List α := match us, ws with
  | [], [a, b, c, d] => [a, d, c, b]
  | _, _ => []
def gNW {α : Type} (us ws : List α) : List α := match us, ws with
  | [], [a, b, c, d] => [b, a, c, d]
  | _, _ => []
section
variable {K : PySem.W.Frag} {mg : Str → Option Value}
theorem kb_least_way (T : Txt K mg) : KBinds K T.d_least_way ["building", "free", "area", "other"] ["building", "other", "area", "free"] gLW gLW where
  to := fun s us ws X hl => by
    obtain ⟨oc, od, kV, doc, pm, an, cdv, ct, osl, ed, lk, hcd⟩ := T.F_least_way.ex
    rw [ed]
    match us, ws, hl with
    | [], [a, b, c, d], _ => exact .of_eq rfl
  rel := fun {vs us zs ws} r rz => by
    cases r with
    | nil => cases rz with
      | nil => exact .nil
      | cons r1 rz => cases rz with
        | nil => exact .nil
        | cons r2 rz => cases rz with
          | nil => exact .nil
          | cons r3 rz => cases rz with
            | nil => exact .nil
            | cons r4 rz => cases rz with
              | nil => exact .cons r1 (.cons r4 (.cons r3 (.cons r2 .nil)))
              | cons _ _ => exact .nil
    | cons _ _ => exact .nil
theorem kb_narrows (T : Txt K mg) : KBinds K T.d_narrows ["building", "free", "area", "other"] ["free", "building", "area", "other"] gNW gNW where
  to := fun s us ws X hl => by
    obtain ⟨oc, od, kV, doc, pm, an, cdv, ct, osl, ed, lk, hcd⟩ := T.F_narrows.ex
    rw [ed]
    match us, ws, hl with
    | [], [a, b, c, d], _ => exact .of_eq rfl
  rel := fun {vs us zs ws} r rz => by
    cases r with
    | nil => cases rz with
      | nil => exact .nil
      | cons r1 rz => cases rz with
        | nil => exact .nil
        | cons r2 rz => cases rz with
          | nil => exact .nil
          | cons r3 rz => cases rz with
            | nil => exact .nil
            | cons r4 rz => cases rz with
              | nil => exact .cons r2 (.cons r1 (.cons r3 (.cons r4 .nil)))
              | cons _ _ => exact .nil
    | cons _ _ => exact .nil
end
def qPair : Str := (envOfC "_law_pair_right" (defScope s_law_pair_right) 0 0 .none).qual ++ ("<lambda>" : Str)
def spPair (Tb : List (Addr × Str)) : Sp := fun vs H Q _ => ∃ (sd sg sc : Addr) (b : Nat) (v : V) (d : D) (f : Addr) (fr : List Str), vs = [.ref sd, v, .ref f] ∧ Rep H v d ∧ d.imm = true ∧ d.Sz ∧ d.bld = true ∧ HN d ∧ H f = some (.lst (sv fr)) ∧ f ≠ sd ∧ f ≠ sg ∧ Opn d fr ∧ Sta H sd sg sc (b + 2) ∧ Tabs Tb H ∧
  ∀ H', Sta H' sd sg sc b → XT sd sg H H' → Tabs Tb H' → Q (.bl true) H'
theorem least_pln {d : D} {fr : List Str} {a b : Str} (hb : d.bld = true) : Pln (leastD (waysL d fr a b)) := by
  cases h : waysL d fr a b with
  | nil => exact ⟨by show D.pk .non = true; unfold D.pk; rfl, by show D.deep .non ≤ 60; unfold D.deep; exact Nat.zero_le _⟩
  | cons w0 r => exact row_pln fun s hs => dn_ok hb s (open_in (way_names (fr := fr) (a := a) (b := b) hb (by rw [h]; exact List.mem_cons_self) s hs))
theorem nar_pln {d : D} {fr : List Str} {a b : Str} (hb : d.bld = true) (ha : a ∈ areasD d) : Pln (.tup ((narL (everyL d fr a b) (everyL d fr a b) a).map D.str)) := by
  have h : ∀ s ∈ narL (everyL d fr a b) (everyL d fr a b) a, PyData.strOk s = true := fun s hs => by
    cases e : everyL d fr a b with
    | nil => rw [e] at hs; cases hs
    | cons v0 r =>
      rw [e] at hs
      have m := (List.mem_filter.mp hs).1
      have m2 : s ∈ a :: v0.2 := List.mem_of_mem_drop (List.mem_of_mem_take m)
      have hv := (mem_every hb v0).mp (by rw [e]; exact List.mem_cons_self)
      exact areas_ok hb s ((List.mem_cons.mp m2).elim (fun e => e ▸ ha) (Wy.path_in (stL_in hb) (mem_ways.mp hv).1.1 s))
  have r := row_tup h
  exact ⟨r.1, Nat.le_trans r.2 (by decide)⟩
section
variable {P : Program} {w : World} {K : PySem.W.Frag} {mg : Str → Option Value} {base : Heap} (T : Txt K mg)
theorem ok_pickT : FnOk P w K mg base CX0 3 T.a_law_pick T.d_law_pick ["state", "some"] spPickT := by
  refine T.F_law_pick.ok sc_law_pick (fun vs H Q E h => ?_) (fun cdv A outer s H vs Q E hr h => ?_)
  · obtain ⟨sd, sg, sc, b, l, xs, rfl, _⟩ := h
    rfl
  · obtain ⟨sd, sg, sc, b, l, xs, rfl, hl, h0, h1, hS, q⟩ := h
    refine ⟨_, pss_one (ps_ret (pe_ix (r := rIxT K) ix_tup (pv 1) (pe_call (ok_draw T) hr (by rfl) T.g_law_draw T.F_law_draw.kp (b_law_draw T) .nil pass0 (pa_cons (pv 0) (pa_cons (pe_callB call_len_seq (by rfl) T.z_len bo_len (pa_cons (pv 1) pa_nil)) pa_nil))) (fun _ _ => rfl))), ?_⟩
    refine ⟨.ref l, rfl, .ref sd, rfl, .ref l, rfl, l, xs, rfl, .inr hl.sq, sd, sg, sc, b, xs.length, rfl, by omega, by omega, hS, fun z H' z0 z1 hS' e' => ?_⟩
    obtain ⟨k, rfl⟩ : ∃ k : Nat, z = (k : Int) := ⟨z.toNat, by omega⟩
    have hj : k < xs.length := by omega
    exact rv_ixT (K := K) (hl.tp (hS.tp e')).sq (i := (k : Int)) (atI_nat (List.getElem?_eq_getElem hj)) H' (Ex.refl _) _ fun H2 e2 => q k _ H2 (List.getElem?_eq_getElem hj) (hS'.up e2) (e'.trans (.of e2))
end
end Kx

set_option Elab.async false
set_option linter.all false
set_option maxRecDepth 100000
set_option maxHeartbeats 400000
namespace Kx
open PySem PySem.Spec PyProof.Rows L2 Evl
open LamX
theorem lam_any {K : PySem.W.Frag} {σ : L2.St} {H : Hp} {CS : Addr} {Tb : List (Addr × Str)} {t : XK → TE} {Q : VK} {o : Out} (hT : Tabs Tb H) (hc : ∀ C, o = .exc C → PySem.W.exmOne K (.ref C) (.ref CS) = some true) (ht : ∀ H1, ExtN H H1 → ∀ (E : XK) (R : VK), (∀ z H2, o = .ret .non → Ex H1 H2 → R z H2) → (∀ H2, Ex H1 H2 → outOk o H2 R E) → t E σ H1 R)
    (q : ∀ x H3, ExtN H H3 → Tabs Tb H3 → Kept H3 x o → Q x H3) : tLam Tb (TCaught K CS) t σ H Q := ⟨hT, fun H1 e1 T1 => caught_go hc (fun E R k1 k2 => ht H1 e1 E R k1 k2) fun x H3 e3 k3 => q x H3 (e1.trans (ExtN.of e3)) (T1.ext e3) k3⟩
theorem first_none {cD cA : Addr} {d e f g : D} (h : e.fre d.dn = true) (h2 : amD f (areasD d) = true) (h3 : amD g (areasD d) = true) : firstErr cD cA d e f g = none := by
  unfold firstErr
  rw [if_neg (by rw [h]; decide), if_neg (by rw [h2]; decide), if_neg (by rw [h3]; decide)]
theorem ends_same {cD cA cS : Addr} {d e f g : D} (h : firstErr cD cA d e f g = none) (h2 : f.txt = g.txt) : endsErr cD cA cS d e f g = some cS := by
  unfold endsErr
  rw [h]
  exact if_pos h2
theorem ends_none {cD cA cS : Addr} {d e f g : D} (h : firstErr cD cA d e f g = none) (h2 : f.txt ≠ g.txt) : endsErr cD cA cS d e f g = none := by
  unfold endsErr
  rw [h]
  exact if_neg h2
section
variable {P : Program} {w : World} {K : PySem.W.Frag} {mg : Str → Option Value} {base : Heap} (T : Txt K mg)
theorem ok_pair {c Pt : Addr} {Tb : List (Addr × Str)} (F : FunC K "_law_pair_right" s_law_pair_right T.a_law_pair_right c T.d_law_pair_right) (TB : TabB base mg c Pt) (hm : (Pt, qPair) ∈ Tb) (hu : ∀ p ∈ Tb, p.1 = Pt → p.2 = qPair) (nSN : PySem.W.kitOne K (.type "NoneType") (.ref T.c_NoWay) = some false) :
    FnOk P w K mg base CX0 13 T.a_law_pair_right T.d_law_pair_right ["state", "house", "open_ones"] (spPair Tb) := by
  refine F.ok sc_law_pair_right (fun vs H Q E h => ?_) (fun A outer s H vs Q E hr h => ?_)
  · obtain ⟨sd, sg, sc, b, v, d, f, fr, rfl, _⟩ := h
    rfl
  · obtain ⟨sd, sg, sc, bb, v, d, f, fr, rfl, hv, him, hsz, hb, hn, hf, nf1, nf2, O, hS, hT, q⟩ := h
    have nd := sc_law_pair_right.nd
    obtain ⟨oc, od, kV, doc, pm, an, cdv, ct, osl, ed, lk, hcd⟩ := T.F_law_caught.ex
    have hbd := b_law_caught T
    rw [ed] at hbd lk
    have hu4 : (A.deeper (envOfC "_law_pair_right" (defScope s_law_pair_right) s.heap.objs.size T.a_law_pair_right (.ref c))).units + 64 < cLine := by have := hr.un; omega
    have G1 : GivesTo (cxOf CX0 P w K mg base ["state", "house", "open_ones", "area", "other", "every", "told", "caught"] "_law_pair_right" (defScope s_law_pair_right) T.a_law_pair_right (.ref c) A outer s H E).nox ["action", "found", "error"] "_law_caught" (defScope s_law_caught) T.a_law_caught cdv (defBody s_law_caught) "action" qPair (TCaught K T.c_KeptError) := caught_gives T.E_KeptError.g
    refine ⟨_, (pss_cons (ps_asg (pe_tupF (pa_cons (pe_call (ok_pickT T) (hr.mono (by decide)) (by rfl) T.g_law_pick T.F_law_pick.kp (b_law_pick T) .nil pass0 (pa_cons (pv 0) (pa_cons (pe_ix (r := rIxT K) ix_tup (pv 1) pe_int (fun _ _ => rfl)) pa_nil))) (pa_cons (pe_call (ok_pickT T) (hr.mono (by decide)) (by rfl) T.g_law_pick T.F_law_pick.kp (b_law_pick T) .nil pass0 (pa_cons (pv 0) (pa_cons (pe_ix (r := rIxT K) ix_tup (pv 1) pe_int (fun _ _ => rfl)) pa_nil))) pa_nil))) (pg_tup rfl (pgs_cons (pg_name (i := 3) nd rfl (.inr rfl)) (pgs_cons (pg_name (i := 4) nd rfl (.inr rfl)) pgs_nil))))
      (pss_cons (ps_set (i := 5) nd rfl (.inl rfl) (pe_call (ok_go T 5) (hr.mono (by decide)) (by rfl) T.g_law_all_ways T.F_law_all_ways.kp (b_law_all_ways T) .nil pass0 (pa_cons (pv 1) (pa_cons (pv 2) (pa_cons (pv 3) (pa_cons (pv 4) (pa_cons (pe_lst (pa_cons (pv 3) pa_nil)) pa_nil)))))))
      (pss_cons (ps_set (i := 6) nd rfl (.inl rfl) (pe_named (E := fun _ _ _ => False) (ok_least_way T) (hr.mono (by decide)) (by rfl) T.g_least_way T.F_least_way.kp (kb_least_way T) (passes_call L2.takes0 fun _ _ _ _ h => h) (pk_cons (pv 1) (pk_cons (pv 4) (pk_cons (pv 3) (pk_cons (pe_callTy call_tupF (by rfl) T.z_tuple bo_tuple (pa_cons (pv 2) pa_nil)) pk_nil))))))
      (pss_cons (ps_if (PW.pt (pw_or (pt_cmpR (op_neD hu4) (pv 6) (pe_call (ok_least T) (hr.mono (by decide)) (by rfl) T.g_law_least T.F_law_least.kp (b_law_least T) .nil pass0 (pa_cons (pv 1) (pa_cons (pv 5) pa_nil))) (nomark _)) (pw_or1 (PW.pt (pw_and (pt_cmpR op_notN1 (pv 6) pe_non (nomark _)) (pw_and1 (pt_not (pt_val (pe_isi T.z_isinstance T.z_list bo_list (pv 6)))))))))) (pss_one (ps_ret pe_bl)) pss_nil)
      (pss_cons (ps_set (i := 7) nd rfl (.inl rfl) (pe_lst (pa_cons (pe_lamcall (T := Tb) (k := 10) (TT := TCaught K T.c_KeptError) (t := fun E1 => tCall (spParting T.c_BadDoors T.c_BadArea T.c_SameArea) [] E1 (tCons (tVar 1) (tCons (tVar 2) (tCons (tVar 3) (tCons (tVar 4) tNil))))) (by rfl) T.g_law_caught T.F_law_caught.kp lk hcd hbd sc_law_caught rfl (.inl rfl) G1 TB rfl hm hu (hr.mono (by decide)) (lamS_by (by show lamSB (defScope s_law_pair_right) _ = true; decide +kernel)) rfl (fun _ _ _ _ _ => rfl) (fun A outer s H E f c' hr => pe_call (E := E) (ok_parting T) (hr.mono (by decide)) (by rfl) T.g_parting T.F_parting.kp (b_parting T) .nil (passes_call (takes_of rfl rfl rfl rfl) fun _ _ _ _ h => h) (pa_cons (pv 1) (pa_cons (pv 2) (pa_cons (pv 3) (pa_cons (pv 4) pa_nil)))))) (pa_cons (pe_lamcall (T := Tb) (k := 10) (TT := TCaught K T.c_KeptError) (t := fun E1 => tCall (spNarrows T.c_BadDoors T.c_BadArea T.c_SameArea T.c_NoWay) [] E1 (tCons (tVar 1) (tCons (tVar 2) (tCons (tVar 3) (tCons (tVar 4) tNil))))) (by rfl) T.g_law_caught T.F_law_caught.kp lk hcd hbd sc_law_caught rfl (.inl rfl) G1 TB rfl hm hu (hr.mono (by decide)) (lamS_by (by show lamSB (defScope s_law_pair_right) _ = true; decide +kernel)) rfl (fun _ _ _ _ _ => rfl) (fun A outer s H E f c' hr => pe_call (E := E) (ok_narrows T) (hr.mono (by decide)) (by rfl) T.g_narrows T.F_narrows.kp (b_narrows T) .nil (passes_call (takes_of rfl rfl rfl rfl) fun _ _ _ _ h => h) (pa_cons (pv 1) (pa_cons (pv 2) (pa_cons (pv 3) (pa_cons (pv 4) pa_nil)))))) pa_nil))))
      (pss_cons (ps_if (pt_cmpR op_eq (pv 3) (pv 4) (nomark _)) (pss_one (ps_ret (pe_and (pe_callB call_is2 (by rfl) T.z_isinstance bo_isinstance (pa_cons (pe_ix (r := rIxL K) ix_list (pv 7) pe_int (fun _ _ => rfl)) (pa_cons (pe_glob (v := .ref T.c_SameArea) (by rfl) T.E_SameArea.g rfl) pa_nil))) (pe_one (pe_callB call_is2 (by rfl) T.z_isinstance bo_isinstance (pa_cons (pe_ix (r := rIxL K) ix_list (pv 7) pe_int (fun _ _ => rfl)) (pa_cons (pe_glob (v := .ref T.c_SameArea) (by rfl) T.E_SameArea.g rfl) pa_nil))))))) pss_nil)
      (pss_cons (ps_if (PW.pt (pw_or (pt_cmpR op_notN1 (pe_ix (r := rIxL K) ix_list (pv 7) pe_int (fun _ _ => rfl)) pe_non (nomark _)) (pw_or1 (pt_not (pt_val (pe_call (ok_part_right T) (hr.mono (by decide)) (by rfl) T.g_law_parting_right T.F_law_parting_right.kp (b_law_parting_right T) .nil pass0 (pa_cons (pv 1) (pa_cons (pv 2) (pa_cons (pv 5) (pa_cons (pe_call (E := fun _ _ _ => False) (ok_parting T) (hr.mono (by decide)) (by rfl) T.g_parting T.F_parting.kp (b_parting T) .nil (passes_call L2.takes0 fun _ _ _ _ h => h) (pa_cons (pv 1) (pa_cons (pv 2) (pa_cons (pv 3) (pa_cons (pv 4) pa_nil))))) pa_nil)))))))))) (pss_one (ps_ret pe_bl)) pss_nil)
      (pss_cons (ps_if (pt_cmpR (op_eqD hu4) (pv 5) (pe_lst pa_nil) (nomark _)) (pss_one (ps_ret (pe_callB call_is2 (by rfl) T.z_isinstance bo_isinstance (pa_cons (pe_ix (r := rIxL K) ix_list (pv 7) pe_int (fun _ _ => rfl)) (pa_cons (pe_glob (v := .ref T.c_NoWay) (by rfl) T.E_NoWay.g rfl) pa_nil))))) pss_nil)
      (pss_one (ps_ret (pe_and (pe_cmpR op_isN1 (pe_ix (r := rIxL K) ix_list (pv 7) pe_int (fun _ _ => rfl)) pe_non (nomark _)) (pe_one (pe_cmpR (op_eqD hu4) (pe_named (E := fun _ _ _ => False) (ok_narrows T) (hr.mono (by decide)) (by rfl) T.g_narrows T.F_narrows.kp (kb_narrows T) (passes_call L2.takes0 fun _ _ _ _ h => h) (pk_cons (pv 2) (pk_cons (pv 1) (pk_cons (pv 3) (pk_cons (pv 4) pk_nil))))) (pe_call (ok_law_narrow T) (hr.mono (by decide)) (by rfl) T.g_law_narrow T.F_law_narrow.kp (b_law_narrow T) .nil pass0 (pa_cons (pv 5) pa_nil)) (nomark _)))))))))))))), ?_⟩
    obtain ⟨p0, vs1, pa, rfl, hcv, h1, hpa⟩ := areas_at hb hv
    have a6 := (door_ends hb).1
    have svl : (sv (areasD d)).length = (areasD d).length := List.length_map _
    have a1 : 0 < (areasD d).length := by
      obtain ⟨as, es, ks, rs, B⟩ := bld_is hb
      have ea : areasD d = as := by
        rw [B.eq]
        show (as.map D.str).map _ = as
        rw [List.map_map]
        exact List.map_id as
      rw [ea]
      have := B.a2
      omega
    have str_of : ∀ {j : Nat} {x : V}, (sv (areasD d))[j]? = some x → ∃ s, x = .str s ∧ s ∈ areasD d := fun {j x} h => by
      obtain ⟨s, hs, rfl⟩ := List.mem_map.mp (List.mem_of_getElem? h)
      exact ⟨s, rfl, hs⟩
    -- the two areas
    refine ⟨.ref sd, rfl, ev_ixT (j := 1) (ev_var rfl) hcv h1 H (Ex.refl _) _ fun H1 e1 => ⟨sd, sg, sc, bb + 1, pa, sv (areasD d), rfl, hpa.up e1, by omega, by omega, hS.up e1, fun j x H2 hx S2 X2 => ?_⟩⟩
    obtain ⟨a, rfl, ha⟩ := str_of hx
    have X2' : ExS sd sg H H2 := (ExS.of e1).trans X2
    have hcv2 := hcv.tp (hS.tp X2')
    have hpa2 := hpa.tp (hS.tp X2')
    refine ⟨.ref sd, rfl, ev_ixT (j := 1) (ev_var rfl) hcv2 h1 H2 (Ex.refl _) _ fun H3 e3 => ⟨sd, sg, sc, bb, pa, sv (areasD d), rfl, hpa2.up e3, by omega, by omega, S2.up e3, fun j2 x2 H4 hx2 S4 X4 => ?_⟩⟩
    obtain ⟨b, rfl, hbm⟩ := str_of hx2
    refine ⟨by show 2 ≤ sizeLine; rw [sizeLine_eq]; decide, fun p o np ho => ⟨p, [.str a, .str b], rfl, .inl (.inr ⟨o, upd_same⟩), rfl, .str a, [.str b], rfl, .str b, [], rfl, rfl, ?_⟩⟩
    have X5 : ExS sd sg H (upd H4 p (.frz o (.tup [.str a, .str b]))) := X2'.trans ((ExS.of e3).trans (X4.trans (.of (Ex.new np))))
    have S5 : Sta (upd H4 p (.frz o (.tup [.str a, .str b]))) sd sg sc bb := S4.up (Ex.new np)
    generalize upd H4 p (.frz o (.tup [.str a, .str b])) = H5 at X5 S5
    have hv5 : Rep H5 (.ref p0) d := hv.monoT (hS.tp X5) _ _ him
    have hf5 := X5 _ _ hf nf1 nf2
    have T5 := tabs_exs hT hS X5
    obtain ⟨fre1, sz1, row1, fre2, sz2, row2⟩ := O.fre hb
    have ama : amD (.str a) (areasD d) = true := amg_iff.mpr ha
    have amb : amD (.str b) (areasD d) = true := amg_iff.mpr hbm
    have fn1 := first_none (cD := T.c_BadDoors) (cA := T.c_BadArea) fre1 ama amb
    have fn2 := first_none (cD := T.c_BadDoors) (cA := T.c_BadArea) fre2 ama amb
    -- all ways
    refine s_asgS (S := S0) (d := .lst ((everyL d fr a b).map (wayD a))) (te := tCall (spGo 5) [] E0 (tCons (tVar 1) (tCons (tVar 2) (tCons (tVar 3) (tCons (tVar 4) (tCons (tLst (tCons (tVar 3) tNil)) tNil)))))) (σ := [some (.ref sd), some (.ref p0), some (.ref f), some (.str a), some (.str b), none, none, none]) (fun H6 e6 Q1 q1 => ⟨.ref p0, rfl, .ref f, rfl, .str a, rfl, .str b, rfl, .str a, rfl, by show 1 ≤ sizeLine; rw [sizeLine_eq]; decide, fun pb npb => ⟨S0, .ref p0, d, f, fr, a, b, pb, [a], rfl, ((hv5.up e6).up (Ex.new npb)).up hid0, hb, .inl ((e6.trans (Ex.new npb)) _ _ hf5), upd_same, List.mem_cons_self, by simp, fun z hz => List.mem_singleton.mp hz ▸ ha, by show 6 - 1 ≤ 5; decide, in0, fun u H7 e7 r7 => q1 u H7 ((Ex.new npb).trans e7) r7⟩⟩) fun u H6 e6 ru => ?_
    have hv6 := hv5.up e6
    have hf6 := e6 _ _ hf5
    -- the least way
    refine s_asgS (S := S0) (d := leastD (waysL d fr a b)) (te := tCallK (spLeast T.c_BadDoors T.c_BadArea) gLW (fun _ _ _ => False) tNil (tCons (tVar 1) (tCons (tVar 4) (tCons (tVar 3) (tCons (tCB (rTupOf K) (tCons (tVar 2) tNil)) tNil))))) (σ := [some (.ref sd), some (.ref p0), some (.ref f), some (.str a), some (.str b), some (u), none, none]) (fun H7 e7 Q1 q1 => ⟨.ref p0, rfl, .str b, rfl, .str a, rfl, .ref f, rfl, f, sv fr, rfl, .of (e7 _ _ hf6), fun t o nt ho => ⟨S0, .ref p0, d, .ref t, .tup (fr.map D.str), .str a, .str a, .str b, .str b, ⟨rfl, hv6.up (e7.trans (Ex.new nt)), hsz, hb, .tup ⟨o, ho, upd_same⟩ (reps_strs _), sz2, .str a, .str b⟩, in0, (fun C hC => by rw [fn2] at hC; cases hC), fun _ w H8 e8 r8 => q1 w H8 ((Ex.new nt).trans e8) (by rw [row2] at r8; exact r8)⟩⟩) fun tv H7 e7 rt => ?_
    have ru7 := ru.up (hidP_ex e7)
    have hv7 := hv6.up e7
    have hf7 := e7 _ _ hf6
    have test1 : EvT (tTest (tOp (rNeD K) (tVar 6) (tCall spLL [] E0 (tCons (tVar 1) (tCons (tVar 5) tNil))))) [some (.ref sd), some (.ref p0), some (.ref f), some (.str a), some (.str b), some (u), some (tv), none] H7 false := et_test (ev_neS (S := S0) (es_of (ev_var rfl) rt) (fun H8 e8 Q1 q1 => ⟨.ref p0, rfl, u, rfl, S0, .ref p0, u, d, fr, a, b, rfl, (hv7.up e8).up hid0, hb, ha, ru7.up (hidP_ex e8), in0, q1⟩) (least_pln hb))
    have test2 : EvT (tAnd (tTest (tOp rNotN (tVar 6) (tC .non))) (tNot (tB (tIsi K (tVar 6) "list")))) [some (.ref sd), some (.ref p0), some (.ref f), some (.str a), some (.str b), some (u), some (tv), none] H7 false := by
      cases hw : waysL d fr a b with
      | nil =>
        rw [hw] at rt
        have et : tv = .non := by cases rt; rfl
        subst et
        exact et_is (et_and (a := false) (b := false) (et_test fun H8 e8 Q q => ⟨.non, rfl, rfl, q H8 (Ex.refl _)⟩) (fun h => by cases h)) rfl
      | cons w0 r =>
        rw [hw] at rt
        unfold leastD at rt
        cases rt with
        | @lst l us _ hl rl =>
          exact et_is (et_and (a := true) (b := false) (et_test fun H8 e8 Q q => ⟨.ref l, rfl, rfl, q H8 (Ex.refl _)⟩) (fun _ => et_is (et_not (et_B (ev_isiL (K := K) (ev_var rfl) fun H1 e1 => .base (.lst (e1 _ _ (hidP_get hl).1))))) rfl)) rfl
    refine s_ifX (σ := [some (.ref sd), some (.ref p0), some (.ref f), some (.str a), some (.str b), some (u), some (tv), none]) (b := false || false) (et_or (a := false) (b := false) test1 fun _ => test2) (fun h => by cases h) (fun _ H8 e8 => ?_)
    have T8 := T5.ext ((e6.trans e7).trans e8)
    have hv8 := hv7.up e8
    have hf8 := e8 _ _ hf7
    have ru8 := ru7.up (hidP_ex e8)
    have S8 := S5.up ((e6.trans e7).trans e8)
    have X8 : XT sd sg H H8 := (XT.exs X5).trans (XT.ex ((e6.trans e7).trans e8))
    have asks : ∀ {H9 : Hp}, ExtN H8 H9 → Asks H9 [.ref p0, .ref f, .str a, .str b] (.ref p0) d (.ref f) (.lst (fr.map D.str)) (.str a) (.str a) (.str b) (.str b) := fun e9 => ⟨rfl, hv8.xn e9, hsz, hb, (Rep.lst hf8 (reps_strs _)).xn e9, sz1, .str a, .str b⟩
    have fin : ∀ H9, ExtN H8 H9 → Tabs Tb H9 → Q (.bl true) H9 := fun H9 e9 T9 => q H9 (S8.xn e9) (X8.trans (XT.xn e9)) T9
    have i0 : ∀ {σ : L2.St} {H9 : Hp} {p : Addr} {x1 x2 : V}, σ[7]? = some (some (.ref p)) → H9 p = some (.lst [x1, x2]) → Ev (tOp (rIxL K) (tVar 7) (tC (.int 0))) σ H9 x1 := fun h hp => ev_op (ev_var h) ev_c (rv_ixL (.of hp) (atI_nat (j := 0) rfl))
    have i1 : ∀ {σ : L2.St} {H9 : Hp} {p : Addr} {x1 x2 : V}, σ[7]? = some (some (.ref p)) → H9 p = some (.lst [x1, x2]) → Ev (tOp (rIxL K) (tVar 7) (tC (.int 1))) σ H9 x2 := fun h hp => ev_op (ev_var h) ev_c (rv_ixL (.of hp) (atI_nat (j := 1) rfl))
    by_cases hab : a = b
    · subst hab
      have es := ends_same (cS := T.c_SameArea) fn1 rfl
      refine q_asgW (σ := [some (.ref sd), some (.ref p0), some (.ref f), some (.str a), some (.str a), some (u), some (tv), none]) (lam_exc T8 (T.caught T.u_SameArea) (fun H9 e9 E1 R k => ⟨.ref p0, rfl, .ref f, rfl, .str a, rfl, .str a, rfl, S0, .ref p0, d, .ref f, .lst (fr.map D.str), .str a, .str a, .str a, .str a, asks e9, in0, (hv8.xn e9).up hid0, (fun C hC H2 e2 => by rw [es] at hC; cases hC; exact k H2 e2), (fun h => by rw [es] at h; cases h)⟩) fun x1 H9 e9 T9 k1 =>
        lam_exc T9 (T.caught T.u_SameArea) (fun H10 e10 E1 R k => ⟨.ref p0, rfl, .ref f, rfl, .str a, rfl, .str a, rfl, S0, .ref p0, d, .ref f, .lst (fr.map D.str), .str a, .str a, .str a, .str a, asks (e9.trans e10), in0, (fun C hC H2 e2 => by rw [es] at hC; cases hC; exact k H2 e2), (fun h => by rw [es] at h; cases h), (fun h => by rw [es] at h; cases h)⟩) fun x2 H10 e10 T10 k2 => ⟨by show 2 ≤ sizeLine; rw [sizeLine_eq]; decide, fun r nr => ?_⟩)
      have hr : upd H10 r (.lst [x1, x2]) r = some (.lst [x1, x2]) := upd_same
      have E11 : ExtN H8 (upd H10 r (.lst [x1, x2])) := (e9.trans e10).trans (ExtN.of (Ex.new nr))
      have T11 : Tabs Tb (upd H10 r (.lst [x1, x2])) := T10.ext (Ex.new nr)
      have k1 := (k1.xn e10).xn (ExtN.of (Ex.new (o := .lst [x1, x2]) nr))
      have k2 := k2.xn (ExtN.of (Ex.new (o := .lst [x1, x2]) nr))
      generalize upd H10 r (.lst [x1, x2]) = H11 at hr E11 T11 k1 k2
      refine s_ifX (σ := [some (.ref sd), some (.ref p0), some (.ref f), some (.str a), some (.str a), some (u), some (tv), some (.ref r)]) (b := true) (et_test (ev_is (ev_op (ev_var (i := 3) rfl) (ev_var (i := 4) rfl) (rv_eq rfl)) (congrArg V.bl (decide_eq_true rfl)))) (fun _ H12 e12 => ?_) (fun h => by cases h)
      refine s_ret (v := .bl true) (σ := [some (.ref sd), some (.ref p0), some (.ref f), some (.str a), some (.str a), some (u), some (tv), some (.ref r)]) (ev_andV (a := true) (b := true) (ev_isErr (i0 rfl (e12 _ _ hr)) (k1.xn (ExtN.of e12)) T.E_SameArea.ex T.q_SameArea) fun _ => ev_isErr (i1 rfl (e12 _ _ hr)) (k2.xn (ExtN.of e12)) T.E_SameArea.ex T.q_SameArea) fun H13 e13 => fin H13 (E11.trans (ExtN.of (e12.trans e13))) (T11.ext (e12.trans e13))
    · have en := ends_none (cS := T.c_SameArea) fn1 hab
      have part : ∀ {H9 : Hp} {E1 : XK} {R : VK}, ExtN H8 H9 → (∀ z H2, Ex H9 H2 → RepS S0 H2 z (partD d fr a b) → R z H2) → spParting T.c_BadDoors T.c_BadArea T.c_SameArea [.ref p0, .ref f, .str a, .str b] H9 R E1 := fun e9 k => ⟨S0, .ref p0, d, .ref f, .lst (fr.map D.str), .str a, .str a, .str b, .str b, asks e9, in0, (hv8.xn e9).up hid0, (fun C hC => by rw [en] at hC; cases hC), fun _ z H2 e2 r2 => k z H2 e2 (by rw [row1] at r2; exact r2)⟩
      let o2 : Out := if waysL d fr a b = [] then .exc T.c_NoWay else .ret .non
      have narr : ∀ {H9 : Hp} {E1 : XK} {R : VK}, ExtN H8 H9 → (waysL d fr a b = [] → ∀ H2, Ex H9 H2 → E1 (.ref T.c_NoWay) none H2) → (waysL d fr a b ≠ [] → ∀ z H2, Ex H9 H2 → RepS S0 H2 z (narD (waysL d fr a b) a) → R z H2) → spNarrows T.c_BadDoors T.c_BadArea T.c_SameArea T.c_NoWay [.ref p0, .ref f, .str a, .str b] H9 R E1 := fun e9 k1 k2 => ⟨S0, .ref p0, d, .ref f, .lst (fr.map D.str), .str a, .str a, .str b, .str b, asks e9, in0, (fun C hC => by rw [en] at hC; cases hC), (fun _ hw H2 e2 => k1 (by rw [row1] at hw; exact hw) H2 e2), fun _ hw z H2 e2 r2 => by
        rw [row1] at hw r2
        exact k2 hw z H2 e2 r2⟩
      refine q_asgW (σ := [some (.ref sd), some (.ref p0), some (.ref f), some (.str a), some (.str b), some (u), some (tv), none]) (lam_ret T8 (fun H9 e9 E1 R k => ⟨.ref p0, rfl, .ref f, rfl, .str a, rfl, .str b, rfl, part e9 fun z H2 e2 _ => k z H2 e2⟩) fun H9 e9 T9 =>
        lam_any (o := o2) T9 (fun C e => by
          by_cases hw : waysL d fr a b = []
          · rw [show o2 = .exc T.c_NoWay from if_pos hw] at e
            cases e
            exact T.caught T.u_NoWay
          · rw [show o2 = .ret .non from if_neg hw] at e
            cases e) (fun H10 e10 E1 R k1 k2 => ⟨.ref p0, rfl, .ref f, rfl, .str a, rfl, .str b, rfl, narr (e9.trans e10) (fun hw H2 e2 => by
              have g := k2 H2 e2
              rw [show o2 = .exc T.c_NoWay from if_pos hw] at g
              exact g) (fun hw z H2 e2 _ => k1 z H2 (if_neg hw) e2)⟩) fun x2 H10 e10 T10 k2 => ⟨by show 2 ≤ sizeLine; rw [sizeLine_eq]; decide, fun r nr => ?_⟩)
      have hr : upd H10 r (.lst [.non, x2]) r = some (.lst [.non, x2]) := upd_same
      have E11 : ExtN H8 (upd H10 r (.lst [.non, x2])) := (e9.trans e10).trans (ExtN.of (Ex.new nr))
      have T11 : Tabs Tb (upd H10 r (.lst [.non, x2])) := T10.ext (Ex.new nr)
      have k2 := k2.xn (ExtN.of (Ex.new (o := .lst [.non, x2]) nr))
      generalize upd H10 r (.lst [.non, x2]) = H11 at hr E11 T11 k2
      have ru11 : Rep H11 u (.lst ((everyL d fr a b).map (wayD a))) := (ru8.up hidP_sub).xn E11
      refine s_ifX (σ := [some (.ref sd), some (.ref p0), some (.ref f), some (.str a), some (.str b), some (u), some (tv), some (.ref r)]) (b := false) (et_test (ev_is (ev_op (ev_var (i := 3) rfl) (ev_var (i := 4) rfl) (rv_eq rfl)) (congrArg V.bl (decide_eq_false fun h => hab (V.str.inj h))))) (fun h => by cases h) (fun _ H12 e12 => ?_)
      have E12 := E11.trans (ExtN.of e12)
      -- the parting is right
      refine s_ifX (σ := [some (.ref sd), some (.ref p0), some (.ref f), some (.str a), some (.str b), some (u), some (tv), some (.ref r)]) (b := false || false) (et_or (a := false) (b := false) (et_test fun H13 e13 Q3 q3 => i0 rfl ((e12.trans e13) _ _ hr) H13 (Ex.refl _) _ fun H14 e14 => ⟨rfl, q3 H14 e14⟩) fun _ => et_is (et_not (et_B (b := true) fun H13 e13 Q3 q3 => ⟨.ref p0, rfl, .ref f, rfl, u, rfl, .ref p0, rfl, .ref f, rfl, .str a, rfl, .str b, rfl, ⟨S0, .ref p0, d, .ref f, .lst (fr.map D.str), .str a, .str a, .str b, .str b, asks (E12.trans (ExtN.of e13)), in0, (hv8.xn (E12.trans (ExtN.of e13))).up hid0, (fun C hC => by rw [en] at hC; cases hC), fun _ z H14 e14 rz => ⟨S0, .ref p0, d, f, fr, a, b, u, z, rfl, ((hv8.xn (E12.trans (ExtN.of e13))).up e14).up hid0, hb, .inl (((E12.trans (ExtN.of e13)).trans (ExtN.of e14)) _ _ hf8 fun ps z => by cases z), ha, hab, (((ru11.up e12).up e13).up e14).up hid0, (by rw [row1] at rz; exact rz), in0, fun H15 e15 => q3 H15 (e14.trans e15)⟩⟩⟩)) rfl) (fun h => by cases h) (fun _ H13 e13 => ?_)
      have E13 := E12.trans (ExtN.of e13)
      have T13 := T11.ext (e12.trans e13)
      have k13 := (k2.xn (ExtN.of e12)).xn (ExtN.of e13)
      have ru13 := (ru11.up e12).up e13
      have hr13 := (e12.trans e13) _ _ hr
      refine s_ifX (σ := [some (.ref sd), some (.ref p0), some (.ref f), some (.str a), some (.str b), some (u), some (tv), some (.ref r)]) (b := (everyL d fr a b).isEmpty) (et_test (ev_is (ev_eqNilS (S := S0) (es_of (ev_var rfl) (ru13.up hid0)) (ways_pln hb ha fun w hw => (mem_every hb w).mp hw)) (by rw [List.isEmpty_map]))) (fun hb2 H14 e14 => ?_) (fun hb2 H14 e14 => ?_)
      · have hw := (every_nil hb).mp (List.isEmpty_iff.mp hb2)
        rw [show o2 = .exc T.c_NoWay from if_pos hw] at k13
        exact s_ret (v := .bl true) (σ := [some (.ref sd), some (.ref p0), some (.ref f), some (.str a), some (.str b), some (u), some (tv), some (.ref r)]) (ev_isErr (i1 rfl (e14 _ _ hr13)) (k13.xn (ExtN.of e14)) T.E_NoWay.ex T.q_NoWay) fun H15 e15 => fin H15 (E13.trans (ExtN.of (e14.trans e15))) (T13.ext (e14.trans e15))
      · have hw : waysL d fr a b ≠ [] := fun z => by
          rw [(every_nil hb).mpr z] at hb2
          cases hb2
        rw [show o2 = .ret .non from if_neg hw] at k13
        obtain rfl : x2 = .non := k13
        have nr := narrow_right hb ha hab hw
        have ene : everyL d fr a b ≠ [] := fun z => hw ((every_nil hb).mp z)
        refine s_ret (v := .bl true) (σ := [some (.ref sd), some (.ref p0), some (.ref f), some (.str a), some (.str b), some (u), some (tv), some (.ref r)]) (ev_andV (a := true) (b := true) (fun H15 e15 Q3 q3 => i1 rfl ((e14.trans e15) _ _ hr13) H15 (Ex.refl _) _ fun H16 e16 => ⟨rfl, q3 H16 e16⟩) fun _ => ev_eqS (S := S0) (d := .tup ((narL (everyL d fr a b) (everyL d fr a b) a).map D.str)) (fun H15 e15 Q3 q3 => ⟨.ref f, rfl, .ref p0, rfl, .str a, rfl, .str b, rfl, ⟨S0, .ref p0, d, .ref f, .lst (fr.map D.str), .str a, .str a, .str b, .str b, asks (E13.trans (ExtN.of (e14.trans e15))), in0, (fun C hC => by rw [en] at hC; cases hC), (fun _ hw2 => by rw [row1] at hw2; exact absurd hw2 hw), fun _ _ z H16 e16 rz => q3 z H16 e16 (by rw [row1] at rz; have rz : RepS S0 H16 z (narD (waysL d fr a b) a) := rz; rw [nr] at rz; exact rz)⟩⟩) (fun H15 e15 Q3 q3 => ⟨u, rfl, S0, u, everyL d fr a b, a, rfl, ((ru13.up e14).up e15).up hid0, ene, every_len hb, (fun w hw => by
          have h := mem_ways.mp ((mem_every hb w).mp hw)
          have := h.1.1.len
          have := h.2
          omega), in0, q3⟩) (nar_pln hb ha)) fun H15 e15 => fin H15 (E13.trans (ExtN.of (e14.trans e15))) (T13.ext (e14.trans e15))
end
end Kx

set_option Elab.async false
set_option linter.all false
set_option maxRecDepth 100000
set_option maxHeartbeats 400000
namespace Kx
open PySem PySem.Spec PyProof.Rows L2 Evl
/-! ## a drawn building -/
theorem cut_takeX {α : Type} (xs : List α) (n : Nat) : cutX xs none (some (n : Int)) = xs.take n := by
  unfold cutX
  rw [HT.sIx_none, HT.sIx_nat, List.drop_zero, Nat.sub_zero]
  by_cases h : n ≤ xs.length
  · rw [Nat.min_eq_left h]
  · rw [Nat.min_eq_right (by omega), List.take_of_length_le (Nat.le_refl _), List.take_of_length_le (by omega)]
theorem cutV_sv (ss : List Str) (n : Nat) : cutV (sv ss) none (some (n : Int)) = sv (ss.take n) := by
  have e : cutV (sv ss) none (some (n : Int)) = cutX (sv ss) none (some (n : Int)) := rfl
  rw [e, cut_takeX]
  unfold sv
  rw [List.map_take]
theorem sixA_nd : sixA.Nodup ∧ sixA.length = 6 ∧ (∀ s ∈ sixA, PyData.strOk s = true) ∧ ∀ s ∈ sixA, nmS s = true := by unfold sixA; decide +kernel
theorem sixN_nd : sixN.Nodup ∧ sixN.length = 6 ∧ (∀ s ∈ sixN, PyData.strOk s = true) ∧ ∀ s ∈ sixN, nmS s = true := by unfold sixN; decide +kernel
theorem leafs_ok : ∀ s ∈ leafs, PyData.strOk s = true := by unfold leafs; decide +kernel
theorem dr_pln {as : List Str} (has : ∀ s ∈ as, PyData.strOk s = true) {es : List D} (h : ∀ e ∈ es, D.dr as e = true) : Pln (.lst es) := pln_lst (n := 1) (by decide) fun e he => by
  obtain ⟨n, a, b, s, rfl, hn, ha, hb, _, hs⟩ := dr_shape (h e he)
  have r := row_tup (ss := [n, a, b, s]) fun x hx => by
    simp only [List.mem_cons, List.not_mem_nil, or_false] at hx
    rcases hx with rfl | rfl | rfl | rfl
    · exact strOk_nm hn
    · exact has _ ha
    · exact has _ hb
    · exact leafs_ok _ hs
  exact r
theorem house_bld {as ns : List Str} {es : List D} (a2 : 2 ≤ as.length) (a6 : as.length ≤ 6) (na : as.Nodup) (va : ∀ s ∈ as, nmS s = true) (e1 : 1 ≤ es.length) (e6 : es.length ≤ 6) (un : es.map (fun x => x.fst.txt) = ns) (nn : ns.Nodup) (ud : ∀ x ∈ es, D.dr as x = true) :
    D.bld (.tup [.str "building", .tup (as.map D.str), .tup es, .tup ((["staff"] : List Str).map D.str), .tup []]) = true := by
  have tx1 : ∀ l : List Str, (l.map D.str).map D.txt = l := fun l => by
    rw [List.map_map]
    exact List.map_id l
  have nmsOk : ∀ (l : List Str) (lo hi : Int), lo ≤ (l.length : Int) → (l.length : Int) ≤ hi → l.Nodup → (∀ s ∈ l, nmS s = true) → D.nms (.tup (l.map D.str)) lo hi = true := fun l lo hi h1 h2 h3 h4 => by
    rw [nms_tup, tx1, decide_eq_true h3]
    have e1 : isTup (.tup (l.map D.str)) lo hi = true := by
      show (decide (lo ≤ ((l.map D.str).length : Int)) && decide (((l.map D.str).length : Int) ≤ hi)) = true
      rw [List.length_map, decide_eq_true h1, decide_eq_true h2]
      rfl
    have e2 : (l.map D.str).all D.nm = true := List.all_eq_true.mpr fun x hx => by
      obtain ⟨s, hs, rfl⟩ := List.mem_map.mp hx
      exact h4 s hs
    rw [e1, e2]
    rfl
  have kv : ∀ s ∈ (["staff"] : List Str), nmS s = true := by decide +kernel
  rw [bld_5, show D.txts (.tup (as.map D.str)) = as from tx1 as, show D.fsts (.tup es) = ns from un, nmsOk as 2 6 (by omega) (by omega) na va, nmsOk ["staff"] 1 3 (by decide) (by decide) (by simp) kv, drs_tup, un, decide_eq_true nn]
  have e1 : isTup (.tup es) 1 6 = true := by
    show (decide ((1 : Int) ≤ (es.length : Int)) && decide ((es.length : Int) ≤ 6)) = true
    rw [decide_eq_true (by omega), decide_eq_true (by omega)]
    rfl
  have e2 : es.all (D.dr as) = true := List.all_eq_true.mpr ud
  have e3 : D.isS (.str "building") "building" = true := by decide +kernel
  rw [e1, e2, e3]
  rfl
section
variable {σ : L2.St} {H : Hp} {t u : TT} {tu tz : TS} {D0 : Ends}
theorem q_ifK (M : L2.St → Hp → Prop) (k : ∀ σ' H', M σ' H' → tz D0 σ' H') (h : ∀ N : L2.St → Hp → Prop, (∀ σ' H', M σ' H' → N σ' H') → t σ H fun b H1 => if b = true then tu { D0 with nx := N } σ H1 else N σ H1) : tSeq (tIfS t tu tNext) tz D0 σ H := h (tz D0) k
end
def spHouseW : Sp := fun vs H Q _ => ∃ (sd sg sc : Addr) (b : Nat), vs = [.ref sd] ∧ Sta H sd sg sc (b + 40) ∧ ∀ (v : V) (d : D) (H' : Hp), Rep H' v d → d.bld = true → d.imm = true → d.Sz → HN d → Sta H' sd sg sc b → ExS sd sg H H' → Q v H'
section
variable {P : Program} {w : World} {K : PySem.W.Frag} {mg : Str → Option Value} {base : Heap} (T : Txt K mg)
theorem ok_houseW : FnOk P w K mg base CX0 4 T.a_law_house T.d_law_house ["state"] spHouseW := by
  refine T.F_law_house.ok sc_law_house (fun vs H Q E h => ?_) (fun cdv A outer s H vs Q E hr h => ?_)
  · obtain ⟨sd, sg, sc, b, rfl, _⟩ := h
    rfl
  · obtain ⟨sd, sg, sc, b, rfl, hS, q⟩ := h
    have nd := sc_law_house.nd
    have hu4 : (A.deeper (envOfC "_law_house" (defScope s_law_house) s.heap.objs.size T.a_law_house cdv)).units + 64 < cLine := by have := hr.un; omega
    refine ⟨_, (pss_cons (ps_set (i := 1) nd rfl (.inl rfl) (pe_slice sl_list (pe_lst (pa_cons pe_str (pa_cons pe_str (pa_cons pe_str (pa_cons pe_str (pa_cons pe_str (pa_cons pe_str pa_nil))))))) po_none (po_some (pe_op op_add pe_int (pe_call (ok_draw T) (hr.mono (by decide)) (by rfl) T.g_law_draw T.F_law_draw.kp (b_law_draw T) .nil pass0 (pa_cons (pv 0) (pa_cons pe_int pa_nil)))))))
      (pss_cons (ps_par (i := 1) (j := 2) rfl nd rfl rfl (by decide) rfl rfl (pa_cons (pe_call (ok_shuf T) (hr.mono (by decide)) (by rfl) T.g_law_shuffled T.F_law_shuffled.kp (b_law_shuffled T) .nil pass0 (pa_cons (pv 0) (pa_cons (pv 1) pa_nil))) (pa_cons (pe_lst pa_nil) pa_nil)) (by rfl))
      (pss_cons (ps_for PassesOwn.never rfl (pi_list (pe_slice sl_list (pe_call (ok_shuf T) (hr.mono (by decide)) (by rfl) T.g_law_shuffled T.F_law_shuffled.kp (b_law_shuffled T) .nil pass0 (pa_cons (pv 0) (pa_cons (pe_lst (pa_cons pe_str (pa_cons pe_str (pa_cons pe_str (pa_cons pe_str (pa_cons pe_str (pa_cons pe_str pa_nil))))))) pa_nil))) po_none (po_some (pe_op op_add pe_int (pe_call (ok_draw T) (hr.mono (by decide)) (by rfl) T.g_law_draw T.F_law_draw.kp (b_law_draw T) .nil pass0 (pa_cons (pv 0) (pa_cons pe_int pa_nil))))))) (pg_name (i := 3) nd rfl (.inl rfl)) (pss_cons (ps_set (i := 4) nd rfl (.inl rfl) (pe_call (ok_draw T) (hr.mono (by decide)) (by rfl) T.g_law_draw T.F_law_draw.kp (b_law_draw T) .nil pass0 (pa_cons (pv 0) (pa_cons (pe_callB call_len_seq (by rfl) T.z_len bo_len (pa_cons (pv 1) pa_nil)) pa_nil))))
      (pss_cons (ps_set (i := 5) nd rfl (.inl rfl) (pe_op op_mod (pe_callTy call_int1 (by rfl) T.z_int bo_int (pa_cons (pe_op op_add (pe_op op_add (pv 4) pe_int) (pe_call (ok_draw T) (hr.mono (by decide)) (by rfl) T.g_law_draw T.F_law_draw.kp (b_law_draw T) .nil pass0 (pa_cons (pv 0) (pa_cons (pe_op op_sub (pe_callB call_len_seq (by rfl) T.z_len bo_len (pa_cons (pv 1) pa_nil)) pe_int) pa_nil)))) pa_nil)) (pe_callB call_len_seq (by rfl) T.z_len bo_len (pa_cons (pv 1) pa_nil))))
      (pss_cons (ps_if (PW.pt (pw_and (pt_cmpR (op_neD hu4) (pv 2) (pe_lst pa_nil) (nomark _)) (pw_and1 (pt_cmpR op_eq (pe_call (ok_draw T) (hr.mono (by decide)) (by rfl) T.g_law_draw T.F_law_draw.kp (b_law_draw T) .nil pass0 (pa_cons (pv 0) (pa_cons pe_int pa_nil))) pe_int (nomark _))))) (pss_one (ps_par (i := 4) (j := 5) rfl nd rfl rfl (by decide) rfl rfl (pa_cons (pe_bm PySem.F.plainAttrs_list PySem.F.slot_list_index PySem.F.type_list_index mt_index (pv 1) (pa_cons (pe_ix (r := rIxT K) ix_tup (pe_ix (r := rIxL K) ix_list (pv 2) pe_int (fun _ _ => rfl)) pe_int (fun _ _ => rfl)) pa_nil)) (pa_cons (pe_bm PySem.F.plainAttrs_list PySem.F.slot_list_index PySem.F.type_list_index mt_index (pv 1) (pa_cons (pe_ix (r := rIxT K) ix_tup (pe_ix (r := rIxL K) ix_list (pv 2) pe_int (fun _ _ => rfl)) pe_int (fun _ _ => rfl)) pa_nil)) pa_nil)) (by rfl))) pss_nil)
      (pss_one (ps_expr (pe_bm PySem.F.plainAttrs_list PySem.F.slot_list_append PySem.F.type_list_append mt_append (pv 2) (pa_cons (pe_tupF (pa_cons (pv 3) (pa_cons (pe_ix (r := rIxL K) ix_list (pv 1) (pv 4) (fun _ _ => rfl)) (pa_cons (pe_ix (r := rIxL K) ix_list (pv 1) (pv 5) (fun _ _ => rfl)) (pa_cons (pe_call (ok_pickL T) (hr.mono (by decide)) (by rfl) T.g_law_pick T.F_law_pick.kp (b_law_pick T) .nil pass0 (pa_cons (pv 0) (pa_cons (pe_lst (pa_cons pe_str (pa_cons pe_str pa_nil))) pa_nil))) pa_nil))))) pa_nil))))))))
      (pss_one (ps_ret (pe_tupF (pa_cons pe_str (pa_cons (pe_callTy call_tupF (by rfl) T.z_tuple bo_tuple (pa_cons (pv 1) pa_nil)) (pa_cons (pe_callTy call_tupF (by rfl) T.z_tuple bo_tuple (pa_cons (pv 2) pa_nil)) (pa_cons (pe_tupF (pa_cons pe_str pa_nil)) (pa_cons (pe_tupF pa_nil) pa_nil))))))))))), ?_⟩
    -- the areas
    refine ⟨by show 6 ≤ sizeLine; rw [sizeLine_eq]; decide, fun p0 np0 => ⟨.ref sd, rfl, sd, sg, sc, b + 39, 5, rfl, by decide, by decide, hS.up (Ex.new np0), fun z1 H1 z0 zl S1 X1 => ⟨2, z1, rfl, rfl, ?_⟩⟩⟩
    obtain ⟨n1, rfl⟩ : ∃ k : Nat, z1 = (k : Int) := ⟨z1.toNat, by omega⟩
    obtain ⟨m1, g1, _⟩ := hS.off np0
    have hp0 : H1 p0 = some (.lst (sv sixA)) := X1 _ _ upd_same m1 g1
    refine ⟨2 + (n1 : Int), rfl, p0, sv sixA, rfl, .of hp0, fun q0 nq0 => ?_⟩
    rw [show (2 + (n1 : Int)) = ((2 + n1 : Nat) : Int) by omega, cutV_sv]
    obtain ⟨sa1, sa2, sa3, sa4⟩ := sixA_nd
    have lA : (sixA.take (2 + n1)).length = 2 + n1 := by rw [List.length_take, sa2]; omega
    have XA1 : ExS sd sg H (upd H1 q0 (.lst (sv (sixA.take (2 + n1))))) := (ExS.of (Ex.new np0)).trans (X1.trans (.of (Ex.new nq0)))
    have SA1 := S1.up (Ex.new (o := .lst (sv (sixA.take (2 + n1)))) nq0)
    have hq0 : upd H1 q0 (.lst (sv (sixA.take (2 + n1)))) q0 = some (.lst (sv (sixA.take (2 + n1)))) := upd_same
    generalize upd H1 q0 (.lst (sv (sixA.take (2 + n1)))) = H2 at XA1 SA1 hq0
    refine ⟨.ref sd, rfl, .ref q0, rfl, sd, sg, sc, b + 33, q0, sixA.take (2 + n1), rfl, hq0, by omega, (fun s hs => sa3 s (List.mem_of_mem_take hs)), SA1.less (by omega), fun p1 as H3 np1 hp1 pm S3 X3 => ?_⟩
    have las : as.length = 2 + n1 := by rw [pm.length_eq, lA]
    have nda : as.Nodup := pm.symm.nodup (sa1.sublist (List.take_sublist _ _))
    have asA : ∀ s ∈ as, s ∈ sixA := fun s hs => List.mem_of_mem_take (pm.mem_iff.mp hs)
    obtain ⟨m3, g3, _⟩ := SA1.off np1
    refine ⟨Nat.zero_le _, fun p3 np3 => ⟨_, _, rfl, ?_⟩⟩
    have XB : ExS sd sg H (upd H3 p3 (.lst [])) := XA1.trans (X3.trans (.of (Ex.new np3)))
    have SB := S3.up (Ex.new (o := .lst []) np3)
    have hp3 : upd H3 p3 (.lst []) p3 = some (.lst []) := upd_same
    have hp1B : upd H3 p3 (.lst []) p1 = some (.lst (sv as)) := Ex.new np3 _ _ hp1
    have n31 : p3 ≠ p1 := (ne_of_none hp1 np3).symm
    obtain ⟨a3, b3, c3⟩ := S3.off np3
    have np3H : H p3 = none := by
      cases e : H p3 with
      | none => rfl
      | some o =>
        have := (XA1.trans X3) _ _ e a3 b3
        rw [np3] at this
        cases this
    generalize upd H3 p3 (.lst []) = H4 at XB SB hp3 hp1B
    -- the names of the doors
    obtain ⟨sn1, sn2, sn3, sn4⟩ := sixN_nd
    refine ⟨.ref sd, rfl, by show 6 ≤ sizeLine; rw [sizeLine_eq]; decide, fun p4 np4 => ⟨sd, sg, sc, b + 25, p4, sixN, rfl, upd_same, by rw [sn2]; decide, sn3, (SB.up (Ex.new np4)).less (by rw [sn2]; omega), fun p5 ms H5 np5 hp5 pm5 S5 X5 => ?_⟩⟩
    obtain ⟨m5, g5, _⟩ := (SB.up (Ex.new (o := .lst (sv sixN)) np4)).off np5
    have X45 : ExS sd sg H4 H5 := (ExS.of (Ex.new np4)).trans X5
    refine ⟨.ref sd, rfl, sd, sg, sc, b + 24, 6, rfl, by decide, by decide, S5, fun z3 H6 z30 z3l S6 X6 => ⟨1, z3, rfl, rfl, ?_⟩⟩
    obtain ⟨n3, rfl⟩ : ∃ k : Nat, z3 = (k : Int) := ⟨z3.toNat, by omega⟩
    refine ⟨1 + (n3 : Int), rfl, p5, sv ms, rfl, .of (X6 _ _ hp5 m5 g5), fun q5 nq5 => ?_⟩
    rw [show (1 + (n3 : Int)) = ((1 + n3 : Nat) : Int) by omega, cutV_sv]
    have lms : ms.length = 6 := by rw [pm5.length_eq, sn2]
    have lns : (ms.take (1 + n3)).length = 1 + n3 := by rw [List.length_take, lms]; omega
    have ndn : (ms.take (1 + n3)).Nodup := (pm5.symm.nodup sn1).sublist (List.take_sublist _ _)
    have nsN : ∀ s ∈ ms.take (1 + n3), s ∈ sixN := fun s hs => pm5.mem_iff.mp (List.mem_of_mem_take hs)
    generalize ms.take (1 + n3) = ns at lns ndn nsN
    have hq5 : upd H6 q5 (.lst (sv ns)) q5 = some (.lst (sv ns)) := upd_same
    have X47 : ExS sd sg H4 (upd H6 q5 (.lst (sv ns))) := X45.trans (X6.trans (.of (Ex.new nq5)))
    have S7 := S6.up (Ex.new (o := .lst (sv ns)) nq5)
    have h1' := X47 _ _ hp1B m3 g3
    have h3' := X47 _ _ hp3 a3 b3
    have n35 : p3 ≠ q5 := ne_of_none ((X45.trans X6) _ _ hp3 a3 b3) nq5
    obtain ⟨m7, g7, _⟩ := S6.off nq5
    have X7 : ExS sd sg H (upd H6 q5 (.lst (sv ns))) := XB.trans X47
    generalize upd H6 q5 (.lst (sv ns)) = H7 at hq5 X7 S7 h1' h3'
    refine ⟨q5, rfl, ⟨_, .of hq5⟩, ?_⟩
    have gas : ∀ {j : Nat}, j < as.length → (sv as)[j]? = some (.str (as.getD j "")) := fun {j} hj => by
      unfold sv
      rw [List.getElem?_map, List.getElem?_eq_getElem hj]
      simp [List.getD, List.getElem?_eq_getElem hj]
    have lav : (sv as).length = as.length := List.length_map _
    refine for_list (xs := sv ns) (fun i σ' H' => ∃ (y3 y4 y5 : Option V) (us : List V) (es : List D), σ' = [some (.ref sd), some (.ref p1), some (.ref p3), y3, y4, y5] ∧ H' p3 = some (.lst us) ∧ Reps H' us es ∧ es.map (fun x => x.fst.txt) = ns.take i ∧ (∀ x ∈ es, D.dr as x = true) ∧ es.length = i
        ∧ H' p1 = some (.lst (sv as)) ∧ H' q5 = some (.lst (sv ns)) ∧ Sta H' sd sg sc (b + 4 * (ns.length - i)) ∧ ExS sd sg H H')
      ⟨none, none, none, [], [], rfl, h3', .nil, rfl, fun _ h => by simp at h, rfl, h1', hq5, S7.less (by omega), X7⟩ (fun i σ' H' _ pv => ?_) (fun i x σ' H' hx pv => ?_) (fun σ' H' pv => ?_)
    · obtain ⟨_, _, _, _, _, _, _, _, _, _, _, _, h5, _⟩ := pv
      exact .of h5
    · obtain ⟨y3, y4, y5, us, es, rfl, u3, ur, un, ud, ul, u1, u5, S8, X8⟩ := pv
      obtain ⟨nm, hnm, rfl⟩ : ∃ nm, ns[i]? = some nm ∧ x = .str nm := by
        unfold sv at hx
        rw [List.getElem?_map] at hx
        cases e : ns[i]? with
        | none =>
          rw [e] at hx
          cases hx
        | some y =>
          rw [e] at hx
          exact ⟨y, rfl, (Option.some.inj hx).symm⟩
      have hi : i < ns.length := (List.getElem?_eq_some_iff.mp hnm).1
      -- one, other
      refine ⟨.ref sd, rfl, .ref p1, rfl, p1, sv as, rfl, .inl (.of u1), sd, sg, sc, b + 4 * (ns.length - (i + 1)) + 3, (sv as).length, rfl, by omega, by omega, S8.less (by omega), fun w1 H9 w10 w1l S9 X9 => ?_⟩
      obtain ⟨o1, rfl⟩ : ∃ k : Nat, w1 = (k : Int) := ⟨w1.toNat, by omega⟩
      have v1 := X9 _ _ u1 m3 g3
      refine ⟨.int o1, rfl, _, _, rfl, rfl, .ref sd, rfl, .ref p1, rfl, p1, sv as, rfl, .inl (.of v1), _, _, rfl, rfl, sd, sg, sc, b + 4 * (ns.length - (i + 1)) + 2, (sv as).length - 1, rfl, by omega, by omega, S9, fun w2 H10 w20 w2l S10 X10 => ?_⟩
      have v1 := X10 _ _ v1 m3 g3
      refine ⟨(o1 : Int) + 1, w2, rfl, rfl, .inl ⟨_, rfl, .ref p1, rfl, p1, sv as, rfl, .inl (.of v1), _, _, rfl, rfl, by omega, ?_⟩⟩
      obtain ⟨o2, ho2⟩ : ∃ k : Nat, ((o1 : Int) + 1 + w2) % ((sv as).length : Int) = (k : Int) := ⟨(((o1 : Int) + 1 + w2) % ((sv as).length : Int)).toNat, by have := Int.emod_nonneg ((o1 : Int) + 1 + w2) (show ((sv as).length : Int) ≠ 0 by omega); omega⟩
      have ho2l : o2 < as.length := by
        have := Int.emod_lt_of_pos ((o1 : Int) + 1 + w2) (show (0 : Int) < ((sv as).length : Int) by omega)
        omega
      have ho1l : o1 < as.length := by omega
      have hne : o1 ≠ o2 := by
        intro e
        have e2 : ((o1 : Int) + 1 + w2) % ((sv as).length : Int) = (o1 : Int) := by rw [ho2, e]
        exact mod_ne (by omega) (by omega) (by omega) (by omega) e2
      show gName 5 (V.int (((o1 : Int) + 1 + w2) % ((sv as).length : Int))) _ _ _
      rw [ho2]
      have X810 := X9.trans X10
      have imes : imms es = true := imms_iff.mpr fun x hx => dr_imm (ud x hx)
      have w3 := X810 _ _ u3 a3 b3
      have w5 := X810 _ _ u5 m7 g7
      have ur10 := ur.monoT (S8.tp X810) _ _ imes
      have asok : ∀ s ∈ as, PyData.strOk s = true := fun s hs => sa3 s (asA s hs)
      unfold gName
      dsimp only
      refine q_ifK (σ := [some (.ref sd), some (.ref p1), some (.ref p3), some (.str nm), some (.int (o1 : Int)), some (.int (o2 : Int))]) (fun σ' H'' => ∃ o1 o2 : Nat, σ' = [some (.ref sd), some (.ref p1), some (.ref p3), some (.str nm), some (.int (o1 : Int)), some (.int (o2 : Int))] ∧ o1 < as.length ∧ o2 < as.length ∧ o1 ≠ o2 ∧ H'' p3 = some (.lst us) ∧ Reps H'' us es ∧ H'' p1 = some (.lst (sv as)) ∧ H'' q5 = some (.lst (sv ns)) ∧ Sta H'' sd sg sc (b + 4 * (ns.length - (i + 1)) + 1) ∧ ExS sd sg H' H'') (fun σ' H'' hM => ?_) fun N hN => ?_
      · obtain ⟨o1, o2, rfl, ho1l, ho2l, hne, x3, xr, x1, x5, S11, X11⟩ := hM
        refine ⟨.ref p3, rfl, .inl ⟨rfl, us, .of x3⟩, .str nm, rfl, .ref p1, rfl, .int o1, rfl, p1, sv as, o1, .str (as.getD o1 ""), rfl, rfl, .of x1, atI_nat (gas ho1l), .ref p1, rfl, .int o2, rfl, p1, sv as, o2, .str (as.getD o2 ""), rfl, rfl, .of x1, atI_nat (gas ho2l), .ref sd, rfl, by show 2 ≤ sizeLine; rw [sizeLine_eq]; decide, fun p6 f6 => ?_⟩
        obtain ⟨a6, b6, c6⟩ := S11.off f6
        refine ⟨sd, sg, sc, b + 4 * (ns.length - (i + 1)), p6, sv leafs, rfl, upd_same, a6, b6, by decide, by decide, S11.up (Ex.new f6), fun j4 x4 H12 hx4 S12 X12 => ?_⟩
        obtain ⟨lf, hlf, rfl⟩ := List.mem_map.mp (List.mem_of_getElem? hx4)
        have X1112 : ExS sd sg H'' H12 := (ExS.of (Ex.new f6)).trans X12
        refine ⟨by show 4 ≤ sizeLine; rw [sizeLine_eq]; decide, fun p7 o7 f7 d7 => ?_⟩
        have y3' := X1112 _ _ x3 a3 b3
        have n37 : p3 ≠ p7 := ne_of_none y3' f7
        have r7 : Rep (upd H12 p7 (.frz o7 (.tup [.str nm, .str (as.getD o1 ""), .str (as.getD o2 ""), .str lf]))) (.ref p7) (.tup [.str nm, .str (as.getD o1 ""), .str (as.getD o2 ""), .str lf]) := .tup ⟨o7, d7, upd_same⟩ (.cons (.str _) (.cons (.str _) (.cons (.str _) (.cons (.str _) .nil))))
        have E13 : Ex H12 (upd H12 p7 (.frz o7 (.tup [.str nm, .str (as.getD o1 ""), .str (as.getD o2 ""), .str lf]))) := Ex.new f7
        generalize upd H12 p7 (.frz o7 (.tup [.str nm, .str (as.getD o1 ""), .str (as.getD o2 ""), .str lf])) = H13 at E13 r7
        have X1113 : ExS sd sg H'' H13 := X1112.trans (.of E13)
        have z3' := E13 _ _ y3'
        have dok : D.dr as (.tup [.str nm, .str (as.getD o1 ""), .str (as.getD o2 ""), .str lf]) = true := by
          rw [dr_4]
          have t1 : nmS nm = true := sn4 nm (nsN nm (List.mem_of_getElem? hnm))
          have t2 : amg (as.getD o1 "") as = true := amg_iff.mpr (mem_getD ho1l)
          have t3 : amg (as.getD o2 "") as = true := amg_iff.mpr (mem_getD ho2l)
          have t4 : amg lf leafs = true := amg_iff.mpr hlf
          have t5 : as.getD o1 "" ≠ as.getD o2 "" := fun e => by
            have e1 := idx_getD nda ho1l
            rw [e, idx_getD nda ho2l] at e1
            exact hne e1.symm
          show ((nmS nm && (amg (as.getD o1 "") as && amg (as.getD o2 "") as)) && (!decide (as.getD o1 "" = as.getD o2 "") && amg lf leafs)) = true
          rw [t1, t2, t3, t4, decide_eq_false t5]
          rfl
        have usl : us.length = es.length := ur.length
        have t12 : Tp H13 (upd H13 p3 (.lst (us ++ [.ref p7]))) := Tp.lst z3'
        refine ⟨p3, us, .ref p7, rfl, rfl, z3', sz_lt (by omega), some (.str nm), some (.int o1), some (.int o2), us ++ [.ref p7], es ++ [.tup [.str nm, .str (as.getD o1 ""), .str (as.getD o2 ""), .str lf]], rfl, upd_same, ?_, ?_, ?_, by rw [List.length_append, ul]; rfl, (upd_ne n31.symm).trans (X1113 _ _ x1 m3 g3), (upd_ne n35.symm).trans (X1113 _ _ x5 m7 g7), (S12.up E13).upd a3 b3 c3, ?_⟩
        · exact ((xr.monoT (S11.tp X1113) _ _ imes).monoT t12 _ _ imes).append (.cons (r7.monoT t12 _ _ rfl) .nil)
        · rw [List.map_append, un, List.take_add_one, hnm]
          rfl
        · intro x hx
          rcases List.mem_append.mp hx with hx | hx
          · exact ud x hx
          · rw [List.mem_singleton.mp hx]
            exact dok
        · exact fun a o h n1 n2 => (upd_ne (ne_of_none h np3H)).trans ((X8.trans (X11.trans X1113)) a o h n1 n2)
      · -- at times as the first door, turned round
        have here : ∀ {H'' : Hp}, ExS sd sg H10 H'' → Sta H'' sd sg sc (b + 4 * (ns.length - (i + 1)) + 1) → N [some (.ref sd), some (.ref p1), some (.ref p3), some (.str nm), some (.int (o1 : Int)), some (.int (o2 : Int))] H'' := fun {H''} X S => hN _ _ ⟨o1, o2, rfl, ho1l, ho2l, hne, X _ _ w3 a3 b3, ur10.monoT (S10.tp X) _ _ imes, X _ _ v1 m3 g3, X _ _ w5 m7 g7, S, X810.trans X⟩
        have first : EvT (tTest (tOp (rNeD K) (tVar 2) (tLst tNil))) [some (.ref sd), some (.ref p1), some (.ref p3), some (.str nm), some (.int (o1 : Int)), some (.int (o2 : Int))] H10 (!es.isEmpty) := et_test (ev_neNilS (S := S0) (es_of (ev_var rfl) (Rep.up (.lst w3 ur10) hid0)) (dr_pln asok ud))
        refine first H10 (Ex.refl _) _ fun H11 e11 => ?_
        cases hes : es with
        | nil =>
          show if (!([] : List D).isEmpty) = true then _ else _
          exact iteF (iteF (here (.of e11) ((S10.up e11).less (by omega))))
        | cons e0 er =>
          show if (!(e0 :: er).isEmpty) = true then _ else _
          rw [if_pos (by rfl)]
          have S11 := S10.up e11
          refine ⟨.ref sd, rfl, sd, sg, sc, b + 4 * (ns.length - (i + 1)) + 1, 4, rfl, by decide, by decide, S11.less (by omega), fun z H12 z0 z4 S12 X12 => ?_⟩
          unfold tC
          dsimp only
          refine (rv_eq rfl : RV rEq (V.int z) (V.int 0) H12 _) H12 (Ex.refl _) _ fun H13 e13 => ⟨_, rfl, ?_⟩
          have X13 : ExS sd sg H10 H13 := (ExS.of e11).trans (X12.trans (.of e13))
          have S13 : Sta H13 sd sg sc (b + 4 * (ns.length - (i + 1)) + 1) := S12.up e13
          refine ite2 (fun _ => ?_) (fun _ => here X13 S13)
          have ur13 := ur10.monoT (S10.tp X13) _ _ imes
          have w13 := X13 _ _ w3 a3 b3
          have v13 := X13 _ _ v1 m3 g3
          have ude : D.dr as e0 = true := ud e0 (by rw [hes]; exact List.mem_cons_self)
          obtain ⟨n0, a0, b0, s0, ee0, _, ma0, mb0, ab0, _⟩ := dr_shape ude
          rw [hes] at ur13
          cases ur13 with
          | @cons u0 ur' _ _ r0 rr =>
            rw [ee0] at r0
            obtain ⟨c0, ws, rfl, hc0, hcs⟩ := r0.tupD
            cases hcs with
            | cons q0 hcs => cases hcs with
              | cons q1 hcs => cases hcs with
                | cons q2 hcs => cases hcs with
                  | cons q3 hcs =>
                    cases hcs
                    obtain rfl := q0.strD
                    obtain rfl := q1.strD
                    obtain rfl := q2.strD
                    obtain rfl := q3.strD
                    have d0 : ∀ {H14 : Hp}, Ex H13 H14 → Ev (tOp (rIxL K) (tVar 2) (tC (.int 0))) [some (.ref sd), some (.ref p1), some (.ref p3), some (.str nm), some (.int (o1 : Int)), some (.int (o2 : Int))] H14 (.ref c0) := fun e => ev_op (ev_var rfl) ev_c (rv_ixL (i := 0) (.of (e _ _ w13)) (atI_nat (j := 0) rfl))
                    have ne : as.idxOf b0 ≠ as.idxOf a0 := fun e => by
                      have h1 := (idx_at mb0).1
                      rw [e, (idx_at ma0).1] at h1
                      exact ab0 (Option.some.inj h1)
                    exact (ea_cons (ev_lix (ev_var rfl) v13 (ev_ixT (j := 2) (d0 (Ex.refl _)) hc0 rfl) mb0) (ea_cons (ev_lix (ev_var rfl) v13 (ev_ixT (j := 1) (d0 (Ex.refl _)) hc0 rfl) ma0) ea_nil)) H13 (Ex.refl _) _ fun H14 e14 => ⟨_, _, rfl, hN _ _ ⟨as.idxOf b0, as.idxOf a0, rfl, List.idxOf_lt_length_of_mem mb0, List.idxOf_lt_length_of_mem ma0, ne, e14 _ _ w13, (ur10.monoT (S10.tp X13) _ _ imes).up e14, e14 _ _ v13, e14 _ _ (X13 _ _ w5 m7 g7), S13.up e14, X810.trans (X13.trans (.of e14))⟩⟩
    · obtain ⟨y3, y4, y5, us, es, rfl, u3, ur, un, ud, ul, u1, u5, S8, X8⟩ := pv
      rw [show (sv ns).length = ns.length from List.length_map _] at un ul S8
      rw [List.take_length] at un
      dsimp only
      have va : ∀ s ∈ as, nmS s = true := fun s hs => sa4 s (asA s hs)
      have hb := house_bld (as := as) (ns := ns) (es := es) (by omega) (by omega) nda va (by omega) (by omega) un ndn ud
      obtain ⟨as', es', ks', rs', B⟩ := bld_is hb
      obtain ⟨im, sz⟩ := B.small (by
        have := B.eq
        injection this with e1
        injection e1 with _ e2
        injection e2 with _ e3
        injection e3 with _ e4
        injection e4 with _ e5
        injection e5 with e6 _
        injection e6 with e7
        rw [← e7]
        exact Nat.zero_le _)
      have hn : HN (.tup [.str "building", .tup (as.map D.str), .tup es, .tup ((["staff"] : List Str).map D.str), .tup []]) := ⟨fun n hn => by
        have hn : n ∈ es.map (fun x => x.fst.txt) := hn
        rw [un] at hn
        exact nsN n hn, fun a ha => by
        have ha : a ∈ (as.map D.str).map (fun d => match d with | .str s => s | _ => Str.empty) := ha
        rw [List.map_map] at ha
        obtain ⟨s, hs, e⟩ := List.mem_map.mp ha
        exact e ▸ asA s hs⟩
      have tup := es_tup (S := S0) (σ := [some (.ref sd), some (.ref p1), some (.ref p3), y3, y4, y5]) (H := H') in0 (eas_cons (es_of (ev_c (v := .str "building")) (.str "building")) (eas_cons (es_tupOf (K := K) (te := tVar 1) in0 (es_of (ev_var rfl) (Rep.up (.lst u1 (reps_strs as)) hid0))) (eas_cons (es_tupOf (K := K) (te := tVar 2) in0 (es_of (ev_var rfl) (Rep.up (.lst u3 ur) hid0))) (eas_cons (es_tup in0 (eas_cons (es_of (ev_c (v := .str "staff")) (.str "staff")) eas_nil) (by show 1 ≤ 100000; decide)) (eas_cons (es_tup in0 eas_nil (by decide)) eas_nil))))) (by show 5 ≤ 100000; decide)
      exact tup H' (Ex.refl _) _ fun v H9 e9 r9 => q v _ H9 (r9.up hidP_sub) hb im sz hn ((S8.up e9).less (by omega)) (X8.trans (.of e9))
end
end Kx

set_option Elab.async false
set_option linter.all false
set_option maxRecDepth 100000
set_option maxHeartbeats 400000
namespace Kx
open PySem PySem.Spec PyProof.Rows L2 Evl
open LamX
def spLaw (K : PySem.W.Frag) (Tb : List (Addr × Str)) : Sp := fun vs H Q _ => ∃ (l : Addr) (cells : List Int), vs = [.ref l] ∧ SqL K H l (iv cells) ∧ cells.length ≤ 63 ∧ Tabs Tb H ∧ ∀ H', Q (.bl true) H'
section
variable {σ : L2.St} {H : Hp} {t u : TT} {tu tz : TS} {D0 : Ends}
theorem q_or (h : EvT t σ H false) (k : ∀ H1, Ex H H1 → u σ H1 fun b H2 => if b = true then tu { D0 with nx := tz D0 } σ H2 else tz D0 σ H2) : tSeq (tIfS (tOr t u) tu tNext) tz D0 σ H := h H (Ex.refl _) _ fun H1 e => iteF (k H1 e)
end
section
variable {P : Program} {w : World} {K : PySem.W.Frag} {mg : Str → Option Value} {base : Heap} (T : Txt K mg)
theorem ok_law {Tb : List (Addr × Str)} (hRF : FnOk P w K mg base CX0 13 T.a_law_refusals_right T.d_law_refusals_right ["state", "house", "open_ones"] (spRF Tb)) (hPR : FnOk P w K mg base CX0 13 T.a_law_pair_right T.d_law_pair_right ["state", "house", "open_ones"] (spPair Tb)) :
    FnOk P w K mg base CX0 14 T.a_law T.d_law ["script"] (spLaw K Tb) := by
  refine T.F_law.ok sc_law (fun vs H Q E h => ?_) (fun cdv A outer s H vs Q E hr h => ?_)
  · obtain ⟨l, cells, rfl, _⟩ := h
    rfl
  · obtain ⟨l, cells, rfl, hl, hz, hT, q⟩ := h
    have nd := sc_law.nd
    refine ⟨_, (pss_cons (ps_set (i := 1) nd rfl (.inl rfl) (pe_call (ok_begun T) (hr.mono (by decide)) (by rfl) T.g_law_begun T.F_law_begun.kp (b_law_begun T) .nil pass0 (pa_cons (pv 0) pa_nil)))
      (pss_cons (ps_for PassesOwn.never rfl (pi_range1 (by rfl) T.z_range (pa_cons (pe_op op_add pe_int (pe_callB (call_min2 (by rfl)) (by rfl) T.z_min bo_min (pa_cons (pe_callB call_len_seq (by rfl) T.z_len bo_len (pa_cons (pv 0) pa_nil)) (pa_cons pe_int pa_nil)))) pa_nil)) (pg_name (i := 2) nd rfl (.inl rfl)) (pss_cons (ps_set (i := 3) nd rfl (.inl rfl) (pe_call (ok_houseW T) (hr.mono (by decide)) (by rfl) T.g_law_house T.F_law_house.kp (b_law_house T) .nil pass0 (pa_cons (pv 1) pa_nil)))
      (pss_cons (ps_set (i := 4) nd rfl (.inl rfl) (pe_call (ok_shuf T) (hr.mono (by decide)) (by rfl) T.g_law_shuffled T.F_law_shuffled.kp (b_law_shuffled T) .nil pass0 (pa_cons (pv 1) (pa_cons (pe_lc (own := [("door", 7)]) (g := gName 7) (tt := tYes) (te := tOp (rIxT K) (tVar 7) (tC (.int 0))) (by rfl) nd (pi_tup (pe_ix (r := rIxT K) ix_tup (pv 3) pe_int (fun _ _ => rfl))) (blkOk_by (N := ["script", "state", "lap", "house", "names", "open_ones", "turn", "door"]) (sc := defScope s_law) (by decide +kernel)) (fun _ _ _ _ _ => (pg_name (i := 7) nd rfl (.inl rfl))) (fun _ _ _ _ _ => pts_nil) (fun _ _ _ _ _ => (pe_ix (r := rIxT K) ix_tup (pv 7) pe_int (fun _ _ => rfl)))) pa_nil))))
      (pss_cons (ps_set (i := 5) nd rfl (.inl rfl) (pe_slice sl_list (pv 4) po_none (po_some (pe_call (ok_pickL T) (hr.mono (by decide)) (by rfl) T.g_law_pick T.F_law_pick.kp (b_law_pick T) .nil pass0 (pa_cons (pv 1) (pa_cons (pe_lst (pa_cons (pe_callB call_len_seq (by rfl) T.z_len bo_len (pa_cons (pv 4) pa_nil)) (pa_cons (pe_callB call_len_seq (by rfl) T.z_len bo_len (pa_cons (pv 4) pa_nil)) (pa_cons (pe_call (ok_draw T) (hr.mono (by decide)) (by rfl) T.g_law_draw T.F_law_draw.kp (b_law_draw T) .nil pass0 (pa_cons (pv 1) (pa_cons (pe_op op_add (pe_callB call_len_seq (by rfl) T.z_len bo_len (pa_cons (pv 4) pa_nil)) pe_int) pa_nil))) (pa_cons pe_int pa_nil))))) pa_nil))))))
      (pss_cons (ps_if (PW.pt (pw_or (pt_not (pt_val (pe_call (ok_joined_right T) (hr.mono (by decide)) (by rfl) T.g_law_joined_right T.F_law_joined_right.kp (b_law_joined_right T) .nil pass0 (pa_cons (pv 3) (pa_cons (pv 5) pa_nil))))) (pw_or1 (pt_not (pt_val (pe_call (hRF) (hr.mono (by decide)) (by rfl) T.g_law_refusals_right T.F_law_refusals_right.kp (b_law_refusals_right T) .nil pass0 (pa_cons (pv 1) (pa_cons (pv 3) (pa_cons (pv 5) pa_nil))))))))) (pss_one (ps_ret pe_bl)) pss_nil)
      (pss_one (ps_for PassesOwn.never rfl (pi_range1 (by rfl) T.z_range (pa_cons pe_int pa_nil)) (pg_name (i := 6) nd rfl (.inl rfl)) (pss_one (ps_if (pt_not (pt_val (pe_call (hPR) (hr.mono (by decide)) (by rfl) T.g_law_pair_right T.F_law_pair_right.kp (b_law_pair_right T) .nil pass0 (pa_cons (pv 1) (pa_cons (pv 3) (pa_cons (pv 5) pa_nil)))))) (pss_one (ps_ret pe_bl)) pss_nil)))))))))
      (pss_one (ps_ret pe_bl)))), ?_⟩
    refine q_asgW (σ := [some (.ref l), none, none, none, none, none, none, none]) ⟨.ref l, rfl, l, cells, rfl, hl, by omega, fun sd sg sc gs H1 w1 e1 n1 n2 => ?_⟩
    have S1 : Sta H1 sd sg sc 8000 := ⟨gs, _, 0, 0, w1, by decide, by decide⟩
    have T1 := hT.ext e1
    refine q_forR1 (σ := [some (.ref l), some (.ref sd), none, none, none, none, none, none]) (n := 1 + (if (2 : Int) < ((iv cells).length : Int) then 2 else ((iv cells).length : Int)))
      (ea_cons (ev_op ev_c (ev_cb (ea_cons (ev_cb (ea_cons (ev_var rfl) ea_nil) fun H2 e2 Q2 q2 => ⟨l, iv cells, rfl, .inl (ex_l (e1.trans e2) hl), q2 H2 (Ex.refl _)⟩) (ea_cons ev_c ea_nil)) fun H2 e2 Q2 q2 => ⟨((iv cells).length : Int), 2, rfl, q2 H2 (Ex.refl _)⟩) rv_I0) ea_nil)
      ⟨by split <;> omega, by split <;> omega⟩ (fun i σ' H' => ∃ y2 y3 y4 y5 y6 y7 : Option V, σ' = [some (.ref l), some (.ref sd), y2, y3, y4, y5, y6, y7] ∧ Sta H' sd sg sc (100 * (4 - i)) ∧ Tabs Tb H') (fun H5 e5 => ⟨none, none, none, none, none, none, rfl, (S1.up e5).less (by omega), T1.ext e5⟩) (fun i σ' H' hi p => ?_) (fun σ' H' p => q H')
    obtain ⟨y2, y3, y4, y5, y6, y7, rfl, S', T'⟩ := p
    have hi3 : i < 3 := by
      have h2 : ∀ x : Int, (if (2 : Int) < x then (2 : Int) else x) ≤ 2 := fun x => by split <;> omega
      have := h2 ((iv cells).length : Int)
      omega
    -- the building
    refine q_asgW (σ := [some (.ref l), some (.ref sd), some (.int (i : Int)), y3, y4, y5, y6, y7]) ⟨.ref sd, rfl, sd, sg, sc, 100 * (4 - i) - 40, rfl, S'.less (by omega), fun v d H2 hv hb him hsz hn S2 X2 => ?_⟩
    have T2 := tabs_exs T' S' X2
    obtain ⟨as, es, ks, rs, B⟩ := bld_is hb
    obtain ⟨p0, vs0, b0, ws, rfl, ha0, h2, hbt, hbs⟩ := door_at B hv
    have dn6 : d.dn.length ≤ 6 := by
      rw [B.dn, List.length_map]
      exact B.e6
    have dn1 : 1 ≤ d.dn.length := by
      rw [B.dn, List.length_map]
      exact B.e1
    -- its doors, in a drawn order
    have en : EvS S0 (tOp (rIxT K) (tVar 3) (tC (.int 2))) [some (.ref l), some (.ref sd), some (.int (i : Int)), some (.ref p0), y4, y5, y6, y7] H2 (.tup es) := es_of (ev_ixT (j := 2) (ev_var rfl) ha0 h2) (Rep.up (.tup hbt hbs) hid0)
    have c1 := lcS (S := S0) (ds := es) (wi := iTup K (tOp (rIxT K) (tVar 3) (tC (.int 2)))) (g := gName 7) (tt := tYes) (te := tOp (rIxT K) (tVar 7) (tC (.int 0))) (own := [7]) (σ := [some (.ref l), some (.ref sd), some (.int (i : Int)), some (.ref p0), y4, y5, y6, y7]) (H := H2) (fun _ => true) (fun e => .str e.fst.txt) in0 (its_tup en) (by have := B.e6; omega) fun S' x e H1 he in1 e2 x1 rx => by
      obtain ⟨n, a1, b1, s1, rfl, _⟩ := dr_shape (B.ed e he)
      obtain ⟨c, us, rfl, hc, hcs⟩ := rx.tupD
      cases hcs with
      | cons q0 _ =>
        obtain rfl := q0.strD
        exact ⟨[some (.ref l), some (.ref sd), some (.int (i : Int)), some (.ref p0), y4, y5, y6, some (.ref c)], fun Q h => h, rfl, fun H6 e6 Q q => q H6 (Ex.refl _), fun _ => es_of (ev_ixT (j := 0) (ev_var rfl) (hc.up hidP_sub) rfl) (.str n)⟩
    rw [List.filter_eq_self.mpr fun _ _ => rfl] at c1
    have edn : es.map (fun e => D.str e.fst.txt) = d.dn.map D.str := by
      rw [B.dn, List.map_map]
      rfl
    rw [edn] at c1
    refine q_asgW (σ := [some (.ref l), some (.ref sd), some (.int (i : Int)), some (.ref p0), y4, y5, y6, y7]) ⟨.ref sd, rfl, c1 H2 (Ex.refl _) _ fun u H3 e3 ru => ?_⟩
    cases ru with
    | @lst l3 vs3 _ hl3 rs3 =>
      rw [strs_of_reps rs3] at hl3
      refine ⟨sd, sg, sc, 100 * (4 - i) - 46, l3, d.dn, rfl, (hidP_get hl3).1, by omega, dn_ok hb, (S2.up e3).less (by omega), fun p ts H4 np hp pm S4 X4 => ?_⟩
      have X24 : ExS sd sg H2 H4 := (ExS.of e3).trans X4
      have hv4 : Rep H4 (.ref p0) d := hv.monoT (S2.tp X24) _ _ him
      have T4 := tabs_exs T2 S2 X24
      obtain ⟨mp, gp, _⟩ := (S2.up e3).off np
      have lts : ts.length = d.dn.length := pm.length_eq
      have svt : (sv ts).length = ts.length := List.length_map _
      -- some of them are free
      refine q_asgW (σ := [some (.ref l), some (.ref sd), some (.int (i : Int)), some (.ref p0), some (.ref p), y5, y6, y7]) ⟨.ref p, rfl, .ref sd, rfl, .ref p, rfl, p, sv ts, rfl, .inl (.of hp), .ref p, rfl, p, sv ts, rfl, .inl (.of hp), .ref sd, rfl, .ref p, rfl, p, sv ts, rfl, .inl (.of hp), _, _, rfl, rfl, sd, sg, sc, 100 * (4 - i) - 50, ((sv ts).length : Int) + 1, rfl, by omega, by omega, S4.less (by omega), fun z H8 z0 zl S8 X8 => ⟨by show 4 ≤ sizeLine; rw [sizeLine_eq]; decide, fun l9 fl9 => ?_⟩⟩
      obtain ⟨kz, rfl⟩ : ∃ k : Nat, z = (k : Int) := ⟨z.toNat, by omega⟩
      have S9 := S8.up (Ex.new (o := .lst [.int ((sv ts).length : Int), .int ((sv ts).length : Int), .int (kz : Int), .int 0]) fl9)
      obtain ⟨m9, g9, _⟩ := S8.off fl9
      refine ⟨sd, sg, sc, 100 * (4 - i) - 51, l9, [.int ((sv ts).length : Int), .int ((sv ts).length : Int), .int (kz : Int), .int 0], rfl, upd_same, m9, g9, by show 0 < 4; decide, by show 4 ≤ 1000; decide, S9.less (by omega), fun j x H10 hx S10 X10 => ?_⟩
      obtain ⟨k, rfl⟩ : ∃ k : Nat, x = .int (k : Int) := by
        have := List.mem_of_getElem? hx
        simp only [List.mem_cons, List.not_mem_nil, or_false] at this
        rcases this with rfl | rfl | rfl | rfl
        · exact ⟨_, rfl⟩
        · exact ⟨_, rfl⟩
        · exact ⟨_, rfl⟩
        · exact ⟨0, rfl⟩
      have X410 : ExS sd sg H4 H10 := X8.trans ((ExS.of (Ex.new fl9)).trans X10)
      refine ⟨(k : Int), rfl, p, sv ts, rfl, .of (X410 _ _ hp mp gp), fun f nf => ?_⟩
      rw [cutV_sv]
      have hf : upd H10 f (.lst (sv (ts.take k))) f = some (.lst (sv (ts.take k))) := upd_same
      obtain ⟨mf, gf, _⟩ := S10.off nf
      have X411 : ExS sd sg H4 (upd H10 f (.lst (sv (ts.take k)))) := X410.trans (.of (Ex.new nf))
      have S11 := S10.up (Ex.new (o := .lst (sv (ts.take k))) nf)
      generalize upd H10 f (.lst (sv (ts.take k))) = H11 at hf X411 S11
      have hv11 : Rep H11 (.ref p0) d := hv4.monoT (S4.tp X411) _ _ him
      have T11 := tabs_exs T4 S4 X411
      have O : Opn d (ts.take k) := ⟨(pm.symm.nodup (dn_doors hb).2).sublist (List.take_sublist _ _), fun n hn => pm.mem_iff.mp (List.mem_of_mem_take hn)⟩
      -- the parts, what is refused
      refine q_or (σ := [some (.ref l), some (.ref sd), some (.int (i : Int)), some (.ref p0), some (.ref p), some (.ref f), y6, y7]) (et_is (et_not (et_B (b := true) fun H12 e12 Q2 q2 => ⟨.ref p0, rfl, .ref f, rfl, .ref p0, d, f, ts.take k, rfl, hv11.up e12, him, hsz, hb, e12 _ _ hf, O, fun H13 e13 => q2 H13 e13⟩)) rfl) (fun H12 e12 => ⟨.ref sd, rfl, .ref p0, rfl, .ref f, rfl, sd, sg, sc, 100 * (4 - i) - 60, .ref p0, d, f, ts.take k, rfl, hv11.up e12, him, hsz, hb, hn, e12 _ _ hf, mf, gf, O, (S11.up e12).less (by omega), T11.ext e12, fun H13 S13 X13 T13 => ⟨true, rfl, iteF ?_⟩⟩)
      have hv13 : Rep H13 (.ref p0) d := (hv11.up e12).monoT (X13.tp (S11.up e12)) _ _ him
      have hf13 := X13.lst (e12 _ _ hf) mf gf
      -- pairs of areas
      refine s_forR1 (σ := [some (.ref l), some (.ref sd), some (.int (i : Int)), some (.ref p0), some (.ref p), some (.ref f), y6, y7]) (n := 6) (ea_cons ev_c ea_nil) ⟨by decide, by decide⟩ (fun j σ' H' => ∃ z6 : Option V, σ' = [some (.ref l), some (.ref sd), some (.int (i : Int)), some (.ref p0), some (.ref p), some (.ref f), z6, y7] ∧ Rep H' (.ref p0) d ∧ H' f = some (.lst (sv (ts.take k))) ∧ Sta H' sd sg sc (100 * (3 - i) + 2 * (6 - j)) ∧ Tabs Tb H')
        (fun H14 e14 => ⟨_, rfl, hv13.up e14, e14 _ _ hf13, (S13.up e14).less (by omega), T13.ext e14⟩) (fun j σ' H14 hj wv => ?_) (fun σ' H14 wv => ?_)
      · obtain ⟨z6, rfl, hv14, hf14, S14, T14⟩ := wv
        have hj6 : j < 6 := by omega
        refine ⟨.ref sd, rfl, .ref p0, rfl, .ref f, rfl, sd, sg, sc, 100 * (3 - i) + 2 * (6 - (j + 1)), .ref p0, d, f, ts.take k, rfl, hv14, him, hsz, hb, hn, hf14, mf, gf, O, S14.less (by omega), T14, fun H15 S15 X15 T15 => ⟨true, rfl, iteF ?_⟩⟩
        exact ⟨_, rfl, hv14.monoT (X15.tp S14) _ _ him, X15.lst hf14 mf gf, S15, T15⟩
      · obtain ⟨z6, rfl, hv14, hf14, S14, T14⟩ := wv
        exact ⟨_, _, _, _, _, _, rfl, S14.less (by rw [show (6 : Int).toNat = 6 from rfl]; omega), T14⟩
end
end Kx

set_option Elab.async false
set_option linter.all false
set_option maxRecDepth 100000
set_option maxHeartbeats 1000000
namespace Kx
open PySem PySem.Spec PyProof.Rows L2 Evl LamX
/-! ## what the text's top has left -/
/-- the def x of the text -/
def TextAt (K : PySem.W.Frag) (x : Str) (st : Stmt) : Prop := ∃ (f : Addr) (oc : Value) (od : Option Addr) (kV doc pm : Value) (an : Option Addr) (cdv ct : Value) (osl : Array (Option Value)), PySem.W.nsIn K mainGlobals x = some (some (.ref f)) ∧
  K.lookup f = some ⟨oc, od, .func (PySem.W.fnOf x x (defArgs st) (defBody st) (defScope st) .none kV doc pm an cdv ct), osl⟩ ∧ PySem.W.codeIn K cdv x = true ∧ PySem.W.keepIn K (.ref f) = true
theorem textAt {K : PySem.W.Frag} {x : Str} {st : Stmt} {f : Addr} {oc : Value} {od : Option Addr} {kV doc pm : Value} {an : Option Addr} {cdv ct : Value} {osl : Array (Option Value)} (a : PySem.W.nsIn K mainGlobals x = some (some (.ref f)))
    (l : K.lookup f = some ⟨oc, od, .func (PySem.W.fnOf x x (defArgs st) (defBody st) (defScope st) .none kV doc pm an cdv ct), osl⟩) (c : PySem.W.codeIn K cdv x = true) (k : PySem.W.keepIn K (.ref f) = true) : TextAt K x st := ⟨f, oc, od, kV, doc, pm, an, cdv, ct, osl, a, l, c, k⟩
theorem TextAt.fn {K : PySem.W.Frag} {x : Str} {st : Stmt} (t : TextAt K x st) : ∃ f fd, Fun K x x st f fd ∧ PySem.W.nsIn K mainGlobals x = some (some (.ref f)) :=
  let ⟨f, _, _, _, _, _, _, _, _, _, a, l, c, k⟩ := t; ⟨f, _, fun_mk l c k, a⟩
/-- the def x of the text, whose code c has its table at P -/
def TabAt (K : PySem.W.Frag) (x : Str) (st : Stmt) (P : Addr) : Prop := ∃ (f : Addr) (oc : Value) (od : Option Addr) (kV doc pm : Value) (an : Option Addr) (c : Addr) (ct : Value) (osl : Array (Option Value)), PySem.W.nsIn K mainGlobals x = some (some (.ref f)) ∧
  K.lookup f = some ⟨oc, od, .func (PySem.W.fnOf x x (defArgs st) (defBody st) (defScope st) .none kV doc pm an (.ref c) ct), osl⟩ ∧ PySem.W.codeIn K (.ref c) x = true ∧ PySem.W.keepIn K (.ref f) = true ∧ K.lookup P = none ∧ PySem.W.codeHdIn K c P = true
theorem tabAt {K : PySem.W.Frag} {x : Str} {st : Stmt} {f P c : Addr} {oc : Value} {od : Option Addr} {kV doc pm : Value} {an : Option Addr} {ct : Value} {osl : Array (Option Value)} (a : PySem.W.nsIn K mainGlobals x = some (some (.ref f)))
    (l : K.lookup f = some ⟨oc, od, .func (PySem.W.fnOf x x (defArgs st) (defBody st) (defScope st) .none kV doc pm an (.ref c) ct), osl⟩) (d : PySem.W.codeIn K (.ref c) x = true) (k : PySem.W.keepIn K (.ref f) = true) (n : K.lookup P = none) (e : PySem.W.codeHdIn K c P = true) : TabAt K x st P :=
  ⟨f, oc, od, kV, doc, pm, an, c, ct, osl, a, l, d, k, n, e⟩
theorem TabAt.fn {K : PySem.W.Frag} {x : Str} {st : Stmt} {P : Addr} (t : TabAt K x st P) : ∃ f fd c, Fun K x x st f fd ∧ PySem.W.nsIn K mainGlobals x = some (some (.ref f)) ∧ FunC K x st f c fd ∧ K.lookup P = none ∧ PySem.W.codeHdIn K c P = true :=
  let ⟨f, oc, od, kV, doc, pm, an, c, ct, osl, a, l, d, k, n, e⟩ := t; ⟨f, _, c, fun_mk l d k, a, ⟨oc, od, kV, doc, pm, an, ct, osl, rfl, l, d⟩, n, e⟩
/-- an own class of errors stands at C -/
structure ErrAt (K : PySem.W.Frag) (x : Str) (R C : Addr) : Prop where
  n : PySem.W.nsIn K mainGlobals x = some (some (.ref C))
  q : PySem.W.excIn K C [.type "ValueError", .type "Exception", .type "BaseException", .type "object"] "ValueError.__new__" = true
  kp : PySem.W.keepIn K (.ref C) = true
  bx : PySem.W.subIn K (.ref C) (.type "BaseException") = some true
  ty : PySem.W.typeIn K (.ref C) = some (.type "type")
  hg : PySem.W.findIn K (.ref C) "__getattribute__" = some (some (.builtin "BaseException.__getattribute__"))
  hk : PySem.W.findIn K (.ref C) "__getattr__" = some none
  hd : PySem.W.hasDictIn K C = true
  ha : PySem.W.findIn K (.ref C) "__class__" = some (some (.builtin "object.__class__"))
  hn : PySem.W.specialIn K (.builtin "object.__class__") "__get__" = some (some (.builtin "getset_descriptor.__get__"))
  ht : PySem.W.takesIn K (.builtin "object.__class__") = some true
  hm : PySem.W.mroIn K C (.type "object") = some true
  up : PySem.W.subIn K (.ref C) (.ref R) = some true
theorem ErrAt.ok {K : PySem.W.Frag} {h : Heap} {mg : Str → Option Value} {x : Str} {R C : Addr} (X : K.In h) (G : h.Ns mainGlobals mg) (e : ErrAt K x R C) : ExK K mg x C := ⟨PySem.W.mg_of X G e.n, e.q, e.kp, e.bx, e.ty, ⟨e.hg, e.hk, e.bx, e.hd, e.ha, e.hn, e.ht, e.hm⟩⟩


theorem all_mk {l : PySem.W.OpenLaw} {w : World} {K : PySem.W.Frag} {h : Heap} {mg : Str → Option Value} {fa : Addr} (X : K.In h) (G : h.Ns mainGlobals mg) (hfa : mg "law" = some (.ref fa))
    (t_is_between : TextAt K "is_between" s_is_between)
    (t_is_row : TextAt K "is_row" s_is_row)
    (t_is_tuple : TextAt K "is_tuple" s_is_tuple)
    (t_is_among : TextAt K "is_among" s_is_among)
    (t_is_ascending : TextAt K "is_ascending" s_is_ascending)
    (t_are_unlike : TextAt K "are_unlike" s_are_unlike)
    (t_lots_below : TextAt K "lots_below" s_lots_below)
    (t_is_name : TextAt K "is_name" s_is_name)
    (t_are_names : TextAt K "are_names" s_are_names)
    (t_is_door : TextAt K "is_door" s_is_door)
    (t_are_doors : TextAt K "are_doors" s_are_doors)
    (t_is_right : TextAt K "is_right" s_is_right)
    (t_are_rights : TextAt K "are_rights" s_are_rights)
    (t_is_building : TextAt K "is_building" s_is_building)
    (t_areas_of : TextAt K "areas_of" s_areas_of)
    (t_doors_of : TextAt K "doors_of" s_doors_of)
    (t_door_names : TextAt K "door_names" s_door_names)
    (t_check_building : TextAt K "check_building" s_check_building)
    (t_check_area : TextAt K "check_area" s_check_area)
    (t_check_free : TextAt K "check_free" s_check_free)
    (t_steps_from : TextAt K "steps_from" s_steps_from)
    (t_reached_from : TextAt K "reached_from" s_reached_from)
    (t_all_ways : TextAt K "all_ways" s_all_ways)
    (t_areas_joined : TextAt K "areas_joined" s_areas_joined)
    (t_joined : TextAt K "joined" s_joined)
    (t_least_way : TextAt K "least_way" s_least_way)
    (t_check_ends : TextAt K "check_ends" s_check_ends)
    (t_disjoint_ways : TextAt K "disjoint_ways" s_disjoint_ways)
    (t_parting : TextAt K "parting" s_parting)
    (t_narrows : TextAt K "narrows" s_narrows)
    (t_law_begun : TextAt K "_law_begun" s_law_begun)
    (t_law_mixed : TextAt K "_law_mixed" s_law_mixed)
    (t_law_draw : TextAt K "_law_draw" s_law_draw)
    (t_law_pick : TextAt K "_law_pick" s_law_pick)
    (t_law_shuffled : TextAt K "_law_shuffled" s_law_shuffled)
    (t_law_caught : TextAt K "_law_caught" s_law_caught)
    (t_law_house : TextAt K "_law_house" s_law_house)
    (t_law_all_ways : TextAt K "_law_all_ways" s_law_all_ways)
    (t_law_least : TextAt K "_law_least" s_law_least)
    (t_law_parting_right : TextAt K "_law_parting_right" s_law_parting_right)
    (t_law_narrow : TextAt K "_law_narrow" s_law_narrow)
    (t_law_joined_right : TextAt K "_law_joined_right" s_law_joined_right)
    (t_law : TextAt K "law" s_law)
    {P1 P2 cKeptError cBadArea cBadBuilding cBadDoors cNoWay cSameArea : Addr} (t_law_pair_right : TabAt K "_law_pair_right" s_law_pair_right P1) (t_law_refusals_right : TabAt K "_law_refusals_right" s_law_refusals_right P2) (nP : P1 ≠ P2) (o1 : h.get? P1 = some { cls := .none, data := .fields #[] }) (o2 : h.get? P2 = some { cls := .none, data := .fields #[] })
    (eKeptError : ErrAt K "KeptError" cKeptError cKeptError) (eBadArea : ErrAt K "BadArea" cKeptError cBadArea) (eBadBuilding : ErrAt K "BadBuilding" cKeptError cBadBuilding) (eBadDoors : ErrAt K "BadDoors" cKeptError cBadDoors) (eNoWay : ErrAt K "NoWay" cKeptError cNoWay) (eSameArea : ErrAt K "SameArea" cKeptError cSameArea)
    (qBadArea : PySem.W.kitOne K (.ref cBadArea) (.ref cBadArea) = some true) (qBadDoors : PySem.W.kitOne K (.ref cBadDoors) (.ref cBadDoors) = some true) (qNoWay : PySem.W.kitOne K (.ref cNoWay) (.ref cNoWay) = some true) (qSameArea : PySem.W.kitOne K (.ref cSameArea) (.ref cSameArea) = some true) (qNo : PySem.W.kitOne K (.type "NoneType") (.ref cNoWay) = some false)
    (z_type : PySem.W.nsIn K mainGlobals "type" = some none) (z_int : PySem.W.nsIn K mainGlobals "int" = some none) (z_str : PySem.W.nsIn K mainGlobals "str" = some none) (z_bool : PySem.W.nsIn K mainGlobals "bool" = some none) (z_tuple : PySem.W.nsIn K mainGlobals "tuple" = some none) (z_list : PySem.W.nsIn K mainGlobals "list" = some none) (z_len : PySem.W.nsIn K mainGlobals "len" = some none) (z_all : PySem.W.nsIn K mainGlobals "all" = some none) (z_any : PySem.W.nsIn K mainGlobals "any" = some none) (z_set : PySem.W.nsIn K mainGlobals "set" = some none) (z_range : PySem.W.nsIn K mainGlobals "range" = some none) (z_isinstance : PySem.W.nsIn K mainGlobals "isinstance" = some none) (z_abs : PySem.W.nsIn K mainGlobals "abs" = some none) (z_min : PySem.W.nsIn K mainGlobals "min" = some none) (z_sorted : PySem.W.nsIn K mainGlobals "sorted" = some none) :
    LawAtS l w K CX0 14 63 "script" mg fa h := by
  obtain ⟨a_is_between, d_is_between, F_is_between, n_is_between⟩ := t_is_between.fn
  obtain ⟨a_is_row, d_is_row, F_is_row, n_is_row⟩ := t_is_row.fn
  obtain ⟨a_is_tuple, d_is_tuple, F_is_tuple, n_is_tuple⟩ := t_is_tuple.fn
  obtain ⟨a_is_among, d_is_among, F_is_among, n_is_among⟩ := t_is_among.fn
  obtain ⟨a_is_ascending, d_is_ascending, F_is_ascending, n_is_ascending⟩ := t_is_ascending.fn
  obtain ⟨a_are_unlike, d_are_unlike, F_are_unlike, n_are_unlike⟩ := t_are_unlike.fn
  obtain ⟨a_lots_below, d_lots_below, F_lots_below, n_lots_below⟩ := t_lots_below.fn
  obtain ⟨a_is_name, d_is_name, F_is_name, n_is_name⟩ := t_is_name.fn
  obtain ⟨a_are_names, d_are_names, F_are_names, n_are_names⟩ := t_are_names.fn
  obtain ⟨a_is_door, d_is_door, F_is_door, n_is_door⟩ := t_is_door.fn
  obtain ⟨a_are_doors, d_are_doors, F_are_doors, n_are_doors⟩ := t_are_doors.fn
  obtain ⟨a_is_right, d_is_right, F_is_right, n_is_right⟩ := t_is_right.fn
  obtain ⟨a_are_rights, d_are_rights, F_are_rights, n_are_rights⟩ := t_are_rights.fn
  obtain ⟨a_is_building, d_is_building, F_is_building, n_is_building⟩ := t_is_building.fn
  obtain ⟨a_areas_of, d_areas_of, F_areas_of, n_areas_of⟩ := t_areas_of.fn
  obtain ⟨a_doors_of, d_doors_of, F_doors_of, n_doors_of⟩ := t_doors_of.fn
  obtain ⟨a_door_names, d_door_names, F_door_names, n_door_names⟩ := t_door_names.fn
  obtain ⟨a_check_building, d_check_building, F_check_building, n_check_building⟩ := t_check_building.fn
  obtain ⟨a_check_area, d_check_area, F_check_area, n_check_area⟩ := t_check_area.fn
  obtain ⟨a_check_free, d_check_free, F_check_free, n_check_free⟩ := t_check_free.fn
  obtain ⟨a_steps_from, d_steps_from, F_steps_from, n_steps_from⟩ := t_steps_from.fn
  obtain ⟨a_reached_from, d_reached_from, F_reached_from, n_reached_from⟩ := t_reached_from.fn
  obtain ⟨a_all_ways, d_all_ways, F_all_ways, n_all_ways⟩ := t_all_ways.fn
  obtain ⟨a_areas_joined, d_areas_joined, F_areas_joined, n_areas_joined⟩ := t_areas_joined.fn
  obtain ⟨a_joined, d_joined, F_joined, n_joined⟩ := t_joined.fn
  obtain ⟨a_least_way, d_least_way, F_least_way, n_least_way⟩ := t_least_way.fn
  obtain ⟨a_check_ends, d_check_ends, F_check_ends, n_check_ends⟩ := t_check_ends.fn
  obtain ⟨a_disjoint_ways, d_disjoint_ways, F_disjoint_ways, n_disjoint_ways⟩ := t_disjoint_ways.fn
  obtain ⟨a_parting, d_parting, F_parting, n_parting⟩ := t_parting.fn
  obtain ⟨a_narrows, d_narrows, F_narrows, n_narrows⟩ := t_narrows.fn
  obtain ⟨a_law_begun, d_law_begun, F_law_begun, n_law_begun⟩ := t_law_begun.fn
  obtain ⟨a_law_mixed, d_law_mixed, F_law_mixed, n_law_mixed⟩ := t_law_mixed.fn
  obtain ⟨a_law_draw, d_law_draw, F_law_draw, n_law_draw⟩ := t_law_draw.fn
  obtain ⟨a_law_pick, d_law_pick, F_law_pick, n_law_pick⟩ := t_law_pick.fn
  obtain ⟨a_law_shuffled, d_law_shuffled, F_law_shuffled, n_law_shuffled⟩ := t_law_shuffled.fn
  obtain ⟨a_law_caught, d_law_caught, F_law_caught, n_law_caught⟩ := t_law_caught.fn
  obtain ⟨a_law_house, d_law_house, F_law_house, n_law_house⟩ := t_law_house.fn
  obtain ⟨a_law_all_ways, d_law_all_ways, F_law_all_ways, n_law_all_ways⟩ := t_law_all_ways.fn
  obtain ⟨a_law_least, d_law_least, F_law_least, n_law_least⟩ := t_law_least.fn
  obtain ⟨a_law_parting_right, d_law_parting_right, F_law_parting_right, n_law_parting_right⟩ := t_law_parting_right.fn
  obtain ⟨a_law_narrow, d_law_narrow, F_law_narrow, n_law_narrow⟩ := t_law_narrow.fn
  obtain ⟨a_law_pair_right, d_law_pair_right, c_law_pair_right, F_law_pair_right, n_law_pair_right, C_law_pair_right, w_law_pair_right, h_law_pair_right⟩ := t_law_pair_right.fn
  obtain ⟨a_law_joined_right, d_law_joined_right, F_law_joined_right, n_law_joined_right⟩ := t_law_joined_right.fn
  obtain ⟨a_law_refusals_right, d_law_refusals_right, c_law_refusals_right, F_law_refusals_right, n_law_refusals_right, C_law_refusals_right, w_law_refusals_right, h_law_refusals_right⟩ := t_law_refusals_right.fn
  obtain ⟨a_law, oc, od, kV, doc, pm, an, cdv, ct, osl, n_law, l_law, c_law, k_law⟩ := t_law
  have F_law := fun_mk (st := s_law) l_law c_law k_law
  let T : Txt K mg := { a_is_between := a_is_between, d_is_between := d_is_between, F_is_between := F_is_between, g_is_between := PySem.W.mg_of X G n_is_between, a_is_row := a_is_row, d_is_row := d_is_row, F_is_row := F_is_row, g_is_row := PySem.W.mg_of X G n_is_row, a_is_tuple := a_is_tuple, d_is_tuple := d_is_tuple, F_is_tuple := F_is_tuple, g_is_tuple := PySem.W.mg_of X G n_is_tuple, a_is_among := a_is_among, d_is_among := d_is_among, F_is_among := F_is_among, g_is_among := PySem.W.mg_of X G n_is_among, a_is_ascending := a_is_ascending, d_is_ascending := d_is_ascending, F_is_ascending := F_is_ascending, g_is_ascending := PySem.W.mg_of X G n_is_ascending, a_are_unlike := a_are_unlike, d_are_unlike := d_are_unlike, F_are_unlike := F_are_unlike, g_are_unlike := PySem.W.mg_of X G n_are_unlike, a_lots_below := a_lots_below, d_lots_below := d_lots_below, F_lots_below := F_lots_below, g_lots_below := PySem.W.mg_of X G n_lots_below, a_is_name := a_is_name, d_is_name := d_is_name, F_is_name := F_is_name, g_is_name := PySem.W.mg_of X G n_is_name, a_are_names := a_are_names, d_are_names := d_are_names, F_are_names := F_are_names, g_are_names := PySem.W.mg_of X G n_are_names, a_is_door := a_is_door, d_is_door := d_is_door, F_is_door := F_is_door, g_is_door := PySem.W.mg_of X G n_is_door, a_are_doors := a_are_doors, d_are_doors := d_are_doors, F_are_doors := F_are_doors, g_are_doors := PySem.W.mg_of X G n_are_doors, a_is_right := a_is_right, d_is_right := d_is_right, F_is_right := F_is_right, g_is_right := PySem.W.mg_of X G n_is_right, a_are_rights := a_are_rights, d_are_rights := d_are_rights, F_are_rights := F_are_rights, g_are_rights := PySem.W.mg_of X G n_are_rights, a_is_building := a_is_building, d_is_building := d_is_building, F_is_building := F_is_building, g_is_building := PySem.W.mg_of X G n_is_building, a_areas_of := a_areas_of, d_areas_of := d_areas_of, F_areas_of := F_areas_of, g_areas_of := PySem.W.mg_of X G n_areas_of, a_doors_of := a_doors_of, d_doors_of := d_doors_of, F_doors_of := F_doors_of, g_doors_of := PySem.W.mg_of X G n_doors_of, a_door_names := a_door_names, d_door_names := d_door_names, F_door_names := F_door_names, g_door_names := PySem.W.mg_of X G n_door_names, a_check_building := a_check_building, d_check_building := d_check_building, F_check_building := F_check_building, g_check_building := PySem.W.mg_of X G n_check_building, a_check_area := a_check_area, d_check_area := d_check_area, F_check_area := F_check_area, g_check_area := PySem.W.mg_of X G n_check_area, a_check_free := a_check_free, d_check_free := d_check_free, F_check_free := F_check_free, g_check_free := PySem.W.mg_of X G n_check_free, a_steps_from := a_steps_from, d_steps_from := d_steps_from, F_steps_from := F_steps_from, g_steps_from := PySem.W.mg_of X G n_steps_from, a_reached_from := a_reached_from, d_reached_from := d_reached_from, F_reached_from := F_reached_from, g_reached_from := PySem.W.mg_of X G n_reached_from, a_all_ways := a_all_ways, d_all_ways := d_all_ways, F_all_ways := F_all_ways, g_all_ways := PySem.W.mg_of X G n_all_ways, a_areas_joined := a_areas_joined, d_areas_joined := d_areas_joined, F_areas_joined := F_areas_joined, g_areas_joined := PySem.W.mg_of X G n_areas_joined, a_joined := a_joined, d_joined := d_joined, F_joined := F_joined, g_joined := PySem.W.mg_of X G n_joined, a_least_way := a_least_way, d_least_way := d_least_way, F_least_way := F_least_way, g_least_way := PySem.W.mg_of X G n_least_way, a_check_ends := a_check_ends, d_check_ends := d_check_ends, F_check_ends := F_check_ends, g_check_ends := PySem.W.mg_of X G n_check_ends, a_disjoint_ways := a_disjoint_ways, d_disjoint_ways := d_disjoint_ways, F_disjoint_ways := F_disjoint_ways, g_disjoint_ways := PySem.W.mg_of X G n_disjoint_ways, a_parting := a_parting, d_parting := d_parting, F_parting := F_parting, g_parting := PySem.W.mg_of X G n_parting, a_narrows := a_narrows, d_narrows := d_narrows, F_narrows := F_narrows, g_narrows := PySem.W.mg_of X G n_narrows, a_law_begun := a_law_begun, d_law_begun := d_law_begun, F_law_begun := F_law_begun, g_law_begun := PySem.W.mg_of X G n_law_begun, a_law_mixed := a_law_mixed, d_law_mixed := d_law_mixed, F_law_mixed := F_law_mixed, g_law_mixed := PySem.W.mg_of X G n_law_mixed, a_law_draw := a_law_draw, d_law_draw := d_law_draw, F_law_draw := F_law_draw, g_law_draw := PySem.W.mg_of X G n_law_draw, a_law_pick := a_law_pick, d_law_pick := d_law_pick, F_law_pick := F_law_pick, g_law_pick := PySem.W.mg_of X G n_law_pick, a_law_shuffled := a_law_shuffled, d_law_shuffled := d_law_shuffled, F_law_shuffled := F_law_shuffled, g_law_shuffled := PySem.W.mg_of X G n_law_shuffled, a_law_caught := a_law_caught, d_law_caught := d_law_caught, F_law_caught := F_law_caught, g_law_caught := PySem.W.mg_of X G n_law_caught, a_law_house := a_law_house, d_law_house := d_law_house, F_law_house := F_law_house, g_law_house := PySem.W.mg_of X G n_law_house, a_law_all_ways := a_law_all_ways, d_law_all_ways := d_law_all_ways, F_law_all_ways := F_law_all_ways, g_law_all_ways := PySem.W.mg_of X G n_law_all_ways, a_law_least := a_law_least, d_law_least := d_law_least, F_law_least := F_law_least, g_law_least := PySem.W.mg_of X G n_law_least, a_law_parting_right := a_law_parting_right, d_law_parting_right := d_law_parting_right, F_law_parting_right := F_law_parting_right, g_law_parting_right := PySem.W.mg_of X G n_law_parting_right, a_law_narrow := a_law_narrow, d_law_narrow := d_law_narrow, F_law_narrow := F_law_narrow, g_law_narrow := PySem.W.mg_of X G n_law_narrow, a_law_pair_right := a_law_pair_right, d_law_pair_right := d_law_pair_right, F_law_pair_right := F_law_pair_right, g_law_pair_right := PySem.W.mg_of X G n_law_pair_right, a_law_joined_right := a_law_joined_right, d_law_joined_right := d_law_joined_right, F_law_joined_right := F_law_joined_right, g_law_joined_right := PySem.W.mg_of X G n_law_joined_right, a_law_refusals_right := a_law_refusals_right, d_law_refusals_right := d_law_refusals_right, F_law_refusals_right := F_law_refusals_right, g_law_refusals_right := PySem.W.mg_of X G n_law_refusals_right, a_law := a_law, d_law := _, F_law := F_law, g_law := PySem.W.mg_of X G n_law, c_KeptError := cKeptError, E_KeptError := eKeptError.ok X G, u_KeptError := eKeptError.up, c_BadArea := cBadArea, E_BadArea := eBadArea.ok X G, u_BadArea := eBadArea.up, c_BadBuilding := cBadBuilding, E_BadBuilding := eBadBuilding.ok X G, u_BadBuilding := eBadBuilding.up, c_BadDoors := cBadDoors, E_BadDoors := eBadDoors.ok X G, u_BadDoors := eBadDoors.up, c_NoWay := cNoWay, E_NoWay := eNoWay.ok X G, u_NoWay := eNoWay.up, c_SameArea := cSameArea, E_SameArea := eSameArea.ok X G, u_SameArea := eSameArea.up, q_BadArea := qBadArea, q_BadDoors := qBadDoors, q_NoWay := qNoWay, q_SameArea := qSameArea, z_type := PySem.W.mg_none_of X G z_type, z_int := PySem.W.mg_none_of X G z_int, z_str := PySem.W.mg_none_of X G z_str, z_bool := PySem.W.mg_none_of X G z_bool, z_tuple := PySem.W.mg_none_of X G z_tuple, z_list := PySem.W.mg_none_of X G z_list, z_len := PySem.W.mg_none_of X G z_len, z_all := PySem.W.mg_none_of X G z_all, z_any := PySem.W.mg_none_of X G z_any, z_set := PySem.W.mg_none_of X G z_set, z_range := PySem.W.mg_none_of X G z_range, z_isinstance := PySem.W.mg_none_of X G z_isinstance, z_abs := PySem.W.mg_none_of X G z_abs, z_min := PySem.W.mg_none_of X G z_min, z_sorted := PySem.W.mg_none_of X G z_sorted }
  have e := hfa.symm.trans (PySem.W.mg_of X G n_law)
  cases e
  let Tb : List (Addr × Str) := [(P1, qPair), (P2, qRef)]
  refine ⟨_, [(c_law_pair_right, P1), (c_law_refusals_right, P2)], spLaw K Tb, fun p hp => ?_, fun p hp => ?_, fun p hp => ?_, fun s u => .of_eq rfl, fun H a ns hl _ hH hS => ?_, fun base KB NB TB => ok_law T ?_ ?_⟩
  · rcases List.mem_cons.mp hp with rfl | hp
    · exact o1
    · rw [List.mem_singleton.mp hp]
      exact o2
  · rcases List.mem_cons.mp hp with rfl | hp
    · exact w_law_pair_right
    · rw [List.mem_singleton.mp hp]
      exact w_law_refusals_right
  · rcases List.mem_cons.mp hp with rfl | hp
    · exact PySem.W.codeHd_of_K X h_law_pair_right
    · rw [List.mem_singleton.mp hp]
      exact PySem.W.codeHd_of_K X h_law_refusals_right
  · refine ⟨a, ns, rfl, hS, hl, fun p hp => ?_, fun _ => rfl⟩
    rcases List.mem_cons.mp hp with rfl | hp
    · exact TabS.nil (hH (c_law_pair_right, P1) List.mem_cons_self)
    · rw [List.mem_singleton.mp hp]
      exact TabS.nil (hH (c_law_refusals_right, P2) (List.mem_cons_of_mem _ List.mem_cons_self))
  · exact ok_refusals T C_law_refusals_right (TB (c_law_refusals_right, P2) (List.mem_cons_of_mem _ List.mem_cons_self)) (List.mem_cons_of_mem _ List.mem_cons_self) (fun p hp ep => by
    rcases List.mem_cons.mp hp with rfl | hp
    · exact absurd ep nP
    · rw [List.mem_singleton.mp hp])
  · exact ok_pair T C_law_pair_right (TB (c_law_pair_right, P1) List.mem_cons_self) List.mem_cons_self (fun p hp ep => by
    rcases List.mem_cons.mp hp with rfl | hp
    · rfl
    · rw [List.mem_singleton.mp hp] at ep
      exact absurd ep.symm nP) qNo
end Kx

set_option Elab.async false
set_option maxRecDepth 100000
open PySem PySem.W PyProof.Rows in
set_option maxRecDepth 100000 in
set_option maxHeartbeats 0 in
theorem PySem.Challenge.cw_housekept_k78_ways_and_cuts_holds : PySem.Challenge.rw_housekept_k78_ways_and_cuts.Holds := by
  w_on; o_law; k_head; (case hw => w_witness2)
  k_fill
  refine LamX.walk_ofTs (l := PySem.Challenge.rw_housekept_k78_ways_and_cuts) (n := 63) (k := 14) (x := "script") (CX := fun _ => L2.CX0) rfl (by decide) rfl ⟨rfl, by decide, by decide⟩ (fun w h Y => PySem.W.km_in_of Y) ?F (fun _ _ _ _ _ z => z)
  case F =>
    intro w mg fa h Y KX G hmg
    have tb := PySem.W.km_tabs_of Y
    refine' Kx.all_mk KX G hmg ?t_is_between ?t_is_row ?t_is_tuple ?t_is_among ?t_is_ascending ?t_are_unlike ?t_lots_below ?t_is_name ?t_are_names ?t_is_door ?t_are_doors ?t_is_right ?t_are_rights ?t_is_building ?t_areas_of ?t_doors_of ?t_door_names ?t_check_building ?t_check_area ?t_check_free ?t_steps_from ?t_reached_from ?t_all_ways ?t_areas_joined ?t_joined ?t_least_way ?t_check_ends ?t_disjoint_ways ?t_parting ?t_narrows ?t_law_begun ?t_law_mixed ?t_law_draw ?t_law_pick ?t_law_shuffled ?t_law_caught ?t_law_house ?t_law_all_ways ?t_law_least ?t_law_parting_right ?t_law_narrow ?t_law_joined_right ?t_law ?u1 ?u2 ?nP ?o1 ?o2 ?eKeptError ?eBadArea ?eBadBuilding ?eBadDoors ?eNoWay ?eSameArea ?qBadArea ?qBadDoors ?qNoWay ?qSameArea ?qNo ?z_type ?z_int ?z_str ?z_bool ?z_tuple ?z_list ?z_len ?z_all ?z_any ?z_set ?z_range ?z_isinstance ?z_abs ?z_min ?z_sorted
    case t_is_between => (refine' Kx.textAt ?a ?l ?c ?k; (case a => k_is); (case l => k_is); (case c => k_is); (case k => k_is))
    case t_is_row => (refine' Kx.textAt ?a ?l ?c ?k; (case a => k_is); (case l => k_is); (case c => k_is); (case k => k_is))
    case t_is_tuple => (refine' Kx.textAt ?a ?l ?c ?k; (case a => k_is); (case l => k_is); (case c => k_is); (case k => k_is))
    case t_is_among => (refine' Kx.textAt ?a ?l ?c ?k; (case a => k_is); (case l => k_is); (case c => k_is); (case k => k_is))
    case t_is_ascending => (refine' Kx.textAt ?a ?l ?c ?k; (case a => k_is); (case l => k_is); (case c => k_is); (case k => k_is))
    case t_are_unlike => (refine' Kx.textAt ?a ?l ?c ?k; (case a => k_is); (case l => k_is); (case c => k_is); (case k => k_is))
    case t_lots_below => (refine' Kx.textAt ?a ?l ?c ?k; (case a => k_is); (case l => k_is); (case c => k_is); (case k => k_is))
    case t_is_name => (refine' Kx.textAt ?a ?l ?c ?k; (case a => k_is); (case l => k_is); (case c => k_is); (case k => k_is))
    case t_are_names => (refine' Kx.textAt ?a ?l ?c ?k; (case a => k_is); (case l => k_is); (case c => k_is); (case k => k_is))
    case t_is_door => (refine' Kx.textAt ?a ?l ?c ?k; (case a => k_is); (case l => k_is); (case c => k_is); (case k => k_is))
    case t_are_doors => (refine' Kx.textAt ?a ?l ?c ?k; (case a => k_is); (case l => k_is); (case c => k_is); (case k => k_is))
    case t_is_right => (refine' Kx.textAt ?a ?l ?c ?k; (case a => k_is); (case l => k_is); (case c => k_is); (case k => k_is))
    case t_are_rights => (refine' Kx.textAt ?a ?l ?c ?k; (case a => k_is); (case l => k_is); (case c => k_is); (case k => k_is))
    case t_is_building => (refine' Kx.textAt ?a ?l ?c ?k; (case a => k_is); (case l => k_is); (case c => k_is); (case k => k_is))
    case t_areas_of => (refine' Kx.textAt ?a ?l ?c ?k; (case a => k_is); (case l => k_is); (case c => k_is); (case k => k_is))
    case t_doors_of => (refine' Kx.textAt ?a ?l ?c ?k; (case a => k_is); (case l => k_is); (case c => k_is); (case k => k_is))
    case t_door_names => (refine' Kx.textAt ?a ?l ?c ?k; (case a => k_is); (case l => k_is); (case c => k_is); (case k => k_is))
    case t_check_building => (refine' Kx.textAt ?a ?l ?c ?k; (case a => k_is); (case l => k_is); (case c => k_is); (case k => k_is))
    case t_check_area => (refine' Kx.textAt ?a ?l ?c ?k; (case a => k_is); (case l => k_is); (case c => k_is); (case k => k_is))
    case t_check_free => (refine' Kx.textAt ?a ?l ?c ?k; (case a => k_is); (case l => k_is); (case c => k_is); (case k => k_is))
    case t_steps_from => (refine' Kx.textAt ?a ?l ?c ?k; (case a => k_is); (case l => k_is); (case c => k_is); (case k => k_is))
    case t_reached_from => (refine' Kx.textAt ?a ?l ?c ?k; (case a => k_is); (case l => k_is); (case c => k_is); (case k => k_is))
    case t_all_ways => (refine' Kx.textAt ?a ?l ?c ?k; (case a => k_is); (case l => k_is); (case c => k_is); (case k => k_is))
    case t_areas_joined => (refine' Kx.textAt ?a ?l ?c ?k; (case a => k_is); (case l => k_is); (case c => k_is); (case k => k_is))
    case t_joined => (refine' Kx.textAt ?a ?l ?c ?k; (case a => k_is); (case l => k_is); (case c => k_is); (case k => k_is))
    case t_least_way => (refine' Kx.textAt ?a ?l ?c ?k; (case a => k_is); (case l => k_is); (case c => k_is); (case k => k_is))
    case t_check_ends => (refine' Kx.textAt ?a ?l ?c ?k; (case a => k_is); (case l => k_is); (case c => k_is); (case k => k_is))
    case t_disjoint_ways => (refine' Kx.textAt ?a ?l ?c ?k; (case a => k_is); (case l => k_is); (case c => k_is); (case k => k_is))
    case t_parting => (refine' Kx.textAt ?a ?l ?c ?k; (case a => k_is); (case l => k_is); (case c => k_is); (case k => k_is))
    case t_narrows => (refine' Kx.textAt ?a ?l ?c ?k; (case a => k_is); (case l => k_is); (case c => k_is); (case k => k_is))
    case t_law_begun => (refine' Kx.textAt ?a ?l ?c ?k; (case a => k_is); (case l => k_is); (case c => k_is); (case k => k_is))
    case t_law_mixed => (refine' Kx.textAt ?a ?l ?c ?k; (case a => k_is); (case l => k_is); (case c => k_is); (case k => k_is))
    case t_law_draw => (refine' Kx.textAt ?a ?l ?c ?k; (case a => k_is); (case l => k_is); (case c => k_is); (case k => k_is))
    case t_law_pick => (refine' Kx.textAt ?a ?l ?c ?k; (case a => k_is); (case l => k_is); (case c => k_is); (case k => k_is))
    case t_law_shuffled => (refine' Kx.textAt ?a ?l ?c ?k; (case a => k_is); (case l => k_is); (case c => k_is); (case k => k_is))
    case t_law_caught => (refine' Kx.textAt ?a ?l ?c ?k; (case a => k_is); (case l => k_is); (case c => k_is); (case k => k_is))
    case t_law_house => (refine' Kx.textAt ?a ?l ?c ?k; (case a => k_is); (case l => k_is); (case c => k_is); (case k => k_is))
    case t_law_all_ways => (refine' Kx.textAt ?a ?l ?c ?k; (case a => k_is); (case l => k_is); (case c => k_is); (case k => k_is))
    case t_law_least => (refine' Kx.textAt ?a ?l ?c ?k; (case a => k_is); (case l => k_is); (case c => k_is); (case k => k_is))
    case t_law_parting_right => (refine' Kx.textAt ?a ?l ?c ?k; (case a => k_is); (case l => k_is); (case c => k_is); (case k => k_is))
    case t_law_narrow => (refine' Kx.textAt ?a ?l ?c ?k; (case a => k_is); (case l => k_is); (case c => k_is); (case k => k_is))
    case t_law_joined_right => (refine' Kx.textAt ?a ?l ?c ?k; (case a => k_is); (case l => k_is); (case c => k_is); (case k => k_is))
    case t_law => (refine' Kx.textAt ?a ?l ?c ?k; (case a => k_is); (case l => k_is); (case c => k_is); (case k => k_is))
    case u1 => (refine' Kx.tabAt (P := 342) ?a ?l ?d ?k ?n ?e; (case a => k_is); (case l => k_is); (case d => k_is); (case k => k_is); (case n => first | k_is | kernel_rfl); (case e => kernel_rfl))
    case u2 => (refine' Kx.tabAt (P := 354) ?a ?l ?d ?k ?n ?e; (case a => k_is); (case l => k_is); (case d => k_is); (case k => k_is); (case n => first | k_is | kernel_rfl); (case e => kernel_rfl))
    case nP => decide
    case o1 => exact tb _ (by decide)
    case o2 => exact tb _ (by decide)
    case eKeptError => (refine' Kx.ErrAt.mk ?e1 ?e2 ?e3 ?e4 ?e5 ?e6 ?e7 ?e8 ?e9 ?e10 ?e11 ?e12 ?e13; (case e1 => first | k_is | kernel_rfl); (case e2 => first | k_is | kernel_rfl); (case e3 => first | k_is | kernel_rfl); (case e4 => first | k_is | kernel_rfl); (case e5 => first | k_is | kernel_rfl); (case e6 => first | k_is | kernel_rfl); (case e7 => first | k_is | kernel_rfl); (case e8 => first | k_is | kernel_rfl); (case e9 => first | k_is | kernel_rfl); (case e10 => first | k_is | kernel_rfl); (case e11 => first | k_is | kernel_rfl); (case e12 => first | k_is | kernel_rfl); (case e13 => first | k_is | rfl))
    case eBadArea => (refine' Kx.ErrAt.mk ?e1 ?e2 ?e3 ?e4 ?e5 ?e6 ?e7 ?e8 ?e9 ?e10 ?e11 ?e12 ?e13; (case e1 => first | k_is | kernel_rfl); (case e2 => first | k_is | kernel_rfl); (case e3 => first | k_is | kernel_rfl); (case e4 => first | k_is | kernel_rfl); (case e5 => first | k_is | kernel_rfl); (case e6 => first | k_is | kernel_rfl); (case e7 => first | k_is | kernel_rfl); (case e8 => first | k_is | kernel_rfl); (case e9 => first | k_is | kernel_rfl); (case e10 => first | k_is | kernel_rfl); (case e11 => first | k_is | kernel_rfl); (case e12 => first | k_is | kernel_rfl); (case e13 => first | k_is | rfl))
    case eBadBuilding => (refine' Kx.ErrAt.mk ?e1 ?e2 ?e3 ?e4 ?e5 ?e6 ?e7 ?e8 ?e9 ?e10 ?e11 ?e12 ?e13; (case e1 => first | k_is | kernel_rfl); (case e2 => first | k_is | kernel_rfl); (case e3 => first | k_is | kernel_rfl); (case e4 => first | k_is | kernel_rfl); (case e5 => first | k_is | kernel_rfl); (case e6 => first | k_is | kernel_rfl); (case e7 => first | k_is | kernel_rfl); (case e8 => first | k_is | kernel_rfl); (case e9 => first | k_is | kernel_rfl); (case e10 => first | k_is | kernel_rfl); (case e11 => first | k_is | kernel_rfl); (case e12 => first | k_is | kernel_rfl); (case e13 => first | k_is | rfl))
    case eBadDoors => (refine' Kx.ErrAt.mk ?e1 ?e2 ?e3 ?e4 ?e5 ?e6 ?e7 ?e8 ?e9 ?e10 ?e11 ?e12 ?e13; (case e1 => first | k_is | kernel_rfl); (case e2 => first | k_is | kernel_rfl); (case e3 => first | k_is | kernel_rfl); (case e4 => first | k_is | kernel_rfl); (case e5 => first | k_is | kernel_rfl); (case e6 => first | k_is | kernel_rfl); (case e7 => first | k_is | kernel_rfl); (case e8 => first | k_is | kernel_rfl); (case e9 => first | k_is | kernel_rfl); (case e10 => first | k_is | kernel_rfl); (case e11 => first | k_is | kernel_rfl); (case e12 => first | k_is | kernel_rfl); (case e13 => first | k_is | rfl))
    case eNoWay => (refine' Kx.ErrAt.mk ?e1 ?e2 ?e3 ?e4 ?e5 ?e6 ?e7 ?e8 ?e9 ?e10 ?e11 ?e12 ?e13; (case e1 => first | k_is | kernel_rfl); (case e2 => first | k_is | kernel_rfl); (case e3 => first | k_is | kernel_rfl); (case e4 => first | k_is | kernel_rfl); (case e5 => first | k_is | kernel_rfl); (case e6 => first | k_is | kernel_rfl); (case e7 => first | k_is | kernel_rfl); (case e8 => first | k_is | kernel_rfl); (case e9 => first | k_is | kernel_rfl); (case e10 => first | k_is | kernel_rfl); (case e11 => first | k_is | kernel_rfl); (case e12 => first | k_is | kernel_rfl); (case e13 => first | k_is | rfl))
    case eSameArea => (refine' Kx.ErrAt.mk ?e1 ?e2 ?e3 ?e4 ?e5 ?e6 ?e7 ?e8 ?e9 ?e10 ?e11 ?e12 ?e13; (case e1 => first | k_is | kernel_rfl); (case e2 => first | k_is | kernel_rfl); (case e3 => first | k_is | kernel_rfl); (case e4 => first | k_is | kernel_rfl); (case e5 => first | k_is | kernel_rfl); (case e6 => first | k_is | kernel_rfl); (case e7 => first | k_is | kernel_rfl); (case e8 => first | k_is | kernel_rfl); (case e9 => first | k_is | kernel_rfl); (case e10 => first | k_is | kernel_rfl); (case e11 => first | k_is | kernel_rfl); (case e12 => first | k_is | kernel_rfl); (case e13 => first | k_is | rfl))
    case qBadArea => first | k_is | rfl
    case qBadDoors => first | k_is | rfl
    case qNoWay => first | k_is | rfl
    case qSameArea => first | k_is | rfl
    case qNo => first | k_is | rfl
    case z_type => k_is
    case z_int => k_is
    case z_str => k_is
    case z_bool => k_is
    case z_tuple => k_is
    case z_list => k_is
    case z_len => k_is
    case z_all => k_is
    case z_any => k_is
    case z_set => k_is
    case z_range => k_is
    case z_isinstance => k_is
    case z_abs => k_is
    case z_min => k_is
    case z_sorted => k_is
