import PyProof.Rows.All
import Wide.All
import OpenK.AllK
import Wide.FinOn
import HandS.Evl
import HandS.More
import HandS.Text
import HandS.Iter
import HandS.Comp
import HandS.Words
import HandS.WordsList
import HandS.Exc
import HandS.ExcOwn
import HandS.ExcIs
import HandS.SetFor
import HandS.Strs
import PyProof.NeKinds
import PyProof.EqKinds
import PyProof.EqAt
import HandS.TupAny
import HandS.IsInst
import HandS.WordsExc
import HandS.Lambda
import HandS.Deep
import HandS.Dict
import HandS.TupLe
import PyProof.TupleCall
import HandS.EndTab
import KE.KNestM
import PySem.Challenge.RW_housekept_k77_buildings_judged
set_option Elab.async false
set_option linter.all false
set_option maxRecDepth 100000
set_option maxHeartbeats 1000000
namespace Kx
open PySem PySem.Spec PyProof.Rows L2 Evl

/-! ## Data: what the law's values are -/
inductive D where
  | non | bl (b : Bool) | int (i : Int) | str (s : Str) | tup (ds : List D) | lst (ds : List D) | dic
/-- a tuple whose object is known to have no dict of its own -/
def TupS (H : Hp) (a : Addr) (vs : List V) : Prop := ∃ o : Obj, o.dict = none ∧ H a = some (.frz o (.tup vs))
theorem TupS.up {H H' : Hp} {a : Addr} {vs : List V} (h : TupS H a vs) (e : Ex H H') : TupS H' a vs := let ⟨o, h1, h2⟩ := h; ⟨o, h1, e _ _ h2⟩
theorem TupS.sq {K : PySem.W.Frag} {H : Hp} {a : Addr} {vs : List V} (h : TupS H a vs) : SqT K H a vs := let ⟨o, _, h2⟩ := h; .inl (.inr ⟨o, h2⟩)
mutual
inductive Rep (H : Hp) : V → D → Prop
  | non : Rep H .non .non
  | bl (b : Bool) : Rep H (.bl b) (.bl b)
  | int (i : Int) : Rep H (.int i) (.int i)
  | str (s : Str) : Rep H (.str s) (.str s)
  | tup {a : Addr} {vs : List V} {ds : List D} : TupS H a vs → Reps H vs ds → Rep H (.ref a) (.tup ds)
  | lst {a : Addr} {vs : List V} {ds : List D} : H a = some (.lst vs) → Reps H vs ds → Rep H (.ref a) (.lst ds)
  | dic {a : Addr} : H a = some (.dK []) → Rep H (.ref a) .dic
inductive Reps (H : Hp) : List V → List D → Prop
  | nil : Reps H [] []
  | cons {v : V} {vs : List V} {d : D} {ds : List D} : Rep H v d → Reps H vs ds → Reps H (v :: vs) (d :: ds)
end
mutual
theorem Rep.mono {H H' : Hp} (e : Ex H H') : ∀ (d : D) (v : V), Rep H v d → Rep H' v d
  | _, _, .non => .non
  | _, _, .bl b => .bl b
  | _, _, .int i => .int i
  | _, _, .str s => .str s
  | _, _, .tup h r => .tup (h.up e) (Reps.mono e _ _ r)
  | _, _, .lst h r => .lst (e _ _ h) (Reps.mono e _ _ r)
  | _, _, .dic h => .dic (e _ _ h)
theorem Reps.mono {H H' : Hp} (e : Ex H H') : ∀ (ds : List D) (vs : List V), Reps H vs ds → Reps H' vs ds
  | _, _, .nil => .nil
  | _, _, .cons r t => .cons (Rep.mono e _ _ r) (Reps.mono e _ _ t)
end
theorem Rep.up {H H' : Hp} {v : V} {d : D} (r : Rep H v d) (e : Ex H H') : Rep H' v d := r.mono e
theorem Reps.up {H H' : Hp} {vs : List V} {ds : List D} (r : Reps H vs ds) (e : Ex H H') : Reps H' vs ds := r.mono e
theorem Reps.length {H : Hp} : ∀ {vs : List V} {ds : List D}, Reps H vs ds → vs.length = ds.length
  | _, _, .nil => rfl
  | _, _, .cons _ t => by rw [List.length_cons, List.length_cons, Reps.length t]
theorem Reps.get {H : Hp} : ∀ {vs : List V} {ds : List D} {j : Nat} {v : V}, Reps H vs ds → vs[j]? = some v → ∃ d, ds[j]? = some d ∧ Rep H v d
  | _, _, _, _, .nil, h => by simp at h
  | _, _, 0, _, .cons r _, h => by
    have h2 := Option.some.inj h
    subst h2
    exact ⟨_, rfl, r⟩
  | _, _, j + 1, _, .cons _ t, h => Reps.get (j := j) t h
theorem Reps.getD {H : Hp} : ∀ {vs : List V} {ds : List D} {j : Nat} {d : D}, Reps H vs ds → ds[j]? = some d → ∃ v, vs[j]? = some v ∧ Rep H v d
  | _, _, _, _, .nil, h => by simp at h
  | _, _, 0, _, .cons r _, h => by
    have h2 := Option.some.inj h
    subst h2
    exact ⟨_, rfl, r⟩
  | _, _, j + 1, _, .cons _ t, h => Reps.getD (j := j) t h
theorem Reps.append {H : Hp} : ∀ {vs ws : List V} {ds es : List D}, Reps H vs ds → Reps H ws es → Reps H (vs ++ ws) (ds ++ es)
  | _, _, _, _, .nil, s => s
  | _, _, _, _, .cons r t, s => .cons r (Reps.append t s)
theorem Reps.take {H : Hp} : ∀ {vs : List V} {ds : List D} (n : Nat), Reps H vs ds → Reps H (vs.take n) (ds.take n)
  | _, _, 0, _ => .nil
  | _, _, _ + 1, .nil => .nil
  | _, _, n + 1, .cons r t => .cons r (Reps.take n t)
theorem Reps.drop {H : Hp} : ∀ {vs : List V} {ds : List D} (n : Nat), Reps H vs ds → Reps H (vs.drop n) (ds.drop n)
  | _, _, 0, r => r
  | _, _, _ + 1, .nil => .nil
  | _, _, n + 1, .cons _ t => Reps.drop n t
def sv (ss : List Str) : List V := ss.map V.str
theorem reps_strs {H : Hp} : ∀ ss : List Str, Reps H (sv ss) (ss.map D.str)
  | [] => .nil
  | s :: r => .cons (.str s) (reps_strs r)
theorem strs_of_reps {H : Hp} : ∀ {ss : List Str} {vs : List V}, Reps H vs (ss.map D.str) → vs = sv ss
  | [], _, .nil => rfl
  | s :: r, _, .cons h t => by
    cases h
    rw [strs_of_reps t]
    rfl

/-- the type's name -/
def D.ty : D → String
  | .non => "NoneType" | .bl _ => "bool" | .int _ => "int" | .str _ => "str" | .tup _ => "tuple" | .lst _ => "list" | .dic => "dict"
theorem Rep.tyB {K : PySem.W.Frag} {H : Hp} {v : V} {d : D} (r : Rep H v d) : TyB K H v d.ty := by
  cases r with
  | non => exact .non
  | bl b => exact .bl b
  | int i => exact .int i
  | str s => exact .str s
  | tup h _ => exact .tup h.sq
  | lst h _ => exact .lst (.of h)
  | dic h => exact .dK h
section
variable {K : PySem.W.Frag} {σ : L2.St} {H H' : Hp} {ta tb tc te tl : TE} {x y z v : V} {r r' : R2}
theorem ev_type {d : D} (h : Ev ta σ H v) (q : Rep H v d) : Ev (tCB (rTyp K) (tCons ta tNil)) σ H (.ty d.ty) :=
  ev_cb (ea_cons h ea_nil) fun H1 e Q k => ⟨v, d.ty, rfl, (q.up e).tyB, k H1 (Ex.refl _)⟩
theorem rv_isTy {a b : String} : RV (fun x y H Q => ∃ a b, x = V.ty a ∧ y = V.ty b ∧ Q (.bl (decide (a = b))) H) (.ty a) (.ty b) H (.bl (decide (a = b))) :=
  fun H1 e Q k => ⟨a, b, rfl, rfl, k H1 (Ex.refl _)⟩
theorem rv_notTy {a b : String} : RV rNT (.ty a) (.ty b) H (.bl (!decide (a = b))) := fun H1 e Q k => ⟨a, b, rfl, rfl, k H1 (Ex.refl _)⟩
/-- a op b op' c -/
theorem ev_chain {b1 b2 : Bool} (ha : Ev ta σ H x) (hb : Ev tb σ H y) (h1 : RV r x y H (.bl b1)) (hc : b1 = true → Ev tc σ H z) (h2 : b1 = true → RV r' y z H (.bl b2)) :
    Ev (tChain r r' ta tb tc) σ H (.bl (b1 && b2)) := fun H1 e1 Q q => ha H1 e1 _ fun H2 e2 => hb H2 (e1.trans e2) _ fun H3 e3 => h1 H3 ((e1.trans e2).trans e3) _ fun H4 e4 => ⟨b1, rfl, by
      have e14 := (e2.trans e3).trans e4
      have E := e1.trans e14
      cases b1 with
      | false => exact q H4 e14
      | true => exact hc rfl H4 E _ fun H5 e5 => h2 rfl H5 (E.trans e5) _ fun H6 e6 => q H6 ((e14.trans e5).trans e6)⟩
theorem et_val {b : Bool} (h : Ev te σ H (.bl b)) : EvT (fun σ H Q => te σ H fun x H1 => ∃ k, x = .bl k ∧ Q k H1) σ H b := fun H1 e Q q => h H1 e _ fun H2 e2 => ⟨b, rfl, q H2 e2⟩
theorem ev_chainT {b : Bool} (h : Ev te σ H (.bl b)) : EvT (tTest te) σ H b := et_test h
/-- all(..) of a new list of truths -/
theorem ev_all {bs : List Bool} (h : EvL te σ H (bs.map V.bl)) : Ev (tCB (rAll K) (tCons te tNil)) σ H (.bl (bs.all id)) := fun H1 e Q q =>
  h H1 e _ fun p H2 _ e2 hp => ⟨p, bs, rfl, .of hp, q H2 e2⟩
/-- [te for x in a tuple] -/
theorem el_lcT {i : Nat} {a : Addr} {xs ys : List V} (h : Ev tl σ H (.ref a)) (hx : SqT K H a xs) (hl : ys.length = xs.length) (hz : xs.length < 100000)
    (hy : ∀ (j : Nat) (x y : V), xs[j]? = some x → ys[j]? = some y → Ev te ((σ.set i none).set i (some x)) H y) : EvL (tLc (iTup K tl) (gName i) tYes te [i]) σ H ys := fun H1 e Q q =>
  h H1 e _ fun H2 e2 => ⟨a, rfl, ⟨xs, ex_t (e.trans e2) hx⟩, fun D hD =>
    lc_tup (xs := xs) (fun j H' => Ex H2 H' ∧ H' D = some (.lst (ys.take j))) ⟨Ex.new hD, upd_same⟩ (fun j H' _ p => ex_t ((e.trans e2).trans p.1) hx)
      (fun j x H' hj p => ⟨by show (((σ.set i none).set i (some x)).set i none) = (σ.set i none); rw [List.set_set, List.set_set], by
        have hlt : j < xs.length := (List.getElem?_eq_some_iff.mp hj).1
        have hlt2 : j < ys.length := by omega
        have gy : ys[j]? = some ys[j] := List.getElem?_eq_getElem hlt2
        refine hy j x _ hj gy H' ((e.trans e2).trans p.1) _ fun H3 e3 => ⟨ys.take j, e3 _ _ p.2, ?_, (p.1.trans e3).mut hD, ?_⟩
        · rw [List.length_take]
          exact sz_lt (Nat.lt_of_le_of_lt (Nat.min_le_right _ _) (by omega))
        · rw [upd_same, List.take_add_one, gy]
          rfl⟩)
      (fun H' p => q D H' (fresh_back e2 hD) (e2.trans p.1) (by rw [p.2, List.take_of_length_le (by omega)]))⟩
theorem el_lcL {i : Nat} {a : Addr} {xs ys : List V} (h : Ev tl σ H (.ref a)) (hx : SqL K H a xs) (hl : ys.length = xs.length) (hz : xs.length < 100000)
    (hy : ∀ (j : Nat) (x y : V), xs[j]? = some x → ys[j]? = some y → Ev te ((σ.set i none).set i (some x)) H y) : EvL (tLc (iList K tl) (gName i) tYes te [i]) σ H ys := fun H1 e Q q =>
  h H1 e _ fun H2 e2 => ⟨a, rfl, ⟨xs, ex_l (e.trans e2) hx⟩, fun D hD =>
    lc_list (xs := xs) (fun j H' => Ex H2 H' ∧ H' D = some (.lst (ys.take j))) ⟨Ex.new hD, upd_same⟩ (fun j H' _ p => ex_l ((e.trans e2).trans p.1) hx)
      (fun j x H' hj p => ⟨by show (((σ.set i none).set i (some x)).set i none) = (σ.set i none); rw [List.set_set, List.set_set], by
        have hlt : j < xs.length := (List.getElem?_eq_some_iff.mp hj).1
        have hlt2 : j < ys.length := by omega
        have gy : ys[j]? = some ys[j] := List.getElem?_eq_getElem hlt2
        refine hy j x _ hj gy H' ((e.trans e2).trans p.1) _ fun H3 e3 => ⟨ys.take j, e3 _ _ p.2, ?_, (p.1.trans e3).mut hD, ?_⟩
        · rw [List.length_take]
          exact sz_lt (Nat.lt_of_le_of_lt (Nat.min_le_right _ _) (by omega))
        · rw [upd_same, List.take_add_one, gy]
          rfl⟩)
      (fun H' p => q D H' (fresh_back e2 hD) (e2.trans p.1) (by rw [p.2, List.take_of_length_le (by omega)]))⟩
end
end Kx

set_option Elab.async false
set_option linter.all false
set_option maxRecDepth 100000
set_option maxHeartbeats 1000000
namespace Kx
open PySem PySem.Spec PyProof.Rows L2 Evl
def topK (i : Nat) : Stmt := PySem.Challenge.pw_housekept_k77_buildings_judged.main.body.getD i (.Pass ⟨0, 0, 0, 0⟩)
abbrev s_is_between : Stmt := topK 7
abbrev s_is_row : Stmt := topK 8
abbrev s_is_tuple : Stmt := topK 9
abbrev s_is_among : Stmt := topK 10
abbrev s_is_ascending : Stmt := topK 11
abbrev s_are_unlike : Stmt := topK 12
abbrev s_is_name : Stmt := topK 14
abbrev s_are_names : Stmt := topK 15
abbrev s_is_door : Stmt := topK 16
abbrev s_are_doors : Stmt := topK 17
abbrev s_is_right : Stmt := topK 18
abbrev s_are_rights : Stmt := topK 19
abbrev s_is_building : Stmt := topK 20
abbrev s_areas_of : Stmt := topK 21
abbrev s_doors_of : Stmt := topK 22
abbrev s_door_names : Stmt := topK 23
abbrev s_side_area : Stmt := topK 24
abbrev s_check_building : Stmt := topK 25
abbrev s_check_door : Stmt := topK 26
abbrev s_check_side : Stmt := topK 27
abbrev s_area_at : Stmt := topK 28
abbrev s_check_free : Stmt := topK 30
abbrev s_steps_from : Stmt := topK 31
abbrev s_reached_from : Stmt := topK 32
abbrev s_areas_joined : Stmt := topK 33
abbrev s_joined : Stmt := topK 34
abbrev s_law_begun : Stmt := topK 36
abbrev s_law_mixed : Stmt := topK 37
abbrev s_law_draw : Stmt := topK 38
abbrev s_law_pick : Stmt := topK 39
abbrev s_law_tells : Stmt := topK 40
abbrev s_law_caught : Stmt := topK 41
abbrev s_law_letters : Stmt := topK 42
abbrev s_law_new : Stmt := topK 43
abbrev s_law_names : Stmt := topK 44
abbrev s_law_house : Stmt := topK 45
abbrev s_law_is_named : Stmt := topK 46
abbrev s_law_are_named : Stmt := topK 47
abbrev s_law_is_doored : Stmt := topK 48
abbrev s_law_is_housed : Stmt := topK 49
abbrev s_law_bent : Stmt := topK 50
abbrev s_law_refused_right : Stmt := topK 51
abbrev s_law_sides_right : Stmt := topK 52
abbrev s_law : Stmt := topK 53
theorem sc_is_between : FnScope ["value", "low", "high"] ["value", "low", "high"] (defScope s_is_between) := ⟨rfl, rfl, rfl, by decide +kernel, rfl, by decide +kernel, by decide +kernel⟩
theorem sc_is_row : FnScope ["value"] ["value"] (defScope s_is_row) := ⟨rfl, rfl, rfl, by decide +kernel, rfl, by decide +kernel, by decide +kernel⟩
theorem sc_is_tuple : FnScope ["value", "least", "most"] ["value", "least", "most"] (defScope s_is_tuple) := ⟨rfl, rfl, rfl, by decide +kernel, rfl, by decide +kernel, by decide +kernel⟩
theorem sc_is_among : FnScope ["value", "names"] ["value", "names"] (defScope s_is_among) := ⟨rfl, rfl, rfl, by decide +kernel, rfl, by decide +kernel, by decide +kernel⟩
theorem sc_is_ascending : FnScope ["row", "at"] ["row"] (defScope s_is_ascending) := ⟨rfl, rfl, rfl, by decide +kernel, rfl, by decide +kernel, by decide +kernel⟩
theorem sc_are_unlike : FnScope ["row"] ["row"] (defScope s_are_unlike) := ⟨rfl, rfl, rfl, by decide +kernel, rfl, by decide +kernel, by decide +kernel⟩
theorem sc_is_name : FnScope ["value", "sign"] ["value"] (defScope s_is_name) := ⟨rfl, rfl, rfl, by decide +kernel, rfl, by decide +kernel, by decide +kernel⟩
theorem sc_are_names : FnScope ["value", "least", "most", "item"] ["value", "least", "most"] (defScope s_are_names) := ⟨rfl, rfl, rfl, by decide +kernel, rfl, by decide +kernel, by decide +kernel⟩
theorem sc_is_door : FnScope ["value", "areas"] ["value", "areas"] (defScope s_is_door) := ⟨rfl, rfl, rfl, by decide +kernel, rfl, by decide +kernel, by decide +kernel⟩
theorem sc_are_doors : FnScope ["value", "areas", "item"] ["value", "areas"] (defScope s_are_doors) := ⟨rfl, rfl, rfl, by decide +kernel, rfl, by decide +kernel, by decide +kernel⟩
theorem sc_is_right : FnScope ["value", "names", "kinds"] ["value", "names", "kinds"] (defScope s_is_right) := ⟨rfl, rfl, rfl, by decide +kernel, rfl, by decide +kernel, by decide +kernel⟩
theorem sc_are_rights : FnScope ["value", "doors", "kinds", "names", "door", "item", "kind", "side"] ["value", "doors", "kinds"] (defScope s_are_rights) := ⟨rfl, rfl, rfl, by decide +kernel, rfl, by decide +kernel, by decide +kernel⟩
theorem sc_is_building : FnScope ["value", "areas", "doors", "kinds", "rights"] ["value"] (defScope s_is_building) := ⟨rfl, rfl, rfl, by decide +kernel, rfl, by decide +kernel, by decide +kernel⟩
theorem sc_areas_of : FnScope ["building"] ["building"] (defScope s_areas_of) := ⟨rfl, rfl, rfl, by decide +kernel, rfl, by decide +kernel, by decide +kernel⟩
theorem sc_doors_of : FnScope ["building"] ["building"] (defScope s_doors_of) := ⟨rfl, rfl, rfl, by decide +kernel, rfl, by decide +kernel, by decide +kernel⟩
theorem sc_door_names : FnScope ["building", "door"] ["building"] (defScope s_door_names) := ⟨rfl, rfl, rfl, by decide +kernel, rfl, by decide +kernel, by decide +kernel⟩
theorem sc_side_area : FnScope ["building", "door", "side"] ["building", "door", "side"] (defScope s_side_area) := ⟨rfl, rfl, rfl, by decide +kernel, rfl, by decide +kernel, by decide +kernel⟩
theorem sc_check_building : FnScope ["building"] ["building"] (defScope s_check_building) := ⟨rfl, rfl, rfl, by decide +kernel, rfl, by decide +kernel, by decide +kernel⟩
theorem sc_check_door : FnScope ["building", "door"] ["building", "door"] (defScope s_check_door) := ⟨rfl, rfl, rfl, by decide +kernel, rfl, by decide +kernel, by decide +kernel⟩
theorem sc_check_side : FnScope ["side"] ["side"] (defScope s_check_side) := ⟨rfl, rfl, rfl, by decide +kernel, rfl, by decide +kernel, by decide +kernel⟩
theorem sc_area_at : FnScope ["building", "door", "side"] ["building", "door", "side"] (defScope s_area_at) := ⟨rfl, rfl, rfl, by decide +kernel, rfl, by decide +kernel, by decide +kernel⟩
theorem sc_check_free : FnScope ["building", "free", "names", "item"] ["building", "free"] (defScope s_check_free) := ⟨rfl, rfl, rfl, by decide +kernel, rfl, by decide +kernel, by decide +kernel⟩
theorem sc_steps_from : FnScope ["building", "free", "area", "steps", "name", "one", "other", "_"] ["building", "free", "area"] (defScope s_steps_from) := ⟨rfl, rfl, rfl, by decide +kernel, rfl, by decide +kernel, by decide +kernel⟩
theorem sc_reached_from : FnScope ["building", "free", "area", "reached", "at", "here", "_", "behind", "item"] ["building", "free", "area"] (defScope s_reached_from) := ⟨rfl, rfl, rfl, by decide +kernel, rfl, by decide +kernel, by decide +kernel⟩
theorem sc_areas_joined : FnScope ["building", "free", "groups", "area", "group"] ["building", "free"] (defScope s_areas_joined) := ⟨rfl, rfl, rfl, by decide +kernel, rfl, by decide +kernel, by decide +kernel⟩
theorem sc_joined : FnScope ["building", "free"] ["building", "free"] (defScope s_joined) := ⟨rfl, rfl, rfl, by decide +kernel, rfl, by decide +kernel, by decide +kernel⟩
theorem sc_law_begun : FnScope ["script", "great", "cell"] ["script"] (defScope s_law_begun) := ⟨rfl, rfl, rfl, by decide +kernel, rfl, by decide +kernel, by decide +kernel⟩
theorem sc_law_mixed : FnScope ["state", "turn", "found", "prime", "blend", "cell"] ["state"] (defScope s_law_mixed) := ⟨rfl, rfl, rfl, by decide +kernel, rfl, by decide +kernel, by decide +kernel⟩
theorem sc_law_draw : FnScope ["state", "room", "found"] ["state", "room"] (defScope s_law_draw) := ⟨rfl, rfl, rfl, by decide +kernel, rfl, by decide +kernel, by decide +kernel⟩
theorem sc_law_pick : FnScope ["state", "some"] ["state", "some"] (defScope s_law_pick) := ⟨rfl, rfl, rfl, by decide +kernel, rfl, by decide +kernel, by decide +kernel⟩
theorem sc_law_tells : FnScope ["value", "due"] ["value", "due"] (defScope s_law_tells) := ⟨rfl, rfl, rfl, by decide +kernel, rfl, by decide +kernel, by decide +kernel⟩
theorem sc_law_caught : FnScope ["action", "found", "error"] ["action"] (defScope s_law_caught) := ⟨rfl, rfl, rfl, by decide +kernel, rfl, by decide +kernel, by decide +kernel⟩
theorem sc_law_letters : FnScope ["state", "many", "lap"] ["state", "many"] (defScope s_law_letters) := ⟨rfl, rfl, rfl, by decide +kernel, rfl, by decide +kernel, by decide +kernel⟩
theorem sc_law_new : FnScope ["state", "used", "name", "some", "letter", "one"] ["state", "used"] (defScope s_law_new) := ⟨rfl, rfl, rfl, by decide +kernel, rfl, by decide +kernel, by decide +kernel⟩
theorem sc_law_names : FnScope ["state", "many", "found", "lap"] ["state", "many"] (defScope s_law_names) := ⟨rfl, rfl, rfl, by decide +kernel, rfl, by decide +kernel, by decide +kernel⟩
theorem sc_law_house : FnScope ["state", "areas", "kinds", "doors", "rights", "name", "one", "other", "odds", "kind", "door", "side"] ["state"] (defScope s_law_house) := ⟨rfl, rfl, rfl, by decide +kernel, rfl, by decide +kernel, by decide +kernel⟩
theorem sc_law_is_named : FnScope ["value", "letter"] ["value"] (defScope s_law_is_named) := ⟨rfl, rfl, rfl, by decide +kernel, rfl, by decide +kernel, by decide +kernel⟩
theorem sc_law_are_named : FnScope ["value", "low", "high", "one", "at"] ["value", "low", "high"] (defScope s_law_are_named) := ⟨rfl, rfl, rfl, by decide +kernel, rfl, by decide +kernel, by decide +kernel⟩
theorem sc_law_is_doored : FnScope ["areas", "value", "name", "one", "other", "sort"] ["areas", "value"] (defScope s_law_is_doored) := ⟨rfl, rfl, rfl, by decide +kernel, rfl, by decide +kernel, by decide +kernel⟩
theorem sc_law_is_housed : FnScope ["value", "areas", "doors", "kinds", "rights", "every", "spots", "kind", "door", "right"] ["value"] (defScope s_law_is_housed) := ⟨rfl, rfl, rfl, by decide +kernel, rfl, by decide +kernel, by decide +kernel⟩
theorem sc_law_bent : FnScope ["state", "value", "way", "some", "at"] ["state", "value"] (defScope s_law_bent) := ⟨rfl, rfl, rfl, by decide +kernel, rfl, by decide +kernel, by decide +kernel⟩
theorem sc_law_refused_right : FnScope ["house", "bad", "caught"] ["house", "bad"] (defScope s_law_refused_right) := ⟨rfl, rfl, rfl, by decide +kernel, rfl, by decide +kernel, by decide +kernel⟩
theorem sc_law_sides_right : FnScope ["state", "house", "name", "one", "other", "sort", "odd", "side", "caught"] ["state", "house"] (defScope s_law_sides_right) := ⟨rfl, rfl, rfl, by decide +kernel, rfl, by decide +kernel, by decide +kernel⟩
theorem sc_law : FnScope ["script", "state", "lap", "house", "turn", "bad", "name"] ["script"] (defScope s_law) := ⟨rfl, rfl, rfl, by decide +kernel, rfl, by decide +kernel, by decide +kernel⟩
/-- an own class of errors at C -/
structure ExK (K : PySem.W.Frag) (mg : Str → Option Value) (x : Str) (C : Addr) : Prop where
  g : mg x = some (.ref C)
  q : PySem.W.excIn K C [.type "ValueError", .type "Exception", .type "BaseException", .type "object"] "ValueError.__new__" = true
  kp : PySem.W.keepIn K (.ref C) = true
  bx : PySem.W.subIn K (.ref C) (.type "BaseException") = some true
  ty : PySem.W.typeIn K (.ref C) = some (.type "type")
  ex : ExcC K C
/-- where the text's defs and classes stand -/
structure Txt (K : PySem.W.Frag) (mg : Str → Option Value) where
  a_is_between : Addr
  d_is_between : FuncData
  F_is_between : Fun K "is_between" "is_between" s_is_between a_is_between d_is_between
  g_is_between : mg "is_between" = some (.ref a_is_between)
  a_is_row : Addr
  d_is_row : FuncData
  F_is_row : Fun K "is_row" "is_row" s_is_row a_is_row d_is_row
  g_is_row : mg "is_row" = some (.ref a_is_row)
  a_is_tuple : Addr
  d_is_tuple : FuncData
  F_is_tuple : Fun K "is_tuple" "is_tuple" s_is_tuple a_is_tuple d_is_tuple
  g_is_tuple : mg "is_tuple" = some (.ref a_is_tuple)
  a_is_among : Addr
  d_is_among : FuncData
  F_is_among : Fun K "is_among" "is_among" s_is_among a_is_among d_is_among
  g_is_among : mg "is_among" = some (.ref a_is_among)
  a_is_ascending : Addr
  d_is_ascending : FuncData
  F_is_ascending : Fun K "is_ascending" "is_ascending" s_is_ascending a_is_ascending d_is_ascending
  g_is_ascending : mg "is_ascending" = some (.ref a_is_ascending)
  a_are_unlike : Addr
  d_are_unlike : FuncData
  F_are_unlike : Fun K "are_unlike" "are_unlike" s_are_unlike a_are_unlike d_are_unlike
  g_are_unlike : mg "are_unlike" = some (.ref a_are_unlike)
  a_is_name : Addr
  d_is_name : FuncData
  F_is_name : Fun K "is_name" "is_name" s_is_name a_is_name d_is_name
  g_is_name : mg "is_name" = some (.ref a_is_name)
  a_are_names : Addr
  d_are_names : FuncData
  F_are_names : Fun K "are_names" "are_names" s_are_names a_are_names d_are_names
  g_are_names : mg "are_names" = some (.ref a_are_names)
  a_is_door : Addr
  d_is_door : FuncData
  F_is_door : Fun K "is_door" "is_door" s_is_door a_is_door d_is_door
  g_is_door : mg "is_door" = some (.ref a_is_door)
  a_are_doors : Addr
  d_are_doors : FuncData
  F_are_doors : Fun K "are_doors" "are_doors" s_are_doors a_are_doors d_are_doors
  g_are_doors : mg "are_doors" = some (.ref a_are_doors)
  a_is_right : Addr
  d_is_right : FuncData
  F_is_right : Fun K "is_right" "is_right" s_is_right a_is_right d_is_right
  g_is_right : mg "is_right" = some (.ref a_is_right)
  a_are_rights : Addr
  d_are_rights : FuncData
  F_are_rights : Fun K "are_rights" "are_rights" s_are_rights a_are_rights d_are_rights
  g_are_rights : mg "are_rights" = some (.ref a_are_rights)
  a_is_building : Addr
  d_is_building : FuncData
  F_is_building : Fun K "is_building" "is_building" s_is_building a_is_building d_is_building
  g_is_building : mg "is_building" = some (.ref a_is_building)
  a_areas_of : Addr
  d_areas_of : FuncData
  F_areas_of : Fun K "areas_of" "areas_of" s_areas_of a_areas_of d_areas_of
  g_areas_of : mg "areas_of" = some (.ref a_areas_of)
  a_doors_of : Addr
  d_doors_of : FuncData
  F_doors_of : Fun K "doors_of" "doors_of" s_doors_of a_doors_of d_doors_of
  g_doors_of : mg "doors_of" = some (.ref a_doors_of)
  a_door_names : Addr
  d_door_names : FuncData
  F_door_names : Fun K "door_names" "door_names" s_door_names a_door_names d_door_names
  g_door_names : mg "door_names" = some (.ref a_door_names)
  a_side_area : Addr
  d_side_area : FuncData
  F_side_area : Fun K "side_area" "side_area" s_side_area a_side_area d_side_area
  g_side_area : mg "side_area" = some (.ref a_side_area)
  a_check_building : Addr
  d_check_building : FuncData
  F_check_building : Fun K "check_building" "check_building" s_check_building a_check_building d_check_building
  g_check_building : mg "check_building" = some (.ref a_check_building)
  a_check_door : Addr
  d_check_door : FuncData
  F_check_door : Fun K "check_door" "check_door" s_check_door a_check_door d_check_door
  g_check_door : mg "check_door" = some (.ref a_check_door)
  a_check_side : Addr
  d_check_side : FuncData
  F_check_side : Fun K "check_side" "check_side" s_check_side a_check_side d_check_side
  g_check_side : mg "check_side" = some (.ref a_check_side)
  a_area_at : Addr
  d_area_at : FuncData
  F_area_at : Fun K "area_at" "area_at" s_area_at a_area_at d_area_at
  g_area_at : mg "area_at" = some (.ref a_area_at)
  a_check_free : Addr
  d_check_free : FuncData
  F_check_free : Fun K "check_free" "check_free" s_check_free a_check_free d_check_free
  g_check_free : mg "check_free" = some (.ref a_check_free)
  a_steps_from : Addr
  d_steps_from : FuncData
  F_steps_from : Fun K "steps_from" "steps_from" s_steps_from a_steps_from d_steps_from
  g_steps_from : mg "steps_from" = some (.ref a_steps_from)
  a_reached_from : Addr
  d_reached_from : FuncData
  F_reached_from : Fun K "reached_from" "reached_from" s_reached_from a_reached_from d_reached_from
  g_reached_from : mg "reached_from" = some (.ref a_reached_from)
  a_areas_joined : Addr
  d_areas_joined : FuncData
  F_areas_joined : Fun K "areas_joined" "areas_joined" s_areas_joined a_areas_joined d_areas_joined
  g_areas_joined : mg "areas_joined" = some (.ref a_areas_joined)
  a_joined : Addr
  d_joined : FuncData
  F_joined : Fun K "joined" "joined" s_joined a_joined d_joined
  g_joined : mg "joined" = some (.ref a_joined)
  a_law_begun : Addr
  d_law_begun : FuncData
  F_law_begun : Fun K "_law_begun" "_law_begun" s_law_begun a_law_begun d_law_begun
  g_law_begun : mg "_law_begun" = some (.ref a_law_begun)
  a_law_mixed : Addr
  d_law_mixed : FuncData
  F_law_mixed : Fun K "_law_mixed" "_law_mixed" s_law_mixed a_law_mixed d_law_mixed
  g_law_mixed : mg "_law_mixed" = some (.ref a_law_mixed)
  a_law_draw : Addr
  d_law_draw : FuncData
  F_law_draw : Fun K "_law_draw" "_law_draw" s_law_draw a_law_draw d_law_draw
  g_law_draw : mg "_law_draw" = some (.ref a_law_draw)
  a_law_pick : Addr
  d_law_pick : FuncData
  F_law_pick : Fun K "_law_pick" "_law_pick" s_law_pick a_law_pick d_law_pick
  g_law_pick : mg "_law_pick" = some (.ref a_law_pick)
  a_law_tells : Addr
  d_law_tells : FuncData
  F_law_tells : Fun K "_law_tells" "_law_tells" s_law_tells a_law_tells d_law_tells
  g_law_tells : mg "_law_tells" = some (.ref a_law_tells)
  a_law_caught : Addr
  d_law_caught : FuncData
  F_law_caught : Fun K "_law_caught" "_law_caught" s_law_caught a_law_caught d_law_caught
  g_law_caught : mg "_law_caught" = some (.ref a_law_caught)
  a_law_letters : Addr
  d_law_letters : FuncData
  F_law_letters : Fun K "_law_letters" "_law_letters" s_law_letters a_law_letters d_law_letters
  g_law_letters : mg "_law_letters" = some (.ref a_law_letters)
  a_law_new : Addr
  d_law_new : FuncData
  F_law_new : Fun K "_law_new" "_law_new" s_law_new a_law_new d_law_new
  g_law_new : mg "_law_new" = some (.ref a_law_new)
  a_law_names : Addr
  d_law_names : FuncData
  F_law_names : Fun K "_law_names" "_law_names" s_law_names a_law_names d_law_names
  g_law_names : mg "_law_names" = some (.ref a_law_names)
  a_law_house : Addr
  d_law_house : FuncData
  F_law_house : Fun K "_law_house" "_law_house" s_law_house a_law_house d_law_house
  g_law_house : mg "_law_house" = some (.ref a_law_house)
  a_law_is_named : Addr
  d_law_is_named : FuncData
  F_law_is_named : Fun K "_law_is_named" "_law_is_named" s_law_is_named a_law_is_named d_law_is_named
  g_law_is_named : mg "_law_is_named" = some (.ref a_law_is_named)
  a_law_are_named : Addr
  d_law_are_named : FuncData
  F_law_are_named : Fun K "_law_are_named" "_law_are_named" s_law_are_named a_law_are_named d_law_are_named
  g_law_are_named : mg "_law_are_named" = some (.ref a_law_are_named)
  a_law_is_doored : Addr
  d_law_is_doored : FuncData
  F_law_is_doored : Fun K "_law_is_doored" "_law_is_doored" s_law_is_doored a_law_is_doored d_law_is_doored
  g_law_is_doored : mg "_law_is_doored" = some (.ref a_law_is_doored)
  a_law_is_housed : Addr
  d_law_is_housed : FuncData
  F_law_is_housed : Fun K "_law_is_housed" "_law_is_housed" s_law_is_housed a_law_is_housed d_law_is_housed
  g_law_is_housed : mg "_law_is_housed" = some (.ref a_law_is_housed)
  a_law_bent : Addr
  d_law_bent : FuncData
  F_law_bent : Fun K "_law_bent" "_law_bent" s_law_bent a_law_bent d_law_bent
  g_law_bent : mg "_law_bent" = some (.ref a_law_bent)
  a_law_refused_right : Addr
  d_law_refused_right : FuncData
  F_law_refused_right : Fun K "_law_refused_right" "_law_refused_right" s_law_refused_right a_law_refused_right d_law_refused_right
  g_law_refused_right : mg "_law_refused_right" = some (.ref a_law_refused_right)
  a_law_sides_right : Addr
  d_law_sides_right : FuncData
  F_law_sides_right : Fun K "_law_sides_right" "_law_sides_right" s_law_sides_right a_law_sides_right d_law_sides_right
  g_law_sides_right : mg "_law_sides_right" = some (.ref a_law_sides_right)
  a_law : Addr
  d_law : FuncData
  F_law : Fun K "law" "law" s_law a_law d_law
  g_law : mg "law" = some (.ref a_law)
  c_KeptError : Addr
  E_KeptError : ExK K mg "KeptError" c_KeptError
  u_KeptError : PySem.W.subIn K (.ref c_KeptError) (.ref c_KeptError) = some true
  c_BadBuilding : Addr
  E_BadBuilding : ExK K mg "BadBuilding" c_BadBuilding
  u_BadBuilding : PySem.W.subIn K (.ref c_BadBuilding) (.ref c_KeptError) = some true
  c_BadDoor : Addr
  E_BadDoor : ExK K mg "BadDoor" c_BadDoor
  u_BadDoor : PySem.W.subIn K (.ref c_BadDoor) (.ref c_KeptError) = some true
  c_BadDoors : Addr
  E_BadDoors : ExK K mg "BadDoors" c_BadDoors
  u_BadDoors : PySem.W.subIn K (.ref c_BadDoors) (.ref c_KeptError) = some true
  c_BadSide : Addr
  E_BadSide : ExK K mg "BadSide" c_BadSide
  u_BadSide : PySem.W.subIn K (.ref c_BadSide) (.ref c_KeptError) = some true
  q_BB : PySem.W.kitOne K (.ref c_BadBuilding) (.ref c_BadBuilding) = some true
  q_DB : PySem.W.kitOne K (.ref c_BadDoor) (.ref c_BadBuilding) = some false
  q_DD : PySem.W.kitOne K (.ref c_BadDoor) (.ref c_BadDoor) = some true
  q_SS : PySem.W.kitOne K (.ref c_BadSide) (.ref c_BadSide) = some true
  z_type : mg "type" = none
  z_int : mg "int" = none
  z_str : mg "str" = none
  z_bool : mg "bool" = none
  z_tuple : mg "tuple" = none
  z_list : mg "list" = none
  z_len : mg "len" = none
  z_all : mg "all" = none
  z_set : mg "set" = none
  z_range : mg "range" = none
  z_isinstance : mg "isinstance" = none
  z_abs : mg "abs" = none
  z_sorted : mg "sorted" = none
  z_min : mg "min" = none
theorem bo_type : bootBuiltins "type" = some (.type "type") := by decide +kernel
theorem bo_int : bootBuiltins "int" = some (.type "int") := by decide +kernel
theorem bo_str : bootBuiltins "str" = some (.type "str") := by decide +kernel
theorem bo_bool : bootBuiltins "bool" = some (.type "bool") := by decide +kernel
theorem bo_tuple : bootBuiltins "tuple" = some (.type "tuple") := by decide +kernel
theorem bo_list : bootBuiltins "list" = some (.type "list") := by decide +kernel
theorem bo_set : bootBuiltins "set" = some (.type "set") := by decide +kernel
theorem bo_range : bootBuiltins "range" = some (.type "range") := by decide +kernel
theorem bo_len : bootBuiltins "len" = some (.builtin "len") := by decide +kernel
theorem bo_all : bootBuiltins "all" = some (.builtin "all") := by decide +kernel
theorem bo_isinstance : bootBuiltins "isinstance" = some (.builtin "isinstance") := by decide +kernel
theorem bo_abs : bootBuiltins "abs" = some (.builtin "abs") := by decide +kernel
theorem bo_sorted : bootBuiltins "sorted" = some (.builtin "sorted") := by decide +kernel
theorem bo_min : bootBuiltins "min" = some (.builtin "min") := by decide +kernel
variable {K : PySem.W.Frag} {mg : Str → Option Value}
theorem b_is_between (T : Txt K mg) : Binds K T.d_is_between ["value", "low", "high"] [] := T.F_is_between.binds (ps := ["value", "low", "high"]) fun _ _ _ _ _ _ us hl => match us, hl with | [_, _, _], _ => rfl
theorem b_is_row (T : Txt K mg) : Binds K T.d_is_row ["value"] [] := T.F_is_row.binds (ps := ["value"]) fun _ _ _ _ _ _ us hl => match us, hl with | [_], _ => rfl
theorem b_is_tuple (T : Txt K mg) : Binds K T.d_is_tuple ["value", "least", "most"] [] := T.F_is_tuple.binds (ps := ["value", "least", "most"]) fun _ _ _ _ _ _ us hl => match us, hl with | [_, _, _], _ => rfl
theorem b_is_among (T : Txt K mg) : Binds K T.d_is_among ["value", "names"] [] := T.F_is_among.binds (ps := ["value", "names"]) fun _ _ _ _ _ _ us hl => match us, hl with | [_, _], _ => rfl
theorem b_is_ascending (T : Txt K mg) : Binds K T.d_is_ascending ["row"] [] := T.F_is_ascending.binds (ps := ["row"]) fun _ _ _ _ _ _ us hl => match us, hl with | [_], _ => rfl
theorem b_are_unlike (T : Txt K mg) : Binds K T.d_are_unlike ["row"] [] := T.F_are_unlike.binds (ps := ["row"]) fun _ _ _ _ _ _ us hl => match us, hl with | [_], _ => rfl
theorem b_is_name (T : Txt K mg) : Binds K T.d_is_name ["value"] [] := T.F_is_name.binds (ps := ["value"]) fun _ _ _ _ _ _ us hl => match us, hl with | [_], _ => rfl
theorem b_are_names (T : Txt K mg) : Binds K T.d_are_names ["value", "least", "most"] [] := T.F_are_names.binds (ps := ["value", "least", "most"]) fun _ _ _ _ _ _ us hl => match us, hl with | [_, _, _], _ => rfl
theorem b_is_door (T : Txt K mg) : Binds K T.d_is_door ["value", "areas"] [] := T.F_is_door.binds (ps := ["value", "areas"]) fun _ _ _ _ _ _ us hl => match us, hl with | [_, _], _ => rfl
theorem b_are_doors (T : Txt K mg) : Binds K T.d_are_doors ["value", "areas"] [] := T.F_are_doors.binds (ps := ["value", "areas"]) fun _ _ _ _ _ _ us hl => match us, hl with | [_, _], _ => rfl
theorem b_is_right (T : Txt K mg) : Binds K T.d_is_right ["value", "names", "kinds"] [] := T.F_is_right.binds (ps := ["value", "names", "kinds"]) fun _ _ _ _ _ _ us hl => match us, hl with | [_, _, _], _ => rfl
theorem b_are_rights (T : Txt K mg) : Binds K T.d_are_rights ["value", "doors", "kinds"] [] := T.F_are_rights.binds (ps := ["value", "doors", "kinds"]) fun _ _ _ _ _ _ us hl => match us, hl with | [_, _, _], _ => rfl
theorem b_is_building (T : Txt K mg) : Binds K T.d_is_building ["value"] [] := T.F_is_building.binds (ps := ["value"]) fun _ _ _ _ _ _ us hl => match us, hl with | [_], _ => rfl
theorem b_areas_of (T : Txt K mg) : Binds K T.d_areas_of ["building"] [] := T.F_areas_of.binds (ps := ["building"]) fun _ _ _ _ _ _ us hl => match us, hl with | [_], _ => rfl
theorem b_doors_of (T : Txt K mg) : Binds K T.d_doors_of ["building"] [] := T.F_doors_of.binds (ps := ["building"]) fun _ _ _ _ _ _ us hl => match us, hl with | [_], _ => rfl
theorem b_door_names (T : Txt K mg) : Binds K T.d_door_names ["building"] [] := T.F_door_names.binds (ps := ["building"]) fun _ _ _ _ _ _ us hl => match us, hl with | [_], _ => rfl
theorem b_side_area (T : Txt K mg) : Binds K T.d_side_area ["building", "door", "side"] [] := T.F_side_area.binds (ps := ["building", "door", "side"]) fun _ _ _ _ _ _ us hl => match us, hl with | [_, _, _], _ => rfl
theorem b_check_building (T : Txt K mg) : Binds K T.d_check_building ["building"] [] := T.F_check_building.binds (ps := ["building"]) fun _ _ _ _ _ _ us hl => match us, hl with | [_], _ => rfl
theorem b_check_door (T : Txt K mg) : Binds K T.d_check_door ["building", "door"] [] := T.F_check_door.binds (ps := ["building", "door"]) fun _ _ _ _ _ _ us hl => match us, hl with | [_, _], _ => rfl
theorem b_check_side (T : Txt K mg) : Binds K T.d_check_side ["side"] [] := T.F_check_side.binds (ps := ["side"]) fun _ _ _ _ _ _ us hl => match us, hl with | [_], _ => rfl
theorem b_area_at (T : Txt K mg) : Binds K T.d_area_at ["building", "door", "side"] [] := T.F_area_at.binds (ps := ["building", "door", "side"]) fun _ _ _ _ _ _ us hl => match us, hl with | [_, _, _], _ => rfl
theorem b_check_free (T : Txt K mg) : Binds K T.d_check_free ["building", "free"] [] := T.F_check_free.binds (ps := ["building", "free"]) fun _ _ _ _ _ _ us hl => match us, hl with | [_, _], _ => rfl
theorem b_steps_from (T : Txt K mg) : Binds K T.d_steps_from ["building", "free", "area"] [] := T.F_steps_from.binds (ps := ["building", "free", "area"]) fun _ _ _ _ _ _ us hl => match us, hl with | [_, _, _], _ => rfl
theorem b_reached_from (T : Txt K mg) : Binds K T.d_reached_from ["building", "free", "area"] [] := T.F_reached_from.binds (ps := ["building", "free", "area"]) fun _ _ _ _ _ _ us hl => match us, hl with | [_, _, _], _ => rfl
theorem b_areas_joined (T : Txt K mg) : Binds K T.d_areas_joined ["building", "free"] [] := T.F_areas_joined.binds (ps := ["building", "free"]) fun _ _ _ _ _ _ us hl => match us, hl with | [_, _], _ => rfl
theorem b_joined (T : Txt K mg) : Binds K T.d_joined ["building", "free"] [] := T.F_joined.binds (ps := ["building", "free"]) fun _ _ _ _ _ _ us hl => match us, hl with | [_, _], _ => rfl
theorem b_law_begun (T : Txt K mg) : Binds K T.d_law_begun ["script"] [] := T.F_law_begun.binds (ps := ["script"]) fun _ _ _ _ _ _ us hl => match us, hl with | [_], _ => rfl
theorem b_law_mixed (T : Txt K mg) : Binds K T.d_law_mixed ["state"] [] := T.F_law_mixed.binds (ps := ["state"]) fun _ _ _ _ _ _ us hl => match us, hl with | [_], _ => rfl
theorem b_law_draw (T : Txt K mg) : Binds K T.d_law_draw ["state", "room"] [] := T.F_law_draw.binds (ps := ["state", "room"]) fun _ _ _ _ _ _ us hl => match us, hl with | [_, _], _ => rfl
theorem b_law_pick (T : Txt K mg) : Binds K T.d_law_pick ["state", "some"] [] := T.F_law_pick.binds (ps := ["state", "some"]) fun _ _ _ _ _ _ us hl => match us, hl with | [_, _], _ => rfl
theorem b_law_tells (T : Txt K mg) : Binds K T.d_law_tells ["value", "due"] [] := T.F_law_tells.binds (ps := ["value", "due"]) fun _ _ _ _ _ _ us hl => match us, hl with | [_, _], _ => rfl
theorem b_law_caught (T : Txt K mg) : Binds K T.d_law_caught ["action"] [] := T.F_law_caught.binds (ps := ["action"]) fun _ _ _ _ _ _ us hl => match us, hl with | [_], _ => rfl
theorem b_law_letters (T : Txt K mg) : Binds K T.d_law_letters ["state", "many"] [] := T.F_law_letters.binds (ps := ["state", "many"]) fun _ _ _ _ _ _ us hl => match us, hl with | [_, _], _ => rfl
theorem b_law_new (T : Txt K mg) : Binds K T.d_law_new ["state", "used"] [] := T.F_law_new.binds (ps := ["state", "used"]) fun _ _ _ _ _ _ us hl => match us, hl with | [_, _], _ => rfl
theorem b_law_names (T : Txt K mg) : Binds K T.d_law_names ["state", "many"] [] := T.F_law_names.binds (ps := ["state", "many"]) fun _ _ _ _ _ _ us hl => match us, hl with | [_, _], _ => rfl
theorem b_law_house (T : Txt K mg) : Binds K T.d_law_house ["state"] [] := T.F_law_house.binds (ps := ["state"]) fun _ _ _ _ _ _ us hl => match us, hl with | [_], _ => rfl
theorem b_law_is_named (T : Txt K mg) : Binds K T.d_law_is_named ["value"] [] := T.F_law_is_named.binds (ps := ["value"]) fun _ _ _ _ _ _ us hl => match us, hl with | [_], _ => rfl
theorem b_law_are_named (T : Txt K mg) : Binds K T.d_law_are_named ["value", "low", "high"] [] := T.F_law_are_named.binds (ps := ["value", "low", "high"]) fun _ _ _ _ _ _ us hl => match us, hl with | [_, _, _], _ => rfl
theorem b_law_is_doored (T : Txt K mg) : Binds K T.d_law_is_doored ["areas", "value"] [] := T.F_law_is_doored.binds (ps := ["areas", "value"]) fun _ _ _ _ _ _ us hl => match us, hl with | [_, _], _ => rfl
theorem b_law_is_housed (T : Txt K mg) : Binds K T.d_law_is_housed ["value"] [] := T.F_law_is_housed.binds (ps := ["value"]) fun _ _ _ _ _ _ us hl => match us, hl with | [_], _ => rfl
theorem b_law_bent (T : Txt K mg) : Binds K T.d_law_bent ["state", "value"] [] := T.F_law_bent.binds (ps := ["state", "value"]) fun _ _ _ _ _ _ us hl => match us, hl with | [_, _], _ => rfl
theorem b_law_refused_right (T : Txt K mg) : Binds K T.d_law_refused_right ["house", "bad"] [] := T.F_law_refused_right.binds (ps := ["house", "bad"]) fun _ _ _ _ _ _ us hl => match us, hl with | [_, _], _ => rfl
theorem b_law_sides_right (T : Txt K mg) : Binds K T.d_law_sides_right ["state", "house"] [] := T.F_law_sides_right.binds (ps := ["state", "house"]) fun _ _ _ _ _ _ us hl => match us, hl with | [_, _], _ => rfl
theorem b_law (T : Txt K mg) : Binds K T.d_law ["script"] [] := T.F_law.binds (ps := ["script"]) fun _ _ _ _ _ _ us hl => match us, hl with | [_], _ => rfl
end Kx

set_option Elab.async false
set_option linter.all false
set_option maxRecDepth 100000
set_option maxHeartbeats 1000000
namespace Kx
open PySem PySem.Spec PyProof.Rows L2 Evl
/-! ## promises of defs that only read -/
abbrev OkF := List V → Hp → V → Prop
def spX (ok : OkF) : Sp := fun vs H Q _ => ∃ z, ok vs H z ∧ ∀ H', Ex H H' → Q z H'
def Stb (ok : OkF) : Prop := ∀ (vs : List V) (H H' : Hp) (z : V), Ex H H' → ok vs H z → ok vs H' z
theorem spv {ok : OkF} (st : Stb ok) {vs : List V} {H : Hp} {z : V} (h : ok vs H z) : SpV (spX ok) vs H z := fun _ e Q q E => ⟨z, st _ _ _ _ e h, fun H2 e2 => q H2 e2⟩
/-- type(e) is T -/
abbrev tTyIs (K : PySem.W.Frag) (te : TE) (T : String) : TE := tOp (fun x y H Q => ∃ a b, x = V.ty a ∧ y = V.ty b ∧ Q (.bl (decide (a = b))) H) (tCB (rTyp K) (tCons te tNil)) (tC (.ty T))
abbrev tTyNo (K : PySem.W.Frag) (te : TE) (T : String) : TE := tOp rNT (tCB (rTyp K) (tCons te tNil)) (tC (.ty T))
section
variable {X : Cx} {e : Expr} {te : TE} {n : Str} {N : String} {p1 p2 p3 pos : Pos}
theorem pe_tyIs (hz : X.mg "type" = none) (hn : X.mg n = none) (hb : bootBuiltins n = some (.type N)) (he : PE X e te) (g1 : Gl X "type" := by rfl) (g2 : Gl X n := by rfl)
    (na : starEach [e] X.env = (false, eval e X.env) :: starEach [] X.env := by rfl) (nm : n ≠ "__name__" := by decide) (nd : (n == ("__debug__" : Str)) = false := by decide) :
    PE X (.Compare (.Call (.Name "type" p1) [e] [] p2) [.Is] [.Name n p3] pos) (tTyIs X.K te N) :=
  pe_cmpR op_isTyB (pe_callTy call_type1 g1 hz bo_type (pa_cons he pa_nil na) (he := na)) (pe_bltn g2 hn hb rfl nm nd) (nomark _)
theorem pe_tyNo (hz : X.mg "type" = none) (hn : X.mg n = none) (hb : bootBuiltins n = some (.type N)) (he : PE X e te) (g1 : Gl X "type" := by rfl) (g2 : Gl X n := by rfl)
    (na : starEach [e] X.env = (false, eval e X.env) :: starEach [] X.env := by rfl) (nm : n ≠ "__name__" := by decide) (nd : (n == ("__debug__" : Str)) = false := by decide) :
    PE X (.Compare (.Call (.Name "type" p1) [e] [] p2) [.IsNot] [.Name n p3] pos) (tTyNo X.K te N) :=
  pe_cmpR op_notTyB (pe_callTy call_type1 g1 hz bo_type (pa_cons he pa_nil na) (he := na)) (pe_bltn g2 hn hb rfl nm nd) (nomark _)
theorem pt_tyIs (hz : X.mg "type" = none) (hn : X.mg n = none) (hb : bootBuiltins n = some (.type N)) (he : PE X e te) (g1 : Gl X "type" := by rfl) (g2 : Gl X n := by rfl)
    (na : starEach [e] X.env = (false, eval e X.env) :: starEach [] X.env := by rfl) (nm : n ≠ "__name__" := by decide) (nd : (n == ("__debug__" : Str)) = false := by decide) :
    PT X (.Compare (.Call (.Name "type" p1) [e] [] p2) [.Is] [.Name n p3] pos) (tTest (tTyIs X.K te N)) :=
  pt_cmpR op_isTyB (pe_callTy call_type1 g1 hz bo_type (pa_cons he pa_nil na) (he := na)) (pe_bltn g2 hn hb rfl nm nd) (nomark _)
theorem pt_tyNo (hz : X.mg "type" = none) (hn : X.mg n = none) (hb : bootBuiltins n = some (.type N)) (he : PE X e te) (g1 : Gl X "type" := by rfl) (g2 : Gl X n := by rfl)
    (na : starEach [e] X.env = (false, eval e X.env) :: starEach [] X.env := by rfl) (nm : n ≠ "__name__" := by decide) (nd : (n == ("__debug__" : Str)) = false := by decide) :
    PT X (.Compare (.Call (.Name "type" p1) [e] [] p2) [.IsNot] [.Name n p3] pos) (tTest (tTyNo X.K te N)) :=
  pt_cmpR op_notTyB (pe_callTy call_type1 g1 hz bo_type (pa_cons he pa_nil na) (he := na)) (pe_bltn g2 hn hb rfl nm nd) (nomark _)
end
section
variable {K : PySem.W.Frag} {σ : L2.St} {H : Hp} {te : TE} {v : V} {d : D} {T : String}
theorem ev_tyIs (h : Ev te σ H v) (q : Rep H v d) : Ev (tTyIs K te T) σ H (.bl (decide (d.ty = T))) := ev_op (ev_type h q) ev_c rv_isTy
theorem ev_tyNo (h : Ev te σ H v) (q : Rep H v d) : Ev (tTyNo K te T) σ H (.bl (!decide (d.ty = T))) := ev_op (ev_type h q) ev_c rv_notTy
end
theorem ty_int : ∀ {d : D}, d.ty = "int" → ∃ i, d = .int i
  | .int i, _ => ⟨i, rfl⟩
  | .non, h | .bl _, h | .str _, h | .tup _, h | .lst _, h | .dic, h => by simp [D.ty] at h
theorem ty_tup : ∀ {d : D}, d.ty = "tuple" → ∃ ds, d = .tup ds
  | .tup ds, _ => ⟨ds, rfl⟩
  | .non, h | .bl _, h | .str _, h | .int _, h | .lst _, h | .dic, h => by simp [D.ty] at h
theorem ty_str : ∀ {d : D}, d.ty = "str" → ∃ s, d = .str s
  | .str s, _ => ⟨s, rfl⟩
  | .non, h | .bl _, h | .tup _, h | .int _, h | .lst _, h | .dic, h => by simp [D.ty] at h
theorem Rep.tupD {H : Hp} {v : V} {ds : List D} (r : Rep H v (.tup ds)) : ∃ a vs, v = .ref a ∧ TupS H a vs ∧ Reps H vs ds := by
  cases r with
  | tup h s => exact ⟨_, _, rfl, h, s⟩
theorem Rep.lstD {H : Hp} {v : V} {ds : List D} (r : Rep H v (.lst ds)) : ∃ a vs, v = .ref a ∧ H a = some (.lst vs) ∧ Reps H vs ds := by
  cases r with
  | lst h s => exact ⟨_, _, rfl, h, s⟩
theorem Rep.strD {H : Hp} {v : V} {s : Str} (r : Rep H v (.str s)) : v = .str s := by
  cases r
  rfl
theorem Rep.intD {H : Hp} {v : V} {i : Int} (r : Rep H v (.int i)) : v = .int i := by
  cases r
  rfl
/-! ## mirrors -/
def isBetw (d : D) (lo hi : Int) : Bool := match d with
  | .int i => decide (lo ≤ i) && decide (i ≤ hi)
  | _ => false
def isTup (d : D) (lo hi : Int) : Bool := match d with
  | .tup ds => decide (lo ≤ (ds.length : Int)) && decide ((ds.length : Int) ≤ hi)
  | _ => false
def isAmong (d : D) (ns : List Str) : Bool := match d with
  | .str s => ns.contains s
  | _ => false
def okBetw : OkF := fun vs H z => ∃ v d lo hi, vs = [v, .int lo, .int hi] ∧ Rep H v d ∧ z = .bl (isBetw d lo hi)
def okTup : OkF := fun vs H z => ∃ v d lo hi, vs = [v, .int lo, .int hi] ∧ Rep H v d ∧ z = .bl (isTup d lo hi)
theorem stb_betw : Stb okBetw := fun _ _ _ _ e ⟨v, d, lo, hi, h1, h2, h3⟩ => ⟨v, d, lo, hi, h1, h2.up e, h3⟩
theorem stb_tup : Stb okTup := fun _ _ _ _ e ⟨v, d, lo, hi, h1, h2, h3⟩ => ⟨v, d, lo, hi, h1, h2.up e, h3⟩
section
variable {P : Program} {w : World} {K : PySem.W.Frag} {mg : Str → Option Value} {base : Heap} (T : Txt K mg)
theorem ok_is_between : FnOk P w K mg base CX0 1 T.a_is_between T.d_is_between ["value", "low", "high"] (spX okBetw) := by
  refine T.F_is_between.ok sc_is_between (fun vs H Q E h => ?_) (fun cdv A outer s H vs Q E hr h => ?_)
  · obtain ⟨z, ⟨v, d, lo, hi, rfl, _⟩, _⟩ := h
    rfl
  · obtain ⟨z, ⟨v, d, lo, hi, rfl, hv, rfl⟩, q⟩ := h
    refine ⟨_, pss_one (ps_ret (pe_and (pe_tyIs T.z_type T.z_int bo_int (pv 0)) (pe_one (pe_chain op_le op_le (pv 1) (pv 0) (pv 2))))), ?_⟩
    refine s_ret (v := .bl (isBetw d lo hi)) ?_ q
    refine ev_is (ev_andV (b := isBetw d lo hi) (ev_tyIs (ev_var rfl) hv) fun ht => ?_) ?_
    · obtain ⟨i, rfl⟩ := ty_int (of_decide_eq_true ht)
      cases hv
      exact ev_chain (ev_var rfl) (ev_var rfl) rv_I0 (fun _ => ev_var rfl) (fun _ => rv_I0)
    · cases d <;> first | rfl | (simp [D.ty, isBetw])
theorem ok_is_tuple : FnOk P w K mg base CX0 1 T.a_is_tuple T.d_is_tuple ["value", "least", "most"] (spX okTup) := by
  refine T.F_is_tuple.ok sc_is_tuple (fun vs H Q E h => ?_) (fun cdv A outer s H vs Q E hr h => ?_)
  · obtain ⟨z, ⟨v, d, lo, hi, rfl, _⟩, _⟩ := h
    rfl
  · obtain ⟨z, ⟨v, d, lo, hi, rfl, hv, rfl⟩, q⟩ := h
    refine ⟨_, pss_one (ps_ret (pe_and (pe_tyIs T.z_type T.z_tuple bo_tuple (pv 0)) (pe_one (pe_chain op_le op_le (pv 1) (pe_callB call_len_seq (by rfl) T.z_len bo_len (pa_cons (pv 0) pa_nil)) (pv 2))))), ?_⟩
    refine s_ret (v := .bl (isTup d lo hi)) ?_ q
    refine ev_is (ev_andV (b := isTup d lo hi) (ev_tyIs (ev_var rfl) hv) fun ht => ?_) ?_
    · obtain ⟨ds, rfl⟩ := ty_tup (of_decide_eq_true ht)
      obtain ⟨a, vs, rfl, ha, hs⟩ := hv.tupD
      refine ev_chain (ev_var rfl) (ev_cb (ea_cons (ev_var rfl) ea_nil) fun H1 e Q k => ⟨a, vs, rfl, .inr (ha.up e).sq, by rw [hs.length]; exact k H1 (Ex.refl _)⟩) rv_I0 (fun _ => ev_var rfl) (fun _ => rv_I0)
    · cases d <;> first | rfl | (simp [D.ty, isTup])
end
end Kx

set_option Elab.async false
set_option linter.all false
set_option maxRecDepth 100000
set_option maxHeartbeats 3200000
namespace Kx
open PySem PySem.Spec PyProof.Rows L2
/-! ## set(v), v a list or a tuple: one rule, whatever the loop promises -/
/-- the object of a set that holds nothing yet -/
def set0 (w : World) : Obj := { cls := .type "set", dict := none, data := .set #[] 0 (.fresh 0 0 (!w.params.followText "set-order")) }
section
variable {P : Program} {w : World} {A : Around} {E : Value → Shared → Prop} {s : Shared}
/-- s, and behind its objects an empty set -/
abbrev born (w : World) (s : Shared) : Shared := { s with heap := s.heap.push (set0 w) }
/-- the wish for a call of set's own beginning: None, and then Q of the set -/
abbrev Filled (S : Addr) (Q E : Value → Shared → Prop) : Result → Shared → Prop := wants (fun r u => r = .none ∧ Q (.ref S) u) E
theorem set_by {v : Value} {Q : Value → Shared → Prop}
    (fill : codeAny (model P w) A.in1 (.call (.builtin "set.__init__") ⟨[.ref s.heap.objs.size, v], []⟩) (Filled s.heap.objs.size Q E) (born w s)) :
    wpAny (model P w) A (call (.type "set") [v]) Q E s := by
  have mk : codeAny (model P w) A.in1 (.call (.builtin "set.__new__") ⟨[.type "set", v], []⟩) (wants (fun y u => y = .ref s.heap.objs.size ∧ u = born w s) E) s :=
    code_set_led1 v ⟨rfl, rfl⟩
  have isS : (born w s).TypeIs (.ref s.heap.objs.size) "set" := ⟨set0 w, Heap.get?_push_size _ rfl, rfl⟩
  have T := F.called_set
  have t1 := T.notType
  have t2 := T.canCreate
  have t3 := T.made
  have t4 := T.sub
  have t5 := F.typeCall_set_1 v
  have t6 := T.init.lookup
  have t7 := T.init.bind (.ref s.heap.objs.size)
  have ⟨top, rest, t8⟩ := T.mro
  apply wpAny_call
  apply codeAny_of_tree
  show wpAny _ A.in1 (callAny (.type "set") ⟨[v], []⟩) _ _ s
  apply wpAny_pure
  refine And.intro (Code.quiet_builtin _ (by decide +kernel)) (codeAny_builtin F.entry_type_call ?_)
  rw [show A.under (.builtin "type.__call__" ⟨[.type "set", v], []⟩) = A.in1 from Around.under_plain (weight_type_call_type "set" [v] []) rfl]
  repeat (any_goals (first | assumption | wp_step))
  refine codeAny_mono mk fun r u hr => ?_
  match r, hr with
  | .error e, hr => exact hr
  | .ok (.ret y), hr =>
    obtain ⟨e1, e2⟩ := hr
    subst e1 e2
    repeat (any_goals (first | assumption | wp_step))
    refine codeAny_mono fill fun r2 u2 h2 => ?_
    match r2, h2 with
    | .error e, h2 => exact h2
    | .ok (.ret z), h2 =>
      obtain ⟨e3, q⟩ := h2
      subst e3
      repeat (any_goals (first | assumption | wp_step))
  | .ok (.next), hr => exact hr.elim
/-- what an iterator over the items of a list or of a tuple T at l does: its steps -/
structure Steps (P : Program) (w : World) (A : Around) (s : Shared) (T : String) (l : Addr) (items : Array Value) : Prop where
  typ : ∀ h : Heap, (∀ b o, s.heap.get? b = some o → h.get? b = some o) → ∃ o, h.get? l = some o ∧ o.cls = .type T
  noS : isSubtype (.type T) (.type "set") = pure false
  noF : isSubtype (.type T) (.type "frozenset") = pure false
  noD : (Value.type T == Value.type "dict") = false
  ite : ∀ (B : Around) (u : Shared) (Q : Value → Shared → Prop) (E : Value → Shared → Prop), (∀ b o, s.heap.get? b = some o → u.heap.get? b = some o) → s.heap.objs.size < u.heap.objs.size →
    (∀ (o : Obj) (St : Nat → Shared → Prop), (∀ C : Around, C.handled = A.handled → WalksS P w C u.heap.objs.size [u.heap.objs.size, l] [u.heap.objs.size] (fun a b => b = a) items.size (fun i v => items[i]? = some v) St) →
      St 0 { u with heap := u.heap.push o } → Q (.ref u.heap.objs.size) { u with heap := u.heap.push o }) → wpAny (model P w) B (pyIter (.ref l)) Q E u
theorem steps_list {l : Addr} {items : Array Value} (hh : A.handled = none) (hl : s.heap.IsList l items) : Steps P w A s "list" l items where
  typ := fun h k => let ⟨o, ho, hc, _⟩ := hl; ⟨o, k _ _ ho, hc⟩
  noS := F.sub_list_set
  noF := F.sub_list_frozenset
  noD := by decide
  ite := fun B u Q E k hz q => wpAny_pyIter_list (hl.at fun o e => k _ _ e) (by
    have hlt : l < u.heap.objs.size := let ⟨o, ho, _⟩ := hl; Nat.lt_trans (Heap.lt_size ho) hz
    exact q _ _ (fun C hC => (Walks.list (hC.trans hh) _ l (Nat.ne_of_lt hlt) items).toS) ⟨⟨_, Heap.get?_push_size _ rfl, rfl, rfl⟩, (hl.at fun o e => k _ _ e).push _⟩)
theorem steps_tuple {l : Addr} {items : Array Value} (hh : A.handled = none) (hl : s.heap.IsTuple l items) : Steps P w A s "tuple" l items where
  typ := fun h k => let ⟨o, ho, hc, _⟩ := hl; ⟨o, k _ _ ho, hc⟩
  noS := F.sub_tuple_set
  noF := F.sub_tuple_frozenset
  noD := by decide
  ite := fun B u Q E k hz q => wpAny_pyIter_tuple (hl.at fun o e => k _ _ e) (by
    have hlt : l < u.heap.objs.size := let ⟨o, ho, _⟩ := hl; Nat.lt_trans (Heap.lt_size ho) hz
    exact q _ _ (fun C hC => (Walks.tuple (hC.trans hh) _ l (Nat.ne_of_lt hlt) items).toS) ⟨⟨_, Heap.get?_push_size _ rfl, rfl, rfl⟩, (hl.at fun o e => k _ _ e).push _⟩)
/-- set(l) of a list or a tuple at l, by any promise of the loop that fills it -/
theorem set_seq {T : String} {l : Addr} {items : Array Value} {Q : Value → Shared → Prop} (Pp : Heap → Prop) (hh : A.handled = none) (hl : l < s.heap.objs.size) (I : Steps P w A s T l items)
    (loop : ∀ (A1 : Around) (It : Addr) (G : Array GenState → Array GenState → Prop) (St : Nat → Shared → Prop) (u0 : Shared) (R : Result → Shared → Prop),
      WalksS P w A1.in1 It [It, l] [It] G items.size (fun i v => items[i]? = some v) St → s.heap.objs.size ∉ [It, l] → St 0 u0 → u0.heap.get? s.heap.objs.size = some (set0 w) →
      (∀ u1, Moved [s.heap.objs.size, It] G u0 u1 → Pp u1.heap → R (.ok (.ret .none)) u1) → codeAny (model P w) A1 (.builtin "set.update.loop" ⟨[.ref s.heap.objs.size, .ref It], []⟩) R u0)
    (h : ∀ (h' : Heap) (tk : Nat), Pp h' → (∀ b o, s.heap.get? b = some o → h'.get? b = some o) → Q (.ref s.heap.objs.size) { s with heap := h', toks := tk }) :
    wpAny (model P w) A (call (.type "set") [.ref l]) Q E s := by
  have old : ∀ b o, s.heap.get? b = some o → (born w s).heap.get? b = some o := fun b o e => Heap.get?_push_of_some _ e
  have isS : (born w s).heap.get? s.heap.objs.size = some (set0 w) := Heap.get?_push_size _ rfl
  have big : (born w s).heap.objs.size = s.heap.objs.size + 1 := Heap.size_push ..
  have ⟨⟨cl, dd, da, sl⟩, at_l, cl_l⟩ := I.typ _ old
  dsimp only at cl_l
  subst cl_l
  have n1 := I.noS
  have n2 := I.noF
  have n3 := I.noD
  refine set_by (codeAny_call_builtin F.called_set.init.plain F.entry_set_init (check_set_init_1 ⟨_, isS, rfl⟩ ?_))
  obtain ⟨hp, gn, dr, tk, os⟩ := s
  unfold Builtin.«set.__init__» Builtin.Frozenset.updateFrom noKeywords
  generalize ep : pyIter = pit
  wp_walk
  subst ep
  refine I.ite _ (born w ⟨hp, gn, dr, tk, os⟩) _ _ old (by rw [big]; exact Nat.lt_succ_self _) fun o St W st0 => wpAny_bind (wpAny_runValue ?_)
  have nS : hp.objs.size ∉ [(born w ⟨hp, gn, dr, tk, os⟩).heap.objs.size, l] := fun z => by
    rw [big] at z
    rcases List.mem_cons.mp z with z | z
    · exact absurd z (Nat.ne_of_lt (Nat.lt_succ_self _))
    · exact absurd (List.mem_singleton.mp z) (Nat.ne_of_gt hl)
  refine loop _ _ _ St _ _ (W _ (by simp)) nS st0 (Heap.get?_push_of_some _ isS) fun ⟨h1, g1, d1, t1, o1⟩ mv pp => ?_
  obtain rfl : g1 = gn := mv.gens
  obtain rfl : d1 = dr := mv.drawn
  obtain rfl : o1 = os := mv.os
  refine wpAny_pure (wpAny_pure ⟨rfl, h h1 t1 pp fun b ob e => mv.heap b ob (fun z => ?_) (Heap.get?_push_of_some _ (old b ob e))⟩)
  have lt : b < hp.objs.size := Heap.lt_size e
  rcases List.mem_cons.mp z with z | z
  · exact absurd z (Nat.ne_of_lt lt)
  · rw [List.mem_singleton.mp z, big] at lt
    exact absurd lt (Nat.not_lt.mpr (Nat.le_succ _))
/-- set(l), l a list of these items -/
theorem call_set_list {l : Addr} {items : Array Value} {Q : Value → Shared → Prop} (Pp : Heap → Prop) (hh : A.handled = none) (hl : s.heap.IsList l items)
    (loop : ∀ (A1 : Around) (It : Addr) (G : Array GenState → Array GenState → Prop) (St : Nat → Shared → Prop) (u0 : Shared) (R : Result → Shared → Prop),
      WalksS P w A1.in1 It [It, l] [It] G items.size (fun i v => items[i]? = some v) St → s.heap.objs.size ∉ [It, l] → St 0 u0 → u0.heap.get? s.heap.objs.size = some (set0 w) →
      (∀ u1, Moved [s.heap.objs.size, It] G u0 u1 → Pp u1.heap → R (.ok (.ret .none)) u1) → codeAny (model P w) A1 (.builtin "set.update.loop" ⟨[.ref s.heap.objs.size, .ref It], []⟩) R u0)
    (h : ∀ (h' : Heap) (tk : Nat), Pp h' → (∀ b o, s.heap.get? b = some o → h'.get? b = some o) → Q (.ref s.heap.objs.size) { s with heap := h', toks := tk }) :
    wpAny (model P w) A (call (.type "set") [.ref l]) Q E s := set_seq Pp hh (let ⟨_, ho, _⟩ := hl; Heap.lt_size ho) (steps_list hh hl) loop h
/-- set(l), l a tuple of these items -/
theorem call_set_tuple {l : Addr} {items : Array Value} {Q : Value → Shared → Prop} (Pp : Heap → Prop) (hh : A.handled = none) (hl : s.heap.IsTuple l items)
    (loop : ∀ (A1 : Around) (It : Addr) (G : Array GenState → Array GenState → Prop) (St : Nat → Shared → Prop) (u0 : Shared) (R : Result → Shared → Prop),
      WalksS P w A1.in1 It [It, l] [It] G items.size (fun i v => items[i]? = some v) St → s.heap.objs.size ∉ [It, l] → St 0 u0 → u0.heap.get? s.heap.objs.size = some (set0 w) →
      (∀ u1, Moved [s.heap.objs.size, It] G u0 u1 → Pp u1.heap → R (.ok (.ret .none)) u1) → codeAny (model P w) A1 (.builtin "set.update.loop" ⟨[.ref s.heap.objs.size, .ref It], []⟩) R u0)
    (h : ∀ (h' : Heap) (tk : Nat), Pp h' → (∀ b o, s.heap.get? b = some o → h'.get? b = some o) → Q (.ref s.heap.objs.size) { s with heap := h', toks := tk }) :
    wpAny (model P w) A (call (.type "set") [.ref l]) Q E s := set_seq Pp hh (let ⟨_, ho, _⟩ := hl; Heap.lt_size ho) (steps_tuple hh hl) loop h
/-! ### the loop: a turn, and all turns -/
variable {R : Result → Shared → Prop} {S It : Addr} {u : Shared}
/-- one turn: the next item is put in, then the loop again; with no item left it is over -/
theorem loop_enter (h : wpAny (model P w) A.in1 (pyNext (.ref It)) (fun o t => match o with
      | none => R (.ok (.ret .none)) t
      | some x => wpAny (model P w) A.in1 (setAdd S x) (fun _ t2 => codeAny (model P w) A (.builtin "set.update.loop" ⟨[.ref S, .ref It], []⟩) R t2) (fun e t2 => R (.error e) t2) t) (fun e t => R (.error e) t) u) :
    codeAny (model P w) A (.builtin "set.update.loop" ⟨[.ref S, .ref It], []⟩) R u := by
  apply codeAny_builtin F.entry_set_update_loop
  rw [show A.under (.builtin "set.update.loop" ⟨[.ref S, .ref It], []⟩) = A.in1 from Around.under_plainId F.plain_set_update_loop _]
  apply wpAny_bind
  apply wpAny_mono h (fun o t ht => ?_) fun _ _ z => z
  match o, ht with
  | none, ht => exact wpAny_pure ht
  | some x, ht => exact wpAny_bind (wpAny_holding (wpAny_mono ht (fun _ t2 h2 => wpAny_pure (And.intro (plainId_quiet F.plain_set_update_loop _) h2)) fun _ _ z => z))
/-- all turns: J i, what is known of the set when i items are in -/
theorem loop_by {fp wr : List Addr} {G : Array GenState → Array GenState → Prop} {n : Nat} {Pv : Nat → Value → Prop} {St : Nat → Shared → Prop} (W : WalksS P w A.in1 It fp wr G n Pv St) (off : S ∉ fp) (J : Nat → Heap → Prop)
    (see : ∀ i h h', J i h → (∀ o, h.get? S = some o → h'.get? S = some o) → J i h')
    (put : ∀ (i : Nat) (v : Value) (t : Shared) (Q : Bool → Shared → Prop) (E : Value → Shared → Prop), i < n → Pv i v → J i t.heap → (∀ h' tk b, t.toks ≤ tk → Heap.SameBut S t.heap h' → J (i + 1) h' → Q b { t with heap := h', toks := tk }) → wpAny (model P w) A.in1 (setAdd S v) Q E t) :
    ∀ (left i : Nat) (u : Shared), left + i = n → St i u → J i u.heap → (∀ t, Moved (S :: wr) G u t → J n t.heap → R (.ok (.ret .none)) t) → codeAny (model P w) A (.builtin "set.update.loop" ⟨[.ref S, .ref It], []⟩) R u := by
  have wide : ∀ b ∈ wr, b ∈ S :: wr := fun b hb => List.mem_cons_of_mem S hb
  have apart : S ∉ wr := fun z => off (W.sub S z)
  intro left
  induction left with
  | zero =>
    intro i u sum st j fin
    have e : i = n := (Nat.zero_add i).symm.trans sum
    subst e
    exact loop_enter (W.done u _ _ st fun t mv => fin t (mv.mono wide) (see i _ _ j fun o z => mv.heap S o apart z))
  | succ left more =>
    intro i u sum st j fin
    have lt : i < n := by omega
    refine loop_enter (W.item i u _ _ lt st fun v t pv st1 mv => ?_)
    refine put i v t _ _ lt pv (see i _ _ j fun o z => mv.heap S o apart z) fun h' tk b le same j1 => ?_
    have else_ : ∀ c o, c ∉ S :: wr → t.heap.get? c = some o → h'.get? c = some o := fun c o out z => (same.2 c fun q => out (q ▸ List.mem_cons_self)).trans z
    refine more (i + 1) _ (by omega) (W.frame (i + 1) t h' tk st1 le fun c cin o z => (same.2 c fun q => off (q ▸ cin)).trans z) j1 fun t2 mv2 j2 => ?_
    exact fin t2 (Moved.trans W.gtrans ((mv.mono wide).then_heap le fun c o out z => else_ c o out z) mv2) j2
end
end Kx

set_option Elab.async false
set_option linter.all false
set_option maxRecDepth 100000
set_option maxHeartbeats 1000000
namespace Kx
open PySem PySem.Spec PyProof.Rows L2 Evl
/-! ## len(set(xs)), xs texts -/
def fstep (σ : List Str) (x : Str) : List Str := if σ.any (fun y => decide (y = x)) then σ else σ ++ [x]
def fm (xs : List Str) : List Str := xs.foldl fstep []
def tLenSetS (K : PySem.W.Frag) (ta : TE) : TE := fun σ H Q => ta σ H fun x H1 => ∃ (l : Addr) (xs : List Str), x = .ref l ∧ (SqL K H1 l (sv xs) ∨ SqT K H1 l (sv xs)) ∧ xs.length ≤ 1000 ∧ Q (.int ((fm xs).length : Nat)) H1
theorem fm_mem (xs : List Str) : ∀ (σ : List Str), (∀ y, y ∈ xs.foldl fstep σ ↔ y ∈ σ ∨ y ∈ xs) := by
  induction xs with
  | nil => intro σ y; simp
  | cons x r ih =>
    intro σ y
    rw [List.foldl_cons, ih]
    unfold fstep
    split
    · rename_i h
      obtain ⟨z, hz, e⟩ := List.any_eq_true.mp h
      have e := of_decide_eq_true e
      subst e
      constructor
      · rintro (h | h)
        · exact .inl h
        · exact .inr (List.mem_cons_of_mem _ h)
      · rintro (h | h)
        · exact .inl h
        · rcases List.mem_cons.mp h with h | h
          · subst h; exact .inl hz
          · exact .inr h
    · simp [or_assoc]
theorem fm_len (xs : List Str) : ∀ (σ : List Str), (xs.foldl fstep σ).length ≤ σ.length + xs.length ∧ ((xs.foldl fstep σ).length = σ.length + xs.length ↔ (xs.Nodup ∧ ∀ x ∈ xs, x ∉ σ)) := by
  induction xs with
  | nil => intro σ; simp
  | cons x r ih =>
    intro σ
    rw [List.foldl_cons]
    obtain ⟨h1, h2⟩ := ih (fstep σ x)
    by_cases hx : x ∈ σ
    · have e : fstep σ x = σ := if_pos (List.any_eq_true.mpr ⟨x, hx, decide_eq_true rfl⟩)
      rw [e] at h1 h2 ⊢
      refine ⟨by rw [List.length_cons]; omega, fun h => ?_, fun h => absurd hx (h.2 x List.mem_cons_self)⟩
      rw [List.length_cons] at h
      omega
    · have e : fstep σ x = σ ++ [x] := if_neg fun h => by
        obtain ⟨z, hz, e⟩ := List.any_eq_true.mp h
        have e := of_decide_eq_true e
        subst e
        exact hx hz
      rw [e] at h1 h2 ⊢
      rw [List.length_append, List.length_singleton] at h1 h2
      rw [List.length_cons]
      refine ⟨by omega, ?_⟩
      rw [show σ.length + (r.length + 1) = σ.length + 1 + r.length by omega, h2, List.nodup_cons]
      constructor
      · rintro ⟨a, b⟩
        refine ⟨⟨fun hm => b x hm (by simp), a⟩, fun y hy => ?_⟩
        rcases List.mem_cons.mp hy with rfl | hy
        · exact hx
        · exact fun hs => b y hy (by simp [hs])
      · rintro ⟨⟨a, b⟩, c⟩
        refine ⟨b, fun y hy hs => ?_⟩
        rcases List.mem_append.mp hs with hs | hs
        · exact c y (List.mem_cons_of_mem _ hy) hs
        · rw [List.mem_singleton] at hs
          subst hs
          exact a hy
theorem fm_nodup (xs : List Str) : (fm xs).length = xs.length ↔ xs.Nodup := by
  have h := (fm_len xs []).2
  rw [List.length_nil, Nat.zero_add] at h
  exact h.trans ⟨fun a => a.1, fun a => ⟨a, fun _ _ => by simp⟩⟩
theorem fm_le (xs : List Str) : (fm xs).length ≤ xs.length := by
  have h := (fm_len xs []).1
  rw [List.length_nil, Nat.zero_add] at h
  exact h
theorem fm_next {xs : List Str} {i : Nat} (h : i < xs.length) : fm (xs.take (i + 1)) = fstep (fm (xs.take i)) (xs.getD i Str.empty) := by
  unfold fm
  rw [List.take_add_one, List.getElem?_eq_getElem h, List.foldl_append, List.getD, List.getElem?_eq_getElem h]
  rfl
theorem any_eqv (ys : List Str) (k : Str) : ys.any (fun y => decide (y = k)) = ys.any (· == k) := by
  congr 1
theorem strsOf : ∀ {xs : List Str} {us : List Value}, Vals (sv xs) us → StrsAre us xs
  | [], _, .nil => .nil
  | x :: r, _, .cons h t => by
    obtain ⟨k, rfl⟩ := h
    exact .cons x k (strsOf t)
section
variable {P : Program} {w : World} {A : Around} {E : Value → Shared → Prop}
/-- the set at S holds just the first i of xs, each once -/
def Held (P : Program) (w : World) (S : Addr) (xs : List Str) (i : Nat) (h : Heap) : Prop := h.SetOf (PySem.strKind P w) S (fun k => (fm (xs.take i)).any (· == k)) (fm (xs.take i)).length
theorem Held.at {S : Addr} {xs : List Str} {i : Nat} {h h' : Heap} (x : Held P w S xs i h) (k : ∀ o, h.get? S = some o → h'.get? S = some o) : Held P w S xs i h' := match x with
  | ⟨o, es, ep, tb, ho, more⟩ => ⟨o, es, ep, tb, k o ho, more⟩
/-- the next one is put in -/
theorem Held.put {S : Addr} {xs : List Str} {i : Nat} {v : Value} {u : Shared} {Q : Bool → Shared → Prop} (few : xs.length + 1 < scanBound) (lt : i < xs.length) (hv : ∃ t, v = .str (xs.getD i Str.empty) t) (x : Held P w S xs i u.heap)
    (q : ∀ h' tk b, u.toks ≤ tk → Heap.SameBut S u.heap h' → Held P w S xs (i + 1) h' → Q b { u with heap := h', toks := tk }) : wpAny (model P w) A (setAdd S v) Q E u := by
  obtain ⟨t, rfl⟩ := hv
  have le := fm_le (xs.take i)
  rw [List.length_take] at le
  unfold setAdd
  refine wpAny_holding (wpAny_bind ((PySem.strKind P w).pyHash (strKind_is _ _ (xs.getD i Str.empty) t) ?_))
  refine wpAny_setAddHashed_of (knd := PySem.strKind P w) (s := { u with toks := u.toks + 1 }) (strKind_is _ _ _ _) rfl x (by omega) fun h' same y => q h' _ _ (Nat.le_succ _) same ?_
  unfold Held
  rw [fm_next lt, fstep]
  by_cases m : (fm (xs.take i)).any (fun z => decide (z = xs.getD i Str.empty)) = true
  · rw [if_pos m]
    rw [any_eqv] at m
    rw [m] at y
    refine SetOf_congr y (fun k => ?_) rfl
    by_cases e : k = xs.getD i Str.empty
    · rw [e, m, Bool.true_or]
    · rw [decide_eq_false e, Bool.or_false]
  · rw [if_neg m]
    rw [any_eqv] at m
    rw [Bool.not_eq_true] at m
    rw [m] at y
    refine SetOf_congr y (fun k => ?_) (by rw [if_neg Bool.false_ne_true, List.length_append]; rfl)
    rw [List.any_append]
    refine congrArg _ ?_
    show decide (k = xs.getD i Str.empty) = ((xs.getD i Str.empty == k) || false)
    rw [Bool.or_false, Bool.eq_iff_iff, decide_eq_true_iff, beq_iff_eq]
    exact eq_comm
end
/-- an empty set, filled by the loop over these texts, holds them all -/
theorem texts_in {P : Program} {w : World} {its : List Value} {xs : List Str} {S l It : Addr} {A1 : Around} {G : Array GenState → Array GenState → Prop} {St : Nat → Shared → Prop} {u0 : Shared} {R : Result → Shared → Prop} (rv : Vals (sv xs) its) (few : xs.length ≤ 1000)
    (W : WalksS P w A1.in1 It [It, l] [It] G its.toArray.size (fun i v => its.toArray[i]? = some v) St) (off : S ∉ [It, l]) (st : St 0 u0) (none_yet : u0.heap.get? S = some (set0 w))
    (fin : ∀ u1, Moved [S, It] G u0 u1 → Held P w S xs xs.length u1.heap → R (.ok (.ret .none)) u1) : codeAny (model P w) A1 (.builtin "set.update.loop" ⟨[.ref S, .ref It], []⟩) R u0 := by
  have size : its.toArray.size = xs.length := by rw [List.size_toArray, ← rv.length]; exact List.length_map _
  have room : xs.length + 1 < scanBound := by unfold scanBound; omega
  refine loop_by W off (Held P w S xs) (fun i h h' x k => x.at k) (fun i v t Q E lt pv x q => x.put room (size ▸ lt) ?_ q) its.toArray.size 0 u0 (Nat.add_zero _) st ?_ (size.symm ▸ fin)
  · exact SS.strs_at (strsOf rv) i v (by simpa using pv)
  · exact SetOf_congr ((PyProof.Rows.setObjOf_fresh (knd := PySem.strKind P w) _).setOf none_yet (by omega)) (fun _ => rfl) rfl
theorem pe_lenSetS {X : Cx} {a : Expr} {ta : TE} {p p2 q pos : Pos} (hc : X.calm = true) (hm : X.mg "len" = none) (hm2 : X.mg "set" = none) (ha : PE X a ta) (hg : Gl X "len" := by rfl) (hg2 : Gl X "set" := by rfl)
    (na : starEach [a] X.env = (false, eval a X.env) :: starEach [] X.env := by rfl) : PE X (.Call (.Name "len" p) [.Call (.Name "set" p2) [a] [] q] [] pos) (tLenSetS X.K ta) where
  run := fun pins s σ H Q I h => by
    have inner : wpAny (model X.prog X.w) X.A (eval (.Call (.Name "set" p2) [a] [] q) X.env) (fun v s2 => wpAny (model X.prog X.w) X.A (call (.builtin "len") [v]) (EP X pins σ Q) X.xe s2) X.xe s := by
      refine Call_ (ld_blt I hg2 hm2 PyProof.Rows.boot_set (PyProof.Rows.callWith_type1 (PyProof.Rows.args_cons (thn (ha.run pins s σ H _ I h) fun v s1 got => PyProof.Rows.args_nil ?_) na) na rfl))
      obtain ⟨x, H1, J, rx, l, xs, rfl, seq, few, want⟩ := got
      cases rx
      have full : ∀ (h' : Heap) (tk : Nat), Held X.prog X.w s1.heap.objs.size xs xs.length h' → (∀ b o, s1.heap.get? b = some o → h'.get? b = some o) → wpAny (model X.prog X.w) X.A (call (.builtin "len") [.ref s1.heap.objs.size]) (EP X pins σ Q) X.xe { s1 with heap := h', toks := tk } := by
        rintro h' tk ⟨o, es, ep, tb, ho, exact_, data, _, _, below, fits, count⟩ kept
        rw [List.take_length] at count
        have J2 : Inv X pins σ H1 { s1 with heap := h', toks := tk } := J.kept kept
        have le := fm_le xs
        exact call_len_set ho exact_ data fits (by omega) ⟨.int ((fm xs).length : Nat), H1, J2.tok _, ⟨_, by rw [count]⟩, want⟩
      match seq with
      | .inl sl => exact match J.list sl with
        | ⟨its, rv, pl, _⟩ => call_set_list (P := X.prog) (w := X.w) (s := s1) _ (J.ok.hd hc) pl.isList (fun A1 It G St u0 R W off st n fin => texts_in rv few W off st n fin) full
      | .inr st => exact match J.tuple st with
        | ⟨its, rv, pl, _⟩ => call_set_tuple (P := X.prog) (w := X.w) (s := s1) _ (J.ok.hd hc) pl (fun A1 It G St u0 R W off st n fin => texts_in rv few W off st n fin) full
    exact Call_ (ld_blt I hg hm PySem.boot_len (PyProof.Rows.callWith_builtin1 (PyProof.Rows.args_cons (wpAny_mono inner (fun _ _ z => PyProof.Rows.args_nil z) fun _ _ z => z) rfl) rfl rfl))
theorem ev_lenSetS {K : PySem.W.Frag} {σ : L2.St} {H : Hp} {ta : TE} {l : Addr} {xs : List Str} (h : Ev ta σ H (.ref l)) (hx : SqL K H l (sv xs) ∨ SqT K H l (sv xs)) (hz : xs.length ≤ 1000) :
    Ev (tLenSetS K ta) σ H (.int ((fm xs).length : Nat)) := fun H1 e Q q => h H1 e _ fun H2 e2 =>
  ⟨l, xs, rfl, hx.elim (fun z => .inl (ex_l (e.trans e2) z)) (fun z => .inr (ex_t (e.trans e2) z)), hz, q H2 e2⟩
end Kx

set_option Elab.async false
set_option linter.all false
set_option maxRecDepth 100000
set_option maxHeartbeats 1000000
namespace Kx
open PySem PySem.Spec PyProof.Rows L2 Evl
/-! ## set(xs) of whole numbers, of texts -/
theorem few_below : ∀ (B : Nat) (l : List Int), l.Nodup → (∀ k ∈ l, 0 ≤ k ∧ k < (B : Int)) → l.length ≤ B
  | 0, l, _, h => by
    cases l with
    | nil => exact Nat.le_refl _
    | cons a r =>
      have := h a List.mem_cons_self
      omega
  | B + 1, l, nd, h => by
    have h2 := few_below B (l.erase (B : Int)) (nd.erase _) fun k hk => by
      have h3 := h k (List.mem_of_mem_erase hk)
      have h4 : k ≠ (B : Int) := fun e => by
        rw [e] at hk
        exact nd.not_mem_erase hk
      omega
    have h5 : l.length ≤ (l.erase (B : Int)).length + 1 := by
      rw [List.length_erase]
      split <;> omega
    omega
section
variable {X : Cx}
/-- set(l), l a list of whole numbers: one that sorted can read -/
def rSetI (K : PySem.W.Frag) (w : World) : List V → Hp → VK → Prop := fun xs H Q => ∃ (l : Addr) (ns : List Int), xs = [.ref l] ∧ SqL K H l (ns.map V.int) ∧ ns.length ≤ 1000 ∧ ∀ a c, H a = none → (∀ B : Nat, (∀ k ∈ ns, 0 ≤ k ∧ k < (B : Int)) → c ≤ B) → Q (.ref a) (upd H a (SetO w a (fun j => decide (j ∈ ns)) c))
theorem call_setI (hc : X.calm = true) : CallR X (.type "set") (rSetI X.K X.w) := by
  intro pins s σ H xs us Q I r h
  obtain ⟨l, ns, rfl, hl, hz, q⟩ := h
  rw [Vals.ref1 r]
  obtain ⟨its, rv, pl, hlen⟩ := I.list hl
  have hit : IntsAre its ns := rv.ints
  have hsz : its.toArray.size = ns.length := by rw [List.size_toArray, ← rv.length, List.length_map]
  refine call_set_list (P := X.prog) (w := X.w) (s := s) (items := its.toArray) (fun h' => ∃ c, c ≤ ns.length ∧ SetR X.w h' s.heap.objs.size (fun j => decide (j ∈ ns)) c) (I.ok.hd hc) pl.isList (fun A1 It G St u0 R W hSf st ho hR => ?_) fun h' tk hp hk => ?_
  · refine set_update_ints W s.heap.objs.size hSf ns hsz (by unfold scanBound; omega) (fun i v hv => ?_) (its.toArray.size - 0) 0 u0 rfl (Nat.zero_le _) st ⟨0, Nat.le_refl 0, setR_new_at ho⟩ fun s' c hm hc2 hS => hR s' hm ⟨c, by omega, hS⟩
    have hi : i < ns.length := by rw [← hsz]; exact (Array.getElem?_eq_some_iff.mp hv).1
    obtain ⟨t, e⟩ := PyProof.Rows.IntsAre.int_at hit i v (by rw [← Array.getElem?_toList] at hv; simpa using hv)
    refine ⟨ns[i], t, List.getElem?_eq_getElem hi, ?_⟩
    rw [e, List.getD_eq_getElem?_getD, List.getElem?_eq_getElem hi] <;> rfl
  · obtain ⟨c, hc2, R⟩ := hp
    have hn : H s.heap.objs.size = none := I.hok.fresh (Nat.le_refl _)
    refine ⟨.ref _, _, I.laid (t' := tk) (fun b o e => hk b o e) (Nat.le_refl _) (setO_new R), rfl, q _ c hn fun B hB => ?_⟩
    obtain ⟨o, es, ep, t, _, _, _, _, nd, hm, _, _, hes, _⟩ := R
    have := few_below B (es.toList.map keyOf) nd fun k hk2 => hB k (of_decide_eq_true ((hm k).mpr hk2))
    rw [List.length_map, Array.length_toList] at this
    omega
end
end Kx

set_option Elab.async false
set_option linter.all false
set_option maxRecDepth 100000
set_option maxHeartbeats 1000000
namespace Kx
open PySem PySem.Spec PyProof.Rows L2 Evl
/-! ## more of evaluation -/
section
variable {K : PySem.W.Frag} {σ : L2.St} {H : Hp} {ta tb te tl : TE} {v : V}
/-- [te for sign in a text] -/
theorem el_lcS {i : Nat} {s : Str} {ys : List V} (h : Ev tl σ H (.str s)) (hl : ys.length = s.cps.size) (hz : s.cps.size < 100000)
    (hy : ∀ (j : Nat) (c : Nat) (y : V), s.cps[j]? = some c → ys[j]? = some y → Ev te ((σ.set i none).set i (some (.str ⟨#[c]⟩))) H y) : EvL (tLc (iStr tl) (gName i) tYes te [i]) σ H ys := fun H1 e Q q =>
  h H1 e _ fun H2 e2 => ⟨s, rfl, fun D hD => ⟨fun j m H' => m = ys.length - j ∧ j ≤ ys.length ∧ Ex H2 H' ∧ H' D = some (.lst (ys.take j)), ⟨ys.length, by simp, Nat.zero_le _, Ex.new hD, upd_same⟩, fun j m H' p => by
    obtain ⟨rfl, hj, x1, x2⟩ := p
    by_cases hlt : j < ys.length
    · refine .inr ⟨by show j < s.cps.size; omega, fun H'' => Ex H2 H'' ∧ H'' D = some (.lst (ys.take (j + 1))), fun H'' p => ⟨ys.length - (j + 1), by omega, rfl, hlt, p⟩, fun x H'' y => ?_⟩
      obtain ⟨rfl, c, hc, rfl⟩ := y
      refine ⟨by show (((σ.set i none).set i (some (.str ⟨#[c]⟩))).set i none) = (σ.set i none); rw [List.set_set, List.set_set], ?_⟩
      have gy : ys[j]? = some ys[j] := List.getElem?_eq_getElem hlt
      refine hy j c _ hc gy H'' ((e.trans e2).trans x1) _ fun H3 e3 => ⟨ys.take j, e3 _ _ x2, ?_, (x1.trans e3).mut hD, ?_⟩
      · rw [List.length_take]
        exact sz_lt (Nat.lt_of_le_of_lt (Nat.min_le_right _ _) (by omega))
      · rw [upd_same, List.take_add_one, gy]
        rfl
    · refine .inl ⟨by show s.cps.size ≤ j; omega, q D H' (fresh_back e2 hD) (e2.trans x1) (by rw [x2, List.take_of_length_le (by omega)])⟩⟩⟩
theorem rv_leS {a b : Str} : RV (fun x y H Q => ∃ i j, x = V.str i ∧ y = V.str j ∧ Q (.bl (!decide (j.cps.toList < i.cps.toList))) H) (.str a) (.str b) H (.bl (!decide (b.cps.toList < a.cps.toList))) :=
  fun H1 e Q k => ⟨a, b, rfl, rfl, k H1 (Ex.refl _)⟩
def amg (s : Str) (ns : List Str) : Bool := ns.any fun y => y == s
theorem amg_iff {s : Str} {ns : List Str} : amg s ns = true ↔ s ∈ ns := by
  unfold amg
  rw [List.any_eq_true]
  exact ⟨fun ⟨y, hy, e⟩ => (eq_of_beq e) ▸ hy, fun h => ⟨s, h, beq_self_eq_true s⟩⟩
theorem inV_sv (s : Str) (ns : List Str) : inV (.str s) (sv ns) = amg s ns := by
  unfold inV sv amg
  rw [List.any_map]
  rfl
theorem flat_sv (ns : List Str) : (sv ns).all flatV = true := by
  unfold sv
  rw [List.all_map, List.all_eq_true]
  exact fun _ _ => rfl
/-- the address holds these texts, as a list or as a tuple -/
def Txs (H : Hp) (a : Addr) (ns : List Str) : Prop := H a = some (.lst (sv ns)) ∨ Rd H a (.tup (sv ns))
theorem Txs.up {H H' : Hp} {a : Addr} {ns : List Str} (h : Txs H a ns) (e : Ex H H') : Txs H' a ns := h.elim (fun z => .inl (e _ _ z)) (fun z => .inr (ex_rd e z))
theorem Txs.sq {H : Hp} {a : Addr} {ns : List Str} (h : Txs H a ns) : SqL K H a (sv ns) ∨ SqT K H a (sv ns) := h.elim (fun z => .inl (.of z)) (fun z => .inr (.inl z))
theorem _root_.Kx.TupS.rd {a : Addr} {vs : List V} (h : TupS H a vs) : Rd H a (.tup vs) := let ⟨o, _, h2⟩ := h; .inr ⟨o, h2⟩
theorem rv_inTx {a : Addr} {s : Str} {ns : List Str} (h : Txs H a ns) : RV (rIn K false) (.str s) (.ref a) H (.bl (amg s ns)) := fun H1 e Q q =>
  ⟨a, sv ns, rfl, (h.up e).sq, rfl, flat_sv ns, by rw [inV_sv]; exact q H1 (Ex.refl _)⟩
theorem rv_niTx {a : Addr} {s : Str} {ns : List Str} (h : Txs H a ns) : RV (rIn K true) (.str s) (.ref a) H (.bl (!amg s ns)) := fun H1 e Q q =>
  ⟨a, sv ns, rfl, (h.up e).sq, rfl, flat_sv ns, by rw [inV_sv]; exact q H1 (Ex.refl _)⟩
theorem ev_lenT {a : Addr} {xs : List V} (h : Ev ta σ H (.ref a)) (hx : H a = some (.lst xs) ∨ Rd H a (.tup xs)) : Ev (tCB (rLenS K) (tCons ta tNil)) σ H (.int (xs.length : Int)) :=
  ev_cb (ea_cons h ea_nil) fun H1 e Q q => ⟨a, xs, rfl, hx.elim (fun z => .inl (.of (e _ _ z))) (fun z => .inr (.inl (ex_rd e z))), q H1 (Ex.refl _)⟩
theorem ev_lenS {s : Str} (h : Ev ta σ H (.str s)) (hz : s.length ≤ 100000) : Ev (tCB (fun xs H Q => ∃ x n, xs = [x] ∧ LenV K x H n ∧ Q (.int n) H) (tCons ta tNil)) σ H (.int (s.length : Int)) :=
  ev_cb (ea_cons h ea_nil) fun H1 e Q q => ⟨.str s, s.length, rfl, ⟨sz_of hz, rfl⟩, q H1 (Ex.refl _)⟩
end
/-! ## mirrors -/
def lowc (c : Nat) : Bool := decide (97 ≤ c) && decide (c ≤ 122)
def nmS (s : Str) : Bool := (decide (1 ≤ s.length) && decide (s.length ≤ 8)) && !decide (s = "any") && s.cps.toList.all lowc
def D.nm : D → Bool
  | .str s => nmS s
  | _ => false
def amD (d : D) (ns : List Str) : Bool := match d with
  | .str s => amg s ns
  | _ => false
def okUnlike : OkF := fun vs H z => ∃ a xs, vs = [.ref a] ∧ Txs H a xs ∧ xs.length ≤ 1000 ∧ z = .bl (decide xs.Nodup)
def okRow : OkF := fun vs H z => ∃ v d, vs = [v] ∧ Rep H v d ∧ z = .bl (decide (d.ty = "list") || decide (d.ty = "tuple"))
def okAmong : OkF := fun vs H z => ∃ v d a ns, vs = [v, .ref a] ∧ Rep H v d ∧ Txs H a ns ∧ z = .bl (amD d ns)
def szD : D → Nat
  | .str s => s.length
  | _ => 0
def okName : OkF := fun vs H z => ∃ v d, vs = [v] ∧ Rep H v d ∧ szD d ≤ 1000 ∧ z = .bl d.nm
theorem stb_unlike : Stb okUnlike := fun _ _ _ _ e ⟨a, xs, h1, h2, h3, h4⟩ => ⟨a, xs, h1, h2.up e, h3, h4⟩
theorem stb_row : Stb okRow := fun _ _ _ _ e ⟨v, d, h1, h2, h3⟩ => ⟨v, d, h1, h2.up e, h3⟩
theorem stb_among : Stb okAmong := fun _ _ _ _ e ⟨v, d, a, ns, h1, h2, h3, h4⟩ => ⟨v, d, a, ns, h1, h2.up e, h3.up e, h4⟩
theorem stb_name : Stb okName := fun _ _ _ _ e ⟨v, d, h1, h2, h3, h4⟩ => ⟨v, d, h1, h2.up e, h3, h4⟩
theorem sign_lo (c : Nat) : (!decide (([c] : List Nat) < [97])) = decide (97 ≤ c) := by
  have h : (([c] : List Nat) < [97]) ↔ c < 97 := by simp [List.cons_lt_cons_iff]
  rw [decide_eq_decide.mpr h]
  by_cases q : c < 97
  · rw [decide_eq_true q, decide_eq_false (by omega)]; rfl
  · rw [decide_eq_false q, decide_eq_true (by omega)]; rfl
theorem sign_hi (c : Nat) : (!decide (([122] : List Nat) < [c])) = decide (c ≤ 122) := by
  have h : (([122] : List Nat) < [c]) ↔ 122 < c := by simp [List.cons_lt_cons_iff]
  rw [decide_eq_decide.mpr h]
  by_cases q : 122 < c
  · rw [decide_eq_true q, decide_eq_false (by omega)]; rfl
  · rw [decide_eq_false q, decide_eq_true (by omega)]; rfl
section
variable {P : Program} {w : World} {K : PySem.W.Frag} {mg : Str → Option Value} {base : Heap} (T : Txt K mg)
theorem ok_is_row : FnOk P w K mg base CX0 1 T.a_is_row T.d_is_row ["value"] (spX okRow) := by
  refine T.F_is_row.ok sc_is_row (fun vs H Q E h => ?_) (fun cdv A outer s H vs Q E hr h => ?_)
  · obtain ⟨z, ⟨v, d, rfl, _⟩, _⟩ := h
    rfl
  · obtain ⟨z, ⟨v, d, rfl, hv, rfl⟩, q⟩ := h
    refine ⟨_, pss_one (ps_ret (pe_or (pe_tyIs T.z_type T.z_list bo_list (pv 0)) (pe_one (pe_tyIs T.z_type T.z_tuple bo_tuple (pv 0))))), ?_⟩
    exact s_ret (ev_orV (ev_tyIs (ev_var rfl) hv) fun _ => ev_tyIs (ev_var rfl) hv) q
theorem ok_is_among : FnOk P w K mg base CX0 1 T.a_is_among T.d_is_among ["value", "names"] (spX okAmong) := by
  refine T.F_is_among.ok sc_is_among (fun vs H Q E h => ?_) (fun cdv A outer s H vs Q E hr h => ?_)
  · obtain ⟨z, ⟨v, d, a, ns, rfl, _⟩, _⟩ := h
    rfl
  · obtain ⟨z, ⟨v, d, a, ns, rfl, hv, ha, rfl⟩, q⟩ := h
    refine ⟨_, pss_one (ps_ret (pe_and (pe_tyIs T.z_type T.z_str bo_str (pv 0)) (pe_one (pe_cmpR op_in_seq (pv 0) (pv 1) (by rfl))))), ?_⟩
    refine s_ret (v := .bl (amD d ns)) ?_ q
    refine ev_is (ev_andV (b := amD d ns) (ev_tyIs (ev_var rfl) hv) fun ht => ?_) ?_
    · obtain ⟨x, rfl⟩ := ty_str (of_decide_eq_true ht)
      obtain rfl := hv.strD
      exact ev_op (ev_var rfl) (ev_var rfl) (rv_inTx ha)
    · cases d <;> first | rfl | (simp [D.ty, amD])
theorem ok_are_unlike : FnOk P w K mg base CX0 1 T.a_are_unlike T.d_are_unlike ["row"] (spX okUnlike) := by
  refine T.F_are_unlike.ok sc_are_unlike (fun vs H Q E h => ?_) (fun cdv A outer s H vs Q E hr h => ?_)
  · obtain ⟨z, ⟨a, xs, rfl, _⟩, _⟩ := h
    rfl
  · obtain ⟨z, ⟨a, xs, rfl, ha, hz, rfl⟩, q⟩ := h
    refine ⟨_, pss_one (ps_ret (pe_cmpR op_eq (pe_lenSetS rfl T.z_len T.z_set (pv 0)) (pe_callB call_len_seq (by rfl) T.z_len bo_len (pa_cons (pv 0) pa_nil)) (nomark _))), ?_⟩
    refine s_ret (v := .bl (decide xs.Nodup)) ?_ q
    refine ev_is (ev_op (ev_lenSetS (ev_var rfl) ha.sq hz) (ev_lenT (ev_var rfl) ha) (rv_eq rfl)) ?_
    rw [show (sv xs).length = xs.length from List.length_map _]
    have e : (V.int ((fm xs).length : Nat) = V.int (xs.length : Nat)) ↔ xs.Nodup := by
      rw [← fm_nodup]
      exact ⟨fun h => by have h2 := V.int.inj h; omega, fun h => by rw [h]⟩
    rw [decide_eq_decide.mpr e]
theorem ok_is_name : FnOk P w K mg base CX0 1 T.a_is_name T.d_is_name ["value"] (spX okName) := by
  refine T.F_is_name.ok sc_is_name (fun vs H Q E h => ?_) (fun cdv A outer s H vs Q E hr h => ?_)
  · obtain ⟨z, ⟨v, d, rfl, _⟩, _⟩ := h
    rfl
  · obtain ⟨z, ⟨v, d, rfl, hv, hz, rfl⟩, q⟩ := h
    refine ⟨_, pss_cons (ps_if (PW.pt (pw_or (pt_tyNo T.z_type T.z_str bo_str (pv 0)) (pw_or (pt_not (pt_chain op_le op_le pe_int (pe_callB call_len (by rfl) T.z_len bo_len (pa_cons (pv 0) pa_nil)) pe_int))
        (pw_or1 (pt_cmpR op_eq (pv 0) pe_str (nomark _)))))) (pss_one (ps_ret pe_bl)) pss_nil)
      (pss_one (ps_ret (pe_callB (cr_all rfl) (by rfl) T.z_all bo_all (pa_cons (pe_lc (own := [("sign", 1)]) (g := gName 1) (tt := tYes) (by rfl) sc_is_name.nd (pi_str (pv 0)) (blkOk_by (N := ["value", "sign"]) (sc := defScope s_is_name) (by decide +kernel))
        (fun _ _ _ _ _ => pg_name (i := 1) sc_is_name.nd rfl (.inl rfl)) (fun _ _ _ _ _ => pts_nil) (fun _ _ _ _ _ => pe_chain op_le_str op_le_str pe_str (pv 1) pe_str)) pa_nil)))), ?_⟩
    by_cases ht : d.ty = "str"
    · obtain ⟨x, rfl⟩ := ty_str ht
      obtain rfl := hv.strD
      have hz : x.length ≤ 1000 := hz
      refine s_if (b := !(decide (1 ≤ x.length) && decide (x.length ≤ 8)) || decide (x = "any")) ?_ (fun hb H1 e => ?_) (fun hb H1 e => ?_)
      · refine et_is (et_or (et_test (ev_tyNo (ev_var rfl) hv)) fun _ => et_or (et_not (et_test (ev_chain ev_c (ev_lenS (ev_var rfl) (by omega)) rv_I0 (fun _ => ev_c) (fun _ => rv_I0)))) fun _ => et_test (ev_op (ev_var rfl) ev_c (rv_eq rfl))) ?_
        have e1 : decide (V.str x = V.str "any") = decide (x = "any") := decide_eq_decide.mpr ⟨V.str.inj, fun h => h ▸ rfl⟩
        rw [e1]
        have e2 : ∀ n : Nat, decide ((n : Int) ≤ (x.length : Int)) = decide (n ≤ x.length) := fun n => decide_eq_decide.mpr (by omega)
        have e3 : ∀ n : Nat, decide ((x.length : Int) ≤ (n : Int)) = decide (x.length ≤ n) := fun n => decide_eq_decide.mpr (by omega)
        simp only [D.ty, decide_true, Bool.not_true, Bool.false_or]
        have a1 := e2 1
        have a2 := e3 8
        rw [show ((1 : Nat) : Int) = 1 from rfl] at a1
        rw [show ((8 : Nat) : Int) = 8 from rfl] at a2
        rw [a1, a2]
      · refine s_ret (v := .bl false) ev_c fun H2 e2 => ?_
        have z : nmS x = false := by
          unfold nmS
          cases h1 : decide (1 ≤ x.length) <;> cases h2 : decide (x.length ≤ 8) <;> cases h3 : decide (x = "any") <;> simp_all
        have q2 := q H2 (e.trans e2)
        rw [show (D.str x).nm = nmS x from rfl, z] at q2
        exact q2
      · refine s_ret (v := .bl (nmS x)) (ev_is (ev_all (bs := x.cps.toList.map lowc) (el_lcS (s := x) (ev_var rfl) (by simp) (Nat.lt_of_le_of_lt hz (by decide)) fun j c y hc hy => ?_)) ?_) fun H2 e2 => q H2 (e.trans e2)
        · have ey : y = .bl (lowc c) := by
            rw [List.getElem?_map, List.getElem?_map, Array.getElem?_toList, hc] at hy
            exact (Option.some.inj hy).symm
          subst ey
          refine ev_is (ev_chain ev_c (ev_var rfl) rv_leS (fun _ => ev_c) (fun _ => rv_leS)) ?_
          show V.bl ((!decide (([c] : List Nat) < [97])) && (!decide (([122] : List Nat) < [c]))) = _
          rw [sign_lo, sign_hi]
          rfl
        · rw [List.all_map]
          unfold nmS
          cases h1 : decide (1 ≤ x.length) <;> cases h2 : decide (x.length ≤ 8) <;> cases h3 : decide (x = "any") <;> simp_all
    · refine s_if (b := true) ?_ (fun hb H1 e => ?_) (fun hb => by cases hb)
      · refine et_is (et_or (b := false) (et_test (ev_tyNo (ev_var rfl) hv)) fun hh => ?_) ?_
        · rw [decide_eq_false ht] at hh
          cases hh
        · rw [decide_eq_false ht]
          rfl
      · refine s_ret (v := .bl false) ev_c fun H2 e2 => ?_
        have z : d.nm = false := by cases d <;> first | rfl | exact absurd rfl ht
        have q2 := q H2 (e.trans e2)
        rw [z] at q2
        exact q2
end
end Kx

set_option Elab.async false
set_option linter.all false
set_option maxRecDepth 100000
set_option maxHeartbeats 1000000
namespace Kx
open PySem PySem.Spec PyProof.Rows PySem.SeqAt L2 Evl
open MeetsSeq MeetsSeq2 MeetsSeq3 SeqRoads2
/-! ## == and != of a dict beside a text, a number -/
section
variable {A : Around} {s : Shared}
/-- a dict's object -/
def DictAt (s : Shared) (a : Addr) : Prop := ∃ o es ep, s.heap.get? a = some o ∧ o.cls = .type "dict" ∧ o.data = .dict es ep
theorem dict_eq_no (l : Addr) (es : Array DictEntry) (ep : Nat) (dd : Option Addr) (sl : Array (Option Value)) (b : Str) (u : Tok) :
    Meets (Builtin.«dict.__eq__» ⟨[.ref l, .str b u], []⟩) (fun _ R s => s.heap.get? l = some ⟨.type "dict", dd, .dict es ep, sl⟩ ∧ R (.ok (.ret .notImplemented)) s) :=
  .of_wp fun prog w A R s h => by
    obtain ⟨hp, g, d, tk, os⟩ := s
    obtain ⟨hl, h⟩ := h
    have f1 := PySem.F.sub_str_dict
    wp_walk using wpAny_loadPart' hl
    exact ⟨_, rfl, h⟩
theorem dict_eq_noI (l : Addr) (es : Array DictEntry) (ep : Nat) (dd : Option Addr) (sl : Array (Option Value)) (b : Int) (u : Tok) :
    Meets (Builtin.«dict.__eq__» ⟨[.ref l, .int b u], []⟩) (fun _ R s => s.heap.get? l = some ⟨.type "dict", dd, .dict es ep, sl⟩ ∧ R (.ok (.ret .notImplemented)) s) :=
  .of_wp fun prog w A R s h => by
    obtain ⟨hp, g, d, tk, os⟩ := s
    obtain ⟨hl, h⟩ := h
    have f1 := PySem.F.sub_int_dict
    wp_walk using wpAny_loadPart' hl
    exact ⟨_, rfl, h⟩
theorem dict_ne_no (l : Addr) (es : Array DictEntry) (ep : Nat) (dd : Option Addr) (sl : Array (Option Value)) (b : Str) (u : Tok) :
    Meets (Builtin.«dict.__ne__» ⟨[.ref l, .str b u], []⟩) (fun _ R s => s.heap.get? l = some ⟨.type "dict", dd, .dict es ep, sl⟩ ∧ R (.ok (.ret .notImplemented)) s) :=
  .of_wp fun prog w A R s h => by
    obtain ⟨hp, g, d, tk, os⟩ := s
    obtain ⟨hl, h⟩ := h
    have f1 := PySem.F.sub_str_dict
    wp_walk using wpAny_loadPart' hl
    exact ⟨_, rfl, h⟩
theorem str_eq_no (b : Str) (u : Tok) (l : Addr) (o : Obj) :
    Meets (Builtin.«str.__eq__» ⟨[.str b u, .ref l], []⟩) (fun _ R s => s.heap.get? l = some o ∧ (∃ es ep, o.data = .dict es ep) ∧ R (.ok (.ret .notImplemented)) s) :=
  .of_wp fun prog w A R s h => by
    obtain ⟨hp, g, d, tk, os⟩ := s
    obtain ⟨hl, ⟨es, ep, e⟩, h⟩ := h
    obtain ⟨c, dd, dt, sl⟩ := o
    dsimp only at e
    subst e
    wp_walk using wpAny_loadPart' hl, wpAny_load hl
    exact ⟨_, rfl, h⟩
theorem str_ne_no (b : Str) (u : Tok) (l : Addr) (o : Obj) :
    Meets (Builtin.«str.__ne__» ⟨[.str b u, .ref l], []⟩) (fun _ R s => s.heap.get? l = some o ∧ (∃ es ep, o.data = .dict es ep) ∧ R (.ok (.ret .notImplemented)) s) :=
  .of_wp fun prog w A R s h => by
    obtain ⟨hp, g, d, tk, os⟩ := s
    obtain ⟨hl, ⟨es, ep, e⟩, h⟩ := h
    obtain ⟨c, dd, dt, sl⟩ := o
    dsimp only at e
    subst e
    wp_walk using wpAny_loadPart' hl, wpAny_load hl
    exact ⟨_, rfl, h⟩
theorem int_eq_no (b : Int) (u : Tok) (l : Addr) (o : Obj) :
    Meets (Builtin.«int.__eq__» ⟨[.int b u, .ref l], []⟩) (fun _ R s => s.heap.get? l = some o ∧ (∃ es ep, o.data = .dict es ep) ∧ R (.ok (.ret .notImplemented)) s) :=
  .of_wp fun prog w A R s h => by
    obtain ⟨hp, g, d, tk, os⟩ := s
    obtain ⟨hl, ⟨es, ep, e⟩, h⟩ := h
    obtain ⟨c, dd, dt, sl⟩ := o
    dsimp only at e
    subst e
    wp_walk using wpAny_loadPart' hl, wpAny_load hl
    exact ⟨_, rfl, h⟩
theorem ne_dict_str {l : Addr} (b : Str) (u : Tok) (hl : DictAt s l) (hu : A.units < cLine) : RcNeAt A s (.ref l) (.str b u) true := fun prog w E Q h => by
  obtain ⟨⟨c, dd, dt, sl⟩, es, ep, ho, hc, hd⟩ := hl
  dsimp only at hc hd
  subst hc hd
  refine rc_ne_decline_or (k := false) ⟨_, ho, rfl⟩ (typeIs_str s b u) (by decide) PySem.F.sub_str_dict PySem.F.slot_dict_ne PySem.F.slot_str_ne_refl ?_ ?_ ?_ (.inr hu) h
  · exact fun _ hq => call_meets PySem.F.slot_dict_ne ⟨_, ho, rfl⟩ PySem.F.entry_dict_ne (PySem.F.args_dict_ne_2 _ _) (dict_ne_no l es ep dd sl b u) ⟨ho, hq⟩
  · exact fun _ hq => call_meets PySem.F.slot_str_ne_refl (typeIs_str s b u) PySem.F.entry_str_ne (PySem.F.args_str_ne_2 _ _) (str_ne_no b u l _) ⟨ho, ⟨es, ep, rfl⟩, hq⟩
  · exact fun _ hq => wpAny_of_eq (rfl : isSame (.ref l) (.str b u) = pure false) hq
theorem eq_str_dict {l : Addr} (b : Str) (u : Tok) (hl : DictAt s l) (hu : A.units < cLine) : EqAt A s (.str b u) (.ref l) false := fun prog w E Q h => by
  obtain ⟨⟨c, dd, dt, sl⟩, es, ep, ho, hc, hd⟩ := hl
  dsimp only at hc hd
  subst hc hd
  unfold eqBool
  refine wpAny_holding (wpAny_ite_split (fun hab => absurd (eq_of_beq hab) nofun) fun _ => wpAny_bind ?_)
  refine rc_eq_decline_or (k := false) (typeIs_str s b u) ⟨_, ho, rfl⟩ (by decide) PySem.F.sub_dict_str PySem.F.slot_str_eq PySem.F.slot_dict_eq_refl ?_ ?_ ?_ (.inr hu) (wpAny_truthy_bool h)
  · exact fun _ hq => call_meets PySem.F.slot_str_eq (typeIs_str s b u) PySem.F.entry_str_eq (PySem.F.args_str_eq_2 _ _) (str_eq_no b u l _) ⟨ho, ⟨es, ep, rfl⟩, hq⟩
  · exact fun _ hq => call_meets PySem.F.slot_dict_eq_refl ⟨_, ho, rfl⟩ PySem.F.entry_dict_eq (PySem.F.args_dict_eq_2 _ _) (dict_eq_no l es ep dd sl b u) ⟨ho, hq⟩
  · exact fun _ hq => wpAny_of_eq (rfl : isSame (.str b u) (.ref l) = pure false) hq
theorem eq_int_dict {l : Addr} (b : Int) (u : Tok) (hl : DictAt s l) (hu : A.units < cLine) : EqAt A s (.int b u) (.ref l) false := fun prog w E Q h => by
  obtain ⟨⟨c, dd, dt, sl⟩, es, ep, ho, hc, hd⟩ := hl
  dsimp only at hc hd
  subst hc hd
  unfold eqBool
  refine wpAny_holding (wpAny_ite_split (fun hab => absurd (eq_of_beq hab) nofun) fun _ => wpAny_bind ?_)
  refine rc_eq_decline_or (k := false) (typeIs_int s b u) ⟨_, ho, rfl⟩ (by decide) PySem.F.sub_dict_int PySem.F.slot_int_eq PySem.F.slot_dict_eq_refl ?_ ?_ ?_ (.inr hu) (wpAny_truthy_bool h)
  · exact fun _ hq => call_meets PySem.F.slot_int_eq (typeIs_int s b u) PySem.F.entry_int_eq (PySem.F.args_int_eq_2 _ _) (int_eq_no b u l _) ⟨ho, ⟨es, ep, rfl⟩, hq⟩
  · exact fun _ hq => call_meets PySem.F.slot_dict_eq_refl ⟨_, ho, rfl⟩ PySem.F.entry_dict_eq (PySem.F.args_dict_eq_2 _ _) (dict_eq_noI l es ep dd sl b u) ⟨ho, hq⟩
  · exact fun _ hq => wpAny_of_eq (rfl : isSame (.int b u) (.ref l) = pure false) hq
end
/-! ## a text beside any datum -/
def D.isS (d : D) (s : Str) : Bool := match d with
  | .str t => t == s
  | _ => false
section
variable {X : Cx}
theorem dict_of {pins : List (Addr × Obj)} {σ : L2.St} {H : Hp} {s : Shared} {a : Addr} (I : Inv X pins σ H s) (h : H a = some (.dK [])) : DictAt s a := by
  obtain ⟨_, _, vs, _, o, es, ep, h1, h2, h3, _⟩ := (show ObjOk X.prog X.w H s.heap a (.dK []) from I.hok a _ h)
  exact ⟨o, es, ep, h1, h2.1, h3⟩
def rNeS : R2 := fun x y H Q => ∃ d t, Rep H x d ∧ y = .str t ∧ Q (.bl (!d.isS t)) H
theorem op_neS (hu : X.A.units < cLine) : OpR X (compareOp .NotEq) rNeS := by
  intro pins s σ H x y v u Q I rx ry h
  obtain ⟨d, t, hd, rfl, q⟩ := h
  obtain ⟨k, rfl⟩ := ry
  have fin : EP X pins σ Q (.bool (!d.isS t)) s := ⟨.bl _, H, I, rfl, q⟩
  cases hd with
  | non => cases rx; exact RcNeAt.none_str t k X.prog X.w _ _ fin
  | bl b => cases rx; exact RcNeAt.bool_str b t k X.prog X.w _ _ fin
  | int i => obtain ⟨j, rfl⟩ := rx; exact RcNeAt.int_str i j t k X.prog X.w _ _ fin
  | str z => obtain ⟨j, rfl⟩ := rx; exact RcNeAt.str_str z j t k X.prog X.w _ _ fin
  | @tup a vs ds ha hs =>
    cases rx
    obtain ⟨its, rv, tp, _⟩ := I.tuple ha.sq
    exact RcNeAt.tuple_str t k tp hu X.prog X.w _ _ fin
  | @lst a vs ds ha hs =>
    cases rx
    obtain ⟨its, rv, tp, _⟩ := I.list (.of ha)
    exact RcNeAt.list_str t k tp.isList hu X.prog X.w _ _ fin
  | dic ha => cases rx; exact ne_dict_str t k (dict_of I ha) hu X.prog X.w _ _ fin
end
theorem rv_neS {H : Hp} {x : V} {d : D} {t : Str} (r : Rep H x d) : RV rNeS x (.str t) H (.bl (!d.isS t)) := fun H1 e Q q => ⟨d, t, r.up e, rfl, q H1 (Ex.refl _)⟩
end Kx

set_option Elab.async false
set_option linter.all false
set_option maxRecDepth 100000
set_option maxHeartbeats 1000000
namespace Kx
open PySem PySem.Spec PyProof.Rows L2 Evl
/-! ## sizes -/
mutual
def D.Sz : D → Prop
  | .str s => s.length ≤ 1000
  | .tup ds => ds.length ≤ 1000 ∧ Szs ds
  | .lst ds => ds.length ≤ 1000 ∧ Szs ds
  | _ => True
def Szs : List D → Prop
  | [] => True
  | d :: r => d.Sz ∧ Szs r
end
theorem szD_of {d : D} (h : d.Sz) : szD d ≤ 1000 := by
  cases d <;> first | exact Nat.zero_le _ | (unfold D.Sz at h; exact h)
theorem Szs.get : ∀ {ds : List D} {j : Nat} {d : D}, Szs ds → ds[j]? = some d → d.Sz
  | [], _, _, _, h => by simp at h
  | x :: r, 0, d, h, e => by
    have := Option.some.inj e
    subst this
    unfold Szs at h
    exact h.1
  | x :: r, j + 1, d, h, e => by
    unfold Szs at h
    exact Szs.get (j := j) h.2 e
theorem Szs.mem {ds : List D} {d : D} (h : Szs ds) (m : d ∈ ds) : d.Sz := by
  obtain ⟨j, hj⟩ := List.mem_iff_getElem?.mp m
  exact h.get hj
theorem D.Sz.tup {ds : List D} (h : (D.tup ds).Sz) : ds.length ≤ 1000 ∧ Szs ds := by
  unfold D.Sz at h
  exact h
theorem not_t {b : Bool} (h : (!b) = true) : b = false := by cases b <;> first | rfl | cases h
theorem not_f {b : Bool} (h : (!b) = false) : b = true := by cases b <;> first | rfl | cases h
section
variable {K : PySem.W.Frag} {σ : L2.St} {H : Hp} {ta tb te tl : TE} {v x z : V}
theorem ev_sp {ok : OkF} (st : Stb ok) {ta : TA} {vs : List V} {E : XK} (h : EvA ta σ H vs) (k : ok vs H z) : Ev (tCall (spX ok) [] E ta) σ H z :=
  ev_call h (by rw [List.append_nil]; exact spv st k)
theorem s_ifX {D : Ends} {t : TT} {tu u : TS} {b : Bool} (h : EvT t σ H b) (h1 : b = true → ∀ H1, Ex H H1 → tu { D with nx := u D } σ H1) (h2 : b = false → ∀ H1, Ex H H1 → u D σ H1) : tSeq (tIfS t tu tNext) u D σ H := s_if h h1 h2
/-- a call whose last argument is a new tuple, a new list -/
theorem ev_spU {ok : OkF} {xs : List V} {E : XK} (ha : Ev ta σ H x) (hb : EvU tb σ H xs) (k : ∀ p H1, H1 p = some (.tup xs) → Ex H H1 → ok [x, .ref p] H1 z) : Ev (tCall (spX ok) [] E (tCons ta (tCons tb tNil))) σ H z :=
  fun H1 e Q q => ha H1 e _ fun H2 e2 => hb H2 (e.trans e2) _ fun p H3 _ e3 hp => ⟨z, k p H3 hp ((e.trans e2).trans e3), fun H4 e4 => q H4 ((e2.trans e3).trans e4)⟩
theorem ev_spL {ok : OkF} {xs : List V} {E : XK} (hb : EvL tb σ H xs) (k : ∀ p H1, H1 p = some (.lst xs) → Ex H H1 → ok [.ref p] H1 z) : Ev (tCall (spX ok) [] E (tCons tb tNil)) σ H z :=
  fun H1 e Q q => hb H1 e _ fun p H3 _ e3 hp => ⟨z, k p H3 hp (e.trans e3), fun H4 e4 => q H4 (e3.trans e4)⟩
theorem ev_ixT {a : Addr} {vs : List V} {j : Nat} (h : Ev ta σ H (.ref a)) (ha : TupS H a vs) (hj : vs[j]? = some v) : Ev (tOp (rIxT K) ta (tC (.int (j : Int)))) σ H v :=
  ev_op h ev_c (rv_ixT ha.sq (atI_nat hj))
/-- all([f(item) for item in a tuple]) -/
theorem ev_allT {i : Nat} {a : Addr} {vs : List V} {ds : List D} {f : D → Bool} (h : Ev tl σ H (.ref a)) (ha : TupS H a vs) (hs : Reps H vs ds) (hz : ds.length ≤ 1000)
    (hf : ∀ (j : Nat) (v : V) (d : D), ds[j]? = some d → Rep H v d → Ev te ((σ.set i none).set i (some v)) H (.bl (f d))) :
    Ev (tCB (rAll K) (tCons (tLc (iTup K tl) (gName i) tYes te [i]) tNil)) σ H (.bl (ds.all f)) := by
  refine ev_is (ev_all (bs := ds.map f) (el_lcT h ha.sq (by rw [List.length_map, List.length_map, hs.length]) (by rw [hs.length]; omega) fun j x y hx hy => ?_)) (by rw [List.all_map]; rfl)
  obtain ⟨d, hd, r⟩ := hs.get hx
  rw [List.getElem?_map, List.getElem?_map, hd] at hy
  have ey : y = .bl (f d) := (Option.some.inj hy).symm
  subst ey
  exact hf j x d hd r
end
/-! ## mirrors -/
def D.txt : D → Str
  | .str s => s
  | _ => Str.empty
def D.fst : D → D
  | .tup (x :: _) => x
  | _ => .non
def D.nms (d : D) (lo hi : Int) : Bool := match d with
  | .tup ds => (decide (lo ≤ (ds.length : Int)) && decide ((ds.length : Int) ≤ hi)) && (ds.all D.nm && decide ((ds.map D.txt).Nodup))
  | _ => false
def leafs : List Str := ["leaf", "gate"]
def D.dr (as : List Str) (d : D) : Bool := match d with
  | .tup [n, a, b, s] => (n.nm && (amD a as && amD b as)) && (!decide (a.txt = b.txt) && amD s leafs)
  | _ => false
def D.drs (as : List Str) (d : D) : Bool := match d with
  | .tup ds => (decide ((1 : Int) ≤ (ds.length : Int)) && decide ((ds.length : Int) ≤ 6)) && (ds.all (D.dr as) && decide ((ds.map fun x => x.fst.txt).Nodup))
  | _ => false
def D.rt (ns ks : List Str) (d : D) : Bool := match d with
  | .tup [k, n, s] => amD k ks && (amD n ns && isBetw s 0 1)
  | _ => false
theorem nms_tup (ds : List D) (lo hi : Int) : D.nms (.tup ds) lo hi = (isTup (.tup ds) lo hi && (ds.all D.nm && decide ((ds.map D.txt).Nodup))) := rfl
theorem dr_4 (as : List Str) (n a b s : D) : D.dr as (.tup [n, a, b, s]) = ((n.nm && (amD a as && amD b as)) && (!decide (a.txt = b.txt) && amD s leafs)) := rfl
theorem nm_str : ∀ {d : D}, d.nm = true → d = .str d.txt
  | .str s, _ => rfl
  | .non, h | .bl _, h | .tup _, h | .int _, h | .lst _, h | .dic, h => by simp [D.nm] at h
theorem am_str : ∀ {d : D} {ns : List Str}, amD d ns = true → d = .str d.txt ∧ d.txt ∈ ns
  | .str s, ns, h => ⟨rfl, amg_iff.mp h⟩
  | .non, _, h | .bl _, _, h | .tup _, _, h | .int _, _, h | .lst _, _, h | .dic, _, h => by simp [amD] at h
theorem all_nm {ds : List D} (h : ds.all D.nm = true) : ds = (ds.map D.txt).map D.str := by
  rw [List.map_map]
  have : ∀ d ∈ ds, (D.str ∘ D.txt) d = d := fun d hd => (nm_str (List.all_eq_true.mp h d hd)).symm
  exact (List.map_id ds).symm.trans (List.map_congr_left fun d hd => (this d hd).symm)
def okNames : OkF := fun vs H z => ∃ v d lo hi, vs = [v, .int lo, .int hi] ∧ Rep H v d ∧ d.Sz ∧ z = .bl (d.nms lo hi)
def okDoor : OkF := fun vs H z => ∃ v d a as, vs = [v, .ref a] ∧ Rep H v d ∧ d.Sz ∧ Txs H a as ∧ z = .bl (d.dr as)
theorem stb_names : Stb okNames := fun _ _ _ _ e ⟨v, d, lo, hi, h1, h2, h3⟩ => ⟨v, d, lo, hi, h1, h2.up e, h3⟩
theorem stb_door : Stb okDoor := fun _ _ _ _ e ⟨v, d, a, as, h1, h2, h3, h4, h5⟩ => ⟨v, d, a, as, h1, h2.up e, h3, h4.up e, h5⟩
section
variable {P : Program} {w : World} {K : PySem.W.Frag} {mg : Str → Option Value} {base : Heap} (T : Txt K mg)
theorem ok_are_names : FnOk P w K mg base CX0 2 T.a_are_names T.d_are_names ["value", "least", "most"] (spX okNames) := by
  refine T.F_are_names.ok sc_are_names (fun vs H Q E h => ?_) (fun cdv A outer s H vs Q E hr h => ?_)
  · obtain ⟨z, ⟨v, d, lo, hi, rfl, _⟩, _⟩ := h
    rfl
  · obtain ⟨z, ⟨v, d, lo, hi, rfl, hv, hz, rfl⟩, q⟩ := h
    refine ⟨_, pss_cons (ps_if (pt_not (pt_val (pe_call (ok_is_tuple T) hr (by rfl) T.g_is_tuple T.F_is_tuple.kp (b_is_tuple T) .nil pass0 (pa_cons (pv 0) (pa_cons (pv 1) (pa_cons (pv 2) pa_nil))))))
        (pss_one (ps_ret pe_bl)) pss_nil)
      (pss_one (ps_ret (pe_and (pe_callB (cr_all rfl) (by rfl) T.z_all bo_all (pa_cons (pe_lc (own := [("item", 3)]) (g := gName 3) (tt := tYes) (by rfl) sc_are_names.nd (pi_tup (pv 0)) (blkOk_by (N := ["value", "least", "most", "item"]) (sc := defScope s_are_names) (by decide +kernel))
          (fun _ _ _ _ _ => pg_name (i := 3) sc_are_names.nd rfl (.inl rfl)) (fun _ _ _ _ _ => pts_nil) (fun _ _ _ _ _ => pe_call (ok_is_name T) hr (by rfl) T.g_is_name T.F_is_name.kp (b_is_name T) .nil pass0 (pa_cons (pv 3) pa_nil))) pa_nil))
        (pe_one (pe_call (ok_are_unlike T) hr (by rfl) T.g_are_unlike T.F_are_unlike.kp (b_are_unlike T) .nil pass0 (pa_cons (pv 0) pa_nil)))))), ?_⟩
    refine s_ifX (b := !isTup d lo hi) (et_not (et_B (ev_sp stb_tup (ea_cons (ev_var rfl) (ea_cons (ev_var rfl) (ea_cons (ev_var rfl) ea_nil))) ⟨v, d, lo, hi, rfl, hv, rfl⟩))) (fun hb H1 e => ?_) (fun hb H1 e => ?_)
    · refine s_ret (v := .bl false) ev_c fun H2 e2 => ?_
      have z : d.nms lo hi = false := by
        have hb' : isTup d lo hi = false := by simpa using hb
        cases d with
        | tup ds => rw [nms_tup, hb']; rfl
        | _ => rfl
      rw [z] at q
      exact q H2 (e.trans e2)
    · have hb' : isTup d lo hi = true := by simpa using hb
      cases d with
      | tup ds =>
        obtain ⟨a, vs, rfl, ha, hs⟩ := hv.tupD
        have hl := hz.tup.1
        refine s_ret (v := .bl ((D.tup ds).nms lo hi)) ?_ fun H2 e2 => ?_
        rotate_left
        · exact q H2 (e.trans e2)
        refine ev_is (ev_andV (a := ds.all D.nm) (b := decide ((ds.map D.txt).Nodup)) (ev_allT (ev_var rfl) (ha.up e) (hs.up e) hl fun j x d hd r => ?_) fun hall => ?_) (by rw [nms_tup, hb']; rfl)
        · exact ev_sp stb_name (ea_cons (ev_var rfl) ea_nil) ⟨x, d, rfl, r, szD_of (hz.tup.2.get hd), rfl⟩
        · have hds := all_nm hall
          refine ev_sp stb_unlike (ea_cons (ev_var rfl) ea_nil) ⟨a, ds.map D.txt, rfl, .inr ?_, by rw [List.length_map]; exact hl, rfl⟩
          have hs' := hs.up e
          rw [hds] at hs'
          rw [← strs_of_reps hs']
          exact (ha.up e).rd
      | _ => exact absurd hb' (by unfold isTup; exact Bool.false_ne_true)
theorem ok_is_door : FnOk P w K mg base CX0 2 T.a_is_door T.d_is_door ["value", "areas"] (spX okDoor) := by
  refine T.F_is_door.ok sc_is_door (fun vs H Q E h => ?_) (fun cdv A outer s H vs Q E hr h => ?_)
  · obtain ⟨z, ⟨v, d, a, as, rfl, _⟩, _⟩ := h
    rfl
  · obtain ⟨z, ⟨v, d, ar, as, rfl, hv, hz, has, rfl⟩, q⟩ := h
    refine ⟨_, pss_cons (ps_if (PW.pt (pw_or (pt_not (pt_val (pe_call (ok_is_tuple T) hr (by rfl) T.g_is_tuple T.F_is_tuple.kp (b_is_tuple T) .nil pass0 (pa_cons (pv 0) (pa_cons pe_int (pa_cons pe_int pa_nil))))))
          (pw_or1 (pt_not (pt_val (pe_call (ok_is_name T) hr (by rfl) T.g_is_name T.F_is_name.kp (b_is_name T) .nil pass0 (pa_cons (pe_ix ix_tup (pv 0) pe_int (fun _ _ => rfl)) pa_nil)))))))
        (pss_one (ps_ret pe_bl)) pss_nil)
      (pss_cons (ps_if (PW.pt (pw_or (pt_not (pt_val (pe_call (ok_is_among T) hr (by rfl) T.g_is_among T.F_is_among.kp (b_is_among T) .nil pass0 (pa_cons (pe_ix ix_tup (pv 0) pe_int (fun _ _ => rfl)) (pa_cons (pv 1) pa_nil)))))
          (pw_or1 (pt_not (pt_val (pe_call (ok_is_among T) hr (by rfl) T.g_is_among T.F_is_among.kp (b_is_among T) .nil pass0 (pa_cons (pe_ix ix_tup (pv 0) pe_int (fun _ _ => rfl)) (pa_cons (pv 1) pa_nil))))))))
        (pss_one (ps_ret pe_bl)) pss_nil)
      (pss_one (ps_ret (pe_and (pe_cmpR op_ne (pe_ix ix_tup (pv 0) pe_int (fun _ _ => rfl)) (pe_ix ix_tup (pv 0) pe_int (fun _ _ => rfl)) (nomark _))
        (pe_one (pe_call (ok_is_among T) hr (by rfl) T.g_is_among T.F_is_among.kp (b_is_among T) .nil pass0 (pa_cons (pe_ix ix_tup (pv 0) pe_int (fun _ _ => rfl)) (pa_cons (pe_tup (pa_cons pe_str (pa_cons pe_str pa_nil))) pa_nil)))))))), ?_⟩
    by_cases ht : isTup d 4 4 = true
    · cases d with
      | tup ds =>
        obtain ⟨a, vs, rfl, ha, hs⟩ := hv.tupD
        have hl4 : ds.length = 4 := by
          unfold isTup at ht
          have h2 := (Bool.and_eq_true _ _).mp ht
          have h3 := of_decide_eq_true h2.1
          have h4 := of_decide_eq_true h2.2
          omega
        match ds, hl4 with
        | [n, d1, d2, d3], _ =>
        cases hs with
        | cons r0 hs => cases hs with
          | cons r1 hs => cases hs with
            | cons r2 hs => cases hs with
              | cons r3 hs =>
                cases hs
                rename_i v0 v1 v2 v3
                have z0 := hz.tup.2.get (j := 0) rfl
                refine s_ifX (b := !n.nm) ?_ (fun hb H1 e => ?_) (fun hb H1 e => ?_)
                · refine et_is (et_or (a := false) (b := !n.nm) (et_is (et_not (et_B (ev_sp stb_tup (ea_cons (ev_var rfl) (ea_cons ev_c (ea_cons ev_c ea_nil))) ⟨_, _, 4, 4, rfl, hv, rfl⟩))) (by rw [ht]; rfl)) fun _ => ?_) (Bool.false_or _)
                  exact et_not (et_B (ev_sp stb_name (ea_cons (ev_ixT (j := 0) (ev_var rfl) ha rfl) ea_nil) ⟨v0, n, rfl, r0, szD_of z0, rfl⟩))
                · refine s_ret (v := .bl false) ev_c fun H2 e2 => ?_
                  have hb' : n.nm = false := by simpa using hb
                  rw [dr_4, hb'] at q
                  exact q H2 (e.trans e2)
                · have hb' : n.nm = true := by simpa using hb
                  have A0 : D.dr as (.tup [n, d1, d2, d3]) = ((amD d1 as && amD d2 as) && (!decide (d1.txt = d2.txt) && amD d3 leafs)) := by rw [dr_4, hb']; rfl
                  rw [A0] at q
                  refine s_ifX (b := !(amD d1 as && amD d2 as)) ?_ (fun hb2 H2 e2 => ?_) (fun hb2 H2 e2 => ?_)
                  · refine et_is (et_or (et_not (et_B (ev_sp stb_among (ea_cons (ev_ixT (j := 1) (ev_var rfl) (ha.up e) rfl) (ea_cons (ev_var rfl) ea_nil)) ⟨v1, d1, ar, as, rfl, r1.up e, has.up e, rfl⟩))) fun _ =>
                      et_not (et_B (ev_sp stb_among (ea_cons (ev_ixT (j := 2) (ev_var rfl) (ha.up e) rfl) (ea_cons (ev_var rfl) ea_nil)) ⟨v2, d2, ar, as, rfl, r2.up e, has.up e, rfl⟩))) (Bool.not_and _ _).symm
                  · refine s_ret (v := .bl false) ev_c fun H3 e3 => ?_
                    have hb3 : (amD d1 as && amD d2 as) = false := not_t hb2
                    rw [hb3] at q
                    exact q H3 ((e.trans e2).trans e3)
                  · have hb3 : (amD d1 as && amD d2 as) = true := not_f hb2
                    rw [hb3] at q
                    have E := e.trans e2
                    obtain ⟨h1, h2⟩ := (Bool.and_eq_true _ _).mp hb3
                    obtain ⟨t1, _⟩ := am_str h1
                    obtain ⟨t2, _⟩ := am_str h2
                    rw [t1] at r1
                    rw [t2] at r2
                    obtain rfl := r1.strD
                    obtain rfl := r2.strD
                    refine s_ret (v := .bl (!decide (d1.txt = d2.txt) && amD d3 leafs)) (ev_andV (ev_is (ev_op (ev_ixT (j := 1) (ev_var rfl) (ha.up E) rfl) (ev_ixT (j := 2) (ev_var rfl) (ha.up E) rfl) (rv_ne rfl)) ?_) fun _ => ?_) fun H3 e3 => ?_
                    rotate_left 2
                    · exact q H3 (E.trans e3)
                    · rw [decide_eq_decide.mpr (⟨V.str.inj, fun h => h ▸ rfl⟩ : (V.str d1.txt = V.str d2.txt) ↔ d1.txt = d2.txt)]
                    · exact ev_spU (ev_ixT (j := 3) (ev_var rfl) (ha.up E) rfl) (eu_tup (ea_cons ev_c (ea_cons ev_c ea_nil)) (by decide)) fun p H4 hp e4 => ⟨v3, d3, p, leafs, rfl, r3.up (E.trans e4), .inr (.inl hp), rfl⟩
      | _ => exact absurd ht (by unfold isTup; exact Bool.false_ne_true)
    · have ht' : isTup d 4 4 = false := by simpa using ht
      refine s_ifX (b := true) (et_is (et_or (b := false) (et_is (et_not (et_B (ev_sp stb_tup (ea_cons (ev_var rfl) (ea_cons ev_c (ea_cons ev_c ea_nil))) ⟨_, d, 4, 4, rfl, hv, rfl⟩))) (by rw [ht']; rfl : _ = true)) fun h => by cases h) rfl) (fun hb H1 e => ?_) (fun hb => by cases hb)
      refine s_ret (v := .bl false) ev_c fun H2 e2 => ?_
      have z : d.dr as = false := by
        cases d with
        | tup ds =>
          match ds, ht' with
          | [_, _, _, _], h => exact absurd h (by simp [isTup])
          | [], _ | [_], _ | [_, _], _ | [_, _, _], _ | _ :: _ :: _ :: _ :: _ :: _, _ => rfl
        | _ => rfl
      rw [z] at q
      exact q H2 (e.trans e2)
end
end Kx

set_option Elab.async false
set_option linter.all false
set_option maxRecDepth 100000
set_option maxHeartbeats 1000000
namespace Kx
open PySem PySem.Spec PyProof.Rows L2 Evl
section
variable {K : PySem.W.Frag} {σ : L2.St} {H : Hp} {ta tb te tl : TE} {v x z : V}
/-- [te for i in range(n)] -/
theorem el_lcR {i : Nat} {ra : TA} {n : Int} {ys : List V} (h : EvA ra σ H [.int n]) (hl : ys.length = n.toNat) (hz : n ≤ 10000) (hz0 : -10000 ≤ n)
    (hy : ∀ (j : Nat) (y : V), ys[j]? = some y → Ev te ((σ.set i none).set i (some (.int (0 + (j : Int))))) H y) : EvL (tLc (iRng1 ra) (gName i) tYes te [i]) σ H ys := fun H1 e Q q =>
  h H1 e _ fun H2 e2 => ⟨n, rfl, by omega, by omega, fun D hD =>
    lc_range (lo := 0) (n := n.toNat) (fun j H' => Ex H2 H' ∧ H' D = some (.lst (ys.take j))) ⟨Ex.new hD, upd_same⟩
      (fun j H' hj p => ⟨by show (((σ.set i none).set i (some (.int (0 + (j : Int))))).set i none) = (σ.set i none); rw [List.set_set, List.set_set], by
        have hlt2 : j < ys.length := by omega
        have gy : ys[j]? = some ys[j] := List.getElem?_eq_getElem hlt2
        refine hy j _ gy H' ((e.trans e2).trans p.1) _ fun H3 e3 => ⟨ys.take j, e3 _ _ p.2, ?_, (p.1.trans e3).mut hD, ?_⟩
        · rw [List.length_take]
          exact sz_lt (Nat.lt_of_le_of_lt (Nat.min_le_right _ _) (by omega))
        · rw [upd_same, List.take_add_one, gy]
          rfl⟩)
      (fun H' p => q D H' (fresh_back e2 hD) (e2.trans p.1) (by rw [p.2, List.take_of_length_le (by omega)]))⟩
theorem ev_ixL {a : Addr} {vs : List V} {j : Nat} {k : Int} (h : Ev ta σ H (.ref a)) (hk : Ev tb σ H (.int k)) (ha : H a = some (.lst vs)) (e : k = (j : Int)) (hj : vs[j]? = some v) : Ev (tOp (rIxL K) ta tb) σ H v :=
  ev_op h hk (rv_ixL (.of ha) (by rw [e]; exact atI_nat hj))
end
/-! ## rows of numbers -/
def itup (t : List Int) : D := .tup (t.map D.int)
theorem reps_ints {H : Hp} : ∀ {t : List Int} {vs : List V}, Reps H vs (t.map D.int) → vs = t.map V.int
  | [], _, .nil => rfl
  | i :: r, _, .cons h t => by
    cases h
    rw [reps_ints t]
    rfl
theorem reps_of_ints {H : Hp} : ∀ t : List Int, Reps H (t.map V.int) (t.map D.int)
  | [] => .nil
  | i :: r => .cons (.int i) (reps_of_ints r)
theorem itup_at {H : Hp} {v : V} {t : List Int} (r : Rep H v (itup t)) : ∃ a, v = .ref a ∧ TupS H a (t.map V.int) := by
  obtain ⟨a, vs, h1, h2, h3⟩ := r.tupD
  rw [reps_ints h3] at h2
  exact ⟨a, h1, h2⟩
def ascB (ts : List (List Int)) : List Bool := (List.range (ts.length - 1)).map fun j => HT.lexLt (ts.getD j []) (ts.getD (j + 1) [])
def ascT (ts : List (List Int)) : Bool := (ascB ts).all id
def okAsc : OkF := fun vs H z => ∃ a us ts, vs = [.ref a] ∧ H a = some (.lst us) ∧ Reps H us (ts.map itup) ∧ ts.length ≤ 1000 ∧ z = .bl (ascT ts)
theorem stb_asc : Stb okAsc := fun _ _ _ _ e ⟨a, us, ts, h1, h2, h3, h4, h5⟩ => ⟨a, us, ts, h1, e _ _ h2, h3.up e, h4, h5⟩
def okDoors : OkF := fun vs H z => ∃ v d a as, vs = [v, .ref a] ∧ Rep H v d ∧ d.Sz ∧ Txs H a as ∧ z = .bl (d.drs as)
def okRight : OkF := fun vs H z => ∃ v d a ns b ks, vs = [v, .ref a, .ref b] ∧ Rep H v d ∧ Txs H a ns ∧ Txs H b ks ∧ z = .bl (d.rt ns ks)
theorem stb_doors : Stb okDoors := fun _ _ _ _ e ⟨v, d, a, as, h1, h2, h3, h4, h5⟩ => ⟨v, d, a, as, h1, h2.up e, h3, h4.up e, h5⟩
theorem stb_right : Stb okRight := fun _ _ _ _ e ⟨v, d, a, ns, b, ks, h1, h2, h3, h4, h5⟩ => ⟨v, d, a, ns, b, ks, h1, h2.up e, h3.up e, h4.up e, h5⟩
theorem drs_tup (as : List Str) (ds : List D) : D.drs as (.tup ds) = (isTup (.tup ds) 1 6 && (ds.all (D.dr as) && decide ((ds.map fun x => x.fst.txt).Nodup))) := rfl
theorem dr_shape {as : List Str} : ∀ {d : D}, d.dr as = true → ∃ n a b s, d = .tup [.str n, .str a, .str b, .str s] ∧ nmS n = true ∧ a ∈ as ∧ b ∈ as ∧ a ≠ b ∧ s ∈ leafs
  | .tup [n, a, b, s], h => by
    rw [dr_4] at h
    simp only [Bool.and_eq_true] at h
    obtain ⟨⟨h1, h2, h3⟩, h4, h5⟩ := h
    obtain ⟨ea, ma⟩ := am_str h2
    obtain ⟨eb, mb⟩ := am_str h3
    obtain ⟨es, ms⟩ := am_str h5
    have en := nm_str h1
    refine ⟨n.txt, a.txt, b.txt, s.txt, by rw [← ea, ← eb, ← es, ← en], ?_, ma, mb, ?_, ms⟩
    · rw [en] at h1
      exact h1
    · intro q
      rw [decide_eq_true q] at h4
      cases h4
  | .tup [], h | .tup [_], h | .tup [_, _], h | .tup [_, _, _], h | .tup (_ :: _ :: _ :: _ :: _ :: _), h => by simp [D.dr] at h
  | .non, h | .bl _, h | .str _, h | .int _, h | .lst _, h | .dic, h => by simp [D.dr] at h
section
variable {P : Program} {w : World} {K : PySem.W.Frag} {mg : Str → Option Value} {base : Heap} (T : Txt K mg)
theorem ok_is_ascending : FnOk P w K mg base CX0 1 T.a_is_ascending T.d_is_ascending ["row"] (spX okAsc) := by
  refine T.F_is_ascending.ok sc_is_ascending (fun vs H Q E h => ?_) (fun cdv A outer s H vs Q E hr h => ?_)
  · obtain ⟨z, ⟨a, us, ts, rfl, _⟩, _⟩ := h
    rfl
  · obtain ⟨z, ⟨a, us, ts, rfl, ha, hs, hz, rfl⟩, q⟩ := h
    refine ⟨_, pss_one (ps_ret (pe_callB (cr_all rfl) (by rfl) T.z_all bo_all (pa_cons (pe_lc (own := [("at", 1)]) (g := gName 1) (tt := tYes) (by rfl) sc_is_ascending.nd
        (pi_range1 (by rfl) T.z_range (pa_cons (pe_op op_sub (pe_callB call_len_seq (by rfl) T.z_len bo_len (pa_cons (pv 0) pa_nil)) pe_int) pa_nil)) (blkOk_by (N := ["row", "at"]) (sc := defScope s_is_ascending) (by decide +kernel))
        (fun _ _ _ _ _ => pg_name (i := 1) sc_is_ascending.nd rfl (.inl rfl)) (fun _ _ _ _ _ => pts_nil)
        (fun _ _ _ _ _ => pe_cmpR (r := rLtT K) (op_ltT hr.units0) (pe_ix (r := rIxL K) ix_list (pv 0) (pv 1) (fun _ _ => rfl)) (pe_ix (r := rIxL K) ix_list (pv 0) (pe_op op_add (pv 1) pe_int) (fun _ _ => rfl)) (nomark _))) pa_nil))), ?_⟩
    have hl : us.length = ts.length := by rw [hs.length, List.length_map]
    refine s_ret (v := .bl (ascT ts)) (ev_all (bs := ascB ts) (el_lcR (n := (us.length : Int) - 1) (ea_cons (ev_op (ev_lenT (ev_var rfl) (.inl ha)) ev_c rv_I0) ea_nil) ?_ (by omega) (by omega) fun j y hy => ?_)) q
    · unfold ascB
      rw [List.length_map, List.length_map, List.length_range]
      omega
    · have hj : j < ts.length - 1 := by
        have := (List.getElem?_eq_some_iff.mp hy).1
        unfold ascB at this
        rw [List.length_map, List.length_map, List.length_range] at this
        exact this
      have ey : y = .bl (HT.lexLt (ts.getD j []) (ts.getD (j + 1) [])) := by
        unfold ascB at hy
        rw [List.getElem?_map, List.getElem?_map, List.getElem?_range hj] at hy
        exact (Option.some.inj hy).symm
      subst ey
      have at_ : ∀ k, k < ts.length → ∃ p, us[k]? = some (.ref p) ∧ TupS H p ((ts.getD k []).map V.int) := fun k hk => by
        have e1 : (ts.map itup)[k]? = some (itup (ts.getD k [])) := by
          rw [List.getElem?_map, List.getElem?_eq_getElem hk, List.getD_eq_getElem?_getD, List.getElem?_eq_getElem hk]
          rfl
        obtain ⟨v, hv, r⟩ := hs.getD e1
        obtain ⟨p, rfl, hp⟩ := itup_at r
        exact ⟨p, hv, hp⟩
      obtain ⟨p, hp1, hp2⟩ := at_ j (by omega)
      obtain ⟨r, hr1, hr2⟩ := at_ (j + 1) (by omega)
      refine ev_op (ev_ixL (j := j) (ev_var rfl) (ev_var rfl) ha (by omega) hp1) (ev_ixL (j := j + 1) (k := 0 + (j : Int) + 1) (ev_var rfl) (ev_op (ev_var rfl) ev_c rv_I0) ha (by omega) hr1) ?_
      exact fun H1 e Q k => ⟨p, r, _, _, rfl, rfl, (hp2.up e).sq, (hr2.up e).sq, k H1 (Ex.refl _)⟩
theorem ok_are_doors : FnOk P w K mg base CX0 3 T.a_are_doors T.d_are_doors ["value", "areas"] (spX okDoors) := by
  refine T.F_are_doors.ok sc_are_doors (fun vs H Q E h => ?_) (fun cdv A outer s H vs Q E hr h => ?_)
  · obtain ⟨z, ⟨v, d, a, as, rfl, _⟩, _⟩ := h
    rfl
  · obtain ⟨z, ⟨v, d, ar, as, rfl, hv, hz, has, rfl⟩, q⟩ := h
    have hr1 : Room 1 (A.deeper (envOfC "are_doors" (defScope s_are_doors) s.heap.objs.size T.a_are_doors cdv)) := hr.mono (by decide)
    refine ⟨_, pss_cons (ps_if (PW.pt (pw_or (pt_not (pt_val (pe_call (ok_is_tuple T) hr1 (by rfl) T.g_is_tuple T.F_is_tuple.kp (b_is_tuple T) .nil pass0 (pa_cons (pv 0) (pa_cons pe_int (pa_cons pe_int pa_nil))))))
          (pw_or1 (pt_not (pt_val (pe_callB (cr_all rfl) (by rfl) T.z_all bo_all (pa_cons (pe_lc (own := [("item", 2)]) (g := gName 2) (tt := tYes) (by rfl) sc_are_doors.nd (pi_tup (pv 0)) (blkOk_by (N := ["value", "areas", "item"]) (sc := defScope s_are_doors) (by decide +kernel))
            (fun _ _ _ _ _ => pg_name (i := 2) sc_are_doors.nd rfl (.inl rfl)) (fun _ _ _ _ _ => pts_nil) (fun _ _ _ _ _ => pe_call (ok_is_door T) hr (by rfl) T.g_is_door T.F_is_door.kp (b_is_door T) .nil pass0 (pa_cons (pv 2) (pa_cons (pv 1) pa_nil)))) pa_nil)))))))
        (pss_one (ps_ret pe_bl)) pss_nil)
      (pss_one (ps_ret (pe_call (ok_are_unlike T) hr1 (by rfl) T.g_are_unlike T.F_are_unlike.kp (b_are_unlike T) .nil pass0 (pa_cons (pe_lc (own := [("item", 2)]) (g := gName 2) (tt := tYes) (by rfl) sc_are_doors.nd (pi_tup (pv 0)) (blkOk_by (N := ["value", "areas", "item"]) (sc := defScope s_are_doors) (by decide +kernel))
            (fun _ _ _ _ _ => pg_name (i := 2) sc_are_doors.nd rfl (.inl rfl)) (fun _ _ _ _ _ => pts_nil) (fun _ _ _ _ _ => pe_ix (r := rIxT K) ix_tup (pv 2) pe_int (fun _ _ => rfl))) pa_nil)))), ?_⟩
    by_cases ht : isTup d 1 6 = true
    · cases d with
      | tup ds =>
        obtain ⟨a, vs, rfl, ha, hs⟩ := hv.tupD
        have hl := hz.tup.1
        rw [drs_tup, ht, Bool.true_and] at q
        refine s_ifX (b := !ds.all (D.dr as)) ?_ (fun hb H1 e => ?_) (fun hb H1 e => ?_)
        · refine et_is (et_or (a := false) (b := !ds.all (D.dr as)) (et_is (et_not (et_B (ev_sp stb_tup (ea_cons (ev_var rfl) (ea_cons ev_c (ea_cons ev_c ea_nil))) ⟨_, _, 1, 6, rfl, hv, rfl⟩))) (by rw [ht]; rfl)) fun _ => ?_) (Bool.false_or _)
          exact et_not (et_B (ev_allT (ev_var rfl) ha hs hl fun j x d hd r => ev_sp stb_door (ea_cons (ev_var rfl) (ea_cons (ev_var rfl) ea_nil)) ⟨x, d, ar, as, rfl, r, hz.tup.2.get hd, has, rfl⟩))
        · rw [not_t hb] at q
          exact s_ret (v := .bl false) ev_c fun H2 e2 => q H2 (e.trans e2)
        · have hall := not_f hb
          rw [hall, Bool.true_and] at q
          refine s_ret (v := .bl (decide ((ds.map fun x => x.fst.txt).Nodup))) (ev_spL (xs := sv (ds.map fun x => x.fst.txt)) (el_lcT (ev_var rfl) (ha.up e).sq ?_ (by rw [hs.length]; omega) fun j x y hx hy => ?_) fun p H2 hp e2 => ⟨p, _, rfl, .inl hp, by rw [List.length_map]; exact hl, rfl⟩) fun H2 e2 => q H2 (e.trans e2)
          · unfold sv
            rw [List.length_map, List.length_map, hs.length]
          · obtain ⟨d, hd, r⟩ := hs.get hx
            obtain ⟨n, a1, b1, s1, rfl, _⟩ := dr_shape (List.all_eq_true.mp hall d (List.mem_of_getElem? hd))
            unfold sv at hy
            rw [List.getElem?_map, List.getElem?_map, hd] at hy
            have ey : y = .str n := (Option.some.inj hy).symm
            subst ey
            obtain ⟨b, ws, rfl, hb2, hs2⟩ := r.tupD
            cases hs2 with
            | cons r0 _ =>
              obtain rfl := r0.strD
              exact ev_ixT (j := 0) (ev_var rfl) (hb2.up e) rfl
      | _ => exact absurd ht (by unfold isTup; exact Bool.false_ne_true)
    · have ht' : isTup d 1 6 = false := by simpa using ht
      refine s_ifX (b := true) (et_is (et_or (b := false) (et_is (et_not (et_B (ev_sp stb_tup (ea_cons (ev_var rfl) (ea_cons ev_c (ea_cons ev_c ea_nil))) ⟨_, d, 1, 6, rfl, hv, rfl⟩))) (by rw [ht']; rfl : _ = true)) fun h => by cases h) rfl) (fun hb H1 e => ?_) (fun hb => by cases hb)
      refine s_ret (v := .bl false) ev_c fun H2 e2 => ?_
      have z : d.drs as = false := by
        cases d with
        | tup ds => rw [drs_tup, ht']; rfl
        | _ => rfl
      rw [z] at q
      exact q H2 (e.trans e2)
theorem ok_is_right : FnOk P w K mg base CX0 2 T.a_is_right T.d_is_right ["value", "names", "kinds"] (spX okRight) := by
  refine T.F_is_right.ok sc_is_right (fun vs H Q E h => ?_) (fun cdv A outer s H vs Q E hr h => ?_)
  · obtain ⟨z, ⟨v, d, a, ns, b, ks, rfl, _⟩, _⟩ := h
    rfl
  · obtain ⟨z, ⟨v, d, a, ns, b, ks, rfl, hv, hns, hks, rfl⟩, q⟩ := h
    refine ⟨_, pss_cons (ps_if (pt_not (pt_val (pe_call (ok_is_tuple T) hr (by rfl) T.g_is_tuple T.F_is_tuple.kp (b_is_tuple T) .nil pass0 (pa_cons (pv 0) (pa_cons pe_int (pa_cons pe_int pa_nil))))))
        (pss_one (ps_ret pe_bl)) pss_nil)
      (pss_one (ps_ret (pe_and (pe_call (ok_is_among T) hr (by rfl) T.g_is_among T.F_is_among.kp (b_is_among T) .nil pass0 (pa_cons (pe_ix ix_tup (pv 0) pe_int (fun _ _ => rfl)) (pa_cons (pv 2) pa_nil)))
        (pe_and (pe_call (ok_is_among T) hr (by rfl) T.g_is_among T.F_is_among.kp (b_is_among T) .nil pass0 (pa_cons (pe_ix ix_tup (pv 0) pe_int (fun _ _ => rfl)) (pa_cons (pv 1) pa_nil)))
        (pe_one (pe_call (ok_is_between T) hr (by rfl) T.g_is_between T.F_is_between.kp (b_is_between T) .nil pass0 (pa_cons (pe_ix ix_tup (pv 0) pe_int (fun _ _ => rfl)) (pa_cons pe_int (pa_cons pe_int pa_nil))))))))), ?_⟩
    refine s_ifX (b := !isTup d 3 3) (et_not (et_B (ev_sp stb_tup (ea_cons (ev_var rfl) (ea_cons ev_c (ea_cons ev_c ea_nil))) ⟨v, d, 3, 3, rfl, hv, rfl⟩))) (fun hb H1 e => ?_) (fun hb H1 e => ?_)
    · have hb' := not_t hb
      refine s_ret (v := .bl false) ev_c fun H2 e2 => ?_
      have z : d.rt ns ks = false := by
        cases d with
        | tup ds =>
          match ds, hb' with
          | [_, _, _], h => exact absurd h (by simp [isTup])
          | [], _ | [_], _ | [_, _], _ | _ :: _ :: _ :: _ :: _, _ => rfl
        | _ => rfl
      rw [z] at q
      exact q H2 (e.trans e2)
    · have hb' := not_f hb
      cases d with
      | tup ds =>
        obtain ⟨p, vs, rfl, ha, hs⟩ := hv.tupD
        have hl3 : ds.length = 3 := by
          unfold isTup at hb'
          have h2 := (Bool.and_eq_true _ _).mp hb'
          have h3 := of_decide_eq_true h2.1
          have h4 := of_decide_eq_true h2.2
          omega
        match ds, hl3 with
        | [d0, d1, d2], _ =>
        cases hs with
        | cons r0 hs => cases hs with
          | cons r1 hs => cases hs with
            | cons r2 hs =>
              cases hs
              rename_i v0 v1 v2
              refine s_ret (v := .bl (amD d0 ks && (amD d1 ns && isBetw d2 0 1))) (ev_andV ?_ fun _ => ev_andV ?_ fun _ => ?_) fun H2 e2 => ?_
              · exact ev_sp stb_among (ea_cons (ev_ixT (j := 0) (ev_var rfl) (ha.up e) rfl) (ea_cons (ev_var rfl) ea_nil)) ⟨v0, d0, b, ks, rfl, r0.up e, hks.up e, rfl⟩
              · exact ev_sp stb_among (ea_cons (ev_ixT (j := 1) (ev_var rfl) (ha.up e) rfl) (ea_cons (ev_var rfl) ea_nil)) ⟨v1, d1, a, ns, rfl, r1.up e, hns.up e, rfl⟩
              · exact ev_sp stb_betw (ea_cons (ev_ixT (j := 2) (ev_var rfl) (ha.up e) rfl) (ea_cons ev_c (ea_cons ev_c ea_nil))) ⟨v2, d2, 0, 1, rfl, r2.up e, rfl⟩
              · exact q H2 (e.trans e2)
      | _ => exact absurd hb' (by unfold isTup; exact Bool.false_ne_true)
end
end Kx

set_option Elab.async false
set_option linter.all false
set_option maxRecDepth 100000
set_option maxHeartbeats 1000000
namespace Kx
open PySem PySem.Spec PyProof.Rows L2 Evl
/-! ## tuples whose object is known -/
/-- a new tuple, its object known -/
def newT (xs : List V) (H : Hp) (Q : VK) : Prop := ∀ (p : Addr) (o : Obj), H p = none → o.dict = none → Q (.ref p) (upd H p (.frz o (.tup xs)))
section
variable {X : Cx}
theorem laid_T {pins : List (Addr × Obj)} {σ : L2.St} {H : Hp} {s : Shared} {xs : List V} {us : List Value} {Q : VK} {h' : Heap} {t' : Nat} (I : Inv X pins σ H { s with heap := h' }) (r : Vals xs us) (hz : xs.length ≤ sizeLine) (q : newT xs H Q) :
    EP X pins σ Q (.ref h'.objs.size) { s with heap := h'.push { cls := .type "tuple", data := .seq us.toArray }, toks := t' } := by
  have hg : (h'.push { cls := .type "tuple", data := .seq us.toArray }).get? h'.objs.size = some { cls := .type "tuple", data := .seq us.toArray } := Heap.get?_push_size _ rfl
  exact ⟨.ref h'.objs.size, _, I.laid (t' := t') (o := .frz { cls := .type "tuple", data := .seq us.toArray } (.tup xs)) (fun b ob e => Heap.get?_push_of_some _ e) (Nat.le_refl _) ⟨hg, hz, us, r, ⟨_, hg, rfl, _, rfl⟩⟩, rfl, q _ _ (I.hok.fresh (Nat.le_refl _)) rfl⟩
def tTupF (t : TA) : TE := fun σ H Q => t σ H fun xs H1 => xs.length ≤ sizeLine ∧ newT xs H1 Q
theorem pe_tupF {es : List Expr} {t : TA} {k : Nat} {pos : Pos} (h : PA X es t) : PE X (.Tuple es k pos) (tTupF t) := by
  refine ⟨fun pins s σ H Q I hq => wpAny_Tuple_spliced (thn (h.run pos pins s σ H _ I hq) fun us s1 hh => ?_)⟩
  obtain ⟨xs, H1, I1, r, z, q⟩ := hh
  refine ⟨by rw [← r.length]; exact z, ?_⟩
  exact laid_T (s := s1) (h' := s1.heap) (t' := s1.toks) I1 r z q
def rTupOf (K : PySem.W.Frag) : List V → Hp → VK → Prop := fun xs H Q => ∃ p ys, xs = [.ref p] ∧ SqL K H p ys ∧ newT ys H Q
theorem call_tupF : CallR X (.type "tuple") (rTupOf X.K) := by
  intro pins s σ H xs us Q I r h
  obtain ⟨p, ys, rfl, hq, q⟩ := h
  obtain ⟨u, rfl, rx⟩ := vals1 r
  cases rx
  obtain ⟨its, r', pl, hz⟩ := I.list hq
  have hlen := r'.length
  refine call_tuple_list pl.isList (fun h' kp => ?_) (by simp only [List.size_toArray] <;> omega)
  exact laid_T (s := s) (t' := s.toks) (I.kept (t' := s.toks) kp) r' hz q
def rCatF : R2 := fun x y H Q => ∃ a b xs ys, x = .ref a ∧ y = .ref b ∧ TupS H a xs ∧ TupS H b ys ∧ xs.length + ys.length ≤ sizeLine ∧
  (xs = [] → Q (.ref b) H) ∧ (xs ≠ [] → ys = [] → Q (.ref a) H) ∧ (xs ≠ [] → ys ≠ [] → newT (xs ++ ys) H Q)
theorem op_catF : OpR X (binaryOp .Add) rCatF := by
  intro pins s σ H x y v u Q I rx ry h
  obtain ⟨a, b, xs, ys, rfl, rfl, ha, hb, hz, q0, q1, q2⟩ := h
  cases rx
  cases ry
  obtain ⟨its, r1, p1, _⟩ := I.tuple ha.sq
  obtain ⟨its2, r2, p2, _⟩ := I.tuple hb.sq
  by_cases hx : xs = []
  · subst hx
    cases r1
    exact cat_tup0 p1 p2 ⟨.ref b, H, I, rfl, q0 rfl⟩
  · refine HT.cat_tup p1 p2 (fun z => hx (r1.nil_iff.mp z)) (fun z => ⟨.ref a, H, I, rfl, q1 hx (r2.nil_iff.mp z)⟩) (fun z => ?_) (by rw [← r1.length, ← r2.length]; exact hz)
    exact laid_T (s := s) (h' := s.heap) (t' := s.toks) I (r1.append r2) (by rw [List.length_append]; exact hz) (q2 hx fun w => z (r2.nil_iff.mpr w))
def rSlF : V → Option Int → Option Int → Hp → VK → Prop := fun x lo hi H Q => ∃ a xs, x = .ref a ∧ TupS H a xs ∧
  (HT.sIx xs.length 0 lo = 0 ∧ HT.sIx xs.length xs.length hi = xs.length → Q (.ref a) H) ∧ (¬ (HT.sIx xs.length 0 lo = 0 ∧ HT.sIx xs.length xs.length hi = xs.length) → newT (cutV xs lo hi) H Q)
theorem sl_tupF : SlR X rSlF := by
  intro pins s σ H x v vl vu lo hi sl Q I rx hs pl pu h
  obtain ⟨a, xs, rfl, hx, q1, q2⟩ := h
  cases rx
  obtain ⟨its, r, ht, hz⟩ := I.tuple hx.sq
  have hlen : its.toArray.size = xs.length := by rw [List.size_toArray]; exact r.length.symm
  refine ⟨"tuple", _, PyProof.Rows.slot_tuple_getitem.lookup, ht.typeIs, ?_⟩
  by_cases hw : HT.sIx xs.length 0 lo = 0 ∧ HT.sIx xs.length xs.length hi = xs.length
  · exact getItem_tuple_whole ht hs pl pu (by rw [hlen]; exact hw) ⟨.ref a, H, I, rfl, q1 hw⟩
  · refine HT.getItem_tuple_cut ht hs pl pu (by rw [hlen]; exact hw) ?_ (by rw [hlen]; exact hz)
    rw [hlen]
    exact laid_T (s := s) (h' := s.heap) (t' := s.toks) I ((r.drop (HT.sIx xs.length 0 lo)).take (HT.sIx xs.length xs.length hi - HT.sIx xs.length 0 lo)) (Nat.le_trans (cutV_length xs lo hi) hz) (q2 hw)
/-- t.index(x), t a tuple of texts -/
def tTix (to : TE) (t : TA) : TE := fun σ H Q => to σ H fun x H1 => ∃ a ys, x = .ref a ∧ TupS H1 a (sv ys) ∧ t σ H1 fun vs H2 => TupS H2 a (sv ys) ∧ ∃ z j, vs = [.str z] ∧ ys[j]? = some z ∧ (∀ m, m < j → ys[m]? ≠ some z) ∧ Q (.int (j : Nat)) H2
theorem pe_tix {o e : Expr} {to : TE} {t : TA} {apos cpos : Pos} (ho : PE X o to) (ha : PA X [e] t)
    (hbase : attributeBase o "index" X.env (eval o X.env) = eval o X.env := by rfl)
    (hfew : ((backTo cpos (starEach [e] X.env)).all (fun x => !x.1) && (backToKw cpos (keywordEach [] X.env)).all (fun x => x.1.isSome)
      && decide ([e].length + ([] : List Keyword).length + (if ([] : List Keyword).isEmpty then 0 else 1) < 30)) = true := by rfl)
    (hline : (apos.endLine == cpos.line) = true := by rfl) (hs : starEach [e] X.env = (false, eval e X.env) :: starEach [] X.env := by rfl) (hplain : (backTo cpos (starEach [] X.env)).any (·.1) = false := by rfl) :
    PE X (.Call (.Attribute o "index" apos) [e] [] cpos) (tTix to t) := by
  refine ⟨fun pins s σ H Q I h => wpAny_Call_method_late hbase hfew hline rfl (thn (ho.run pins s σ H _ I h) fun v s1 hh => ?_)⟩
  obtain ⟨x, H1, I1, r1, a, ys, rfl, ht, q1⟩ := hh
  cases r1
  obtain ⟨ob, hd, hb⟩ := id ht
  obtain ⟨hg, _⟩ := (show ObjOk X.prog X.w H1 s1.heap a (.frz ob (.tup (sv ys))) from I1.hok a _ hb)
  obtain ⟨its, _, pl, _⟩ := I1.tuple ht.sq
  refine ⟨"tuple", "tuple.index", PySem.F.plainAttrs_tuple, PySem.F.slot_tuple_index, PySem.F.type_tuple_index, pl.typeIs, fun b eb => ?_, ?_⟩
  · cases eb
    exact ⟨ob, hg, hd⟩
  · have hA := ha.run cpos pins s1 σ H1 _ I1 q1
    rw [hs] at hA ⊢
    refine Calls.callWith_builtin (by show (false || (backTo cpos (starEach [] X.env)).any (·.1)) = false; rw [hplain] <;> rfl) (Calls.evalArgs_plain (thn hA fun us s2 hh => ?_))
    obtain ⟨vs, H2, I2, r2, ht2, z, j, rfl, hj, hno, q⟩ := hh
    exact mt_tup_index pins s2 σ H2 (.ref a) [.str z] (.ref a) us Q I2 rfl r2 ⟨a, ys, z, j, rfl, rfl, ht2.sq, hj, hno, q⟩
end
/-! ## what an expression stands for -/
section
variable {K : PySem.W.Frag} {σ : L2.St} {H H' : Hp} {ta tb te tl : TE} {v x z : V}
/-- te gives a value that stands for d -/
def EvR (te : TE) (σ : L2.St) (H : Hp) (d : D) : Prop := ∀ H1, Ex H H1 → ∀ Q : VK, (∀ v H2, Ex H1 H2 → Rep H2 v d → Q v H2) → te σ H1 Q
def EvAR (ta : TA) (σ : L2.St) (H : Hp) (ds : List D) : Prop := ∀ H1, Ex H H1 → ∀ Q : List V → Hp → Prop, (∀ vs H2, Ex H1 H2 → Reps H2 vs ds → Q vs H2) → ta σ H1 Q
theorem EvR.mono {d : D} (e : Ex H H') (h : EvR te σ H d) : EvR te σ H' d := fun H1 e1 Q q => h H1 (e.trans e1) Q q
theorem er_of {d : D} (h : Ev te σ H v) (r : Rep H v d) : EvR te σ H d := fun H1 e Q q => h H1 e _ fun H2 e2 => q v H2 e2 (r.up (e.trans e2))
theorem ear_nil : EvAR tNil σ H [] := fun H1 _ _ q => q [] H1 (Ex.refl _) .nil
theorem ear_cons {tr : TA} {d : D} {ds : List D} (h : EvR te σ H d) (hr : EvAR tr σ H ds) : EvAR (tCons te tr) σ H (d :: ds) := fun H1 e Q q =>
  h H1 e _ fun v H2 e2 r => hr H2 (e.trans e2) _ fun vs H3 e3 rs => q (v :: vs) H3 (e2.trans e3) (.cons (r.up e3) rs)
theorem newT_rep {xs : List V} {ds : List D} {Q : VK} (r : Reps H xs ds) (q : ∀ v H2, Ex H H2 → Rep H2 v (.tup ds) → Q v H2) : newT xs H Q := fun p o hp ho =>
  q (.ref p) _ (Ex.new hp) (.tup ⟨o, ho, upd_same⟩ (r.up (Ex.new hp)))
theorem er_tup {ta : TA} {ds : List D} (h : EvAR ta σ H ds) (hz : ds.length ≤ 100000) : EvR (tTupF ta) σ H (.tup ds) := fun H1 e Q q =>
  h H1 e _ fun vs H2 e2 rs => ⟨by rw [rs.length]; exact sz_of hz, newT_rep rs fun v H3 e3 r => q v H3 (e2.trans e3) r⟩
theorem er_if {t : TT} {b : Bool} {d : D} (h : EvT t σ H b) (h1 : b = true → EvR ta σ H d) (h2 : b = false → EvR tb σ H d) : EvR (tIf t ta tb) σ H d := fun H1 e Q q => h H1 e _ fun H2 e2 => by
  cases b with
  | true => exact h1 rfl H2 (e.trans e2) Q fun v H3 e3 r => q v H3 (e2.trans e3) r
  | false => exact h2 rfl H2 (e.trans e2) Q fun v H3 e3 r => q v H3 (e2.trans e3) r
/-- t + u by what they stand for -/
theorem er_cat {ds es : List D} (ha : EvR ta σ H (.tup ds)) (hb : EvR tb σ H (.tup es)) (hz : ds.length + es.length ≤ 100000) : EvR (tOp rCatF ta tb) σ H (.tup (ds ++ es)) := fun H1 e Q q =>
  ha H1 e _ fun v H2 e2 r => hb H2 (e.trans e2) _ fun u H3 e3 r2 => by
    obtain ⟨a, xs, rfl, h1, s1⟩ := (r.up e3).tupD
    obtain ⟨b, ys, rfl, h2, s2⟩ := r2.tupD
    refine ⟨a, b, xs, ys, rfl, rfl, h1, h2, by rw [s1.length, s2.length]; exact sz_of hz, fun e0 => ?_, fun _ e0 => ?_, fun _ _ => newT_rep (s1.append s2) fun v H4 e4 r => q v H4 ((e2.trans e3).trans e4) r⟩
    · subst e0
      cases s1
      exact q _ H3 (e2.trans e3) (.tup h2 s2)
    · subst e0
      cases s2
      rw [List.append_nil] at q
      exact q _ H3 (e2.trans e3) (.tup h1 s1)
end
end Kx

set_option Elab.async false
set_option linter.all false
set_option maxRecDepth 100000
set_option maxHeartbeats 1000000
namespace Kx
open PySem PySem.Spec PyProof.Rows L2 Evl
/-! ## data without lists and dicts stay whatever lists do -/
mutual
def D.imm : D → Bool
  | .tup ds => imms ds
  | .lst _ => false
  | .dic => false
  | _ => true
def imms : List D → Bool
  | [] => true
  | d :: r => d.imm && imms r
end
theorem imms_iff : ∀ {ds : List D}, imms ds = true ↔ ∀ d ∈ ds, d.imm = true
  | [] => ⟨fun _ d h => by simp at h, fun _ => rfl⟩
  | x :: r => by
    unfold imms
    rw [Bool.and_eq_true, imms_iff (ds := r)]
    constructor
    · rintro ⟨a, b⟩ d hd
      rcases List.mem_cons.mp hd with rfl | hd
      · exact a
      · exact b d hd
    · intro h
      exact ⟨h x List.mem_cons_self, fun d hd => h d (List.mem_cons_of_mem _ hd)⟩
def Tp (H H' : Hp) : Prop := ∀ a o xs, H a = some (.frz o (.tup xs)) → H' a = some (.frz o (.tup xs))
theorem TupS.tp {H H' : Hp} {a : Addr} {vs : List V} (h : TupS H a vs) (e : Tp H H') : TupS H' a vs := let ⟨o, h1, h2⟩ := h; ⟨o, h1, e _ _ _ h2⟩
mutual
theorem Rep.monoT {H H' : Hp} (e : Tp H H') : ∀ (d : D) (v : V), d.imm = true → Rep H v d → Rep H' v d
  | _, _, _, .non => .non
  | _, _, _, .bl b => .bl b
  | _, _, _, .int i => .int i
  | _, _, _, .str s => .str s
  | .tup ds, _, h, .tup t r => .tup (t.tp e) (Reps.monoT e ds _ (by unfold D.imm at h; exact h) r)
  | .lst ds, _, h, .lst t r => absurd h (by unfold D.imm; exact Bool.false_ne_true)
  | .dic, _, h, .dic t => absurd h (by unfold D.imm; exact Bool.false_ne_true)
theorem Reps.monoT {H H' : Hp} (e : Tp H H') : ∀ (ds : List D) (vs : List V), imms ds = true → Reps H vs ds → Reps H' vs ds
  | [], _, _, .nil => .nil
  | d :: ds, _, h, .cons r t => by
    unfold imms at h
    rw [Bool.and_eq_true] at h
    exact .cons (Rep.monoT e d _ h.1 r) (Reps.monoT e ds _ h.2 t)
end
theorem Ex.tp {H H' : Hp} (e : Ex H H') : Tp H H' := fun a o xs h => e _ _ h
theorem Tp.trans {H H1 H2 : Hp} (a : Tp H H1) (b : Tp H1 H2) : Tp H H2 := fun c o xs h => b c o xs (a c o xs h)
theorem Tp.lst {H : Hp} {p : Addr} {xs ys : List V} (h : H p = some (.lst xs)) : Tp H (upd H p (.lst ys)) := fun a o zs e => by
  rw [upd_ne (ne_of e h (fun z => by cases z))]
  exact e
theorem imm_itup (t : List Int) : (itup t).imm = true := by
  unfold itup D.imm
  refine imms_iff.mpr fun d hd => ?_
  obtain ⟨i, _, rfl⟩ := List.mem_map.mp hd
  rfl
section
variable {K : PySem.W.Frag} {σ : L2.St} {H H' : Hp} {ta tb te tl : TE} {v x z : V}
/-- te gives a new list of what stands for ds -/
def EvLR (te : TE) (σ : L2.St) (H : Hp) (ds : List D) : Prop := ∀ H1, Ex H H1 → ∀ Q : VK, (∀ p us H2, H1 p = none → Ex H1 H2 → H2 p = some (.lst us) → Reps H2 us ds → Q (.ref p) H2) → te σ H1 Q
theorem wipe_of {σ σ2 : L2.St} {ws : List Nat} (h : σ2 = wipe σ ws) : wipe σ2 ws = wipe (wipe σ ws) ws := by rw [h]
/-- [te for g in a tuple], of what stands for data without lists -/
theorem el_lcTR {g : TG} {ws : List Nat} {a : Addr} {xs : List V} {ds : List D} (h : Ev tl σ H (.ref a)) (hx : SqT K H a xs) (hl : ds.length = xs.length) (hz : xs.length < 100000) (him : imms ds = true)
    (hy : ∀ (j : Nat) (x : V) (d : D), xs[j]? = some x → ds[j]? = some d → ∀ H1, Ex H H1 → ∀ Q' : L2.St → Hp → Prop, (∀ σ2, wipe σ2 ws = wipe σ ws → EvR te σ2 H1 d → Q' σ2 H1) → g x (wipe σ ws) H1 Q') : EvLR (tLc (iTup K tl) g tYes te ws) σ H ds := fun H1 e Q q =>
  h H1 e _ fun H2 e2 => ⟨a, rfl, ⟨xs, ex_t (e.trans e2) hx⟩, fun C hC =>
    lc_tup (xs := xs) (fun j H' => Ex H2 H' ∧ ∃ us, H' C = some (.lst us) ∧ Reps H' us (ds.take j)) ⟨Ex.new hC, [], upd_same, .nil⟩ (fun j H' _ p => ex_t ((e.trans e2).trans p.1) hx)
      (fun j x H' hj p => by
        have hlt : j < ds.length := by have := (List.getElem?_eq_some_iff.mp hj).1; omega
        have gd : ds[j]? = some ds[j] := List.getElem?_eq_getElem hlt
        have hg := hy j x _ hj gd H' ((e.trans e2).trans p.1)
        obtain ⟨p1, us, p2, p3⟩ := p
        refine hg _ fun σ2 w1 w3 => ⟨w1, ?_⟩
        show te σ2 H' _
        refine w3 H' (Ex.refl _) _ fun v H4 e4 r => ⟨us, e4 _ _ p2, ?_, (p1.trans e4).mut hC, us ++ [v], upd_same, ?_⟩
        · have := p3.length
          rw [List.length_take] at this
          exact sz_lt (by omega)
        · rw [List.take_add_one, gd]
          have t : Tp H4 (upd H4 C (.lst (us ++ [v]))) := Tp.lst (e4 _ _ p2)
          have i1 : imms (ds.take j) = true := imms_iff.mpr fun d hd => imms_iff.mp him d (List.mem_of_mem_take hd)
          exact ((p3.up e4).monoT t _ _ i1).append (.cons (r.monoT t _ _ (imms_iff.mp him _ (List.getElem_mem hlt))) .nil))
      (fun H' p => by
        obtain ⟨p1, us, p2, p3⟩ := p
        rw [List.take_of_length_le (by omega)] at p3
        exact q C us H' (fresh_back e2 hC) (e2.trans p1) p2 p3)⟩
end
/-! ## rights -/
def rkey (ns ks : List Str) (d : D) : List Int := match d with
  | .tup [.str k, .str n, .int s] => [(ks.idxOf k : Int), (ns.idxOf n : Int), s]
  | _ => []
def D.rts (ns ks : List Str) (d : D) : Bool := match d with
  | .tup ds => ds.all (D.rt ns ks) && ascT (ds.map (rkey ns ks))
  | _ => false
theorem rts_tup (ns ks : List Str) (ds : List D) : D.rts ns ks (.tup ds) = (ds.all (D.rt ns ks) && ascT (ds.map (rkey ns ks))) := rfl
theorem rt_3 (ns ks : List Str) (k n s : D) : D.rt ns ks (.tup [k, n, s]) = (amD k ks && (amD n ns && isBetw s 0 1)) := rfl
theorem rt_shape {ns ks : List Str} : ∀ {d : D}, d.rt ns ks = true → ∃ k n s, d = .tup [.str k, .str n, .int s] ∧ k ∈ ks ∧ n ∈ ns ∧ 0 ≤ s ∧ s ≤ 1
  | .tup [k, n, s], h => by
    rw [rt_3] at h
    simp only [Bool.and_eq_true] at h
    obtain ⟨h1, h2, h3⟩ := h
    obtain ⟨ek, mk⟩ := am_str h1
    obtain ⟨en, mn⟩ := am_str h2
    cases s with
    | int i =>
      unfold isBetw at h3
      rw [Bool.and_eq_true] at h3
      exact ⟨k.txt, n.txt, i, by rw [← ek, ← en], mk, mn, of_decide_eq_true h3.1, of_decide_eq_true h3.2⟩
    | _ => simp [isBetw] at h3
  | .tup [], h | .tup [_], h | .tup [_, _], h | .tup (_ :: _ :: _ :: _ :: _), h => by simp [D.rt] at h
  | .non, h | .bl _, h | .str _, h | .int _, h | .lst _, h | .dic, h => by simp [D.rt] at h
theorem idx_at {xs : List Str} {x : Str} (h : x ∈ xs) : xs[xs.idxOf x]? = some x ∧ ∀ m, m < xs.idxOf x → xs[m]? ≠ some x := by
  constructor
  · rw [List.getElem?_eq_getElem (List.idxOf_lt_length_of_mem h)]
    exact congrArg some (List.getElem_idxOf _)
  · intro m hm e
    obtain ⟨hl, e2⟩ := List.getElem?_eq_some_iff.mp e
    have h3 := List.not_of_lt_findIdx (p := (· == x)) hm
    exact absurd (beq_iff_eq.mpr e2) (by first | exact h3 | (rw [h3]; exact Bool.false_ne_true))
theorem s_asgLX {σ : L2.St} {H : Hp} {te : TE} {D : Ends} {u : TS} {i : Nat} {xs : List V} (h : EvL te σ H xs) (k : ∀ p H1, H p = none → Ex H H1 → H1 p = some (.lst xs) → u D (σ.set i (some (.ref p))) H1) : tSeq (tAsg te (gName i)) u D σ H := s_asgL h k
theorem ev_spLR {σ : L2.St} {H : Hp} {tb : TE} {z : V} {ok : OkF} {ds : List D} {E : XK} (hb : EvLR tb σ H ds) (k : ∀ p us H1, H1 p = some (.lst us) → Reps H1 us ds → Ex H H1 → ok [.ref p] H1 z) : Ev (tCall (spX ok) [] E (tCons tb tNil)) σ H z :=
  fun H1 e Q q => hb H1 e _ fun p us H3 _ e3 hp hr => ⟨z, k p us H3 hp hr (e.trans e3), fun H4 e4 => q H4 (e3.trans e4)⟩
theorem ev_tix {K : PySem.W.Frag} {σ : L2.St} {H : Hp} {ta te : TE} {a : Addr} {ys : List Str} {x : Str} (h : Ev ta σ H (.ref a)) (ha : TupS H a (sv ys)) (hx : Ev te σ H (.str x)) (hm : x ∈ ys) : Ev (tTix ta (tCons te tNil)) σ H (.int (ys.idxOf x : Nat)) := fun H1 e Q q =>
  h H1 e _ fun H2 e2 => ⟨a, ys, rfl, ha.up (e.trans e2), hx H2 (e.trans e2) _ fun H3 e3 => ⟨ha.up ((e.trans e2).trans e3), x, _, rfl, (idx_at hm).1, (idx_at hm).2, q H3 (e2.trans e3)⟩⟩
theorem ev_lix {K : PySem.W.Frag} {σ : L2.St} {H : Hp} {ta te : TE} {a : Addr} {ys : List Str} {x : Str} (h : Ev ta σ H (.ref a)) (ha : H a = some (.lst (sv ys))) (hx : Ev te σ H (.str x)) (hm : x ∈ ys) : Ev (tBM K "list" (rIndex K) ta (tCons te tNil)) σ H (.int (ys.idxOf x : Nat)) := fun H1 e Q q =>
  h H1 e _ fun H2 e2 => ⟨.inl ⟨rfl, _, .of ((e.trans e2) _ _ ha)⟩, hx H2 (e.trans e2) _ fun H3 e3 => ⟨a, sv ys, .str x, ys.idxOf x, .str x, rfl, rfl, .of (((e.trans e2).trans e3) _ _ ha), rfl, flat_sv ys,
    by unfold sv; rw [List.getElem?_map, (idx_at hm).1]; rfl, beq_self_eq_true x, fun m z hl hz => by
      unfold sv at hz
      rw [List.getElem?_map] at hz
      cases e4 : ys[m]? with
      | none => rw [e4] at hz; cases hz
      | some y =>
        rw [e4] at hz
        have ez : z = .str y := (Option.some.inj hz).symm
        subst ez
        show (y == x) = false
        refine beq_eq_false_iff_ne.mpr fun e5 => ?_
        subst e5
        exact (idx_at hm).2 m hl e4, q H3 (e2.trans e3)⟩⟩
def okRights : OkF := fun vs H z => ∃ v d b ds ns c ks, vs = [v, .ref b, .ref c] ∧ Rep H v d ∧ d.Sz ∧ Rep H (.ref b) (.tup ds) ∧ ds.length ≤ 1000 ∧ ds.map D.fst = ns.map D.str ∧ (∀ x ∈ ds, ∃ y r, x = .tup (y :: r)) ∧ TupS H c (sv ks) ∧ z = .bl (d.rts ns ks)
theorem stb_rights : Stb okRights := fun _ _ _ _ e ⟨v, d, b, ds, ns, c, ks, h1, h2, h3, h4, h5, h6, h7, h8, h9⟩ => ⟨v, d, b, ds, ns, c, ks, h1, h2.up e, h3, h4.up e, h5, h6, h7, h8.up e, h9⟩
section
variable {P : Program} {w : World} {K : PySem.W.Frag} {mg : Str → Option Value} {base : Heap} (T : Txt K mg)
theorem ok_are_rights : FnOk P w K mg base CX0 3 T.a_are_rights T.d_are_rights ["value", "doors", "kinds"] (spX okRights) := by
  refine T.F_are_rights.ok sc_are_rights (fun vs H Q E h => ?_) (fun cdv A outer s H vs Q E hr h => ?_)
  · obtain ⟨z, ⟨v, d, b, ds, ns, c, ks, rfl, _⟩, _⟩ := h
    rfl
  · obtain ⟨z, ⟨v, d, b, ds, ns, c, ks, rfl, hv, hz, hb, hdl, hns, hsh, hc, rfl⟩, q⟩ := h
    have hr1 : Room 1 (A.deeper (envOfC "are_rights" (defScope s_are_rights) s.heap.objs.size T.a_are_rights cdv)) := hr.mono (by decide)
    refine ⟨_, pss_cons (ps_set (i := 3) sc_are_rights.nd rfl (.inr rfl) (pe_lc (own := [("door", 4)]) (g := gName 4) (tt := tYes) (by rfl) sc_are_rights.nd (pi_tup (pv 1)) (blkOk_by (N := ["value", "doors", "kinds", "names", "door", "item", "kind", "side"]) (sc := defScope s_are_rights) (by decide +kernel))
          (fun _ _ _ _ _ => pg_name (i := 4) sc_are_rights.nd rfl (.inl rfl)) (fun _ _ _ _ _ => pts_nil) (fun _ _ _ _ _ => pe_ix (r := rIxT K) ix_tup (pv 4) pe_int (fun _ _ => rfl))))
      (pss_cons (ps_if (PW.pt (pw_or (pt_tyNo T.z_type T.z_tuple bo_tuple (pv 0))
          (pw_or1 (pt_not (pt_val (pe_callB (cr_all rfl) (by rfl) T.z_all bo_all (pa_cons (pe_lc (own := [("item", 5)]) (g := gName 5) (tt := tYes) (by rfl) sc_are_rights.nd (pi_tup (pv 0)) (blkOk_by (N := ["value", "doors", "kinds", "names", "door", "item", "kind", "side"]) (sc := defScope s_are_rights) (by decide +kernel))
            (fun _ _ _ _ _ => pg_name (i := 5) sc_are_rights.nd rfl (.inl rfl)) (fun _ _ _ _ _ => pts_nil) (fun _ _ _ _ _ => pe_call (ok_is_right T) hr (by rfl) T.g_is_right T.F_is_right.kp (b_is_right T) .nil pass0 (pa_cons (pv 5) (pa_cons (pv 3) (pa_cons (pv 2) pa_nil))))) pa_nil)))))))
        (pss_one (ps_ret pe_bl)) pss_nil)
      (pss_one (ps_ret (pe_call (ok_is_ascending T) hr1 (by rfl) T.g_is_ascending T.F_is_ascending.kp (b_is_ascending T) .nil pass0 (pa_cons (pe_lc (own := [("kind", 6), ("door", 4), ("side", 7)]) (tt := tYes)
          (g := gTup K 3 (gCons (gName 6) (gCons (gName 4) (gCons (gName 7) gNil)))) (by rfl) sc_are_rights.nd (pi_tup (pv 0)) (blkOk_by (N := ["value", "doors", "kinds", "names", "door", "item", "kind", "side"]) (sc := defScope s_are_rights) (by decide +kernel))
            (fun _ _ _ _ _ => pg_tup (by rfl) (pgs_cons (pg_name (i := 6) sc_are_rights.nd rfl (.inl rfl)) (pgs_cons (pg_name (i := 4) sc_are_rights.nd rfl (.inl rfl)) (pgs_cons (pg_name (i := 7) sc_are_rights.nd rfl (.inl rfl)) pgs_nil)))) (fun _ _ _ _ _ => pts_nil)
            (fun _ _ _ _ _ => pe_tupF (t := tCons (tTix (tVar 2) (tCons (tVar 6) tNil)) (tCons (tBM K "list" (rIndex K) (tVar 3) (tCons (tVar 4) tNil)) (tCons (tVar 7) tNil)))
              (pa_cons (pe_tix (pv 2) (pa_cons (pv 6) pa_nil)) (pa_cons (pe_bm PySem.F.plainAttrs_list PySem.F.slot_list_index PySem.F.type_list_index mt_index (pv 3) (pa_cons (pv 4) pa_nil)) (pa_cons (pv 7) pa_nil))))) pa_nil))))), ?_⟩
    obtain ⟨b', dvs, eb, hb1, hb2⟩ := hb.tupD
    cases eb
    refine s_asgLX (xs := sv ns) (el_lcT (ev_var rfl) hb1.sq ?_ (by rw [hb2.length]; omega) fun j x y hx hy => ?_) fun p H1 hp e h1 => ?_
    · have h2 := congrArg List.length hns
      rw [List.length_map, List.length_map] at h2
      unfold sv
      rw [List.length_map, hb2.length, h2]
    · obtain ⟨d, hd, r⟩ := hb2.get hx
      obtain ⟨y0, r0, rfl⟩ := hsh d (List.mem_of_getElem? hd)
      have h3 : (ds.map D.fst)[j]? = some y0 := by
        rw [List.getElem?_map, hd]
        rfl
      rw [hns, List.getElem?_map] at h3
      unfold sv at hy
      rw [List.getElem?_map] at hy
      cases e4 : ns[j]? with
      | none => rw [e4] at hy; cases hy
      | some n =>
        rw [e4] at hy h3
        have ey : y = .str n := (Option.some.inj hy).symm
        have ey0 : y0 = .str n := (Option.some.inj h3).symm
        subst ey ey0
        obtain ⟨a2, ws, rfl, ha2, hs2⟩ := r.tupD
        cases hs2 with
        | cons q0 _ =>
          obtain rfl := q0.strD
          exact ev_ixT (j := 0) (ev_var rfl) ha2 rfl
    · by_cases ht : d.ty = "tuple"
      · obtain ⟨es, rfl⟩ := ty_tup ht
        obtain ⟨a, vs, rfl, ha, hs⟩ := hv.tupD
        have hl := hz.tup.1
        rw [rts_tup] at q
        refine s_ifX (b := !es.all (D.rt ns ks)) ?_ (fun hb H2 e2 => ?_) (fun hb H2 e2 => ?_)
        · refine et_is (et_or (a := false) (b := !es.all (D.rt ns ks)) (et_test (ev_is (ev_tyNo (ev_var rfl) (hv.up e)) rfl)) fun _ => ?_) (Bool.false_or _)
          refine et_not (et_B (ev_allT (ev_var rfl) (ha.up e) (hs.up e) hl fun j x d hd r => ?_))
          exact ev_sp stb_right (ea_cons (ev_var rfl) (ea_cons (ev_var rfl) (ea_cons (ev_var rfl) ea_nil))) ⟨x, d, p, ns, c, ks, rfl, r, .inl h1, .inr (hc.up e).rd, rfl⟩
        · rw [not_t hb] at q
          exact s_ret (v := .bl false) ev_c fun H3 e3 => q H3 ((e.trans e2).trans e3)
        · have hall := not_f hb
          rw [hall, Bool.true_and] at q
          have E2 := e.trans e2
          refine s_ret (v := .bl (ascT (es.map (rkey ns ks)))) (ev_spLR (ds := (es.map (rkey ns ks)).map itup) (el_lcTR (ev_var rfl) (ha.up E2).sq ?_ (by rw [hs.length]; omega) ?_ fun j x d hx hd H3 e3 Q' k => ?_) fun p2 us H3 hp2 hr2 e3 => ⟨p2, us, _, rfl, hp2, hr2, by rw [List.length_map]; exact hl, rfl⟩) fun H3 e3 => q H3 (E2.trans e3)
          · rw [List.length_map, List.length_map, hs.length]
          · refine imms_iff.mpr fun d hd => ?_
            obtain ⟨t, _, rfl⟩ := List.mem_map.mp hd
            exact imm_itup t
          · have E3 := E2.trans e3
            obtain ⟨d', hd', r⟩ := hs.get hx
            obtain ⟨kk, nn, ss, rfl, mk, mn, _⟩ := rt_shape (List.all_eq_true.mp hall d' (List.mem_of_getElem? hd'))
            rw [List.getElem?_map, List.getElem?_map, hd'] at hd
            have ed : d = itup [(ks.idxOf kk : Int), (ns.idxOf nn : Int), ss] := (Option.some.inj hd).symm
            subst ed
            obtain ⟨a3, ws, rfl, ha3, hs3⟩ := r.tupD
            cases hs3 with
            | cons r0 hs3 => cases hs3 with
              | cons r1 hs3 => cases hs3 with
                | cons r2 hs3 =>
                  cases hs3
                  obtain rfl := r0.strD
                  obtain rfl := r1.strD
                  obtain rfl := r2.intD
                  refine ⟨a3, _, rfl, (ha3.up E3).sq, rfl, .str kk, _, rfl, .str nn, _, rfl, .int ss, _, rfl, rfl, ?_⟩
                  refine k _ rfl ?_
                  refine er_tup (ear_cons (er_of (ev_tix (K := K) (ev_var rfl) (hc.up E3) (ev_var rfl) mk) (.int _)) (ear_cons (er_of (ev_lix (ev_var rfl) ((e2.trans e3) _ _ h1) (ev_var rfl) mn) (.int _)) (ear_cons (er_of (ev_var rfl) (.int _)) ear_nil))) (by simp [itup])
      · refine s_ifX (b := true) (et_is (et_or (b := false) (et_test (ev_is (ev_tyNo (ev_var rfl) (hv.up e)) (by rw [decide_eq_false ht]; rfl : _ = V.bl true))) fun h => by cases h) rfl) (fun hb H2 e2 => ?_) (fun hb => by cases hb)
        refine s_ret (v := .bl false) ev_c fun H3 e3 => ?_
        have z : d.rts ns ks = false := by cases d <;> first | rfl | exact absurd rfl ht
        rw [z] at q
        exact q H3 ((e.trans e2).trans e3)
end
end Kx

set_option Elab.async false
set_option linter.all false
set_option maxRecDepth 100000
set_option maxHeartbeats 1000000
namespace Kx
open PySem PySem.Spec PyProof.Rows L2 Evl
def cutX {α : Type} (xs : List α) (lo hi : Option Int) : List α := (xs.drop (HT.sIx xs.length 0 lo)).take (HT.sIx xs.length xs.length hi - HT.sIx xs.length 0 lo)
theorem Reps.cut {H : Hp} {vs : List V} {ds : List D} (r : Reps H vs ds) (lo hi : Option Int) : Reps H (cutV vs lo hi) (cutX ds lo hi) := by
  unfold cutV cutX
  rw [r.length]
  exact (r.drop _).take _
section
variable {K : PySem.W.Frag} {σ : L2.St} {H H' : Hp} {ta tb te tl : TE} {v x z : V}
theorem er_slice {tlo thi : TO} {ds : List D} {lo hi : Option Int} (h : EvR te σ H (.tup ds)) (h1 : EvO tlo σ H lo) (h2 : EvO thi σ H hi) : EvR (tSl rSlF te tlo thi) σ H (.tup (cutX ds lo hi)) := fun H1 e Q q =>
  h H1 e _ fun v H2 e2 r => h1 H2 (e.trans e2) _ fun H3 e3 => h2 H3 ((e.trans e2).trans e3) _ fun H4 e4 => by
    obtain ⟨a, vs, rfl, ha, hs⟩ := (r.up (e3.trans e4)).tupD
    have E := (e2.trans e3).trans e4
    refine ⟨a, vs, rfl, ha, fun hw => ?_, fun _ => newT_rep (hs.cut lo hi) fun v H5 e5 r5 => q v H5 (E.trans e5) r5⟩
    have ew : cutX ds lo hi = ds := by
      unfold cutX
      rw [← hs.length, hw.1, hw.2, List.drop_zero, Nat.sub_zero, hs.length, List.take_length]
    rw [ew] at q
    exact q _ H4 E (.tup ha hs)
theorem s_unp {D0 : Ends} {gs : TGs} {u : TS} {n : Nat} {ds : List D} (h : EvR te σ H (.tup ds)) (hn : ds.length = n) (k : ∀ vs H1, Ex H H1 → Reps H1 vs ds → gs vs σ H1 (fun σ2 H2 => u D0 σ2 H2)) : tSeq (tAsg te (gTup K n gs)) u D0 σ H :=
  h H (Ex.refl H) _ fun v H1 e r => by
    obtain ⟨a, vs, rfl, ha, hs⟩ := r.tupD
    exact ⟨a, vs, rfl, ha.sq, by rw [hs.length, hn], k vs H1 e hs⟩
end
theorem cut1 {α : Type} (xs : List α) : cutX xs (some 1) none = xs.drop 1 := by
  unfold cutX
  rw [show HT.sIx xs.length 0 (some 1) = min 1 xs.length from HT.sIx_nat xs.length 0 1, HT.sIx_none]
  cases xs with
  | nil => rfl
  | cons x r =>
    rw [show min 1 (x :: r).length = 1 by rw [List.length_cons]; omega]
    show List.take ((x :: r).length - 1) r = r
    rw [List.length_cons, Nat.add_sub_cancel]
    exact List.take_length
def D.txts : D → List Str
  | .tup ds => ds.map D.txt
  | _ => []
def D.fsts : D → List Str
  | .tup ds => ds.map fun x => x.fst.txt
  | _ => []
def D.bld : D → Bool
  | .tup [t, a, ds, ks, rs] => t.isS "building" && ((a.nms 2 6 && ds.drs a.txts) && (ks.nms 1 3 && rs.rts ds.fsts ks.txts))
  | _ => false
theorem bld_5 (t a ds ks rs : D) : D.bld (.tup [t, a, ds, ks, rs]) = (t.isS "building" && ((a.nms 2 6 && ds.drs a.txts) && (ks.nms 1 3 && rs.rts ds.fsts ks.txts))) := rfl
theorem nms_shape {d : D} {lo hi : Int} (h : d.nms lo hi = true) : d = .tup (d.txts.map D.str) ∧ lo ≤ (d.txts.length : Int) ∧ (d.txts.length : Int) ≤ hi ∧ d.txts.Nodup ∧ ∀ s ∈ d.txts, nmS s = true := by
  cases d with
  | tup ds =>
    rw [nms_tup] at h
    simp only [Bool.and_eq_true] at h
    obtain ⟨h1, h2, h3⟩ := h
    unfold isTup at h1
    rw [Bool.and_eq_true] at h1
    have e : ds = (ds.map D.txt).map D.str := all_nm h2
    refine ⟨congrArg D.tup e, ?_, ?_, of_decide_eq_true h3, fun s hs => ?_⟩
    · show lo ≤ ((ds.map D.txt).length : Int)
      rw [List.length_map]
      exact of_decide_eq_true h1.1
    · show ((ds.map D.txt).length : Int) ≤ hi
      rw [List.length_map]
      exact of_decide_eq_true h1.2
    · obtain ⟨d, hd, rfl⟩ := List.mem_map.mp hs
      have h4 := List.all_eq_true.mp h2 d hd
      rw [nm_str h4] at h4
      exact h4
  | _ => cases h
theorem Rep.txs {H : Hp} {v : V} {ss : List Str} (r : Rep H v (.tup (ss.map D.str))) : ∃ a, v = .ref a ∧ TupS H a (sv ss) := by
  obtain ⟨a, vs, h1, h2, h3⟩ := r.tupD
  rw [strs_of_reps h3] at h2
  exact ⟨a, h1, h2⟩
theorem drs_shape {as : List Str} {d : D} (h : d.drs as = true) : ∃ ds, d = .tup ds ∧ 1 ≤ ds.length ∧ ds.length ≤ 6 ∧ ds.all (D.dr as) = true ∧ d.fsts.Nodup := by
  cases d with
  | tup ds =>
    rw [drs_tup] at h
    simp only [Bool.and_eq_true] at h
    obtain ⟨h1, h2, h3⟩ := h
    unfold isTup at h1
    rw [Bool.and_eq_true] at h1
    have a1 := of_decide_eq_true h1.1
    have a2 := of_decide_eq_true h1.2
    exact ⟨ds, rfl, by omega, by omega, h2, of_decide_eq_true h3⟩
  | _ => cases h
theorem Rep.size {d0 d1 d2 d3 d4 : D} (h : (D.tup [d0, d1, d2, d3, d4]).Sz) : d0.Sz ∧ d1.Sz ∧ d2.Sz ∧ d3.Sz ∧ d4.Sz :=
  ⟨h.tup.2.get (j := 0) rfl, h.tup.2.get (j := 1) rfl, h.tup.2.get (j := 2) rfl, h.tup.2.get (j := 3) rfl, h.tup.2.get (j := 4) rfl⟩
def okBld : OkF := fun vs H z => ∃ v d, vs = [v] ∧ Rep H v d ∧ d.Sz ∧ z = .bl d.bld
theorem stb_bld : Stb okBld := fun _ _ _ _ e ⟨v, d, h1, h2, h3⟩ => ⟨v, d, h1, h2.up e, h3⟩
section
variable {P : Program} {w : World} {K : PySem.W.Frag} {mg : Str → Option Value} {base : Heap} (T : Txt K mg)
theorem ok_is_building : FnOk P w K mg base CX0 4 T.a_is_building T.d_is_building ["value"] (spX okBld) := by
  refine T.F_is_building.ok sc_is_building (fun vs H Q E h => ?_) (fun cdv A outer s H vs Q E hr h => ?_)
  · obtain ⟨z, ⟨v, d, rfl, _⟩, _⟩ := h
    rfl
  · obtain ⟨z, ⟨v, d, rfl, hv, hz, rfl⟩, q⟩ := h
    have hr1 : Room 1 (A.deeper (envOfC "is_building" (defScope s_is_building) s.heap.objs.size T.a_is_building cdv)) := hr.mono (by decide)
    have hr2 : Room 2 (A.deeper (envOfC "is_building" (defScope s_is_building) s.heap.objs.size T.a_is_building cdv)) := hr.mono (by decide)
    refine ⟨_, pss_cons (ps_if (PW.pt (pw_or (pt_not (pt_val (pe_call (ok_is_tuple T) hr1 (by rfl) T.g_is_tuple T.F_is_tuple.kp (b_is_tuple T) .nil pass0 (pa_cons (pv 0) (pa_cons pe_int (pa_cons pe_int pa_nil))))))
          (pw_or1 (pt_cmpR (op_neS hr.units0) (pe_ix ix_tup (pv 0) pe_int (fun _ _ => rfl)) pe_str (nomark _)))))
        (pss_one (ps_ret pe_bl)) pss_nil)
      (pss_cons (ps_asg (pe_slice sl_tupF (pv 0) (po_some pe_int) po_none) (pg_tup rfl (pgs_cons (pg_name (i := 1) sc_is_building.nd rfl (.inl rfl)) (pgs_cons (pg_name (i := 2) sc_is_building.nd rfl (.inl rfl)) (pgs_cons (pg_name (i := 3) sc_is_building.nd rfl (.inl rfl)) (pgs_cons (pg_name (i := 4) sc_is_building.nd rfl (.inl rfl)) pgs_nil))))))
      (pss_cons (ps_if (PW.pt (pw_or (pt_not (pt_val (pe_call (ok_are_names T) hr2 (by rfl) T.g_are_names T.F_are_names.kp (b_are_names T) .nil pass0 (pa_cons (pv 1) (pa_cons pe_int (pa_cons pe_int pa_nil))))))
          (pw_or1 (pt_not (pt_val (pe_call (ok_are_doors T) hr (by rfl) T.g_are_doors T.F_are_doors.kp (b_are_doors T) .nil pass0 (pa_cons (pv 2) (pa_cons (pv 1) pa_nil))))))))
        (pss_one (ps_ret pe_bl)) pss_nil)
      (pss_one (ps_ret (pe_and (pe_call (ok_are_names T) hr2 (by rfl) T.g_are_names T.F_are_names.kp (b_are_names T) .nil pass0 (pa_cons (pv 3) (pa_cons pe_int (pa_cons pe_int pa_nil))))
        (pe_one (pe_call (ok_are_rights T) hr (by rfl) T.g_are_rights T.F_are_rights.kp (b_are_rights T) .nil pass0 (pa_cons (pv 4) (pa_cons (pv 2) (pa_cons (pv 3) pa_nil)))))))))), ?_⟩
    have tup5 : EvT (tB (tCall (spX okTup) [] E0 (tCons (tVar 0) (tCons (tC (.int 5)) (tCons (tC (.int 5)) tNil))))) (L2.start ["value", "areas", "doors", "kinds", "rights"] [v]) H (isTup d 5 5) :=
      et_B (ev_sp stb_tup (ea_cons (ev_var rfl) (ea_cons ev_c (ea_cons ev_c ea_nil))) ⟨_, _, 5, 5, rfl, hv, rfl⟩)
    by_cases ht : isTup d 5 5 = true
    · cases d with
      | tup ds =>
        obtain ⟨a, vs, rfl, ha, hs⟩ := hv.tupD
        have hl5 : ds.length = 5 := by
          unfold isTup at ht
          have h2 := (Bool.and_eq_true _ _).mp ht
          have h3 := of_decide_eq_true h2.1
          have h4 := of_decide_eq_true h2.2
          omega
        match ds, hl5 with
        | [t, da, dd, dk, dr], _ =>
        have hsz := Rep.size hz
        rw [bld_5] at q
        refine s_ifX (b := !t.isS "building") ?_ (fun hb H1 e => ?_) (fun hb H1 e => ?_)
        · refine et_is (et_or (a := false) (b := !t.isS "building") (et_is (et_not tup5) (by rw [ht]; rfl)) fun _ => ?_) (Bool.false_or _)
          cases hs with
          | cons r0 _ => exact et_test (ev_op (ev_ixT (j := 0) (ev_var rfl) ha rfl) ev_c (rv_neS r0))
        · rw [not_t hb] at q
          exact s_ret (v := .bl false) ev_c fun H2 e2 => q H2 (e.trans e2)
        · rw [not_f hb, Bool.true_and] at q
          refine s_unp (er_slice (er_of (ev_var rfl) (hv.up e)) (eo_some ev_c) eo_none) (by rw [cut1]; rfl) fun ws H2 e2 rs => ?_
          rw [cut1] at rs
          have E2 := e.trans e2
          cases rs with
          | cons ra rs => cases rs with
            | cons rd rs => cases rs with
              | cons rk rs => cases rs with
                | cons rr rs =>
                  cases rs
                  rename_i va vd vk vr
                  refine ⟨va, _, rfl, vd, _, rfl, vk, _, rfl, vr, _, rfl, rfl, ?_⟩
                  refine s_ifX (b := !(da.nms 2 6 && dd.drs da.txts)) ?_ (fun hb H3 e3 => ?_) (fun hb H3 e3 => ?_)
                  · refine et_is (et_or (et_not (et_B (ev_sp stb_names (ea_cons (ev_var rfl) (ea_cons ev_c (ea_cons ev_c ea_nil))) ⟨va, da, 2, 6, rfl, ra, hsz.2.1, rfl⟩))) (b := !dd.drs da.txts) fun h => ?_) (Bool.not_and _ _).symm
                    have hn := nms_shape (not_f h)
                    rw [hn.1] at ra
                    obtain ⟨aa, rfl, haa⟩ := ra.txs
                    exact et_not (et_B (ev_sp stb_doors (ea_cons (ev_var rfl) (ea_cons (ev_var rfl) ea_nil)) ⟨vd, dd, aa, da.txts, rfl, rd, hsz.2.2.1, .inr haa.rd, rfl⟩))
                  · rw [not_t hb] at q
                    exact s_ret (v := .bl false) ev_c fun H4 e4 => q H4 ((E2.trans e3).trans e4)
                  · have hb2 := not_f hb
                    rw [hb2, Bool.true_and] at q
                    obtain ⟨hb3, hb4⟩ := (Bool.and_eq_true _ _).mp hb2
                    refine s_ret (v := .bl (dk.nms 1 3 && dr.rts dd.fsts dk.txts)) (ev_andV (ev_sp stb_names (ea_cons (ev_var rfl) (ea_cons ev_c (ea_cons ev_c ea_nil))) ⟨vk, dk, 1, 3, rfl, rk.up e3, hsz.2.2.2.1, rfl⟩) fun hk => ?_) fun H4 e4 => q H4 ((E2.trans e3).trans e4)
                    have hn := nms_shape hk
                    have rk2 := rk.up e3
                    rw [hn.1] at rk2
                    obtain ⟨ak, rfl, hak⟩ := rk2.txs
                    obtain ⟨es, rfl, _, hl6, hall, _⟩ := drs_shape hb4
                    have sh : ∀ x ∈ es, ∃ n r, x = .tup (.str n :: r) := fun x hx => by
                      obtain ⟨n, a1, b1, s1, rfl, _⟩ := dr_shape (List.all_eq_true.mp hall x hx)
                      exact ⟨n, _, rfl⟩
                    obtain ⟨ad, dvs, rfl, hd1, hd2⟩ := rd.tupD
                    refine ev_sp stb_rights (ea_cons (ev_var rfl) (ea_cons (ev_var rfl) (ea_cons (ev_var rfl) ea_nil))) ⟨vr, dr, ad, es, _, ak, dk.txts, rfl, rr.up e3, hsz.2.2.2.2, rd.up e3, by omega, ?_, fun x hx => ?_, hak, rfl⟩
                    · show es.map D.fst = (es.map fun x => x.fst.txt).map D.str
                      rw [List.map_map]
                      refine List.map_congr_left fun x hx => ?_
                      obtain ⟨n, r, rfl⟩ := sh x hx
                      rfl
                    · obtain ⟨n, r, rfl⟩ := sh x hx
                      exact ⟨_, _, rfl⟩
      | _ => exact absurd ht (by unfold isTup; exact Bool.false_ne_true)
    · have ht' : isTup d 5 5 = false := by simpa using ht
      refine s_ifX (b := true) (et_is (et_or (b := false) (et_is (et_not tup5) (by rw [ht']; rfl : _ = true)) fun h => by cases h) rfl) (fun hb H1 e => ?_) (fun hb => by cases hb)
      refine s_ret (v := .bl false) ev_c fun H2 e2 => ?_
      have z : d.bld = false := by
        cases d with
        | tup ds =>
          match ds, ht' with
          | [_, _, _, _, _], h => exact absurd h (by simp [isTup])
          | [], _ | [_], _ | [_, _], _ | [_, _, _], _ | [_, _, _, _], _ | _ :: _ :: _ :: _ :: _ :: _ :: _, _ => rfl
        | _ => rfl
      rw [z] at q
      exact q H2 (e.trans e2)
end
end Kx

set_option Elab.async false
set_option linter.all false
set_option maxRecDepth 100000
set_option maxHeartbeats 1000000
namespace Kx
open PySem PySem.Spec PyProof.Rows L2 Evl
/-! ## an exception that is kept -/
/-- at a stands an exception object of the class cls -/
def ExR (cls : Value) (a : Addr) : HO := .ext fun h => ∃ (oe : Obj) (vs : Array Value), h.get? a = some oe ∧ Zc cls none oe ∧ oe.data = .fields vs
section
variable {X : Cx} {pins : List (Addr × Obj)} {σ : L2.St} {H : Hp} {s : Shared}
/-- what was pinned is tracked from now on -/
theorem track {cls : Value} {a : Addr} {oe : Obj} {vs : Array Value} (I : Inv X pins σ H s) (hg : s.heap.get? a = some oe) (hz : Zc cls none oe) (hd : oe.data = .fields vs) (hn : H a = none) (n0 : X.s_0.heap.get? a = none)
    (nL : a ≠ X.env.locals) (np : ∀ p ∈ X.pn ++ pins, p.1 ≠ a) : Inv X pins σ (upd H a (ExR cls a)) s := by
  have old : ∀ b o, X.s_0.heap.get? b = some o → b ≠ a := fun b o e q => by rw [q, n0] at e; cases e
  have ne : ∀ b u, H b = some u → b ≠ a := fun b u e q => by rw [q, hn] at e; cases e
  have at_ : ∀ b u, H b = some u → upd H a (ExR cls a) b = some u := fun b u e => (upd_ne (ne b u e)).trans e
  refine ⟨I.ok, I.os, I.bare, ⟨I.base.keep, I.base.slot, ?_, I.base.there, ?_, ?_, ?_⟩, I.loc, I.cell, (upd_ne nL.symm).trans I.free, ?_, ?_, ?_, I.len⟩
  · intro b o e n hx
    exact (upd_ne (old b o e)).trans (I.base.free b o e n hx)
  · intro b xs e
    exact at_ _ _ (I.base.tups b xs e)
  · intro b o u e
    exact at_ _ _ (I.base.frzs b o u e)
  · intro b ps e
    obtain ⟨m, q⟩ := I.base.tbls b ps e
    exact ⟨m, at_ _ _ q⟩
  · intro x c e
    refine (upd_ne fun q => ?_).trans (I.freeC x c e)
    obtain ⟨w, o, ho, hc⟩ := I.cell x c e
    rw [q, hg] at ho
    cases ho
    rw [hd] at hc
    cases hc
  · intro p hp
    obtain ⟨h1, h2, h3⟩ := I.pin p hp
    exact ⟨h1, (upd_ne (np p hp)).trans h2, h3⟩
  · intro b u e
    by_cases hb : b = a
    · subst hb
      rw [upd_same] at e
      cases e
      exact ⟨⟨oe, vs, hg, hz, hd⟩, ⟨oe, hg⟩, fun h1 h2 k st => let ⟨o, w, k1, k2, k3⟩ := k; ⟨o, w, st o k1, k2, k3⟩⟩
    · rw [upd_ne hb] at e
      exact (I.hok b u e).stay (fun _ _ _ q => q) (fun _ q => at_ _ _ q) fun _ _ q => at_ _ _ q
end
/-- the wish of «except c as n» whose suite keeps what it got -/
def wKeep (K : PySem.W.Frag) (c : Value) (i n : Nat) (ts : Addr → TS) (D : Ends) : WX := fun cls d σ H => PySem.W.exmOne K cls c = some true ∧ d = none ∧
  ∀ a, H a = none → σ.length = n → ts a { nx := fun σ' H' => H' a = none → D.nx (σ'.set i none) (upd H' a (ExR cls a)), rt := fun _ _ => False } (σ.set i (some (.ref a))) H
section
variable {X : Cx} {x n : Str} {c : Value} {i : Nat} {body suite : List Stmt} {b₀ : Stmt} {np pos pos' : Pos} {tb : WX → TS} {ts : Addr → TS}
/-- a stands apart from what was there at the entry, from the frames and from what is pinned -/
structure Off (X : Cx) (pins : List (Addr × Obj)) (a : Addr) : Prop where
  loc : a ≠ X.env.locals
  out : a ∉ X.fs
  new : X.s_0.heap.get? a = none
  pin : ∀ p ∈ X.pn ++ pins, p.1 ≠ a
/-- an object with fields that the heap B, in which the body began to fall, did not have -/
theorem Off.of {pins : List (Addr × Obj)} {σ : L2.St} {H : Hp} {s : Shared} {a : Addr} {B h : Heap} {o : Obj} {vs : Array Value} (J : Inv X pins σ H s) (st : X.stack = X.env :: X.outer) (fr : X.env.frame = some X.env.locals) (ex : X.ex = [])
    (ff : h.FunFrames B (X.env :: X.outer)) (at_a : h.get? a = some o) (da : o.data = .fields vs) (gone : B.get? a = none) (kept : ∀ b u, s.heap.get? b = some u → b ∉ frs X.stack → B.get? b = some u) : Off X pins a := by
  have far : a ∉ frs (X.env :: X.outer) := fun m => match ff.mem m with
    | ⟨_, u, eu, no⟩ => no vs (by rw [at_a] at eu; cases eu; exact da)
  have none_s : s.heap.get? a = none := Option.eq_none_iff_forall_ne_some.mpr fun u eu => by
    have := kept a u eu (st ▸ far)
    rw [gone] at this
    cases this
  exact {
    loc := fun z => far (List.mem_filterMap.mpr ⟨X.env, List.mem_cons_self, fr.trans (congrArg some z.symm)⟩)
    out := fun m => far (match List.mem_filterMap.mp m with | ⟨e, he, q⟩ => List.mem_filterMap.mpr ⟨e, List.mem_cons_of_mem _ he, q⟩)
    new := Option.eq_none_iff_forall_ne_some.mpr fun u eu => match J.base.there a u eu (by rw [ex]; exact fun z => nomatch z) with
      | ⟨u', q⟩ => by rw [none_s] at q; cases q
    pin := fun p hp z => by
      have := (J.pin p hp).1
      rw [z, none_s] at this
      cases this }
/-- the suite is through: its name goes, its object is tracked from here on -/
theorem suite_kept {pins : List (Addr × Obj)} {D : Ends} {a : Addr} {oe : Obj} {vs : Array Value} {f : Flow} {s : Shared} (off : Off X pins a) (ok : X.Ok) (z : Zc c none oe) (d : oe.data = .fields vs) (hN : X.N.Nodup) (hi : X.N[i]? = some n) (hln : X.env.kindOf n = some .local)
    (h : SP (X.suite a ((a, oe) :: (X.pn ++ pins))) [] { nx := fun σ' H' => H' a = none → D.nx (σ'.set i none) (upd H' a (ExR c a)), rt := fun _ _ => False } f s) :
    match f with
    | .next => wpAny (model X.prog X.w) X.A (do bindName X.env n .none; unbindBehindTheSuite X.env n pos) (fun _ s' => SP X pins D .next s') X.xe s
    | _ => False := by
  cases f with
  | next =>
    obtain ⟨σ1, H1, I1, q1⟩ := h
    have hp := I1.pin (a, oe) (List.mem_append_left _ List.mem_cons_self)
    exact gone_ok (track (I1.unsuite ok) hp.1 z d hp.2.1 off.new off.loc off.pin) hN hi hln fun s2 I2 => ⟨_, _, I2, q1 hp.2.1⟩
  | ret u => exact match h with | ⟨_, _, _, _, _, q⟩ => q
  | brk => exact match h with | ⟨_, _, _, q⟩ => q
  | cont => exact match h with | ⟨_, _, _, q⟩ => q
theorem ps_try_keep (hs : X.stack = X.env :: X.outer) (hf : X.env.frame = some X.env.locals) (hex : X.ex = []) (hN : X.N.Nodup) (hi : X.N[i]? = some n) (hln : X.env.kindOf n = some .local) (hc : Names X x c)
    (hb : ∀ (W : WX) (pn : List (Addr × Obj)) (xe : Value → Shared → Prop), Takes (X.tr pn xe) W → PSs (X.tr pn xe) body (tb W))
    (hsu : ∀ (a : Addr) (oe : Obj) (pn : List (Addr × Obj)), PSs (X.suite a ((a, oe) :: pn)) (b₀ :: suite) (ts a)) :
    PS X (.Try body [.ExceptHandler (some (.Name x np)) (some n) (b₀ :: suite) pos'] [] [] pos) (fun D σ H => tb (wKeep X.K c i X.N.length ts D) D σ H) := by
  refine ⟨fun pins s σ H D I h => ?_⟩
  have frames : X.A.frames = some (X.env :: X.outer) := hs ▸ I.ok.frames
  refine wpAny_Try_except (wpAny_mono ((hb (wKeep X.K c i X.N.length ts D) (X.pn ++ pins) _ fun u t fall => ?_).run [] s σ H D (I.toTry _) h) (fun f t ft => ?_) fun _ _ x => x)
  · obtain ⟨a, B, t0, p1, τ, G, cls, d, rfl, J0, kept, slots, sky, na, os, bare, found, rfl, go⟩ := fall
    have J := J0.ofTry (X := X) I.ok
    show wpAny (model X.prog X.w) X.A (noteFrame (.ref a) X.env) _ _ _
    refine Sky.land (B := B) Zc.steady frames hf (hs ▸ sky) fun h1 fly up1 => ?_
    obtain ⟨o1, v1, at1, z1, d1⟩ := fly.there
    have off : Off X pins a := Off.of J hs hf hex fly.2.2.1 at1 d1 fly.2.1 kept
    have J1 : Inv X pins τ G { t with heap := h1 } := J.landed kept fly.1 (slots.trans up1) os bare
    have I1 := J1.suite at1 d1 na off.loc off.out
    refine wpAny_handleBy_cons (codeAny_handlers_test ?_) fun z => nomatch z
    have hit := PySem.W.exm_one (M := model X.prog X.w) J1.kIn (fun A Q E u k q => wpAny_typeOf_ref (k _ _ at1) (z1.1.symm ▸ q)) found
    have look : ∀ {Q E : Value → Shared → Prop}, Q c { t with heap := h1 } → wpAny (model X.prog X.w) (X.A.mark (some (.ref a))) (eval (.Name x np) X.env) Q E { t with heap := h1 } := fun {Q E} q => match hc with
      | ⟨g, nd, .inl m⟩ => ld_glob (X := X.suite a ((a, o1) :: (X.pn ++ pins))) I1 g m q nd
      | ⟨g, nd, .inr ⟨m, bt, nn⟩⟩ => ld_blt (X := X.suite a ((a, o1) :: (X.pn ++ pins))) I1 g m bt q nn nd
    refine look (hit.here (codeAny_handlers_suite_as (HandSPX.lands_againZ fly fun h2 fly2 up2 => ?_)))
    obtain ⟨o2, v2, at2, z2, d2⟩ := fly2.there
    have I2 := (J.landed (s' := { t with heap := h2 }) kept fly2.1 ((slots.trans up1).trans up2) os bare).suite at2 d2 na off.loc off.out
    refine store_ok (X := X.suite a ((a, o2) :: (X.pn ++ pins))) (v := .ref a) I2 hN hi (.inl hln) rfl (fun t3 I3 => ?_) (.inr hln)
    refine wpAny_mono ((hsu a o2 (X.pn ++ pins)).run [] t3 _ G _ I3 (go a na J.len)) (fun f t4 e4 => ?_) fun _ _ z => z.elim
    have e5 := fun p => suite_kept (c := cls) (pos := p) off I.ok z2 d2 hN hi hln e4
    cases f with
    | next => exact e5 _
    | _ => exact (e5 pos).elim
  · cases f with
    | next => exact match ft with | ⟨_, _, J, q⟩ => wpAny_execs_nil ⟨_, _, J.ofTry I.ok, q⟩
    | ret u => exact match ft with | ⟨_, _, _, J, r, q⟩ => ⟨_, _, _, J.ofTry I.ok, r, q⟩
    | _ => exact match ft with | ⟨_, _, J, q⟩ => ⟨_, _, J.ofTry I.ok, q⟩
end
end Kx

set_option Elab.async false
set_option linter.all false
set_option maxRecDepth 100000
set_option maxHeartbeats 1000000
namespace Kx
open PySem PySem.Spec PyProof.Rows L2 Evl
/-! ## what a building is -/
structure IsB (d : D) (as : List Str) (es : List D) (ks : List Str) (rs : List D) : Prop where
  eq : d = .tup [.str "building", .tup (as.map D.str), .tup es, .tup (ks.map D.str), .tup rs]
  a2 : 2 ≤ as.length
  a6 : as.length ≤ 6
  an : as.Nodup
  av : ∀ s ∈ as, nmS s = true
  e1 : 1 ≤ es.length
  e6 : es.length ≤ 6
  ed : ∀ x ∈ es, D.dr as x = true
  en : (es.map fun x => x.fst.txt).Nodup
  k1 : 1 ≤ ks.length
  k3 : ks.length ≤ 3
  kn : ks.Nodup
  kv : ∀ s ∈ ks, nmS s = true
  rd : rs.all (D.rt (es.map fun x => x.fst.txt) ks) = true
  ra : ascT (rs.map (rkey (es.map fun x => x.fst.txt) ks)) = true
theorem isS_eq {d : D} {t : Str} (h : d.isS t = true) : d = .str t := by
  cases d with
  | str s => exact congrArg D.str (eq_of_beq h)
  | _ => cases h
theorem bld_is {d : D} (h : d.bld = true) : ∃ as es ks rs, IsB d as es ks rs := by
  cases d with
  | tup ds =>
    match ds, h with
    | [t, a, dd, k, r], h =>
      rw [bld_5] at h
      simp only [Bool.and_eq_true] at h
      obtain ⟨h1, ⟨h2, h3⟩, h4, h5⟩ := h
      have n1 := nms_shape h2
      have n2 := nms_shape h4
      obtain ⟨es, rfl, e1, e6, ed, en⟩ := drs_shape h3
      cases r with
      | tup rs =>
        rw [rts_tup, Bool.and_eq_true] at h5
        refine ⟨a.txts, es, k.txts, rs, ?_, by omega, by omega, n1.2.2.2.1, n1.2.2.2.2, e1, e6, fun x hx => List.all_eq_true.mp ed x hx, en, by omega, by omega, n2.2.2.2.1, n2.2.2.2.2, h5.1, h5.2⟩
        rw [← n1.1, ← n2.1, isS_eq h1]
      | _ => cases h5
    | [], h | [_], h | [_, _], h | [_, _, _], h | [_, _, _, _], h | _ :: _ :: _ :: _ :: _ :: _ :: _, h => cases h
  | _ => cases h
def D.dn : D → List Str
  | .tup [_, _, .tup es, _, _] => es.map fun x => x.fst.txt
  | _ => []
def D.item (d : D) (j : Nat) : D := match d with
  | .tup ds => ds.getD j .non
  | _ => .non
def D.areaAt (d : D) (n : Str) (s : Int) : Str := (((d.item 2).item (d.dn.idxOf n)).item (1 + s).toNat).txt
def D.areas (d : D) : List Str := (d.item 1).txts
theorem IsB.dn {d : D} {as : List Str} {es : List D} {ks : List Str} {rs : List D} (h : IsB d as es ks rs) : d.dn = es.map fun x => x.fst.txt := by rw [h.eq]; rfl
theorem IsB.areas {d : D} {as : List Str} {es : List D} {ks : List Str} {rs : List D} (h : IsB d as es ks rs) : d.areas = as := by
  rw [h.eq]
  show (as.map D.str).map D.txt = as
  rw [List.map_map]
  exact (List.map_congr_left fun _ _ => rfl).trans (List.map_id as)
/-! ## defs that may raise -/
inductive Out where
  | ret (z : V)
  | exc (C : Addr)
abbrev OkO := List V → Hp → Out → Prop
def outOk (o : Out) (H : Hp) (Q : VK) (E : XK) : Prop := match o with
  | .ret z => Q z H
  | .exc C => E (.ref C) none H
def spO (ok : OkO) : Sp := fun vs H Q E => ∃ o, ok vs H o ∧ ∀ H', Ex H H' → outOk o H' Q E
section
variable {K : PySem.W.Frag} {σ : L2.St} {H H' : Hp} {ta tb te tl : TE} {v x z : V}
def EvP (te : TE) (σ : L2.St) (H : Hp) (xs : List V) : Prop := ∀ H1, Ex H H1 → ∀ Q : VK, (∀ p H2, Ex H1 H2 → TupS H2 p xs → Q (.ref p) H2) → te σ H1 Q
theorem ep_tupOf {xs : List V} (h : EvL te σ H xs) : EvP (tCB (rTupOf K) (tCons te tNil)) σ H xs := fun H1 e Q q =>
  h H1 e _ fun p H2 _ e2 hp => ⟨p, xs, rfl, .of hp, fun r o hr ho => q r _ (e2.trans (Ex.new hr)) ⟨o, ho, upd_same⟩⟩
theorem ev_tixP {ys : List Str} {y : Str} (h : EvP ta σ H (sv ys)) (hx : Ev te σ H (.str y)) (hm : y ∈ ys) : Ev (tTix ta (tCons te tNil)) σ H (.int (ys.idxOf y : Nat)) := fun H1 e Q q =>
  h H1 e _ fun p H2 e2 hp => ⟨p, ys, rfl, hp, hx H2 (e.trans e2) _ fun H3 e3 => ⟨hp.up e3, y, _, rfl, (idx_at hm).1, (idx_at hm).2, q H3 (e2.trans e3)⟩⟩
theorem ev_ixTi {a : Addr} {vs : List V} {j : Nat} {k : Int} (h : Ev ta σ H (.ref a)) (hk : Ev tb σ H (.int k)) (ha : TupS H a vs) (e : k = (j : Int)) (hj : vs[j]? = some v) : Ev (tOp (rIxT K) ta tb) σ H v :=
  ev_op h hk (rv_ixT ha.sq (by rw [e]; exact atI_nat hj))
end
def spDN : Sp := fun vs H Q _ => ∃ v d, vs = [v] ∧ Rep H v d ∧ d.bld = true ∧ ∀ p H', Ex H H' → TupS H' p (sv d.dn) → Q (.ref p) H'
def okSide : OkF := fun vs H z => ∃ v d n s, vs = [v, .str n, .int s] ∧ Rep H v d ∧ d.bld = true ∧ n ∈ d.dn ∧ (s = 0 ∨ s = 1) ∧ z = .str (d.areaAt n s)
theorem stb_side : Stb okSide := fun _ _ _ _ e ⟨v, d, n, s, h1, h2, h3⟩ => ⟨v, d, n, s, h1, h2.up e, h3⟩
section
variable {P : Program} {w : World} {K : PySem.W.Frag} {mg : Str → Option Value} {base : Heap} (T : Txt K mg)
/-- the third part of a building, its doors -/
theorem door_at {d : D} {as : List Str} {es : List D} {ks : List Str} {rs : List D} {H : Hp} {v : V} (B : IsB d as es ks rs) (hv : Rep H v d) :
    ∃ a vs b ws, v = .ref a ∧ TupS H a vs ∧ vs[2]? = some (.ref b) ∧ TupS H b ws ∧ Reps H ws es := by
  rw [B.eq] at hv
  obtain ⟨a, vs, rfl, ha, hs⟩ := hv.tupD
  cases hs with
  | cons r0 hs => cases hs with
    | cons r1 hs => cases hs with
      | cons r2 hs =>
        obtain ⟨b, ws, rfl, hb, hbs⟩ := r2.tupD
        exact ⟨a, _, b, ws, rfl, ha, rfl, hb, hbs⟩
theorem ok_door_names : FnOk P w K mg base CX0 1 T.a_door_names T.d_door_names ["building"] spDN := by
  refine T.F_door_names.ok sc_door_names (fun vs H Q E h => ?_) (fun cdv A outer s H vs Q E hr h => ?_)
  · obtain ⟨v, d, rfl, _⟩ := h
    rfl
  · obtain ⟨v, d, rfl, hv, hb, q⟩ := h
    refine ⟨_, pss_one (ps_ret (pe_callTy call_tupF (by rfl) T.z_tuple bo_tuple (pa_cons (pe_lc (own := [("door", 1)]) (g := gName 1) (tt := tYes) (by rfl) sc_door_names.nd (pi_tup (pe_ix ix_tup (pv 0) pe_int (fun _ _ => rfl))) (blkOk_by (N := ["building", "door"]) (sc := defScope s_door_names) (by decide +kernel))
        (fun _ _ _ _ _ => pg_name (i := 1) sc_door_names.nd rfl (.inl rfl)) (fun _ _ _ _ _ => pts_nil) (fun _ _ _ _ _ => pe_ix (r := rIxT K) ix_tup (pv 1) pe_int (fun _ _ => rfl))) pa_nil))), ?_⟩
    obtain ⟨as, es, ks, rs, B⟩ := bld_is hb
    obtain ⟨a, vs, b, ws, rfl, ha, h2, hbt, hbs⟩ := door_at B hv
    refine ep_tupOf (K := K) (xs := sv d.dn) (el_lcT (ev_ixT (j := 2) (ev_var rfl) ha h2) hbt.sq ?_ (by rw [hbs.length]; have := B.e6; omega) fun j x y hx hy => ?_) H (Ex.refl H) Q fun p H2 e hp => q p H2 e hp
    · rw [B.dn]
      unfold sv
      rw [List.length_map, List.length_map, hbs.length]
    · obtain ⟨e, he, r⟩ := hbs.get hx
      obtain ⟨n, a1, b1, s1, rfl, _⟩ := dr_shape (B.ed e (List.mem_of_getElem? he))
      rw [B.dn] at hy
      unfold sv at hy
      rw [List.getElem?_map, List.getElem?_map, he] at hy
      have ey : y = .str n := (Option.some.inj hy).symm
      subst ey
      obtain ⟨c, us, rfl, hc, hcs⟩ := r.tupD
      cases hcs with
      | cons q0 _ =>
        obtain rfl := q0.strD
        exact ev_ixT (j := 0) (ev_var rfl) hc rfl
theorem ep_dn {σ : L2.St} {H : Hp} {ta : TE} {v : V} {d : D} {E : XK} (h : Ev ta σ H v) (r : Rep H v d) (hb : d.bld = true) : EvP (tCall spDN [] E (tCons ta tNil)) σ H (sv d.dn) := fun H1 e Q q =>
  h H1 e _ fun H2 e2 => ⟨v, d, rfl, r.up (e.trans e2), hb, fun p H3 e3 hp => q p H3 (e2.trans e3) hp⟩
theorem ok_side_area : FnOk P w K mg base CX0 2 T.a_side_area T.d_side_area ["building", "door", "side"] (spX okSide) := by
  refine T.F_side_area.ok sc_side_area (fun vs H Q E h => ?_) (fun cdv A outer s H vs Q E hr h => ?_)
  · obtain ⟨z, ⟨v, d, n, s, rfl, _⟩, _⟩ := h
    rfl
  · obtain ⟨z, ⟨v, d, n, sd, rfl, hv, hb, hn, hs, rfl⟩, q⟩ := h
    refine ⟨_, pss_one (ps_ret (pe_ix ix_tup (pe_ix ix_tup (pe_ix ix_tup (pv 0) pe_int (fun _ _ => rfl)) (pe_tix (pe_call (ok_door_names T) hr (by rfl) T.g_door_names T.F_door_names.kp (b_door_names T) .nil pass0 (pa_cons (pv 0) pa_nil)) (pa_cons (pv 1) pa_nil)) (fun _ _ => rfl)) (pe_op op_add pe_int (pv 2)) (fun _ _ => rfl))), ?_⟩
    obtain ⟨as, es, ks, rs, B⟩ := bld_is hb
    obtain ⟨a, vs, b, ws, rfl, ha, h2, hbt, hbs⟩ := door_at B hv
    have hlt := List.idxOf_lt_length_of_mem hn
    have hln : d.dn.length = es.length := by rw [B.dn, List.length_map]
    rw [hln] at hlt
    have he : es[d.dn.idxOf n]? = some es[d.dn.idxOf n] := List.getElem?_eq_getElem hlt
    obtain ⟨x, hx, r⟩ := hbs.getD he
    obtain ⟨n1, a1, b1, s1, ee, _⟩ := dr_shape (B.ed _ (List.mem_of_getElem? he))
    rw [ee] at r
    have harea : d.areaAt n sd = if sd = 0 then a1 else b1 := by
      unfold D.areaAt
      have e2 : (d.item 2).item (d.dn.idxOf n) = es[d.dn.idxOf n] := by
        have e3 : d.item 2 = .tup es := by rw [B.eq]; rfl
        rw [e3]
        show es.getD _ _ = _
        rw [List.getD_eq_getElem?_getD, he]
        rfl
      rw [e2, ee]
      rcases hs with rfl | rfl <;> rfl
    rw [harea] at q
    obtain ⟨c, us, rfl, hc, hcs⟩ := r.tupD
    have hi : Ev (tOp (rIxT K) (tOp (rIxT K) (tVar 0) (tC (.int 2))) (tTix (tCall spDN [] E0 (tCons (tVar 0) tNil)) (tCons (tVar 1) tNil))) (L2.start ["building", "door", "side"] [.ref a, .str n, .int sd]) H (.ref c) :=
      ev_ixTi (ev_ixT (j := 2) (ev_var rfl) ha h2) (ev_tixP (ep_dn (ev_var rfl) hv hb) (ev_var rfl) hn) hbt rfl hx
    cases hcs with
    | cons q0 hcs => cases hcs with
      | cons q1 hcs => cases hcs with
        | cons q2 hcs =>
          obtain rfl := q1.strD
          obtain rfl := q2.strD
          refine s_ret (v := .str (if sd = 0 then a1 else b1)) (ev_ixTi (j := if sd = 0 then 1 else 2) hi (ev_op ev_c (ev_var rfl) rv_I0) hc ?_ ?_) fun H2 e2 => q H2 e2
          · rcases hs with rfl | rfl <;> rfl
          · rcases hs with rfl | rfl <;> rfl
/-! ## the errors -/
def okCB (C : Addr) : OkO := fun vs H o => ∃ v d, vs = [v] ∧ Rep H v d ∧ d.Sz ∧ o = if d.bld = true then .ret .non else .exc C
def okCD (C : Addr) : OkO := fun vs H o => ∃ v d x e, vs = [v, x] ∧ Rep H v d ∧ d.bld = true ∧ Rep H x e ∧ o = if amD e d.dn = true then .ret .non else .exc C
theorem ok_check_building : FnOk P w K mg base (L2.CX P w) 5 T.a_check_building T.d_check_building ["building"] (spO (okCB T.c_BadBuilding)) := by
  refine T.F_check_building.okX sc_check_building (fun vs H Q E h => ?_) (fun cdv A outer s H vs Q E hr h => ?_)
  · obtain ⟨o, ⟨v, d, rfl, _⟩, _⟩ := h
    rfl
  · obtain ⟨o, ⟨v, d, rfl, hv, hz, rfl⟩, q⟩ := h
    refine ⟨_, pss_one (ps_if (pt_not (pt_val (pe_call (ok_is_building T) hr (by rfl) T.g_is_building T.F_is_building.kp (b_is_building T) .nil pass0 (pa_cons (pv 0) pa_nil))))
      (pss_one (ps_raise rfl (takes_of rfl rfl rfl rfl) (pmk_own PySem.F.excBase_ValueError T.E_BadBuilding.q T.E_BadBuilding.g T.E_BadBuilding.kp (raises_own T.E_BadBuilding.bx T.E_BadBuilding.ty) rfl))) pss_nil), ?_⟩
    refine s_if (b := !d.bld) (et_not (et_B (ev_sp stb_bld (ea_cons (ev_var rfl) ea_nil) ⟨v, d, rfl, hv, hz, rfl⟩))) (fun hb H1 e => ?_) (fun hb H1 e => ?_)
    · rw [not_t hb] at q
      exact q H1 e
    · rw [not_f hb] at q
      exact q H1 e
end
end Kx

set_option Elab.async false
set_option linter.all false
set_option maxRecDepth 100000
set_option maxHeartbeats 1000000
namespace Kx
open PySem PySem.Spec PyProof.Rows L2 Evl
section
variable {K : PySem.W.Frag} {σ : L2.St} {H H' : Hp} {ta tb te tl : TE} {v x z : V}
theorem ev_spP {ok : OkF} {xs : List V} {E : XK} (ha : Ev ta σ H x) (hb : EvP tb σ H xs) (k : ∀ p H1, TupS H1 p xs → Ex H H1 → ok [x, .ref p] H1 z) : Ev (tCall (spX ok) [] E (tCons ta (tCons tb tNil))) σ H z :=
  fun H1 e Q q => ha H1 e _ fun H2 e2 => hb H2 (e.trans e2) _ fun p H3 e3 hp => ⟨z, k p H3 hp ((e.trans e2).trans e3), fun H4 e4 => q H4 ((e2.trans e3).trans e4)⟩
/-- a call as a statement of a def that may raise -/
theorem s_callO {ok : OkO} {o : Out} {D : Ends} {E : XK} {u : TS} {ta : TA} {vs : List V} (h : EvA ta σ H vs) (hk : ∀ H1, Ex H H1 → ok vs H1 o) (k : ∀ H2, Ex H H2 → outOk o H2 (fun _ H' => u D σ H') E) : tSeq (tDrop (tCall (spO ok) [] E ta)) u D σ H :=
  h H (Ex.refl H) _ fun H1 e => by
    rw [List.append_nil]
    exact ⟨o, hk H1 e, fun H2 e2 => k H2 (e.trans e2)⟩
end
def okAt (cB cD cS : Addr) : OkO := fun vs H o => ∃ v d x e y f, vs = [v, x, y] ∧ Rep H v d ∧ d.Sz ∧ Rep H x e ∧ Rep H y f ∧
  o = if d.bld = true then (if amD e d.dn = true then (match f with | .int s => (if isBetw (.int s) 0 1 = true then .ret (.str (d.areaAt e.txt s)) else .exc cS) | _ => .exc cS) else .exc cD) else .exc cB
def okCS (C : Addr) : OkO := fun vs H o => ∃ y f, vs = [y] ∧ Rep H y f ∧ o = if isBetw f 0 1 = true then .ret .non else .exc C
section
variable {P : Program} {w : World} {K : PySem.W.Frag} {mg : Str → Option Value} {base : Heap} (T : Txt K mg)
theorem ok_check_door : FnOk P w K mg base (L2.CX P w) 2 T.a_check_door T.d_check_door ["building", "door"] (spO (okCD T.c_BadDoor)) := by
  refine T.F_check_door.okX sc_check_door (fun vs H Q E h => ?_) (fun cdv A outer s H vs Q E hr h => ?_)
  · obtain ⟨o, ⟨v, d, x, e, rfl, _⟩, _⟩ := h
    rfl
  · obtain ⟨o, ⟨v, d, x, e, rfl, hv, hb, hx, rfl⟩, q⟩ := h
    refine ⟨_, pss_one (ps_if (pt_not (pt_val (pe_call (ok_is_among T) hr (by rfl) T.g_is_among T.F_is_among.kp (b_is_among T) .nil pass0 (pa_cons (pv 1) (pa_cons (pe_call (ok_door_names T) hr (by rfl) T.g_door_names T.F_door_names.kp (b_door_names T) .nil pass0 (pa_cons (pv 0) pa_nil)) pa_nil)))))
      (pss_one (ps_raise rfl (takes_of rfl rfl rfl rfl) (pmk_own PySem.F.excBase_ValueError T.E_BadDoor.q T.E_BadDoor.g T.E_BadDoor.kp (raises_own T.E_BadDoor.bx T.E_BadDoor.ty) rfl))) pss_nil), ?_⟩
    refine s_if (b := !amD e d.dn) (et_not (et_B (ev_spP (ok := okAmong) (ev_var rfl) (ep_dn (ev_var rfl) hv hb) fun p H1 hp e1 => ⟨x, e, p, d.dn, rfl, hx.up e1, .inr hp.rd, rfl⟩))) (fun hb H1 e1 => ?_) (fun hb H1 e1 => ?_)
    · rw [not_t hb] at q
      exact q H1 e1
    · rw [not_f hb] at q
      exact q H1 e1
theorem ok_check_side : FnOk P w K mg base (L2.CX P w) 2 T.a_check_side T.d_check_side ["side"] (spO (okCS T.c_BadSide)) := by
  refine T.F_check_side.okX sc_check_side (fun vs H Q E h => ?_) (fun cdv A outer s H vs Q E hr h => ?_)
  · obtain ⟨o, ⟨y, f, rfl, _⟩, _⟩ := h
    rfl
  · obtain ⟨o, ⟨y, f, rfl, hy, rfl⟩, q⟩ := h
    refine ⟨_, pss_one (ps_if (pt_not (pt_val (pe_call (ok_is_between T) hr (by rfl) T.g_is_between T.F_is_between.kp (b_is_between T) .nil pass0 (pa_cons (pv 0) (pa_cons pe_int (pa_cons pe_int pa_nil))))))
        (pss_one (ps_raise rfl (takes_of rfl rfl rfl rfl) (pmk_own PySem.F.excBase_ValueError T.E_BadSide.q T.E_BadSide.g T.E_BadSide.kp (raises_own T.E_BadSide.bx T.E_BadSide.ty) rfl))) pss_nil), ?_⟩
    refine s_if (b := !isBetw f 0 1) (et_not (et_B (ev_sp stb_betw (ea_cons (ev_var rfl) (ea_cons ev_c (ea_cons ev_c ea_nil))) ⟨y, f, 0, 1, rfl, hy, rfl⟩))) (fun hb H1 e => ?_) (fun hb H1 e => ?_)
    · rw [not_t hb] at q
      exact q H1 e
    · rw [not_f hb] at q
      exact q H1 e
theorem ok_area_at : FnOk P w K mg base (L2.CX P w) 6 T.a_area_at T.d_area_at ["building", "door", "side"] (spO (okAt T.c_BadBuilding T.c_BadDoor T.c_BadSide)) := by
  refine T.F_area_at.okX sc_area_at (fun vs H Q E h => ?_) (fun cdv A outer s H vs Q E hr h => ?_)
  · obtain ⟨o, ⟨v, d, x, e, y, f, rfl, _⟩, _⟩ := h
    rfl
  · obtain ⟨o, ⟨v, d, x, e, y, f, rfl, hv, hz, hx, hy, rfl⟩, q⟩ := h
    have hr2 : Room 2 (A.deeper (envOfC "area_at" (defScope s_area_at) s.heap.objs.size T.a_area_at cdv)) := hr.mono (by decide)
    refine ⟨_, pss_cons (ps_expr (pe_call (E := E) (ok_check_building T) hr (by rfl) T.g_check_building T.F_check_building.kp (b_check_building T) .nil (passes_call (takes_of rfl rfl rfl rfl) fun _ _ _ _ h => h) (pa_cons (pv 0) pa_nil)))
      (pss_cons (ps_expr (pe_call (E := E) (ok_check_door T) hr2 (by rfl) T.g_check_door T.F_check_door.kp (b_check_door T) .nil (passes_call (takes_of rfl rfl rfl rfl) fun _ _ _ _ h => h) (pa_cons (pv 0) (pa_cons (pv 1) pa_nil))))
      (pss_cons (ps_expr (pe_call (E := E) (ok_check_side T) hr2 (by rfl) T.g_check_side T.F_check_side.kp (b_check_side T) .nil (passes_call (takes_of rfl rfl rfl rfl) fun _ _ _ _ h => h) (pa_cons (pv 2) pa_nil)))
      (pss_one (ps_ret (pe_call (ok_side_area T) hr2 (by rfl) T.g_side_area T.F_side_area.kp (b_side_area T) .nil pass0 (pa_cons (pv 0) (pa_cons (pv 1) (pa_cons (pv 2) pa_nil)))))))), ?_⟩
    refine s_callO (o := if d.bld = true then .ret .non else .exc T.c_BadBuilding) (ea_cons (ev_var rfl) ea_nil) (fun H1 e1 => ⟨v, d, rfl, hv.up e1, hz, rfl⟩) fun H2 e2 => ?_
    by_cases hb : d.bld = true
    · rw [if_pos hb] at q ⊢
      refine s_callO (o := if amD e d.dn = true then .ret .non else .exc T.c_BadDoor) (ea_cons (ev_var rfl) (ea_cons (ev_var rfl) ea_nil)) (fun H1 e1 => ⟨v, d, x, e, rfl, hv.up (e2.trans e1), hb, hx.up (e2.trans e1), rfl⟩) fun H3 e3 => ?_
      have E3 := e2.trans e3
      by_cases hd : amD e d.dn = true
      · rw [if_pos hd] at q ⊢
        obtain ⟨ee, hm⟩ := am_str hd
        refine s_callO (o := if isBetw f 0 1 = true then .ret .non else .exc T.c_BadSide) (ea_cons (ev_var rfl) ea_nil) (fun H1 e1 => ⟨y, f, rfl, hy.up (E3.trans e1), rfl⟩) fun H4 e4 => ?_
        have E4 := E3.trans e4
        by_cases hs3 : isBetw f 0 1 = true
        · rw [if_pos hs3]
          cases f with
          | int sd =>
            dsimp only at q
            rw [if_pos hs3] at q
            have hs : sd = 0 ∨ sd = 1 := by
              unfold isBetw at hs3
              rw [Bool.and_eq_true] at hs3
              have h1 := of_decide_eq_true hs3.1
              have h2 := of_decide_eq_true hs3.2
              omega
            rw [ee] at hx
            obtain rfl := hx.strD
            obtain rfl := hy.intD
            exact s_ret (v := .str (d.areaAt e.txt sd)) (ev_sp stb_side (ea_cons (ev_var rfl) (ea_cons (ev_var rfl) (ea_cons (ev_var rfl) ea_nil))) ⟨v, d, e.txt, sd, rfl, hv.up E4, hb, hm, hs, rfl⟩) fun H5 e5 => q H5 (E4.trans e5)
          | _ => cases hs3
        · rw [if_neg hs3]
          cases f with
          | int sd =>
            dsimp only at q
            rw [if_neg hs3] at q
            exact q H4 E4
          | _ => exact q H4 E4
      · rw [if_neg hd] at q ⊢
        exact q H3 E3
    · rw [if_neg hb] at q ⊢
      exact q H2 e2
end
end Kx

set_option Elab.async false
set_option linter.all false
set_option maxRecDepth 100000
set_option maxHeartbeats 1000000
namespace Kx
open PySem PySem.Spec PyProof.Rows L2 Evl
section
variable {K : PySem.W.Frag} {σ : L2.St} {H H' : Hp} {ta tb te tl : TE} {v x z : V}
/-- [x for x in a tuple if t] -/
theorem el_lcTif {i : Nat} {tt : TT} {a : Addr} {xs : List V} {p : V → Bool} (h : Ev tl σ H (.ref a)) (hx : SqT K H a xs) (hz : xs.length < 100000)
    (ht : ∀ (j : Nat) (x : V), xs[j]? = some x → EvT tt ((σ.set i none).set i (some x)) H (p x)) (he : ∀ (j : Nat) (x : V), xs[j]? = some x → Ev te ((σ.set i none).set i (some x)) H x) : EvL (tLc (iTup K tl) (gName i) tt te [i]) σ H (xs.filter p) := fun H1 e Q q =>
  h H1 e _ fun H2 e2 => ⟨a, rfl, ⟨xs, ex_t (e.trans e2) hx⟩, fun D hD =>
    lc_tup (xs := xs) (fun j H' => Ex H2 H' ∧ H' D = some (.lst ((xs.take j).filter p))) ⟨Ex.new hD, upd_same⟩ (fun j H' _ p => ex_t ((e.trans e2).trans p.1) hx)
      (fun j x H' hj pv => ⟨by show (((σ.set i none).set i (some x)).set i none) = (σ.set i none); rw [List.set_set, List.set_set], by
        refine ht j x hj H' ((e.trans e2).trans pv.1) _ fun H3 e3 => ?_
        have step : (xs.take (j + 1)).filter p = (xs.take j).filter p ++ (if p x = true then [x] else []) := by
          rw [List.take_add_one, hj, List.filter_append]
          show _ ++ List.filter p [x] = _
          by_cases hp : p x = true
          · rw [if_pos hp, List.filter_cons_of_pos hp, List.filter_nil]
          · rw [if_neg hp, List.filter_cons_of_neg hp, List.filter_nil]
        by_cases hp : p x = true
        · rw [if_pos hp]
          rw [if_pos hp] at step
          refine he j x hj H3 (((e.trans e2).trans pv.1).trans e3) _ fun H4 e4 => ⟨(xs.take j).filter p, e4 _ _ (e3 _ _ pv.2), ?_, ((pv.1.trans e3).trans e4).mut hD, ?_⟩
          · refine sz_lt (Nat.lt_of_le_of_lt (List.length_filter_le _ _) ?_)
            rw [List.length_take]
            exact Nat.lt_of_le_of_lt (Nat.min_le_right _ _) hz
          · rw [upd_same, step]
        · rw [if_neg hp]
          rw [if_neg hp, List.append_nil] at step
          exact ⟨pv.1.trans e3, by rw [step]; exact e3 _ _ pv.2⟩⟩)
      (fun H' pv => q D H' (fresh_back e2 hD) (e2.trans pv.1) (by rw [pv.2, List.take_of_length_le (Nat.le_refl _)]))⟩
theorem s_asgX {D0 : Ends} {u : TS} {i : Nat} (h : Ev te σ H v) (k : ∀ H1, Ex H H1 → u D0 (σ.set i (some v)) H1) : tSeq (tAsg te (gName i)) u D0 σ H := s_asg h k
end
/-- a part of a building, by its place -/
def okItem (j : Nat) : OkF := fun vs H z => ∃ a us, vs = [.ref a] ∧ TupS H a us ∧ us[j]? = some z
theorem stb_item (j : Nat) : Stb (okItem j) := fun _ _ _ _ e ⟨a, us, h1, h2, h3⟩ => ⟨a, us, h1, h2.up e, h3⟩
def okCF : OkF := fun vs H z => ∃ v d f, vs = [v, .ref f] ∧ Rep H v d ∧ d.bld = true ∧ H f = some (.lst []) ∧ z = .non
theorem stb_cf : Stb okCF := fun _ _ _ _ e ⟨v, d, f, h1, h2, h3, h4, h5⟩ => ⟨v, d, f, h1, h2.up e, h3, e _ _ h4, h5⟩
def spNil : Sp := fun vs H Q _ => ∃ v d f w, vs = [v, .ref f, w] ∧ Rep H v d ∧ d.bld = true ∧ H f = some (.lst []) ∧ ∀ p H', H p = none → Ex H H' → H' p = some (.lst []) → Q (.ref p) H'
def spReach : Sp := fun vs H Q _ => ∃ v d f s, vs = [v, .ref f, .str s] ∧ Rep H v d ∧ d.bld = true ∧ H f = some (.lst []) ∧ ∀ p H', H p = none → Ex H H' → H' p = some (.lst (sv (d.areas.filter fun y => amg y [s]))) → Q (.ref p) H'
section
variable {P : Program} {w : World} {K : PySem.W.Frag} {mg : Str → Option Value} {base : Heap} (T : Txt K mg)
theorem ok_areas_of : FnOk P w K mg base CX0 1 T.a_areas_of T.d_areas_of ["building"] (spX (okItem 1)) := by
  refine T.F_areas_of.ok sc_areas_of (fun vs H Q E h => ?_) (fun cdv A outer s H vs Q E hr h => ?_)
  · obtain ⟨z, ⟨a, us, rfl, _⟩, _⟩ := h
    rfl
  · obtain ⟨z, ⟨a, us, rfl, ha, hz⟩, q⟩ := h
    exact ⟨_, pss_one (ps_ret (pe_ix ix_tup (pv 0) pe_int (fun _ _ => rfl))), s_ret (ev_ixT (j := 1) (ev_var rfl) ha hz) q⟩
theorem ok_doors_of : FnOk P w K mg base CX0 1 T.a_doors_of T.d_doors_of ["building"] (spX (okItem 2)) := by
  refine T.F_doors_of.ok sc_doors_of (fun vs H Q E h => ?_) (fun cdv A outer s H vs Q E hr h => ?_)
  · obtain ⟨z, ⟨a, us, rfl, _⟩, _⟩ := h
    rfl
  · obtain ⟨z, ⟨a, us, rfl, ha, hz⟩, q⟩ := h
    exact ⟨_, pss_one (ps_ret (pe_ix ix_tup (pv 0) pe_int (fun _ _ => rfl))), s_ret (ev_ixT (j := 2) (ev_var rfl) ha hz) q⟩
theorem ok_check_free : FnOk P w K mg base CX0 2 T.a_check_free T.d_check_free ["building", "free"] (spX okCF) := by
  refine T.F_check_free.ok sc_check_free (fun vs H Q E h => ?_) (fun cdv A outer s H vs Q E hr h => ?_)
  · obtain ⟨z, ⟨v, d, f, rfl, _⟩, _⟩ := h
    rfl
  · obtain ⟨z, ⟨v, d, f, rfl, hv, hb, hf, rfl⟩, q⟩ := h
    refine ⟨_, pss_cons (ps_set (i := 2) sc_check_free.nd rfl (.inr rfl) (pe_call (ok_door_names T) hr (by rfl) T.g_door_names T.F_door_names.kp (b_door_names T) .nil pass0 (pa_cons (pv 0) pa_nil)))
      (pss_one (ps_if (PW.pt (pw_or (pt_not (pt_val (pe_call (ok_is_row T) hr (by rfl) T.g_is_row T.F_is_row.kp (b_is_row T) .nil pass0 (pa_cons (pv 1) pa_nil))))
          (pw_or (pt_not (pt_val (pe_callB (cr_all rfl) (by rfl) T.z_all bo_all (pa_cons (pe_lc (own := [("item", 3)]) (g := gName 3) (tt := tYes) (by rfl) sc_check_free.nd (pi_list (pv 1)) (blkOk_by (N := ["building", "free", "names", "item"]) (sc := defScope s_check_free) (by decide +kernel))
            (fun _ _ _ _ _ => pg_name (i := 3) sc_check_free.nd rfl (.inl rfl)) (fun _ _ _ _ _ => pts_nil) (fun _ _ _ _ _ => pe_call (ok_is_among T) hr (by rfl) T.g_is_among T.F_is_among.kp (b_is_among T) .nil pass0 (pa_cons (pv 3) (pa_cons (pv 2) pa_nil)))) pa_nil))))
          (pw_or1 (pt_not (pt_val (pe_call (ok_are_unlike T) hr (by rfl) T.g_are_unlike T.F_are_unlike.kp (b_are_unlike T) .nil pass0 (pa_cons (pv 1) pa_nil))))))))
        pss_never pss_nil)), ?_⟩
    refine ep_dn (ev_var rfl) hv hb H (Ex.refl H) _ fun p H1 e1 hp => ?_
    refine s_if (b := false) (et_is (et_or (a := false) (b := false) (et_is (et_not (et_B (ev_sp stb_row (ea_cons (ev_var rfl) ea_nil) ⟨.ref f, .lst [], rfl, .lst (e1 _ _ hf) .nil, rfl⟩))) rfl) fun _ => et_is (et_or (a := false) (b := false) (et_is (et_not (et_B (ev_all (bs := []) (el_lcL (xs := []) (ev_var rfl) (.of (e1 _ _ hf)) rfl (by decide) fun j x y hx => by simp at hx)))) rfl)
      fun _ => et_is (et_not (et_B (ev_sp stb_unlike (ea_cons (ev_var rfl) ea_nil) ⟨f, [], rfl, .inl (e1 _ _ hf), by decide, rfl⟩))) rfl) rfl) rfl) (fun hb => by cases hb) (fun _ H2 e2 => ?_)
    exact q H2 (e1.trans e2)
theorem ok_steps_from : FnOk P w K mg base CX0 2 T.a_steps_from T.d_steps_from ["building", "free", "area"] spNil := by
  refine T.F_steps_from.ok sc_steps_from (fun vs H Q E h => ?_) (fun cdv A outer s H vs Q E hr h => ?_)
  · obtain ⟨v, d, f, w, rfl, _⟩ := h
    rfl
  · obtain ⟨v, d, f, w, rfl, hv, hb, hf, q⟩ := h
    refine ⟨_, pss_cons (ps_set (i := 3) sc_steps_from.nd rfl (.inl rfl) (pe_lst pa_nil))
      (pss_cons (ps_for PassesOwn.never rfl (pi_tup (pe_call (ok_doors_of T) hr (by rfl) T.g_doors_of T.F_doors_of.kp (b_doors_of T) .nil pass0 (pa_cons (pv 0) pa_nil)))
          (pg_tup rfl (pgs_cons (pg_name (i := 4) sc_steps_from.nd rfl (.inl rfl)) (pgs_cons (pg_name (i := 5) sc_steps_from.nd rfl (.inl rfl)) (pgs_cons (pg_name (i := 6) sc_steps_from.nd rfl (.inl rfl)) (pgs_cons (pg_name (i := 7) sc_steps_from.nd rfl (.inl rfl)) pgs_nil)))))
          (pss_one (ps_if (PW.pt (pw_and (pt_cmpR op_in_seq (pv 4) (pv 1) (by rfl)) (pw_and1 (pt_cmpR op_eq (pv 2) (pv 5) (nomark _))))) pss_never
            (pss_one (ps_if (PW.pt (pw_and (pt_cmpR op_in_seq (pv 4) (pv 1) (by rfl)) (pw_and1 (pt_cmpR op_eq (pv 2) (pv 6) (nomark _))))) pss_never pss_nil)))))
      (pss_one (ps_ret (pv 3)))), ?_⟩
    obtain ⟨as, es, ks, rs, B⟩ := bld_is hb
    obtain ⟨a, vs, b, ws, rfl, ha, h2, hbt, hbs⟩ := door_at B hv
    refine s_asgLX (xs := []) (el_lst ea_nil (by decide)) fun p H1 np e1 hp => ?_
    refine q_forT (xs := ws) (ev_sp (stb_item 2) (ea_cons (ev_var rfl) ea_nil) ⟨a, vs, rfl, ha.up e1, h2⟩) (hbt.up e1).sq (fun i σ' H' => ∃ y4 y5 y6 y7, σ' = [some (.ref a), some (.ref f), some w, some (.ref p), y4, y5, y6, y7] ∧ Ex H1 H')
      (fun H2 e2 => ⟨none, none, none, none, rfl, e2⟩) (fun i σ' H' _ hp => let ⟨_, _, _, _, _, e⟩ := hp; (hbt.up (e1.trans e)).sq) (fun i x σ' H' hx hp => ?_) (fun σ' H' hp2 => ?_)
    · obtain ⟨y4, y5, y6, y7, rfl, e2⟩ := hp
      obtain ⟨e, he, r⟩ := hbs.get hx
      obtain ⟨n, a1, b1, s1, rfl, _⟩ := dr_shape (B.ed e (List.mem_of_getElem? he))
      obtain ⟨c, us, rfl, hc, hcs⟩ := (r.up (e1.trans e2)).tupD
      cases hcs with
      | cons q0 hcs => cases hcs with
        | cons q1 hcs => cases hcs with
          | cons q2 hcs => cases hcs with
            | cons q3 hcs =>
              cases hcs
              obtain rfl := q0.strD
              obtain rfl := q1.strD
              obtain rfl := q2.strD
              obtain rfl := q3.strD
              have hf2 := (e1.trans e2) _ _ hf
              refine ⟨c, _, rfl, hc.sq, rfl, .str n, _, rfl, .str a1, _, rfl, .str b1, _, rfl, .str s1, _, rfl, rfl, ?_⟩
              have no : ∀ {t : TT} {σ2 : L2.St}, σ2[4]? = some (some (.str n)) → σ2[1]? = some (some (.ref f)) → ∀ {H3 : Hp}, Ex H' H3 → EvT (tAnd (tTest (tOp (rIn K false) (tVar 4) (tVar 1))) t) σ2 H3 false := fun {t σ2} h4 h1 {H3} e3 =>
                et_is (et_and (a := false) (b := false) (et_test (ev_is (ev_op (ev_var h4) (ev_var h1) (rv_inTx (ns := []) (.inl (e3 _ _ hf2)))) rfl)) fun h => by cases h) rfl
              refine s_if (b := false) (no rfl rfl (Ex.refl _)) (fun h => by cases h) fun _ H3 e3 => ?_
              refine s_if (b := false) (no rfl rfl e3) (fun h => by cases h) fun _ H4 e4 => ?_
              exact ⟨_, _, _, _, rfl, (e2.trans e3).trans e4⟩
    · obtain ⟨y4, y5, y6, y7, rfl, e2⟩ := hp2
      exact s_ret (v := .ref p) (ev_var rfl) fun H3 e3 => q p H3 np ((e1.trans e2).trans e3) (e3 _ _ (e2 _ _ hp))
end
end Kx

set_option Elab.async false
set_option linter.all false
set_option maxRecDepth 100000
set_option maxHeartbeats 1000000
namespace Kx
open PySem PySem.Spec PyProof.Rows L2 Evl
/-! ## rows of texts as data of the library -/
theorem strOk_nm {s : Str} (h : nmS s = true) : PyData.strOk s = true := by
  unfold nmS at h
  rw [Bool.and_eq_true] at h
  unfold PyData.strOk
  rw [← Array.all_toList]
  refine List.all_eq_true.mpr fun c hc => ?_
  have h2 := List.all_eq_true.mp h.2 c hc
  unfold lowc at h2
  rw [Bool.and_eq_true] at h2
  have h3 := of_decide_eq_true h2.2
  exact decide_eq_true (by omega)
def pyT (t : List Str) : PyData := .tuple (t.map PyData.str)
theorem pyT_lay : ∀ t : List Str, (∀ s ∈ t, PyData.strOk s = true) → PyData.canLayAll0 (t.map PyData.str) = true
  | [], _ => by simp [PyData.canLayAll0]
  | s :: r, h => by simp [PyData.canLayAll0, PyData.canLay0, pyT_lay r fun x hx => h x (List.mem_cons_of_mem _ hx), h s List.mem_cons_self]
theorem pyT_dep : ∀ t : List Str, PyData.depthAll (t.map PyData.str) ≤ 1
  | [] => by simp [PyData.depthAll]
  | s :: r => by
    have h := pyT_dep r
    simp only [List.map_cons, PyData.depthAll, PyData.depth]
    omega
theorem pyT_shaped (t : List Str) (hs : ∀ s ∈ t, PyData.strOk s = true) : SeqAt.shaped (pyT t) = true := by
  have h := pyT_dep t
  show ((pyT t).canLay0 && decide ((pyT t).depth ≤ 64)) = true
  rw [Bool.and_eq_true]
  unfold pyT
  exact ⟨by simp only [PyData.canLay0]; exact pyT_lay t hs, decide_eq_true (by simp only [PyData.depth]; omega)⟩
theorem pyTs_lay : ∀ ts : List (List Str), (∀ t ∈ ts, ∀ s ∈ t, PyData.strOk s = true) → PyData.canLayAll0 (ts.map pyT) = true
  | [], _ => by simp [PyData.canLayAll0]
  | t :: r, hs => by
    have h := pyT_lay t (hs t List.mem_cons_self)
    simp [PyData.canLayAll0, pyTs_lay r fun x hx => hs x (List.mem_cons_of_mem _ hx), pyT, PyData.canLay0, h]
theorem pyTs_dep : ∀ ts : List (List Str), PyData.depthAll (ts.map pyT) ≤ 2
  | [] => by simp [PyData.depthAll]
  | t :: r => by
    have h1 := pyTs_dep r
    have h2 := pyT_dep t
    simp only [List.map_cons, PyData.depthAll, pyT, PyData.depth]
    omega
theorem pyTs_shaped (ts : List (List Str)) (hs : ∀ t ∈ ts, ∀ s ∈ t, PyData.strOk s = true) : SeqAt.shaped (.list (ts.map pyT)) = true := by
  have h1 := pyTs_dep ts
  show (PyData.canLay0 (.list (ts.map pyT)) && decide (PyData.depth (.list (ts.map pyT)) ≤ 64)) = true
  rw [Bool.and_eq_true]
  exact ⟨by simp only [PyData.canLay0]; exact pyTs_lay ts hs, decide_eq_true (by simp only [PyData.depth]; omega)⟩
def dT (t : List Str) : D := .tup (t.map D.str)
theorem dp_strs {K : PySem.W.Frag} {H : Hp} : ∀ t : List Str, DpAll K H (sv t) (t.map PyData.str)
  | [] => .nil
  | s :: r => .cons (.str s) (dp_strs r)
theorem dp_T {K : PySem.W.Frag} {H : Hp} {v : V} {t : List Str} (r : Rep H v (dT t)) : Dp K H v (pyT t) := by
  obtain ⟨a, rfl, ha⟩ := r.txs
  exact .tup ha.sq (dp_strs t)
theorem dp_Ts {K : PySem.W.Frag} {H : Hp} : ∀ {ts : List (List Str)} {vs : List V}, Reps H vs (ts.map dT) → DpAll K H vs (ts.map pyT)
  | [], _, .nil => .nil
  | t :: r, _, .cons h k => .cons (dp_T h) (dp_Ts k)
def spAny : Sp := fun vs H Q E => ∃ v d f, vs = [v, .ref f] ∧ Rep H v d ∧ d.bld = true ∧ H f = some (.lst []) ∧ ∀ z H', Ex H H' → Q z H'
def okJo (C : Addr) (vs : List V) (H : Hp) (Q : VK) (E : XK) : Prop := ∃ v d f, vs = [v, .ref f] ∧ Rep H v d ∧ d.Sz ∧ H f = some (.lst []) ∧ (d.bld = true → ∀ z H', Ex H H' → Q z H') ∧ (d.bld = false → ∀ H', Ex H H' → E (.ref C) none H')
section
variable {P : Program} {w : World} {K : PySem.W.Frag} {mg : Str → Option Value} {base : Heap} (T : Txt K mg)
theorem ok_reached_from : FnOk P w K mg base CX0 3 T.a_reached_from T.d_reached_from ["building", "free", "area"] spReach := by
  refine T.F_reached_from.ok sc_reached_from (fun vs H Q E h => ?_) (fun cdv A outer s H vs Q E hr h => ?_)
  · obtain ⟨v, d, f, s, rfl, _⟩ := h
    rfl
  · obtain ⟨v, d, f, st, rfl, hv, hb, hf, q⟩ := h
    have hr1 : Room 1 (A.deeper (envOfC "reached_from" (defScope s_reached_from) s.heap.objs.size T.a_reached_from cdv)) := hr.mono (by decide)
    refine ⟨_, pss_cons (ps_set (i := 3) sc_reached_from.nd rfl (.inr rfl) (pe_lst (pa_cons (pv 2) pa_nil)))
      (pss_cons (ps_set (i := 4) sc_reached_from.nd rfl (.inl rfl) pe_int)
      (pss_cons (ps_while PassesOwn.never (pt_cmpR op_lt (pv 4) (pe_callB call_len_seq (by rfl) T.z_len bo_len (pa_cons (pv 3) pa_nil)) (nomark _))
        (pss_cons (ps_set (i := 5) sc_reached_from.nd rfl (.inl rfl) (pe_ix ix_list (pv 3) (pv 4) (fun _ _ => rfl)))
        (pss_cons (ps_for PassesOwn.never rfl (pi_list (pe_call (ok_steps_from T) hr (by rfl) T.g_steps_from T.F_steps_from.kp (b_steps_from T) .nil pass0 (pa_cons (pv 0) (pa_cons (pv 1) (pa_cons (pv 5) pa_nil)))))
            (pg_tup rfl (pgs_cons (pg_name (i := 6) sc_reached_from.nd rfl (.inl rfl)) (pgs_cons (pg_name (i := 7) sc_reached_from.nd rfl (.inl rfl)) pgs_nil))) pss_never)
        (pss_one (ps_aug (i := 4) sc_reached_from.nd rfl (.inl rfl) pe_int ip_add)))))
      (pss_one (ps_ret (pe_lc (own := [("item", 8)]) (g := gName 8) (by rfl) sc_reached_from.nd (pi_tup (pe_call (ok_areas_of T) hr1 (by rfl) T.g_areas_of T.F_areas_of.kp (b_areas_of T) .nil pass0 (pa_cons (pv 0) pa_nil))) (blkOk_by (N := ["building", "free", "area", "reached", "at", "here", "_", "behind", "item"]) (sc := defScope s_reached_from) (by decide +kernel))
        (fun _ _ _ _ _ => pg_name (i := 8) sc_reached_from.nd rfl (.inl rfl)) (fun _ _ _ _ _ => pts_one (pt_cmpR (r := rIn K false) op_in_seq (pv 8) (pv 3) (by rfl))) (fun _ _ _ _ _ => pv 8)))))), ?_⟩
    obtain ⟨as, es, ks, rs, B⟩ := bld_is hb
    have hv0 := hv
    rw [B.eq] at hv0
    obtain ⟨a, vs, rfl, ha, hs⟩ := hv0.tupD
    refine s_asgLX (xs := [.str st]) (el_lst (ea_cons (ev_var rfl) ea_nil) (by simp)) fun p H1 np e1 hp => ?_
    refine s_asgX (v := .int 0) ev_c fun H2 e2 => ?_
    -- the one turn
    refine ⟨fun m σ' H' => ∃ k y5 y6 y7, σ' = [some (.ref a), some (.ref f), some (.str st), some (.ref p), some (.int k), y5, y6, y7, none] ∧ Ex H1 H' ∧ ((k = 0 ∧ m = 1) ∨ (k = 1 ∧ m = 0)), ⟨1, 0, none, none, none, rfl, e2, .inl ⟨rfl, rfl⟩⟩, fun m σ' H' hW => ?_⟩
    obtain ⟨k, y5, y6, y7, rfl, e3, hk⟩ := hW
    have hp3 := e3 _ _ hp
    refine et_test (ev_op (ev_var rfl) (ev_lenT (ev_var rfl) (.inl hp3)) (rv_I0 (g := fun i j => .bl (decide (i < j))))) H' (Ex.refl H') _ fun H4 e4 => ?_
    rcases hk with ⟨rfl, rfl⟩ | ⟨rfl, rfl⟩
    · rw [if_pos (decide_eq_true (by simp))]
      refine ⟨fun σ5 H5 => ∃ y5 y6 y7, σ5 = [some (.ref a), some (.ref f), some (.str st), some (.ref p), some (.int 1), y5, y6, y7, none] ∧ Ex H1 H5, fun σ5 H5 h5 => ?_, ?_⟩
      · obtain ⟨y5, y6, y7, rfl, e5⟩ := h5
        exact ⟨0, by decide, 1, y5, y6, y7, rfl, e5, .inr ⟨rfl, rfl⟩⟩
      · have hp4 := e4 _ _ hp3
        refine s_asgX (v := .str st) (ev_ixL (j := 0) (ev_var rfl) (ev_var rfl) hp4 rfl rfl) fun H5 e5 => ?_
        have E5 := (e3.trans e4).trans e5
        refine ⟨.ref a, rfl, .ref f, rfl, .str st, rfl, .ref a, d, f, .str st, rfl, hv.up (e1.trans E5), hb, E5 _ _ (e1 _ _ hf), fun g H6 ng e6 hg => ⟨g, rfl, ⟨[], .of hg⟩, ?_⟩⟩
        refine for_list (xs := []) (fun i σ6 H7 => σ6 = [some (.ref a), some (.ref f), some (.str st), some (.ref p), some (.int 0), some (.str st), y6, y7, none] ∧ Ex H6 H7) ⟨rfl, Ex.refl _⟩ (fun i σ6 H7 _ h7 => .of (h7.2 _ _ hg)) (fun i x σ6 H7 hx => by simp at hx) fun σ6 H7 h7 => ?_
        obtain ⟨rfl, e7⟩ := h7
        exact ⟨.int 0, rfl, 0, 1, rfl, rfl, _, _, _, rfl, (E5.trans e6).trans e7⟩
    · rw [if_neg (by simp)]
      have E4 := e3.trans e4
      have r1 : Rep H1 (.ref a) d := hv.up e1
      have hareas : ∃ b, vs[1]? = some (.ref b) ∧ TupS H b (sv as) := by
        cases hs with
        | cons r0 hs => cases hs with
          | cons r1 hs =>
            obtain ⟨b, rfl, hb⟩ := r1.txs
            exact ⟨b, rfl, hb⟩
      obtain ⟨b, hb1, hb2⟩ := hareas
      have E := e1.trans E4
      have L : EvL (tLc (iTup K (tCall (spX (okItem 1)) [] E0 (tCons (tVar 0) tNil))) (gName 8) (tTest (tOp (rIn K false) (tVar 8) (tVar 3))) (tVar 8) [8]) [some (.ref a), some (.ref f), some (.str st), some (.ref p), some (.int 1), y5, y6, y7, none] H4 ((sv as).filter fun v => match v with | .str y => amg y [st] | _ => false) := by
        refine el_lcTif (ev_sp (stb_item 1) (ea_cons (ev_var rfl) ea_nil) ⟨a, vs, rfl, ha.up E, hb1⟩) (hb2.up E).sq ?_ (fun j x hx => ?_) (fun j x hx => ev_var rfl)
        · unfold sv
          rw [List.length_map]
          have := B.a6
          omega
        · unfold sv at hx
          rw [List.getElem?_map] at hx
          cases e5 : as[j]? with
          | none => rw [e5] at hx; cases hx
          | some y =>
            rw [e5] at hx
            have ex : x = .str y := (Option.some.inj hx).symm
            subst ex
            exact et_test (ev_op (ev_var rfl) (ev_var rfl) (rv_inTx (ns := [st]) (.inl (E4 _ _ hp))))
      refine L H4 (Ex.refl _) _ fun r H5 nr e5 hr5 => ?_
      refine q r H5 (fresh_back E nr) (E.trans e5) ?_
      rw [hr5, B.areas]
      refine congrArg some (congrArg HO.lst ?_)
      unfold sv
      rw [List.filter_map]
      rfl
theorem ok_areas_joined : FnOk P w K mg base CX0 4 T.a_areas_joined T.d_areas_joined ["building", "free"] spAny := by
  refine T.F_areas_joined.ok sc_areas_joined (fun vs H Q E h => ?_) (fun cdv A outer s H vs Q E hr h => ?_)
  · obtain ⟨v, d, f, rfl, _⟩ := h
    rfl
  · obtain ⟨v, d, f, rfl, hv, hb, hf, q⟩ := h
    have hr1 : Room 1 (A.deeper (envOfC "areas_joined" (defScope s_areas_joined) s.heap.objs.size T.a_areas_joined cdv)) := hr.mono (by decide)
    have hr3 : Room 3 (A.deeper (envOfC "areas_joined" (defScope s_areas_joined) s.heap.objs.size T.a_areas_joined cdv)) := hr.mono (by decide)
    refine ⟨_, pss_cons (ps_set (i := 2) sc_areas_joined.nd rfl (.inl rfl) (pe_lst pa_nil))
      (pss_cons (ps_for PassesOwn.never rfl (pi_tup (pe_call (ok_areas_of T) hr1 (by rfl) T.g_areas_of T.F_areas_of.kp (b_areas_of T) .nil pass0 (pa_cons (pv 0) pa_nil))) (pg_name (i := 3) sc_areas_joined.nd rfl (.inl rfl))
        (pss_cons (ps_set (i := 4) sc_areas_joined.nd rfl (.inl rfl) (pe_callTy call_tupF (by rfl) T.z_tuple bo_tuple (pa_cons (pe_call (ok_reached_from T) hr3 (by rfl) T.g_reached_from T.F_reached_from.kp (b_reached_from T) .nil pass0 (pa_cons (pv 0) (pa_cons (pv 1) (pa_cons (pv 3) pa_nil)))) pa_nil)))
        (pss_one (ps_if (pt_cmpR (op_notInD (show (A.deeper (envOfC "areas_joined" (defScope s_areas_joined) s.heap.objs.size T.a_areas_joined cdv)).units + 65 < cLine from by have := hr.un; omega)) (pv 4) (pv 2) (by rfl))
          (pss_one (ps_expr (pe_bm PySem.F.plainAttrs_list PySem.F.slot_list_append PySem.F.type_list_append mt_append (pv 2) (pa_cons (pv 4) pa_nil)))) pss_nil))))
      (pss_one (ps_ret (pv 2)))), ?_⟩
    refine s_asgLX (xs := []) (el_lst ea_nil (by decide)) fun p H4 np e4 hp => ?_
    have E4 := e4
    obtain ⟨as, es, ks, rs, B⟩ := bld_is hb
    have hv0 := hv
    rw [B.eq] at hv0
    obtain ⟨a, vs, rfl, ha, hs⟩ := hv0.tupD
    have hareas : ∃ b, vs[1]? = some (.ref b) ∧ TupS H b (sv as) := by
      cases hs with
      | cons r0 hs => cases hs with
        | cons r1 hs =>
          obtain ⟨b, rfl, hb⟩ := r1.txs
          exact ⟨b, rfl, hb⟩
    obtain ⟨b, hb1, hb2⟩ := hareas
    have hpH : H p = none := np
    refine q_forT (xs := sv as) (ev_sp (stb_item 1) (ea_cons (ev_var rfl) ea_nil) ⟨a, vs, rfl, ha.up E4, hb1⟩) (hb2.up E4).sq
      (fun i σ' H' => ∃ y3 y4 gs ts, σ' = [some (.ref a), some (.ref f), some (.ref p), y3, y4] ∧ Ex H H' ∧ H' p = some (.lst gs) ∧ Reps H' gs (ts.map dT) ∧ ts.length ≤ i ∧ ∀ t ∈ ts, ∀ s ∈ t, PyData.strOk s = true)
      (fun H5 e5 => ⟨none, none, [], [], rfl, E4.trans e5, e5 _ _ hp,   .nil, Nat.zero_le _, fun _ h => by simp at h⟩) (fun i σ' H' _ hq => let ⟨_, _, _, _, _, e, _⟩ := hq; (hb2.up e).sq) (fun i x σ' H' hx hq => ?_) (fun σ' H' hq => ?_)
    · obtain ⟨y3, y4, gs, ts, rfl, e5, hg, hgs, hl, hok⟩ := hq
      unfold sv at hx
      rw [List.getElem?_map] at hx
      cases e6 : as[i]? with
      | none => rw [e6] at hx; cases hx
      | some y =>
        rw [e6] at hx
        have ex : x = .str y := (Option.some.inj hx).symm
        subst ex
        have hil : i < as.length := (List.getElem?_eq_some_iff.mp e6).1
        have hal := B.a6
        have hfo : ∀ s ∈ d.areas.filter fun y' => amg y' [y], PyData.strOk s = true := fun s hs => by
          rw [B.areas] at hs
          exact strOk_nm (B.av s (List.mem_filter.mp hs).1)
        refine ⟨.ref a, rfl, .ref f, rfl, .str y, rfl, .ref a, d, f, y, rfl, hv.up e5, hb, e5 _ _ hf, fun r H6 nr e7 hr6 => ⟨r, _, rfl, .of hr6, fun t o ht ho => ?_⟩⟩
        have e8 : Ex H' (upd H6 t (.frz o (.tup (sv (d.areas.filter fun y' => amg y' [y]))))) := e7.trans (Ex.new ht)
        have rt : Rep (upd H6 t (.frz o (.tup (sv (d.areas.filter fun y' => amg y' [y]))))) (.ref t) (dT (d.areas.filter fun y' => amg y' [y])) := .tup ⟨o, ho, upd_same⟩ (reps_strs _)
        have hg8 := e8 _ _ hg
        have hgs8 := hgs.up e8
        refine ⟨.ref t, rfl, .ref p, rfl, pyT (d.areas.filter fun y' => amg y' [y]), ts.map pyT, dp_T rt, .lst (.of hg8) (dp_Ts hgs8), pyT_shaped _ hfo, pyTs_shaped _ hok, _, rfl, ?_⟩
        refine ite2 (fun _ => ?_) (fun _ => ?_)
        · refine ⟨.ref p, rfl, .inl ⟨rfl, gs, .of hg8⟩, .ref t, rfl, p, gs, .ref t, rfl, rfl, hg8, ?_, ?_⟩
          · rw [hgs.length, List.length_map]
            exact sz_lt (by omega)
          · have tp := Tp.lst (ys := gs ++ [.ref t]) hg8
            have im : imms ((ts ++ [d.areas.filter fun y' => amg y' [y]]).map dT) = true := imms_iff.mpr fun dd hd => by
              obtain ⟨t', _, rfl⟩ := List.mem_map.mp hd
              unfold dT D.imm
              exact imms_iff.mpr fun d2 hd2 => by
                obtain ⟨s', _, rfl⟩ := List.mem_map.mp hd2
                rfl
            refine ⟨_, _, gs ++ [.ref t], ts ++ [d.areas.filter fun y' => amg y' [y]], rfl, (e5.trans e8).mut hpH, upd_same, ?_, by rw [List.length_append]; exact Nat.succ_le_succ hl, fun t' ht' => (List.mem_append.mp ht').elim (hok t') fun h => by rw [List.mem_singleton.mp h]; exact hfo⟩
            refine Reps.monoT tp _ _ im ?_
            rw [List.map_append]
            exact hgs8.append (.cons rt .nil)
        · exact ⟨_, _, gs, ts, rfl, e5.trans e8, hg8, hgs8, by omega, hok⟩
    · obtain ⟨y3, y4, gs, ts, rfl, e5, hg, hgs, hl, hok⟩ := hq
      exact s_ret (v := .ref p) (ev_var rfl) fun H6 e6 => q _ H6 (e5.trans e6)
theorem ok_joined : FnOk P w K mg base (L2.CX P w) 6 T.a_joined T.d_joined ["building", "free"] (okJo T.c_BadBuilding) := by
  refine T.F_joined.okX sc_joined (fun vs H Q E h => ?_) (fun cdv A outer s H vs Q E hr h => ?_)
  · obtain ⟨v, d, f, rfl, _⟩ := h
    rfl
  · obtain ⟨v, d, f, rfl, hv, hz, hf, q, qe⟩ := h
    have hr2 : Room 2 (A.deeper (envOfC "joined" (defScope s_joined) s.heap.objs.size T.a_joined cdv)) := hr.mono (by decide)
    have hr4 : Room 4 (A.deeper (envOfC "joined" (defScope s_joined) s.heap.objs.size T.a_joined cdv)) := hr.mono (by decide)
    refine ⟨_, pss_cons (ps_expr (pe_call (E := E) (ok_check_building T) hr (by rfl) T.g_check_building T.F_check_building.kp (b_check_building T) .nil (passes_call (takes_of rfl rfl rfl rfl) fun _ _ _ _ h => h) (pa_cons (pv 0) pa_nil)))
      (pss_cons (ps_expr (pe_call (ok_check_free T) hr2 (by rfl) T.g_check_free T.F_check_free.kp (b_check_free T) .nil pass0 (pa_cons (pv 0) (pa_cons (pv 1) pa_nil))))
      (pss_one (ps_ret (pe_call (ok_areas_joined T) hr4 (by rfl) T.g_areas_joined T.F_areas_joined.kp (b_areas_joined T) .nil pass0 (pa_cons (pv 0) (pa_cons (pv 1) pa_nil)))))), ?_⟩
    refine s_callO (o := if d.bld = true then .ret .non else .exc T.c_BadBuilding) (ea_cons (ev_var rfl) ea_nil) (fun H1 e1 => ⟨v, d, rfl, hv.up e1, hz, rfl⟩) fun H2 e2 => ?_
    by_cases hb : d.bld = true
    · rw [if_pos hb]
      refine s_drop (ev_sp stb_cf (ea_cons (ev_var rfl) (ea_cons (ev_var rfl) ea_nil)) ⟨v, d, f, rfl, hv.up e2, hb, e2 _ _ hf, rfl⟩) fun H3 e3 => ?_
      exact ⟨_, rfl, _, rfl, v, d, f, rfl, hv.up (e2.trans e3), hb, (e2.trans e3) _ _ hf, fun z H4 e4 => q hb z H4 ((e2.trans e3).trans e4)⟩
    · rw [if_neg hb]
      exact qe (by cases h : d.bld <;> simp_all) H2 e2
end
end Kx

set_option Elab.async false
set_option linter.all false
set_option maxRecDepth 100000
set_option maxHeartbeats 1000000
namespace Kx
open PySem PySem.Spec PyProof.Rows L2 Evl
/-! ## the state that draws are taken from -/
def kG : Key := Sum.inr "great"
def kC : Key := Sum.inr "cells"
def kR : Key := Sum.inr "rest"
def kT : Key := Sum.inr "turn"
theorem nGR : (kG = kR) = False := eq_false (by unfold kG kR; decide +kernel)
theorem nGC : (kG = kC) = False := eq_false (by unfold kG kC; decide +kernel)
theorem nGT : (kG = kT) = False := eq_false (by unfold kG kT; decide +kernel)
theorem nCR : (kC = kR) = False := eq_false (by unfold kC kR; decide +kernel)
theorem nCT : (kC = kT) = False := eq_false (by unfold kC kT; decide +kernel)
theorem nRT : (kR = kT) = False := eq_false (by unfold kR kT; decide +kernel)
theorem nTR : (kT = kR) = False := eq_false (by unfold kR kT; decide +kernel)
def stK (sg sc : Addr) (r t : Int) : List (Key × V) := [(kG, .ref sg), (kC, .ref sc), (kR, .int r), (kT, .int t)]
theorem stG (sg sc : Addr) (r t : Int) : valV (stK sg sc r t) kG = some (.ref sg) := by simp [valV, stK]
theorem stC (sg sc : Addr) (r t : Int) : valV (stK sg sc r t) kC = some (.ref sc) := by simp [valV, stK, List.find?, nGC]
theorem stR (sg sc : Addr) (r t : Int) : valV (stK sg sc r t) kR = some (.int r) := by simp [valV, stK, List.find?, nGR, nCR]
theorem stT (sg sc : Addr) (r t : Int) : valV (stK sg sc r t) kT = some (.int t) := by simp [valV, stK, List.find?, nGT, nCT, nRT]
theorem putT (sg sc : Addr) (r t t' : Int) : putK (stK sg sc r t) kT (.int t') = stK sg sc r t' := by simp [putK, stK, nGT, nCT, nRT]
theorem putR (sg sc : Addr) (r t r' : Int) : putK (stK sg sc r t) kR (.int r') = stK sg sc r' t := by simp [putK, stK, nGR, nCR, nTR]
def iv (ns : List Int) : List V := ns.map V.int
/-- the state at sd: its list of great numbers at sg; at least b draws are left -/
structure StW (H : Hp) (sd sg sc : Addr) (gs cs : List Int) (r t : Int) : Prop where
  d : H sd = some (.dK (stK sg sc r t))
  g : H sg = some (.lst (iv gs))
  c : H sc = some (.lst (iv cs))
  ne : sc ≠ sg
theorem StW.sdg {H : Hp} {sd sg sc : Addr} {gs cs : List Int} {r t : Int} (s : StW H sd sg sc gs cs r t) : sd ≠ sg := ne_of s.d s.g (fun z => by cases z)
theorem StW.sdc {H : Hp} {sd sg sc : Addr} {gs cs : List Int} {r t : Int} (s : StW H sd sg sc gs cs r t) : sd ≠ sc := ne_of s.d s.c (fun z => by cases z)
def Sta (H : Hp) (sd sg sc : Addr) (b : Nat) : Prop := ∃ gs cs r t, StW H sd sg sc gs cs r t ∧ 0 ≤ t ∧ t + (b : Int) ≤ 2 ^ 40
/-- all but the state is as it was -/
def ExS (sd sg : Addr) (H H' : Hp) : Prop := ∀ a o, H a = some o → a ≠ sd → a ≠ sg → H' a = some o
theorem ExS.refl {sd sg : Addr} (H : Hp) : ExS sd sg H H := fun _ _ h _ _ => h
theorem ExS.trans {sd sg : Addr} {H H1 H2 : Hp} (a : ExS sd sg H H1) (b : ExS sd sg H1 H2) : ExS sd sg H H2 := fun c o h n m => b c o (a c o h n m) n m
theorem ExS.of {sd sg : Addr} {H H' : Hp} (e : Ex H H') : ExS sd sg H H' := fun a o h _ _ => e a o h
theorem Sta.up {H H' : Hp} {sd sg sc : Addr} {b : Nat} (s : Sta H sd sg sc b) (e : Ex H H') : Sta H' sd sg sc b :=
  let ⟨gs, cs, r, t, w, h1, h2⟩ := s; ⟨gs, cs, r, t, ⟨e _ _ w.d, e _ _ w.g, e _ _ w.c, w.ne⟩, h1, h2⟩
theorem Sta.less {H : Hp} {sd sg sc : Addr} {b c : Nat} (s : Sta H sd sg sc b) (h : c ≤ b) : Sta H sd sg sc c :=
  let ⟨gs, cs, r, t, w, h1, h2⟩ := s; ⟨gs, cs, r, t, w, h1, by omega⟩
theorem Sta.upd {H : Hp} {sd sg sc : Addr} {b : Nat} {C : Addr} {o : HO} (s : Sta H sd sg sc b) (n1 : C ≠ sd) (n2 : C ≠ sg) (n3 : C ≠ sc) : Sta (upd H C o) sd sg sc b :=
  let ⟨gs, cs, r, t, w, h1, h2⟩ := s; ⟨gs, cs, r, t, ⟨(upd_ne n1.symm).trans w.d, (upd_ne n2.symm).trans w.g, (upd_ne n3.symm).trans w.c, w.ne⟩, h1, h2⟩
theorem Sta.off {H : Hp} {sd sg sc : Addr} {b : Nat} {C : Addr} (s : Sta H sd sg sc b) (h : H C = none) : C ≠ sd ∧ C ≠ sg ∧ C ≠ sc :=
  let ⟨gs, cs, r, t, w, h1, h2⟩ := s; ⟨(ne_of_none w.d h).symm, (ne_of_none w.g h).symm, (ne_of_none w.c h).symm⟩
/-- what is neither the state's dict nor its list -/
def hid (H : Hp) (sd sg : Addr) : Hp := fun a => if a = sd ∨ a = sg then none else H a
theorem hid_ex {H : Hp} {sd sg : Addr} : Ex (hid H sd sg) H := fun a o h => by
  unfold hid at h
  split at h
  · cases h
  · exact h
theorem hid_mono {H H' : Hp} {sd sg : Addr} (e : ExS sd sg H H') : Ex (hid H sd sg) (hid H' sd sg) := fun a o h => by
  unfold hid at h ⊢
  split at h
  · cases h
  · rename_i n
    rw [if_neg n]
    exact e a o h (fun z => n (.inl z)) (fun z => n (.inr z))
section
variable {K : PySem.W.Frag} {σ : L2.St} {H : Hp} {ta tb te tl td ty : TE} {v : V}
theorem ev_dget {a : Addr} {k : Str} {kvs : List (Key × V)} (h : Ev td σ H (.ref a)) (hk : Ev ty σ H (.str k)) (hd : H a = some (.dK kvs)) (hv : valV kvs (Sum.inr k) = some v) : Ev (tDGet td ty) σ H v := fun H1 e Q q =>
  h H1 e _ fun H2 e2 => hk H2 (e.trans e2) _ fun H3 e3 => ⟨a, v, rfl, by rw [← hv]; exact DGet.k (k := Sum.inr k) (((e.trans e2).trans e3) _ _ hd), q H3 (e2.trans e3)⟩
theorem ev_int1 {i : Int} (h : Ev te σ H (.int i)) : Ev (tCB (fun xs H Q => (∃ i, xs = [.int i] ∧ Q (.int i) H) ∨ ∃ k, xs = [.bl k] ∧ Q (.int (if k then 1 else 0)) H) (tCons te tNil)) σ H (.int i) :=
  ev_cb (ea_cons h ea_nil) fun H1 e Q q => .inl ⟨i, rfl, q H1 (Ex.refl _)⟩
end
def spMixed : Sp := fun vs H Q _ => ∃ sd sg sc b, vs = [.ref sd] ∧ Sta H sd sg sc (b + 1) ∧ ∀ z H', Sta H' sd sg sc b → ExS sd sg H H' → Q (.int z) H'
def spDraw : Sp := fun vs H Q _ => ∃ sd sg sc b m, vs = [.ref sd, .int m] ∧ 0 < m ∧ m < 1000000 ∧ Sta H sd sg sc (b + 1) ∧ ∀ z H', 0 ≤ z → z < m → Sta H' sd sg sc b → ExS sd sg H H' → Q (.int z) H'
def primes : List Int := [2147483629, 2147483647, 2147483563, 2147483587]
theorem prime_ok {p : Int} (h : p ∈ primes) : 0 < p ∧ p < 2147483648 := by
  unfold primes at h
  simp only [List.mem_cons, List.not_mem_nil, or_false] at h
  rcases h with rfl | rfl | rfl | rfl <;> decide
section
variable {P : Program} {w : World} {K : PySem.W.Frag} {mg : Str → Option Value} {base : Heap} (T : Txt K mg)
theorem ok_mixed : FnOk P w K mg base CX0 1 T.a_law_mixed T.d_law_mixed ["state"] spMixed := by
  refine T.F_law_mixed.ok sc_law_mixed (fun vs H Q E h => ?_) (fun cdv A outer s H vs Q E hr h => ?_)
  · obtain ⟨sd, sg, sc, b, rfl, _⟩ := h
    rfl
  · obtain ⟨sd, sg, sc, b, rfl, ⟨gs, cs, r, t, W, h1, h2⟩, q⟩ := h
    have hu : (A.deeper (envOfC "_law_mixed" (defScope s_law_mixed) s.heap.objs.size T.a_law_mixed cdv)).units + 1 < cLine := hu_of hr
    refine ⟨_, pss_cons (ps_par (i := 1) (j := 2) rfl sc_law_mixed.nd rfl rfl (by decide) rfl rfl (pa_cons (pe_op op_add (pe_dget hu (pv 0) pe_str (fun _ _ => rfl)) pe_int) (pa_cons pe_int pa_nil)) (by rfl))
      (pss_cons (ps_dput hu (pv 0) pe_str (pv 1) rfl)
      (pss_cons (ps_for PassesOwn.never rfl (pi_list (pe_lst (pa_cons pe_int (pa_cons pe_int (pa_cons pe_int (pa_cons pe_int pa_nil)))))) (pg_name (i := 3) sc_law_mixed.nd rfl (.inl rfl))
        (pss_cons (ps_set (i := 4) sc_law_mixed.nd rfl (.inl rfl) (pe_op op_add (pe_op op_mul pe_int (pv 1)) (pe_op op_fdiv (pv 3) pe_int)))
        (pss_cons (ps_for PassesOwn.never rfl (pi_list (pe_dget hu (pv 0) pe_str (fun _ _ => rfl))) (pg_name (i := 5) sc_law_mixed.nd rfl (.inl rfl))
          (pss_one (ps_set (i := 4) sc_law_mixed.nd rfl (.inl rfl) (pe_op op_mod (pe_callTy call_int1 (by rfl) T.z_int bo_int (pa_cons (pe_op op_add (pe_op op_add (pe_op op_mul (pv 4) pe_int) (pv 5)) (pv 1)) pa_nil)) (pv 3)))))
        (pss_one (ps_set (i := 2) sc_law_mixed.nd rfl (.inl rfl) (pe_op op_add (pe_op op_mul (pv 2) pe_int) (pe_op op_mod (pe_callTy call_int1 (by rfl) T.z_int bo_int (pa_cons (pe_op op_pow (pv 4) pe_int) pa_nil)) (pv 3))))))))
      (pss_one (ps_ret (pv 2))))), ?_⟩
    refine ⟨.ref sd, rfl, sd, .int t, rfl, by rw [← stT sg sc r t]; exact DGet.k (k := kT) W.d, t, 1, rfl, rfl, .int (t + 1), .int 0, rfl, ?_⟩
    refine ⟨.int (t + 1), rfl, .ref sd, rfl, sd, _, rfl, DPut.k (k := kT) W.d (by show 4 < sizeLine; rw [sizeLine_eq]; decide), ?_⟩
    rw [putT]
    refine ⟨by show 4 ≤ sizeLine; rw [sizeLine_eq]; decide, fun p np => ⟨p, rfl, ⟨_, .of upd_same⟩, ?_⟩⟩
    -- the heap of the loops
    have W2 : StW (upd (upd H sd (.dK (stK sg sc r (t + 1)))) p (.lst (iv primes))) sd sg sc gs cs r (t + 1) := by
      have nsd : sd ≠ p := fun z => by rw [← z, upd_same] at np; cases np
      have hg : upd H sd (.dK (stK sg sc r (t + 1))) sg = some (.lst (iv gs)) := (upd_ne W.sdg.symm).trans W.g
      have hc : upd H sd (.dK (stK sg sc r (t + 1))) sc = some (.lst (iv cs)) := (upd_ne W.sdc.symm).trans W.c
      exact ⟨(upd_ne nsd).trans upd_same, (upd_ne (ne_of_none hg np)).trans hg, (upd_ne (ne_of_none hc np)).trans hc, W.ne⟩
    have hp2 : (upd (upd H sd (.dK (stK sg sc r (t + 1)))) p (.lst (iv primes))) p = some (.lst (iv primes)) := upd_same
    have X2 : ExS sd sg H (upd (upd H sd (.dK (stK sg sc r (t + 1)))) p (.lst (iv primes))) := fun a o h n m => by
      have h1 : upd H sd (.dK (stK sg sc r (t + 1))) a = some o := (upd_ne n).trans h
      exact (upd_ne (ne_of_none h1 np)).trans h1
    rw [show ([V.int 2147483629, V.int 2147483647, V.int 2147483563, V.int 2147483587] : List V) = iv primes from rfl]
    generalize upd (upd H sd (.dK (stK sg sc r (t + 1)))) p (.lst (iv primes)) = H2 at W2 hp2 X2
    refine for_list (xs := iv primes) (fun i σ' H' => Ex H2 H' ∧ ∃ f y3 y4 y5, σ' = [some (.ref sd), some (.int (t + 1)), some (.int f), y3, y4, y5]) ⟨Ex.refl _, 0, none, none, none, rfl⟩ (fun i σ' H' _ h => .of (h.1 _ _ hp2)) (fun i x σ' H' hx h => ?_) (fun σ' H' h => ?_)
    · obtain ⟨e2, f, y3, y4, y5, rfl⟩ := h
      obtain ⟨pr, hpr, rfl⟩ : ∃ pr ∈ primes, x = .int pr := by
        obtain ⟨pr, h1, h2⟩ := List.mem_map.mp (List.mem_of_getElem? hx)
        exact ⟨pr, h1, h2.symm⟩
      obtain ⟨p1, p2⟩ := prime_ok hpr
      -- blend = 69621 * turn + prime // 41
      refine s_asgX (v := .int (69621 * (t + 1) + pr / 41)) (ev_op (ev_op ev_c (ev_var rfl) (rv_I (.inl ⟨by decide, by decide⟩))) (ev_op (ev_var rfl) ev_c (rv_I ⟨by decide, by decide⟩)) rv_I0) fun H3 e3 => ?_
      have E3 := e2.trans e3
      -- for cell in state['cells']
      refine q_forL (xs := iv cs) (ev_dget (k := "cells") (ev_var rfl) ev_c (E3 _ _ W2.d) (stC _ _ _ _)) (.of (E3 _ _ W2.c)) (fun j σ4 H4 => Ex H2 H4 ∧ ∃ bl y5, σ4 = [some (.ref sd), some (.int (t + 1)), some (.int f), some (.int pr), some (.int bl), y5] ∧ bl.natAbs < 2 ^ 64)
        (fun H4 e4 => ⟨E3.trans e4, _, y5, rfl, ?_⟩) (fun j σ4 H4 _ h4 => .of (h4.1 _ _ W2.c)) (fun j x σ4 H4 hx4 h4 => ?_) (fun σ4 H4 h4 => ?_)
      · have : 0 ≤ pr / 41 := Int.ediv_nonneg (by omega) (by decide)
        have : pr / 41 < 2147483648 := Int.lt_of_le_of_lt (Int.ediv_le_self _ (by omega)) p2
        omega
      · obtain ⟨e4, bl, y5, rfl, hb⟩ := h4
        obtain ⟨c, _, rfl⟩ : ∃ c ∈ cs, x = .int c := by
          obtain ⟨c, h1, h2⟩ := List.mem_map.mp (List.mem_of_getElem? hx4)
          exact ⟨c, h1, h2.symm⟩
        refine s_asg (v := .int ((bl * 48271 + c + (t + 1)) % pr)) (ev_op (ev_int1 (ev_op (ev_op (ev_op (ev_var rfl) ev_c (rv_I (.inr ⟨by decide, by decide⟩))) (ev_var rfl) rv_I0) (ev_var rfl) rv_I0)) (ev_var rfl) (rv_I p1)) fun H5 e5 => ⟨e4.trans e5, _, _, rfl, ?_⟩
        have h1 := Int.emod_nonneg (bl * 48271 + c + (t + 1)) (show pr ≠ 0 by omega)
        have h2 := Int.emod_lt_of_pos (bl * 48271 + c + (t + 1)) p1
        omega
      · obtain ⟨e4, bl, y5, rfl, hb⟩ := h4
        exact s_asg (v := .int (f * 2147483659 + bl ^ (5 : Int).toNat % pr)) (ev_op (ev_op (ev_var rfl) ev_c (rv_I (.inr ⟨by decide, by decide⟩))) (ev_op (ev_int1 (ev_op (ev_var rfl) ev_c (rv_I ⟨by decide, by decide, hb⟩))) (ev_var rfl) (rv_I p1)) rv_I0) fun H5 e5 => ⟨e4.trans e5, _, _, _, _, rfl⟩
    · obtain ⟨e2, f, y3, y4, y5, rfl⟩ := h
      exact ⟨.int f, rfl, q f H' (Sta.up ⟨gs, cs, r, t + 1, W2, by omega, by omega⟩ e2) (X2.trans (.of e2))⟩
end
end Kx

set_option Elab.async false
set_option linter.all false
set_option maxRecDepth 100000
set_option maxHeartbeats 1000000
namespace Kx
open PySem PySem.Spec PyProof.Rows L2 Evl
theorem dp_iv {K : PySem.W.Frag} {H : Hp} : ∀ ns : List Int, DpAll K H (iv ns) (ns.map PyData.int)
  | [] => .nil
  | i :: r => .cons (.int i) (dp_iv r)
theorem ivL_lay : ∀ ns : List Int, PyData.canLayAll0 (ns.map PyData.int) = true
  | [] => by simp [PyData.canLayAll0]
  | i :: r => by simp [PyData.canLayAll0, PyData.canLay0, ivL_lay r]
theorem ivL_dep : ∀ ns : List Int, PyData.depthAll (ns.map PyData.int) ≤ 1
  | [] => by simp [PyData.depthAll]
  | i :: r => by
    have h := ivL_dep r
    simp only [List.map_cons, PyData.depthAll, PyData.depth]
    omega
theorem iv_shaped (ns : List Int) : SeqAt.shaped (.list (ns.map PyData.int)) = true := by
  have h := ivL_dep ns
  show (PyData.canLay0 (.list (ns.map PyData.int)) && decide (PyData.depth (.list (ns.map PyData.int)) ≤ 64)) = true
  rw [Bool.and_eq_true]
  exact ⟨by simp only [PyData.canLay0]; exact ivL_lay ns, decide_eq_true (by simp only [PyData.depth]; omega)⟩
theorem eqv_nil : PyData.eqv (.list []) (.list []) = true := by simp [PyData.eqv, PyData.eqvAll]
theorem eqv_cons (d : PyData) (ds : List PyData) : PyData.eqv (.list (d :: ds)) (.list []) = false := by simp [PyData.eqv, PyData.eqvAll]
/-- what the state is behind the first statement of a draw -/
def Mid (H : Hp) (sd sg sc : Addr) (b : Nat) (H1 : Hp) : Prop := ExS sd sg H H1 ∧ Sta H1 sd sg sc b
section
variable {P : Program} {w : World} {K : PySem.W.Frag} {mg : Str → Option Value} {base : Heap} (T : Txt K mg)
theorem ok_draw : FnOk P w K mg base CX0 2 T.a_law_draw T.d_law_draw ["state", "room"] spDraw := by
  refine T.F_law_draw.ok sc_law_draw (fun vs H Q E h => ?_) (fun cdv A outer s H vs Q E hr h => ?_)
  · obtain ⟨sd, sg, sc, b, m, rfl, _⟩ := h
    rfl
  · obtain ⟨sd, sg, sc, b, m, rfl, m0, m1, hS, q⟩ := h
    have hu : (A.deeper (envOfC "_law_draw" (defScope s_law_draw) s.heap.objs.size T.a_law_draw cdv)).units + 1 < cLine := hu_of hr
    have hu4 : (A.deeper (envOfC "_law_draw" (defScope s_law_draw) s.heap.objs.size T.a_law_draw cdv)).units + 64 < cLine := by have := hr.un; omega
    refine ⟨_, pss_cons (ps_if (pt_cmpR op_eq (pe_dget hu (pv 0) pe_str (fun _ _ => rfl)) pe_int (nomark _))
        (pss_one (ps_dput hu (pv 0) pe_str (pe_ifExp (pt_cmpR (op_neD hu4) (pe_dget hu (pv 0) pe_str (fun _ _ => rfl)) (pe_lst pa_nil) (nomark _))
          (pe_bm PySem.F.plainAttrs_list PySem.F.slot_list_pop PySem.F.type_list_pop mt_popAt (pe_dget hu (pv 0) pe_str (fun _ _ => rfl)) (pa_cons pe_int pa_nil))
          (pe_call (ok_mixed T) hr (by rfl) T.g_law_mixed T.F_law_mixed.kp (b_law_mixed T) .nil pass0 (pa_cons (pv 0) pa_nil))) rfl)) pss_nil)
      (pss_cons (ps_set (i := 2) sc_law_draw.nd rfl (.inl rfl) (pe_op op_mod (pe_callTy call_int1 (by rfl) T.z_int bo_int (pa_cons (pe_dget hu (pv 0) pe_str (fun _ _ => rfl)) pa_nil)) (pv 1)))
      (pss_cons (ps_dput hu (pv 0) pe_str (pe_op op_fdiv (pe_dget hu (pv 0) pe_str (fun _ _ => rfl)) (pv 1)) rfl)
      (pss_one (ps_ret (pv 2))))), ?_⟩
    obtain ⟨gs, cs, r, t, W, h1, h2⟩ := hS
    -- behind the first statement
    have fin : ∀ H1, Mid H sd sg sc b H1 → tSeq (tAsg (tOp (rI (fun _ j => 0 < j) fun i j => .int (i % j)) (tCB (fun xs H Q => (∃ i, xs = [.int i] ∧ Q (.int i) H) ∨ ∃ k, xs = [.bl k] ∧ Q (.int (if k then 1 else 0)) H) (tCons (tDGet (tVar 0) (tC (.str "rest"))) tNil)) (tVar 1)) (gName 2))
        (tSeq (sDPut (tVar 0) (tC (.str "rest")) (tOp (rI CDiv fun i j => .int (i / j)) (tDGet (tVar 0) (tC (.str "rest"))) (tVar 1))) (tRet (tVar 2))) { nx := fun _ H' => Q .non H', rt := Q } [some (.ref sd), some (.int m), none] H1 := fun H1 hm => by
      obtain ⟨e1, gs, cs, r, t, W, h1, h2⟩ := hm
      refine s_asgX (v := .int (r % m)) (ev_op (ev_int1 (ev_dget (k := "rest") (ev_var rfl) ev_c W.d (stR _ _ _ _))) (ev_var rfl) (rv_I m0)) fun H2 e2 => ?_
      refine (ev_op (r := rI CDiv fun i j => .int (i / j)) (z := .int (r / m)) (ev_dget (k := "rest") (ev_var rfl) ev_c (e2 _ _ W.d) (stR _ _ _ _)) (ev_var rfl) (rv_I ⟨m0, by omega⟩) : Ev _ [some (.ref sd), some (.int m), some (.int (r % m))] H2 _) H2 (Ex.refl _) _ fun H3 e3 => ?_
      have E3 := e2.trans e3
      refine ⟨.ref sd, rfl, sd, _, rfl, DPut.k (k := kR) (E3 _ _ W.d) (by show 4 < sizeLine; rw [sizeLine_eq]; decide), ?_⟩
      rw [putR]
      refine ⟨.int (r % m), rfl, q _ _ (Int.emod_nonneg _ (by omega)) (Int.emod_lt_of_pos _ m0) ⟨gs, cs, r / m, t, ⟨upd_same, ?_, ?_, W.ne⟩, h1, h2⟩ fun a o ha n1 n2 => ?_⟩
      · rw [upd_ne W.sdg.symm]
        exact E3 _ _ W.g
      · rw [upd_ne W.sdc.symm]
        exact E3 _ _ W.c
      · rw [upd_ne n1]
        exact E3 _ _ (e1 _ _ ha n1 n2)
    refine et_test (ev_op (ev_dget (k := "rest") (ev_var rfl) ev_c W.d (stR _ _ _ _)) ev_c (rv_eq rfl)) H (Ex.refl H) _ fun H1 e1 => ?_
    refine ite2 (fun _ => ?_) (fun _ => ?_)
    · -- rest is 0
      have W1 : StW H1 sd sg sc gs cs r t := ⟨e1 _ _ W.d, e1 _ _ W.g, e1 _ _ W.c, W.ne⟩
      refine ev_dget (k := "great") (ev_var rfl) ev_c W1.d (stG _ _ _ _) H1 (Ex.refl _) _ fun H2 e2 => ⟨Nat.zero_le _, fun p np => ?_⟩
      have E2 : Ex H1 (upd H2 p (.lst [])) := e2.trans (Ex.new np)
      have W2 : StW (upd H2 p (.lst [])) sd sg sc gs cs r t := ⟨E2 _ _ W1.d, E2 _ _ W1.g, E2 _ _ W1.c, W.ne⟩
      refine ⟨.list (gs.map PyData.int), .list [], .lst (.of W2.g) (dp_iv gs), .lst (.of upd_same) .nil, iv_shaped gs, iv_shaped [], _, rfl, ?_⟩
      generalize upd H2 p (.lst []) = H3 at E2 W2
      cases gs with
      | nil =>
        rw [show PyData.eqv (.list (([] : List Int).map PyData.int)) (.list []) = true from eqv_nil]
        refine iteF ?_
        refine ⟨.ref sd, rfl, sd, sg, sc, b, rfl, ⟨[], cs, r, t, W2, h1, h2⟩, fun z H4 hS4 e4 => ?_⟩
        obtain ⟨gs', cs', r', t', W4, k1, k2⟩ := hS4
        refine ⟨.ref sd, rfl, sd, _, rfl, DPut.k (k := kR) W4.d (by show 4 < sizeLine; rw [sizeLine_eq]; decide), ?_⟩
        rw [putR]
        refine fin _ ⟨fun a o ha n1 n2 => ?_, gs', cs', z, t', ⟨upd_same, ?_, ?_, W4.ne⟩, k1, k2⟩
        · rw [upd_ne n1]
          exact e4 _ _ ((e1.trans E2) _ _ ha) n1 n2
        · rw [upd_ne W4.sdg.symm]
          exact W4.g
        · rw [upd_ne W4.sdc.symm]
          exact W4.c
      | cons g gr =>
        rw [show PyData.eqv (.list ((g :: gr).map PyData.int)) (.list []) = false from eqv_cons _ _]
        refine iteT ?_
        refine ev_dget (k := "great") (ev_var rfl) ev_c W2.d (stG _ _ _ _) H3 (Ex.refl _) _ fun H4 e4 => ?_
        have W4 : StW H4 sd sg sc (g :: gr) cs r t := ⟨e4 _ _ W2.d, e4 _ _ W2.g, e4 _ _ W2.c, W.ne⟩
        refine ⟨.inl ⟨rfl, _, .of W4.g⟩, sg, iv (g :: gr), 0, 0, .int g, rfl, rfl, W4.g, by decide, by decide, ?_, rfl, ?_⟩
        · unfold iv
          rw [List.length_map, List.length_cons]
          simp [seqIndex?]
        · have hd : upd H4 sg (.lst ((iv (g :: gr)).eraseIdx 0)) sd = some (.dK (stK sg sc r t)) := (upd_ne W4.sdg).trans W4.d
          refine ⟨.ref sd, rfl, sd, _, rfl, DPut.k (k := kR) hd (by show 4 < sizeLine; rw [sizeLine_eq]; decide), ?_⟩
          rw [putR]
          refine fin _ ⟨fun a o ha n1 n2 => ?_, gr, cs, g, t, ⟨upd_same, ?_, ?_, W4.ne⟩, h1, by omega⟩
          · rw [upd_ne n1, upd_ne n2]
            exact ((e1.trans E2).trans e4) _ _ ha
          · rw [upd_ne W4.sdg.symm]
            exact upd_same
          · rw [upd_ne W4.sdc.symm, upd_ne W4.ne]
            exact W4.c
    · exact fin H1 ⟨.of e1, gs, cs, r, t, ⟨e1 _ _ W.d, e1 _ _ W.g, e1 _ _ W.c, W.ne⟩, h1, by omega⟩
end
end Kx

set_option Elab.async false
set_option linter.all false
set_option maxRecDepth 100000
set_option maxHeartbeats 1000000
namespace Kx
open PySem PySem.Spec PyProof.Rows L2 Evl
/-! ## texts -/
def tx (cs : List Nat) : Str := ⟨cs.toArray⟩
theorem tx_len (cs : List Nat) : (tx cs).length = cs.length := by simp [tx, Str.length]
theorem tx_codes (cs : List Nat) : (tx cs).cps.toList = cs := by simp [tx]
theorem joinL_nil : ∀ cs : List Nat, TL.joinL [] (cs.map fun c => [c]) = cs
  | [] => rfl
  | [c] => rfl
  | c :: d :: r => by
    show [c] ++ ([] ++ TL.joinL [] ((d :: r).map fun c => [c])) = c :: d :: r
    rw [joinL_nil (d :: r)]
    rfl
theorem join_signs (cs : List Nat) : Txt.join (tx []) (cs.map fun c => tx [c]) = tx cs := by
  have e := TL.tl_join (tx []) (cs.map fun c => tx [c])
  rw [List.map_map] at e
  have e2 : TL.joinL (TL.tl (tx [])) (cs.map (TL.tl ∘ fun c => tx [c])) = cs := joinL_nil cs
  rw [e2] at e
  rw [TL.join_eq]
  exact TL.ext_tl (e.trans (tx_codes cs).symm)
theorem sum_ones : ∀ cs : List Nat, (cs.map fun _ => 1).sum = cs.length
  | [] => rfl
  | c :: r => by
    rw [List.map_cons, List.sum_cons, sum_ones r, List.length_cons]
    omega
def abc : Str := "abcdefghijklmnopqrstuvwxyz"
theorem abc_codes : abc.cps.toList = (List.range 26).map (· + 97) := by unfold abc; decide +kernel
theorem abc_len : abc.length = 26 := by
  have h := congrArg List.length abc_codes
  simpa [Str.length] using h
theorem abc_lowc {c : Nat} : c ∈ abc.cps.toList ↔ lowc c = true := by
  rw [abc_codes]
  unfold lowc
  simp only [List.mem_map, List.mem_range, Bool.and_eq_true, decide_eq_true_eq]
  constructor
  · rintro ⟨a, h, rfl⟩
    omega
  · rintro ⟨h1, h2⟩
    exact ⟨c - 97, by omega, by omega⟩
def spPickL : Sp := fun vs H Q _ => ∃ (sd sg sc : Addr) (b : Nat) (l : Addr) (xs : List V), vs = [.ref sd, .ref l] ∧ H l = some (.lst xs) ∧ l ≠ sd ∧ l ≠ sg ∧ 0 < xs.length ∧ xs.length ≤ 1000 ∧ Sta H sd sg sc (b + 1) ∧ ∀ (j : Nat) (x : V) (H' : Hp), xs[j]? = some x → Sta H' sd sg sc b → ExS sd sg H H' → Q x H'
def spPickS : Sp := fun vs H Q _ => ∃ (sd sg sc : Addr) (b : Nat) (z : Str), vs = [.ref sd, .str z] ∧ 0 < z.length ∧ z.length ≤ 1000 ∧ Sta H sd sg sc (b + 1) ∧ ∀ (c : Nat) (H' : Hp), c ∈ z.cps.toList → Sta H' sd sg sc b → ExS sd sg H H' → Q (.str (tx [c])) H'
def okTells : OkF := fun vs H z => ∃ a b, vs = [.bl a, .bl b] ∧ z = .bl (decide (a = b))
theorem stb_tells : Stb okTells := fun _ _ _ _ _ h => h
def spLetters : Sp := fun vs H Q _ => ∃ (sd sg sc : Addr) (b m : Nat), vs = [.ref sd, .int (m : Nat)] ∧ m ≤ 20 ∧ Sta H sd sg sc (b + m) ∧ ∀ (cs : List Nat) (H' : Hp), cs.length = m → (∀ c ∈ cs, lowc c = true) → Sta H' sd sg sc b → ExS sd sg H H' → Q (.str (tx cs)) H'
section
variable {P : Program} {w : World} {K : PySem.W.Frag} {mg : Str → Option Value} {base : Heap} (T : Txt K mg)
theorem ok_pickL : FnOk P w K mg base CX0 3 T.a_law_pick T.d_law_pick ["state", "some"] spPickL := by
  refine T.F_law_pick.ok sc_law_pick (fun vs H Q E h => ?_) (fun cdv A outer s H vs Q E hr h => ?_)
  · obtain ⟨sd, sg, sc, b, l, xs, rfl, _⟩ := h
    rfl
  · obtain ⟨sd, sg, sc, b, l, xs, rfl, hl, n1, n2, h0, h1, hS, q⟩ := h
    refine ⟨_, pss_one (ps_ret (pe_ix ix_list (pv 1) (pe_call (ok_draw T) hr (by rfl) T.g_law_draw T.F_law_draw.kp (b_law_draw T) .nil pass0 (pa_cons (pv 0) (pa_cons (pe_callB call_len_seq (by rfl) T.z_len bo_len (pa_cons (pv 1) pa_nil)) pa_nil))) (fun _ _ => rfl))), ?_⟩
    refine ⟨.ref l, rfl, .ref sd, rfl, .ref l, rfl, l, xs, rfl, .inl (.of hl), sd, sg, sc, b, xs.length, rfl, by omega, by omega, hS, fun z H' z0 z1 hS' e' => ?_⟩
    obtain ⟨k, rfl⟩ : ∃ k : Nat, z = (k : Int) := ⟨z.toNat, by omega⟩
    have hj : k < xs.length := by omega
    exact ⟨l, xs, (k : Int), xs[k], rfl, rfl, .of (e' _ _ hl n1 n2), atI_nat (by simp [List.getElem?_eq_getElem hj]), q k _ H' (List.getElem?_eq_getElem hj) hS' e'⟩
theorem ok_pickS : FnOk P w K mg base CX0 3 T.a_law_pick T.d_law_pick ["state", "some"] spPickS := by
  refine T.F_law_pick.ok sc_law_pick (fun vs H Q E h => ?_) (fun cdv A outer s H vs Q E hr h => ?_)
  · obtain ⟨sd, sg, sc, b, z, rfl, _⟩ := h
    rfl
  · obtain ⟨sd, sg, sc, b, y, rfl, h0, h1, hS, q⟩ := h
    refine ⟨_, pss_one (ps_ret (pe_ix ix_str (pv 1) (pe_call (ok_draw T) hr (by rfl) T.g_law_draw T.F_law_draw.kp (b_law_draw T) .nil pass0 (pa_cons (pv 0) (pa_cons (pe_callB call_len (by rfl) T.z_len bo_len (pa_cons (pv 1) pa_nil)) pa_nil))) (fun _ _ => rfl))), ?_⟩
    refine ⟨.str y, rfl, .ref sd, rfl, .str y, rfl, .str y, y.length, rfl, ⟨sz_of (by omega), rfl⟩, sd, sg, sc, b, y.length, rfl, by omega, by omega, hS, fun z H' z0 z1 hS' e' => ?_⟩
    obtain ⟨k, rfl⟩ : ∃ k : Nat, z = (k : Int) := ⟨z.toNat, by omega⟩
    have hj : k < y.cps.toList.length := by
      have : y.cps.toList.length = y.length := by simp [Str.length]
      omega
    exact ⟨y, (k : Int), y.cps.toList[k], rfl, rfl, sz_of (by omega), atI_nat (by simp [List.getElem?_eq_getElem hj]), q _ H' (List.getElem_mem hj) hS' e'⟩
theorem ok_tells : FnOk P w K mg base CX0 1 T.a_law_tells T.d_law_tells ["value", "due"] (spX okTells) := by
  refine T.F_law_tells.ok sc_law_tells (fun vs H Q E h => ?_) (fun cdv A outer s H vs Q E hr h => ?_)
  · obtain ⟨z, ⟨a, b, rfl, _⟩, _⟩ := h
    rfl
  · obtain ⟨z, ⟨a, b, rfl, rfl⟩, q⟩ := h
    refine ⟨_, pss_one (ps_ret (pe_ifExp (pt_truth (pv 1) (by intro _; rfl)) (pe_cmpR op_is_bl (pv 0) pe_bl (nomark _)) (pe_cmpR op_is_bl (pv 0) pe_bl (nomark _)))), ?_⟩
    refine ⟨.bl b, rfl, b, rfl, ?_⟩
    cases b with
    | true => exact iteT ⟨.bl a, rfl, a, true, rfl, rfl, q H (Ex.refl _)⟩
    | false => exact iteF ⟨.bl a, rfl, a, false, rfl, rfl, q H (Ex.refl _)⟩
theorem ok_letters : FnOk P w K mg base CX0 4 T.a_law_letters T.d_law_letters ["state", "many"] spLetters := by
  refine T.F_law_letters.ok sc_law_letters (fun vs H Q E h => ?_) (fun cdv A outer s H vs Q E hr h => ?_)
  · obtain ⟨sd, sg, sc, b, m, rfl, _⟩ := h
    rfl
  · obtain ⟨sd, sg, sc, b, m, rfl, hm, hS, q⟩ := h
    refine ⟨_, pss_one (ps_ret (pe_join pe_str (pe_lc (own := [("lap", 2)]) (g := gName 2) (tt := tYes) (by rfl) sc_law_letters.nd (pi_range1 (by rfl) T.z_range (pa_cons (pv 1) pa_nil)) (blkOk_by (N := ["state", "many", "lap"]) (sc := defScope s_law_letters) (by decide +kernel))
        (fun _ _ _ _ _ => pg_name (i := 2) sc_law_letters.nd rfl (.inl rfl)) (fun _ _ _ _ _ => pts_nil) (fun _ _ _ _ _ => pe_call (ok_pickS T) hr (by rfl) T.g_law_pick T.F_law_pick.kp (b_law_pick T) .nil pass0 (pa_cons (pv 0) (pa_cons pe_str pa_nil)))))), ?_⟩
    refine ⟨⟨_, rfl⟩, .int m, rfl, m, rfl, by omega, by omega, fun C hC => ?_⟩
    obtain ⟨nsd, nsg, nsc⟩ := hS.off hC
    refine lc_range (lo := 0) (n := m) (fun j H' => ExS sd sg H H' ∧ Sta H' sd sg sc (b + (m - j)) ∧ ∃ cs, cs.length = j ∧ (∀ c ∈ cs, lowc c = true) ∧ H' C = some (.lst (sv (cs.map fun c => tx [c])))) ⟨.of (Ex.new hC), (hS.less (by omega)).up (Ex.new hC), [], rfl, fun _ h => by simp at h, upd_same⟩ (fun j H' hj p => ?_) (fun H' p => ?_)
    · obtain ⟨e1, s1, cs, c1, c2, c3⟩ := p
      refine ⟨rfl, .ref sd, rfl, sd, sg, sc, b + (m - (j + 1)), abc, rfl, by rw [abc_len]; decide, by rw [abc_len]; decide, s1.less (by omega), fun c H2 hc s2 e2 => ⟨_, e2 _ _ c3 nsd nsg, ?_, ?_⟩⟩
      · unfold sv
        rw [List.length_map, List.length_map]
        exact sz_lt (by omega)
      · refine ⟨fun a o h n1 n2 => (upd_ne (ne_of_none h hC)).trans ((e1.trans e2) a o h n1 n2), s2.upd nsd nsg nsc, cs ++ [c], by rw [List.length_append]; exact congrArg (· + 1) c1, fun d hd => ?_, ?_⟩
        · rcases List.mem_append.mp hd with hd | hd
          · exact c2 d hd
          · rw [List.mem_singleton.mp hd]
            exact abc_lowc.mp hc
        · rw [upd_same]
          unfold sv
          rw [List.map_append, List.map_append]
          rfl
    · obtain ⟨e1, s1, cs, c1, c2, c3⟩ := p
      refine ⟨tx [], C, cs.map fun c => tx [c], rfl, rfl, .inl (.of c3), ?_, ?_⟩
      · rw [List.map_map, List.length_map]
        rw [show ((fun x : Str => x.length) ∘ fun c : Nat => tx [c]) = fun _ => 1 from funext fun c => tx_len [c], show (tx []).length = 0 from rfl]
        have e := sum_ones cs
        omega
      · rw [join_signs]
        exact q cs H' c1 c2 (s1.less (by omega)) e1
end
end Kx

set_option Elab.async false
set_option linter.all false
set_option maxRecDepth 100000
set_option maxHeartbeats 1000000
namespace Kx
open PySem PySem.Spec PyProof.Rows L2 Evl
theorem tx_cat (a b : List Nat) : tx a ++ tx b = tx (a ++ b) := by
  refine TL.ext_tl ?_
  show (tx a ++ tx b).cps.toList = (tx (a ++ b)).cps.toList
  rw [tx_codes]
  show ((tx a).cps ++ (tx b).cps).toList = a ++ b
  rw [Array.toList_append]
  rfl
theorem tx_of (s : Str) : tx s.cps.toList = s := rfl
theorem nm_tx {cs : List Nat} : nmS (tx cs) = (((decide (1 ≤ cs.length) && decide (cs.length ≤ 8)) && !decide (tx cs = "any")) && cs.all lowc) := by
  unfold nmS
  rw [tx_len, tx_codes]
theorem pigeon : ∀ (n : Nat) (L : List Nat), (∀ i, i < n → i ∈ L) → n ≤ L.length
  | 0, _, _ => Nat.zero_le _
  | n + 1, L, h => by
    have h1 := h n (Nat.lt_succ_self n)
    have h2 := pigeon n (L.erase n) fun i hi => (List.mem_erase_of_ne (by omega)).mpr (h i (by omega))
    rw [List.length_erase_of_mem h1] at h2
    have := List.length_pos_of_mem h1
    omega
/-- one of the letters makes a name that is not among these -/
theorem some_new (hd : List Nat) (used : List Str) (h : used.length < 26) : ∃ c, 97 ≤ c ∧ c ≤ 122 ∧ tx (hd ++ [c]) ∉ used := by
  apply Classical.byContradiction
  intro no
  have h1 : ∀ i, i < 26 → i ∈ used.map fun s => (s.cps.toList.getLast?.getD 0) - 97 := fun i hi => by
    apply Classical.byContradiction
    intro nm
    refine no ⟨i + 97, by omega, by omega, fun hm => nm ?_⟩
    refine List.mem_map.mpr ⟨_, hm, ?_⟩
    rw [tx_codes, List.getLast?_append]
    simp
  have := pigeon 26 _ h1
  rw [List.length_map] at this
  omega
def cand (cs : List Nat) : List Str := tx cs :: abc.cps.toList.map fun c => tx (cs.take 7 ++ [c])
theorem cand_nm {cs : List Nat} (h1 : 1 ≤ cs.length) (h8 : cs.length ≤ 8) (hl : ∀ c ∈ cs, lowc c = true) {s : Str} (hs : s ∈ cand cs) (na : s ≠ "any") : nmS s = true := by
  have go : ∀ ds : List Nat, 1 ≤ ds.length → ds.length ≤ 8 → (∀ c ∈ ds, lowc c = true) → tx ds ≠ "any" → nmS (tx ds) = true := fun ds a b c d => by
    rw [nm_tx, decide_eq_true (by omega), decide_eq_true (by omega), decide_eq_false d]
    exact List.all_eq_true.mpr c
  unfold cand at hs
  rcases List.mem_cons.mp hs with rfl | hs
  · exact go cs h1 h8 hl na
  · obtain ⟨c, hc, rfl⟩ := List.mem_map.mp hs
    refine go _ (by simp) (by simp; omega) (fun d hd => ?_) na
    rcases List.mem_append.mp hd with hd | hd
    · exact hl d (List.mem_of_mem_take hd)
    · rw [List.mem_singleton.mp hd]
      exact abc_lowc.mp hc
theorem cand_new (cs : List Nat) {used : List Str} (h : used.length ≤ 20) : ∃ s ∈ cand cs, s ∉ used ∧ s ≠ "any" := by
  obtain ⟨c, h1, h2, h3⟩ := some_new (cs.take 7) ("any" :: used) (by rw [List.length_cons]; omega)
  refine ⟨_, List.mem_cons_of_mem _ (List.mem_map.mpr ⟨c, abc_lowc.mpr (by unfold lowc; rw [decide_eq_true h1, decide_eq_true h2]; rfl), rfl⟩), fun hm => h3 (List.mem_cons_of_mem _ hm), fun e => h3 ?_⟩
  rw [e]
  exact List.mem_cons_self
theorem cut7 (cs : List Nat) : cutS (tx cs) none (some 7) = tx (cs.take 7) := by
  refine TL.ext_tl ?_
  show (((tx cs).cps.toList.drop 0).take (HT.sIx (tx cs).length (tx cs).length (some ((7 : Nat) : Int)) - 0)) = (tx (cs.take 7)).cps.toList
  rw [HT.sIx_nat, tx_codes, tx_codes, tx_len, List.drop_zero, Nat.sub_zero, List.take_eq_take_iff]
  omega
section
variable {K : PySem.W.Frag} {σ : L2.St} {H : Hp} {ta tb te tl : TE} {v : V}
theorem q_asgW {D : Ends} {u : TS} {i : Nat} (h : te σ H fun x H1 => u D (σ.set i (some x)) H1) : tSeq (tAsg te (gName i)) u D σ H := h
theorem el_cat {xs ys : List V} (ha : EvL ta σ H xs) (hb : EvL tb σ H ys) (hz : xs.length + ys.length ≤ 100000) : EvL (tOp rCat ta tb) σ H (xs ++ ys) := fun H1 e Q q =>
  ha H1 e _ fun p H2 n2 e2 h2 => hb H2 (e.trans e2) _ fun p3 H3 n3 e3 h3 => ⟨p, p3, xs, ys, rfl, rfl, e3 _ _ h2, h3, sz_of hz, fun r hr => q r _ (fresh_back (e2.trans e3) hr) ((e2.trans e3).trans (Ex.new hr)) upd_same⟩
end
theorem given_head {n : Nat} {f : Nat → Bool} {v : Nat → V} (h : ∃ i, i < n ∧ f i = true) : ∃ i, i < n ∧ f i = true ∧ (Evl.given n f v)[0]? = some (v i) := by
  obtain ⟨i, hi, hf⟩ := h
  have hm : i ∈ (List.range n).filter f := List.mem_filter.mpr ⟨List.mem_range.mpr hi, hf⟩
  unfold Evl.given
  cases e : (List.range n).filter f with
  | nil =>
    rw [e] at hm
    cases hm
  | cons j r =>
    have hj : j ∈ (List.range n).filter f := e ▸ List.mem_cons_self
    obtain ⟨h1, h2⟩ := List.mem_filter.mp hj
    exact ⟨j, List.mem_range.mp h1, h2, rfl⟩
def spNew : Sp := fun vs H Q _ => ∃ (sd sg sc : Addr) (b : Nat) (l : Addr) (ns : List Str), vs = [.ref sd, .ref l] ∧ H l = some (.lst (sv ns)) ∧ ns.length ≤ 20 ∧ l ≠ sd ∧ l ≠ sg ∧ Sta H sd sg sc (b + 9) ∧ ∀ (s : Str) (H' : Hp), nmS s = true → s ∉ ns → Sta H' sd sg sc b → ExS sd sg H H' → Q (.str s) H'
def spNames : Sp := fun vs H Q _ => ∃ (sd sg sc : Addr) (b m : Nat), vs = [.ref sd, .int (m : Nat)] ∧ m ≤ 20 ∧ Sta H sd sg sc (b + 9 * m) ∧ ∀ (p : Addr) (ns : List Str) (H' : Hp), ns.length = m → (∀ s ∈ ns, nmS s = true) → ns.Nodup → H p = none → H' p = some (.lst (sv ns)) → p ≠ sd → p ≠ sg → Sta H' sd sg sc b → ExS sd sg H H' → Q (.ref p) H'
section
variable {P : Program} {w : World} {K : PySem.W.Frag} {mg : Str → Option Value} {base : Heap} (T : Txt K mg)
theorem ok_new : FnOk P w K mg base CX0 5 T.a_law_new T.d_law_new ["state", "used"] spNew := by
  refine T.F_law_new.ok sc_law_new (fun vs H Q E h => ?_) (fun cdv A outer s H vs Q E hr h => ?_)
  · obtain ⟨sd, sg, sc, b, l, ns, rfl, _⟩ := h
    rfl
  · obtain ⟨sd, sg, sc, b, l, ns, rfl, hl, hn, n1, n2, hS, q⟩ := h
    refine ⟨_, pss_cons (ps_set (i := 2) sc_law_new.nd rfl (.inr rfl) (pe_call (ok_letters T) hr (by rfl) T.g_law_letters T.F_law_letters.kp (b_law_letters T) .nil pass0 (pa_cons (pv 0) (pa_cons (pe_call (ok_pickL T) (hr.mono (by decide)) (by rfl) T.g_law_pick T.F_law_pick.kp (b_law_pick T) .nil pass0 (pa_cons (pv 0) (pa_cons (pe_lst (pa_cons pe_int (pa_cons pe_int (pa_cons pe_int (pa_cons pe_int (pa_cons pe_int pa_nil)))))) pa_nil))) pa_nil))))
      (pss_cons (ps_set (i := 3) sc_law_new.nd rfl (.inl rfl) (pe_op op_cat (pe_lst (pa_cons (pv 2) pa_nil)) (pe_lc (own := [("letter", 4)]) (g := gName 4) (tt := tYes) (by rfl) sc_law_new.nd (pi_str pe_str) (blkOk_by (N := ["state", "used", "name", "some", "letter", "one"]) (sc := defScope s_law_new) (by decide +kernel))
        (fun _ _ _ _ _ => pg_name (i := 4) sc_law_new.nd rfl (.inl rfl)) (fun _ _ _ _ _ => pts_nil) (fun _ _ _ _ _ => pe_op op_add_str (pe_slice sl_str (pv 2) po_none (po_some pe_int)) (pv 4)))))
      (pss_one (ps_ret (pe_ix (r := rIxL K) ix_list (pe_lc (own := [("one", 5)]) (g := gName 5) (by rfl) sc_law_new.nd (pi_list (pv 3)) (blkOk_by (N := ["state", "used", "name", "some", "letter", "one"]) (sc := defScope s_law_new) (by decide +kernel))
        (fun _ _ _ _ _ => pg_name (i := 5) sc_law_new.nd rfl (.inl rfl)) (fun _ _ _ _ _ => pts_one (PW.pt (pw_and (pt_cmpR (r := rIn K true) op_notIn_seq (pv 5) (pv 1) (by rfl)) (pw_and1 (pt_cmpR op_ne (pv 5) pe_str (nomark _)))))) (fun _ _ _ _ _ => pv 5)) pe_int (fun _ _ => rfl))))), ?_⟩
    refine q_asgW (σ := [some (.ref sd), some (.ref l), none, none, none, none]) ?_
    refine ⟨.ref sd, rfl, .ref sd, rfl, by show 5 ≤ sizeLine; rw [sizeLine_eq]; decide, fun C hC => ?_⟩
    obtain ⟨c1, c2, c3⟩ := hS.off hC
    refine ⟨sd, sg, sc, b + 8, C, [.int 1, .int 2, .int 8, .int 3, .int 7], rfl, upd_same, c1, c2, by simp, by simp, (hS.up (Ex.new hC)), fun j x H1 hx hS1 e1 => ?_⟩
    obtain ⟨m, rfl, m1, m8⟩ : ∃ m : Nat, x = .int (m : Int) ∧ 1 ≤ m ∧ m ≤ 8 := by
      have := List.mem_of_getElem? hx
      simp only [List.mem_cons, List.not_mem_nil, or_false] at this
      rcases this with rfl | rfl | rfl | rfl | rfl
      · exact ⟨1, rfl, by decide, by decide⟩
      · exact ⟨2, rfl, by decide, by decide⟩
      · exact ⟨8, rfl, by decide, by decide⟩
      · exact ⟨3, rfl, by decide, by decide⟩
      · exact ⟨7, rfl, by decide, by decide⟩
    refine ⟨sd, sg, sc, b, m, rfl, by omega, hS1.less (by omega), fun cs H2 hcl hcs hS2 e2 => ?_⟩
    have X2 : ExS sd sg H H2 := (ExS.trans (.of (Ex.new hC)) e1).trans e2
    have hl2 := X2 _ _ hl n1 n2
    show tSeq (tAsg _ (gName 3)) _ _ [some (.ref sd), some (.ref l), some (.str (tx cs)), none, none, none] H2
    refine q_asgL (xs := sv (cand cs)) ?_ fun p H3 hp e3 h3 => ?_
    · refine el_cat (xs := [.str (tx cs)]) (ys := sv (abc.cps.toList.map fun c => tx (cs.take 7 ++ [c]))) (el_lst (ea_cons (ev_var rfl) ea_nil) (by simp)) (el_lcS (s := abc) ev_c ?_ ?_ fun j c y hc hy => ?_) ?_
      · unfold sv
        rw [List.length_map, List.length_map]
        rfl
      · have := abc_len
        show abc.length < 100000
        omega
      · unfold sv at hy
        rw [List.getElem?_map, List.getElem?_map, Array.getElem?_toList, hc] at hy
        obtain rfl : V.str (tx (cs.take 7 ++ [c])) = y := Option.some.inj hy
        refine ev_op (x := .str (tx (cs.take 7))) (y := .str (tx [c])) (fun H4 e4 Q' q' => ?_) (ev_var rfl) (fun H4 e4 Q' q' => ⟨_, _, rfl, rfl, ?_, ?_⟩)
        · exact ⟨_, rfl, ⟨7, rfl, _, rfl, by rw [tx_len]; exact sz_of (by omega), by rw [cut7]; exact q' H4 (Ex.refl _)⟩⟩
        · rw [tx_len, tx_len]
          exact sz_of (by simp; omega)
        · rw [tx_cat]
          exact q' H4 (Ex.refl _)
      · unfold sv
        rw [List.length_map, List.length_map, abc_codes]
        simp
    · -- the first that is new
      have hc : (sv (cand cs)).length ≤ 40000 := by
        unfold sv cand
        rw [List.length_map, List.length_cons, List.length_map, abc_codes]
        simp
      have L := Evl.el_lcL (K := K) (σ := [some (.ref sd), some (.ref l), some (.str (tx cs)), some (.ref p), none, none]) (H := H3) (tl := tVar 3) (j := 5) (vs := [5]) (xs := sv (cand cs)) (te := tVar 5) (t := tAnd (tTest (tOp (rIn K true) (tVar 5) (tVar 1))) (tTest (tOp rNe (tVar 5) (tC (V.str "any")))))
        (fun i => match (sv (cand cs))[i]? with | some (.str y) => !amg y ns && !decide (V.str y = V.str "any") | _ => false) (fun i => ((sv (cand cs))[i]?).getD .non) (ev_var rfl) (.of h3) hc (fun _ => rfl) (fun i x H4 e4 hi => ?_) (fun i x H4 e4 hi _ => ?_)
      · obtain ⟨s0, hs0, n0, na0⟩ := cand_new cs hn
        obtain ⟨i0, hi0⟩ := List.getElem?_of_mem hs0
        have g0 : (sv (cand cs))[i0]? = some (.str s0) := by
          unfold sv
          rw [List.getElem?_map, hi0]
          rfl
        obtain ⟨i, hi, hf, hg⟩ := given_head (n := (sv (cand cs)).length) (f := fun i => match (sv (cand cs))[i]? with | some (.str y) => !amg y ns && !decide (V.str y = V.str "any") | _ => false) (v := fun i => ((sv (cand cs))[i]?).getD .non)
          ⟨i0, (List.getElem?_eq_some_iff.mp g0).1, by
            show (match (sv (cand cs))[i0]? with | some (.str y) => !amg y ns && !decide (V.str y = V.str "any") | _ => false) = true
            rw [g0]
            have a1 : amg s0 ns = false := Bool.eq_false_iff.mpr fun z => n0 (amg_iff.mp z)
            have a2 : decide (V.str s0 = V.str "any") = false := decide_eq_false fun z => na0 (V.str.inj z)
            show (!amg s0 ns && !decide (V.str s0 = V.str "any")) = true
            rw [a1, a2]
            rfl⟩
        have gi : (sv (cand cs))[i]? = some (sv (cand cs))[i] := List.getElem?_eq_getElem hi
        obtain ⟨s, hs, es⟩ := List.mem_map.mp (List.mem_of_getElem? gi)
        rw [← es] at gi
        have hf2 : (match (sv (cand cs))[i]? with | some (.str y) => !amg y ns && !decide (V.str y = V.str "any") | _ => false) = true := hf
        rw [gi] at hf2
        have hf3 : (!amg s ns && !decide (V.str s = V.str "any")) = true := hf2
        rw [Bool.and_eq_true] at hf3
        have a1 : s ∉ ns := fun z => by
          rw [amg_iff.mpr z] at hf3
          exact absurd hf3.1 (by simp)
        have a2 : s ≠ "any" := fun z => by
          rw [z] at hf3
          exact absurd hf3.2 (by simp)
        have hg2 : (Evl.given (sv (cand cs)).length (fun i => match (sv (cand cs))[i]? with | some (.str y) => !amg y ns && !decide (V.str y = V.str "any") | _ => false) (fun i => ((sv (cand cs))[i]?).getD .non))[0]? = some (.str s) := by
          rw [hg]
          show some (((sv (cand cs))[i]?).getD .non) = _
          rw [gi]
          rfl
        exact s_ret (ev_opL1 L (fun _ _ => ev_c) fun p4 H4 h4 e4 => rv_ixL (.of h4) (atI_nat hg2)) fun H4 e4 => q s H4 (cand_nm (by omega) (by omega) hcs hs a2) a1 (hS2.up (e3.trans e4)) (X2.trans (.of (e3.trans e4)))
      · obtain ⟨y, hy, rfl⟩ := List.mem_map.mp (List.mem_of_getElem? hi)
        rw [hi]
        exact et_and (et_test (ev_op (ev_var rfl) (ev_var rfl) (rv_niTx (.inl (e4 _ _ (e3 _ _ hl2)))))) fun _ => et_test (ev_op (ev_var rfl) ev_c (rv_ne rfl))
      · rw [hi]
        exact ev_var rfl
end
end Kx

set_option Elab.async false
set_option linter.all false
set_option maxRecDepth 100000
set_option maxHeartbeats 1000000
namespace Kx
open PySem PySem.Spec PyProof.Rows L2 Evl
section
variable {P : Program} {w : World} {K : PySem.W.Frag} {mg : Str → Option Value} {base : Heap} (T : Txt K mg)
theorem ok_names : FnOk P w K mg base CX0 6 T.a_law_names T.d_law_names ["state", "many"] spNames := by
  refine T.F_law_names.ok sc_law_names (fun vs H Q E h => ?_) (fun cdv A outer s H vs Q E hr h => ?_)
  · obtain ⟨sd, sg, sc, b, m, rfl, _⟩ := h
    rfl
  · obtain ⟨sd, sg, sc, b, m, rfl, hm, hS, q⟩ := h
    refine ⟨_, pss_cons (ps_set (i := 2) sc_law_names.nd rfl (.inl rfl) (pe_lst pa_nil))
      (pss_cons (ps_for PassesOwn.never rfl (pi_range1 (by rfl) T.z_range (pa_cons (pv 1) pa_nil)) (pg_name (i := 3) sc_law_names.nd rfl (.inl rfl))
        (pss_one (ps_expr (pe_bm PySem.F.plainAttrs_list PySem.F.slot_list_append PySem.F.type_list_append mt_append (pv 2) (pa_cons (pe_call (ok_new T) hr (by rfl) T.g_law_new T.F_law_new.kp (b_law_new T) .nil pass0 (pa_cons (pv 0) (pa_cons (pv 2) pa_nil))) pa_nil)))))
      (pss_one (ps_ret (pv 2)))), ?_⟩
    refine q_asgL (σ := [some (.ref sd), some (.int m), none, none]) (xs := sv []) (el_lst ea_nil (by decide)) fun p H1 hp e1 h1 => ?_
    obtain ⟨c1, c2, c3⟩ := hS.off hp
    refine q_forR1 (σ := [some (.ref sd), some (.int m), some (.ref p), none]) (n := (m : Int)) (ea_cons (ev_var rfl) ea_nil) ⟨by omega, by omega⟩
      (fun i σ' H' => ∃ y ns, σ' = [some (.ref sd), some (.int m), some (.ref p), y] ∧ ns.length = i ∧ (∀ s ∈ ns, nmS s = true) ∧ ns.Nodup ∧ H' p = some (.lst (sv ns)) ∧ Sta H' sd sg sc (b + 9 * (m - i)) ∧ ExS sd sg H H')
      (fun H2 e2 => ⟨none, [], rfl, rfl, fun _ h => by simp at h, .nil, e2 _ _ h1, (hS.up (e1.trans e2)).less (by omega), .of (e1.trans e2)⟩) (fun i σ' H' hi pv => ?_) (fun σ' H' pv => ?_)
    · obtain ⟨y, ns, rfl, hl, hn, nd, hp2, hS2, X⟩ := pv
      have him : i < m := by omega
      refine ⟨.ref p, rfl, .inl ⟨rfl, _, .of hp2⟩, .ref sd, rfl, .ref p, rfl, sd, sg, sc, b + 9 * (m - (i + 1)), p, ns, rfl, hp2, by omega, c1, c2, hS2.less (by omega), fun s H3 hs hns hS3 X3 => ?_⟩
      have hp3 := X3 _ _ hp2 c1 c2
      refine ⟨p, sv ns, .str s, rfl, rfl, hp3, ?_, some (.int (i : Int)), ns ++ [s], rfl, ?_, fun t ht => ?_, ?_, ?_, hS3.upd c1 c2 c3, ?_⟩
      · unfold sv
        rw [List.length_map]
        exact sz_lt (by omega)
      · rw [List.length_append, hl]
        rfl
      · rcases List.mem_append.mp ht with ht | ht
        · exact hn t ht
        · rw [List.mem_singleton.mp ht]
          exact hs
      · refine List.nodup_append.mpr ⟨nd, by simp, fun a ha c hc e => hns ?_⟩
        rw [← List.mem_singleton.mp hc, ← e]
        exact ha
      · rw [upd_same]
        unfold sv
        rw [List.map_append]
        rfl
      · exact fun a o h n1 n2 => (upd_ne (ne_of_none h hp)).trans ((X.trans X3) a o h n1 n2)
    · obtain ⟨y, ns, rfl, hl, hn, nd, hp2, hS2, X⟩ := pv
      exact s_ret (ev_var rfl) fun H3 e3 => q p ns H3 (by rw [hl]; omega) hn nd hp (e3 _ _ hp2) c1 c2 ((hS2.less (by omega)).up e3) (X.trans (.of e3))
end
end Kx

set_option Elab.async false
set_option linter.all false
set_option maxRecDepth 100000
set_option maxHeartbeats 1000000
namespace Kx
open PySem PySem.Spec PyProof.Rows L2 Evl
/-! ## rights in their order -/
def spot (nd a c s : Nat) : Nat := (a * nd + c) * 2 + s
theorem spot_lex {nd a c s a' c' s' : Nat} (hc : c < nd) (hc' : c' < nd) (hs : s < 2) (hs' : s' < 2) :
    HT.lexLt [(a : Int), (c : Int), (s : Int)] [(a' : Int), (c' : Int), (s' : Int)] = decide (spot nd a c s < spot nd a' c' s') := by
  rw [HT.lexLt_cons, HT.lexLt_cons, HT.lexLt_cons, HT.lexLt_nil_nil]
  unfold spot
  rcases Nat.lt_trichotomy a a' with h | h | h
  · have h1 : a * nd + nd ≤ a' * nd := by
      rw [← Nat.succ_mul]
      exact Nat.mul_le_mul_right nd h
    rw [if_neg (by omega), decide_eq_true (by omega), decide_eq_true (by omega)]
  · subst h
    rw [if_pos rfl]
    rcases Nat.lt_trichotomy c c' with h | h | h
    · rw [if_neg (by omega), decide_eq_true (by omega), decide_eq_true (by omega)]
    · subst h
      rw [if_pos rfl]
      by_cases q : (s : Int) = (s' : Int)
      · rw [if_pos q, decide_eq_false (by omega)]
      · rw [if_neg q, decide_eq_decide]
        omega
    · rw [if_neg (by omega), decide_eq_false (by omega), decide_eq_false (by omega)]
  · have h1 : a' * nd + nd ≤ a * nd := by
      rw [← Nat.succ_mul]
      exact Nat.mul_le_mul_right nd h
    rw [if_neg (by omega), decide_eq_false (by omega), decide_eq_false (by omega)]
theorem ascT_iff {ts : List (List Int)} : ascT ts = true ↔ ∀ j, j + 1 < ts.length → HT.lexLt (ts.getD j []) (ts.getD (j + 1) []) = true := by
  unfold ascT ascB
  rw [List.all_eq_true]
  constructor
  · intro h j hj
    exact h _ (List.mem_map.mpr ⟨j, List.mem_range.mpr (by omega), rfl⟩)
  · intro h b hb
    obtain ⟨j, hj, rfl⟩ := List.mem_map.mp hb
    have := List.mem_range.mp hj
    exact h j (by omega)
abbrev Tri := Nat × Nat × Nat
def Tri.spot (nd : Nat) (t : Tri) : Nat := Kx.spot nd t.1 t.2.1 t.2.2
def Tri.ok (nk nd : Nat) (t : Tri) : Prop := t.1 < nk ∧ t.2.1 < nd ∧ t.2.2 < 2
def Tri.d (ks ns : List Str) (t : Tri) : D := .tup [.str (ks.getD t.1 ""), .str (ns.getD t.2.1 ""), .int (t.2.2 : Nat)]
theorem idx_getD {ks : List Str} (nd : ks.Nodup) {a : Nat} (h : a < ks.length) : ks.idxOf (ks.getD a "") = a := by
  have e : ks.getD a "" = ks[a] := by simp [List.getD, List.getElem?_eq_getElem h]
  rw [e]
  exact nd.idxOf_getElem a h
theorem mem_getD {ks : List Str} {a : Nat} (h : a < ks.length) : ks.getD a "" ∈ ks := by
  have e : ks.getD a "" = ks[a] := by simp [List.getD, List.getElem?_eq_getElem h]
  rw [e]
  exact List.getElem_mem h
theorem tri_key {ks ns : List Str} (h1 : ks.Nodup) (h2 : ns.Nodup) {t : Tri} (h : t.ok ks.length ns.length) : rkey ns ks (t.d ks ns) = [(t.1 : Int), (t.2.1 : Int), (t.2.2 : Int)] := by
  show [((ks.idxOf _ : Nat) : Int), ((ns.idxOf _ : Nat) : Int), _] = _
  rw [idx_getD h1 h.1, idx_getD h2 h.2.1]
theorem tri_rt {ks ns : List Str} {t : Tri} (h : t.ok ks.length ns.length) : (t.d ks ns).rt ns ks = true := by
  show D.rt ns ks (.tup [_, _, _]) = true
  rw [rt_3]
  have h3 := h.2.2
  show (amg _ ks && (amg _ ns && isBetw (.int (t.2.2 : Nat)) 0 1)) = true
  rw [amg_iff.mpr (mem_getD h.1), amg_iff.mpr (mem_getD h.2.1)]
  show isBetw (.int ((t.2.2 : Nat) : Int)) 0 1 = true
  unfold isBetw
  simp
  omega
/-- rising spots make rights -/
theorem tri_rts {ks ns : List Str} (h1 : ks.Nodup) (h2 : ns.Nodup) {ts : List Tri} (h : ∀ t ∈ ts, t.ok ks.length ns.length) (hp : ts.Pairwise fun x y => x.spot ns.length < y.spot ns.length) : D.rts ns ks (.tup (ts.map (Tri.d ks ns))) = true := by
  rw [rts_tup, Bool.and_eq_true]
  refine ⟨List.all_eq_true.mpr fun d hd => ?_, ascT_iff.mpr fun j hj => ?_⟩
  · obtain ⟨t, ht, rfl⟩ := List.mem_map.mp hd
    exact tri_rt (h t ht)
  · rw [List.length_map, List.length_map] at hj
    have hj0 : j < ts.length := by omega
    have e : ∀ i (hi : i < ts.length), ((ts.map (Tri.d ks ns)).map (rkey ns ks)).getD i [] = [(ts[i].1 : Int), (ts[i].2.1 : Int), (ts[i].2.2 : Int)] := fun i hi => by
      rw [← tri_key h1 h2 (h _ (List.getElem_mem hi))]
      simp [List.getD, List.getElem?_eq_getElem hi]
    have a := h _ (List.getElem_mem hj0)
    have b := h _ (List.getElem_mem hj)
    rw [e j hj0, e (j + 1) hj, spot_lex a.2.1 b.2.1 a.2.2 b.2.2]
    exact decide_eq_true (List.pairwise_iff_getElem.mp hp j (j + 1) hj0 hj (by omega))
end Kx

set_option Elab.async false
set_option linter.all false
set_option maxRecDepth 100000
set_option maxHeartbeats 1000000
namespace Kx
open PySem PySem.Spec PyProof.Rows L2 Evl
theorem mod_ne {a w L : Int} (h0 : 0 ≤ a) (h1 : a < L) (h2 : 0 ≤ w) (h3 : w < L - 1) (e : (a + 1 + w) % L = a) : False := by
  by_cases h : a + 1 + w < L
  · rw [Int.emod_eq_of_lt (by omega) h] at e
    omega
  · rw [show a + 1 + w = (a + 1 + w - L) + L * 1 by omega, Int.add_mul_emod_self_left, Int.emod_eq_of_lt (by omega) (by omega)] at e
    omega
theorem vs2 {sd : Addr} {i j : Int} (h : i = j) : [V.ref sd, V.int i] ++ [] = [V.ref sd, V.int j] := by rw [h]; rfl
theorem Sta.tp {H H' : Hp} {sd sg sc : Addr} {b : Nat} (s : Sta H sd sg sc b) (e : ExS sd sg H H') : Tp H H' := fun a o xs h =>
  let ⟨gs, cs, r, t, w, h1, h2⟩ := s; e a _ h (ne_of h w.d (fun z => by cases z)) (ne_of h w.g (fun z => by cases z))
theorem dr_imm {as : List Str} {d : D} (h : d.dr as = true) : d.imm = true := by
  obtain ⟨n, a, b, s, rfl, _⟩ := dr_shape h
  rfl
theorem nm_len {s : Str} (h : nmS s = true) : s.length ≤ 8 := by
  unfold nmS at h
  simp only [Bool.and_eq_true] at h
  exact of_decide_eq_true h.1.1.2
theorem leaf_len {s : Str} (h : s ∈ leafs) : s.length ≤ 4 := by
  unfold leafs at h
  rcases List.mem_cons.mp h with rfl | h
  · decide
  · rw [List.mem_singleton.mp h]
    decide
theorem szs_of : ∀ {ds : List D}, (∀ d ∈ ds, d.Sz) → Szs ds
  | [], _ => by unfold Szs; trivial
  | d :: r, h => by unfold Szs; exact ⟨h d List.mem_cons_self, szs_of fun x hx => h x (List.mem_cons_of_mem _ hx)⟩
theorem sz_tup {ds : List D} (h : ds.length ≤ 1000) (h2 : ∀ d ∈ ds, d.Sz) : (D.tup ds).Sz := by unfold D.Sz; exact ⟨h, szs_of h2⟩
theorem sz_str {s : Str} (h : s.length ≤ 1000) : (D.str s).Sz := by unfold D.Sz; exact h
/-- what stands for a building is small and has no lists in it -/
theorem IsB.small {d : D} {as : List Str} {es : List D} {ks : List Str} {rs : List D} (h : IsB d as es ks rs) (hr : rs.length ≤ 1000) : d.imm = true ∧ d.Sz := by
  have ims : ∀ ns : List Str, imms (ns.map D.str) = true := fun ns => imms_iff.mpr fun d hd => by
    obtain ⟨s, _, rfl⟩ := List.mem_map.mp hd
    rfl
  have rsh : ∀ r ∈ rs, ∃ k n s, r = .tup [.str k, .str n, .int s] ∧ k.length ≤ 8 ∧ n.length ≤ 8 := fun r hr => by
    obtain ⟨k, n, s, e, hk, hn, _⟩ := rt_shape (List.all_eq_true.mp h.rd r hr)
    refine ⟨k, n, s, e, nm_len (h.kv k hk), ?_⟩
    obtain ⟨x, hx, rfl⟩ := List.mem_map.mp hn
    obtain ⟨m, a, b, t, rfl, hm, _⟩ := dr_shape (h.ed x hx)
    exact nm_len hm
  have esh : ∀ e ∈ es, e.Sz := fun e he => by
    obtain ⟨m, a, b, t, rfl, hm, ha, hb, _, ht⟩ := dr_shape (h.ed e he)
    have := nm_len hm
    have := nm_len (h.av a ha)
    have := nm_len (h.av b hb)
    have := leaf_len ht
    refine sz_tup (by simp) fun d hd => ?_
    simp only [List.mem_cons, List.not_mem_nil, or_false] at hd
    rcases hd with rfl | rfl | rfl | rfl <;> exact sz_str (by omega)
  have a6 := h.a6
  have e6 := h.e6
  have k3 := h.k3
  rw [h.eq]
  constructor
  · show imms _ = true
    refine imms_iff.mpr fun d hd => ?_
    simp only [List.mem_cons, List.not_mem_nil, or_false] at hd
    rcases hd with rfl | rfl | rfl | rfl | rfl
    · rfl
    · exact ims as
    · exact imms_iff.mpr fun x hx => dr_imm (h.ed x hx)
    · exact ims ks
    · refine imms_iff.mpr fun x hx => ?_
      obtain ⟨k, n, s, rfl, _⟩ := rsh x hx
      rfl
  · refine sz_tup (by simp) fun d hd => ?_
    simp only [List.mem_cons, List.not_mem_nil, or_false] at hd
    rcases hd with rfl | rfl | rfl | rfl | rfl
    · exact sz_str (by decide)
    · refine sz_tup (by rw [List.length_map]; omega) fun x hx => ?_
      obtain ⟨s, hs, rfl⟩ := List.mem_map.mp hx
      have := nm_len (h.av s hs)
      exact sz_str (by omega)
    · exact sz_tup (by omega) esh
    · refine sz_tup (by rw [List.length_map]; omega) fun x hx => ?_
      obtain ⟨s, hs, rfl⟩ := List.mem_map.mp hx
      have := nm_len (h.kv s hs)
      exact sz_str (by omega)
    · refine sz_tup hr fun x hx => ?_
      obtain ⟨k, n, s, rfl, h1, h2⟩ := rsh x hx
      refine sz_tup (by simp) fun d hd => ?_
      simp only [List.mem_cons, List.not_mem_nil, or_false] at hd
      rcases hd with rfl | rfl | rfl
      · exact sz_str (by omega)
      · exact sz_str (by omega)
      · unfold D.Sz; trivial
def spHouse : Sp := fun vs H Q _ => ∃ (sd sg sc : Addr) (b : Nat), vs = [.ref sd] ∧ Sta H sd sg sc (b + 400) ∧ ∀ (v : V) (d : D) (H' : Hp), Rep H' v d → d.bld = true → d.imm = true → d.Sz → (∃ as es ks rs, IsB d as es ks rs ∧ rs.length ≤ 36) → Sta H' sd sg sc b → ExS sd sg H H' → Q v H'
section
variable {P : Program} {w : World} {K : PySem.W.Frag} {mg : Str → Option Value} {base : Heap} (T : Txt K mg)
theorem ok_house : FnOk P w K mg base CX0 7 T.a_law_house T.d_law_house ["state"] spHouse := by
  refine T.F_law_house.ok sc_law_house (fun vs H Q E h => ?_) (fun cdv A outer s H vs Q E hr h => ?_)
  · obtain ⟨sd, sg, sc, b, rfl, _⟩ := h
    rfl
  · obtain ⟨sd, sg, sc, b, rfl, hS, q⟩ := h
    have nd := sc_law_house.nd
    refine ⟨_, pss_cons (ps_par (i := 1) (j := 2) rfl nd rfl rfl (by decide) rfl rfl
        (pa_cons (pe_call (ok_names T) hr (by rfl) T.g_law_names T.F_law_names.kp (b_law_names T) .nil pass0 (pa_cons (pv 0) (pa_cons (pe_op op_add pe_int (pe_call (ok_draw T) (hr.mono (by decide)) (by rfl) T.g_law_draw T.F_law_draw.kp (b_law_draw T) .nil pass0 (pa_cons (pv 0) (pa_cons pe_int pa_nil)))) pa_nil)))
        (pa_cons (pe_call (ok_names T) hr (by rfl) T.g_law_names T.F_law_names.kp (b_law_names T) .nil pass0 (pa_cons (pv 0) (pa_cons (pe_op op_add pe_int (pe_call (ok_draw T) (hr.mono (by decide)) (by rfl) T.g_law_draw T.F_law_draw.kp (b_law_draw T) .nil pass0 (pa_cons (pv 0) (pa_cons pe_int pa_nil)))) pa_nil))) pa_nil)) (by rfl))
      (pss_cons (ps_par (i := 3) (j := 4) rfl nd rfl rfl (by decide) rfl rfl (pa_cons (pe_lst pa_nil) (pa_cons (pe_lst pa_nil) pa_nil)) (by rfl))
      (pss_cons (ps_for PassesOwn.never rfl (pi_list (pe_call (ok_names T) hr (by rfl) T.g_law_names T.F_law_names.kp (b_law_names T) .nil pass0 (pa_cons (pv 0) (pa_cons (pe_op op_add pe_int (pe_call (ok_draw T) (hr.mono (by decide)) (by rfl) T.g_law_draw T.F_law_draw.kp (b_law_draw T) .nil pass0 (pa_cons (pv 0) (pa_cons pe_int pa_nil)))) pa_nil)))) (pg_name (i := 5) nd rfl (.inl rfl))
        (pss_cons (ps_set (i := 6) nd rfl (.inl rfl) (pe_call (ok_draw T) (hr.mono (by decide)) (by rfl) T.g_law_draw T.F_law_draw.kp (b_law_draw T) .nil pass0 (pa_cons (pv 0) (pa_cons (pe_callB call_len_seq (by rfl) T.z_len bo_len (pa_cons (pv 1) pa_nil)) pa_nil))))
        (pss_cons (ps_set (i := 7) nd rfl (.inl rfl) (pe_op op_mod (pe_callTy call_int1 (by rfl) T.z_int bo_int (pa_cons (pe_op op_add (pe_op op_add (pv 6) pe_int) (pe_call (ok_draw T) (hr.mono (by decide)) (by rfl) T.g_law_draw T.F_law_draw.kp (b_law_draw T) .nil pass0 (pa_cons (pv 0) (pa_cons (pe_op op_sub (pe_callB call_len_seq (by rfl) T.z_len bo_len (pa_cons (pv 1) pa_nil)) pe_int) pa_nil)))) pa_nil)) (pe_callB call_len_seq (by rfl) T.z_len bo_len (pa_cons (pv 1) pa_nil))))
        (pss_one (ps_expr (pe_bm PySem.F.plainAttrs_list PySem.F.slot_list_append PySem.F.type_list_append mt_append (pv 3) (pa_cons (pe_tupF (pa_cons (pv 5) (pa_cons (pe_ix (r := rIxL K) ix_list (pv 1) (pv 6) (fun _ _ => rfl)) (pa_cons (pe_ix (r := rIxL K) ix_list (pv 1) (pv 7) (fun _ _ => rfl)) (pa_cons (pe_call (ok_pickL T) (hr.mono (by decide)) (by rfl) T.g_law_pick T.F_law_pick.kp (b_law_pick T) .nil pass0 (pa_cons (pv 0) (pa_cons (pe_lst (pa_cons pe_str (pa_cons pe_str pa_nil))) pa_nil))) pa_nil))))) pa_nil)))))))
      (pss_cons (ps_set (i := 8) nd rfl (.inr rfl) (pe_call (ok_pickL T) (hr.mono (by decide)) (by rfl) T.g_law_pick T.F_law_pick.kp (b_law_pick T) .nil pass0 (pa_cons (pv 0) (pa_cons (pe_lst (pa_cons pe_int (pa_cons pe_int (pa_cons pe_int (pa_cons pe_int pa_nil))))) pa_nil))))
      (pss_cons (ps_for PassesOwn.never rfl (pi_list (pv 2)) (pg_name (i := 9) nd rfl (.inr rfl))
        (pss_one (ps_for PassesOwn.never rfl (pi_list (pv 3)) (pg_name (i := 10) nd rfl (.inr rfl))
          (pss_one (ps_set (i := 4) nd rfl (.inl rfl) (pe_op op_cat (pv 4) (pe_lc (own := [("side", 11)]) (g := gName 11) (by rfl) nd (pi_list (pe_lst (pa_cons pe_int (pa_cons pe_int pa_nil)))) (blkOk_by (N := ["state", "areas", "kinds", "doors", "rights", "name", "one", "other", "odds", "kind", "door", "side"]) (sc := defScope s_law_house) (by decide +kernel))
            (fun _ _ _ _ _ => pg_name (i := 11) nd rfl (.inl rfl))
            (fun _ _ _ _ _ => pts_one (pt_cmpR op_gt (pe_call (ok_draw T) (hr.mono (by decide)) (by rfl) T.g_law_draw T.F_law_draw.kp (b_law_draw T) .nil pass0 (pa_cons (pv 0) (pa_cons (pv 8) pa_nil))) pe_int (nomark _)))
            (fun _ _ _ _ _ => pe_tupF (t := tCons (tVar 9) (tCons (tOp (rIxT K) (tVar 10) (tC (.int 0))) (tCons (tVar 11) tNil))) (pa_cons (pv 9) (pa_cons (pe_ix (r := rIxT K) ix_tup (pv 10) pe_int (fun _ _ => rfl)) (pa_cons (pv 11) pa_nil)))))))))))
      (pss_one (ps_ret (pe_tupF (pa_cons pe_str (pa_cons (pe_callTy call_tupF (by rfl) T.z_tuple bo_tuple (pa_cons (pv 1) pa_nil)) (pa_cons (pe_callTy call_tupF (by rfl) T.z_tuple bo_tuple (pa_cons (pv 3) pa_nil)) (pa_cons (pe_callTy call_tupF (by rfl) T.z_tuple bo_tuple (pa_cons (pv 2) pa_nil)) (pa_cons (pe_callTy call_tupF (by rfl) T.z_tuple bo_tuple (pa_cons (pv 4) pa_nil)) pa_nil)))))))))))), ?_⟩
    -- areas, kinds
    refine ⟨.ref sd, rfl, .ref sd, rfl, sd, sg, sc, b + 399, 5, rfl, by decide, by decide, hS, fun z1 H1 z0 zl hS1 X1 => ⟨2, z1, rfl, rfl, ?_⟩⟩
    obtain ⟨n1, rfl⟩ : ∃ k : Nat, z1 = (k : Int) := ⟨z1.toNat, by omega⟩
    refine ⟨sd, sg, sc, b + 345, 2 + n1, vs2 (by omega), by omega, hS1.less (by omega), fun p1 as H2 la va na f1 h1 m1 g1 hS2 X2 => ?_⟩
    refine ⟨.ref sd, rfl, .ref sd, rfl, sd, sg, sc, b + 344, 3, rfl, by decide, by decide, hS2, fun z2 H3 z0' zl' hS3 X3 => ⟨1, z2, rfl, rfl, ?_⟩⟩
    obtain ⟨n2, rfl⟩ : ∃ k : Nat, z2 = (k : Int) := ⟨z2.toNat, by omega⟩
    refine ⟨sd, sg, sc, b + 317, 1 + n2, vs2 (by omega), by omega, hS3.less (by omega), fun p2 ks H4 lk vk nk f2 h2 m2 g2 hS4 X4 => ⟨_, _, rfl, ?_⟩⟩
    have h1' := X4 _ _ (X3 _ _ h1 m1 g1) m1 g1
    have XA : ExS sd sg H H4 := ((X1.trans X2).trans X3).trans X4
    -- doors, rights
    refine ⟨Nat.zero_le _, fun p3 f3 => ⟨Nat.zero_le _, fun p4 f4 => ⟨_, _, rfl, ?_⟩⟩⟩
    have E5 : Ex H4 (upd (upd H4 p3 (.lst [])) p4 (.lst [])) := (Ex.new f3).trans (Ex.new f4)
    have h3 : upd (upd H4 p3 (.lst [])) p4 (.lst []) p3 = some (.lst []) := Ex.new f4 _ _ upd_same
    have h4 : upd (upd H4 p3 (.lst [])) p4 (.lst []) p4 = some (.lst []) := upd_same
    have n31 : p3 ≠ p1 := (ne_of_none h1' f3).symm
    have n32 : p3 ≠ p2 := (ne_of_none h2 f3).symm
    have n34 : p3 ≠ p4 := ne_of_none upd_same f4
    obtain ⟨a3, b3, c3⟩ := hS4.off f3
    have hS5 := hS4.up E5
    obtain ⟨a4, b4, c4⟩ := (hS4.up (Ex.new f3)).off f4
    have XB : ExS sd sg H (upd (upd H4 p3 (.lst [])) p4 (.lst [])) := XA.trans (.of E5)
    have k1 := E5 _ _ h1'
    have k2 := E5 _ _ h2
    have f3H : H p3 = none := by
      cases e : H p3 with
      | none => rfl
      | some o => 
        have := XA _ _ e a3 b3
        rw [f3] at this
        cases this
    generalize upd (upd H4 p3 (.lst [])) p4 (.lst []) = H5 at E5 h3 h4 hS5 XB k1 k2
    -- names of doors
    refine ⟨.ref sd, rfl, .ref sd, rfl, sd, sg, sc, b + 316, 6, rfl, by decide, by decide, hS5, fun z3 H6 z0'' zl'' hS6 X6 => ⟨1, z3, rfl, rfl, ?_⟩⟩
    obtain ⟨n3, rfl⟩ : ∃ k : Nat, z3 = (k : Int) := ⟨z3.toNat, by omega⟩
    refine ⟨sd, sg, sc, b + 262, 1 + n3, vs2 (by omega), by omega, hS6.less (by omega), fun p5 ns H7 ln vn nn f5 h5 m5 g5 hS7 X7 => ⟨p5, rfl, ⟨_, .of h5⟩, ?_⟩⟩
    have k1 := X7 _ _ (X6 _ _ k1 m1 g1) m1 g1
    have k2 := X7 _ _ (X6 _ _ k2 m2 g2) m2 g2
    have k3 := X7 _ _ (X6 _ _ h3 a3 b3) a3 b3
    have k4 := X7 _ _ (X6 _ _ h4 a4 b4) a4 b4
    have n35 : p3 ≠ p5 := ne_of_none (X6 _ _ h3 a3 b3) f5
    have XC : ExS sd sg H H7 := (XB.trans X6).trans X7
    refine for_list (xs := sv ns) (fun i σ' H' => ∃ y5 y6 y7 us es, σ' = [some (.ref sd), some (.ref p1), some (.ref p2), some (.ref p3), some (.ref p4), y5, y6, y7, none, none, none, none] ∧ H' p3 = some (.lst us) ∧ Reps H' us es ∧ es.map (fun x => x.fst.txt) = ns.take i ∧ (∀ x ∈ es, D.dr as x = true) ∧ es.length = i
        ∧ H' p1 = some (.lst (sv as)) ∧ H' p2 = some (.lst (sv ks)) ∧ H' p4 = some (.lst []) ∧ H' p5 = some (.lst (sv ns)) ∧ Sta H' sd sg sc (b + 60 + 3 * (ns.length - i)) ∧ ExS sd sg H H')
      ⟨none, none, none, [], [], rfl, k3, .nil, rfl, fun _ h => by simp at h, rfl, k1, k2, k4, h5, hS7.less (by omega), XC⟩ (fun i σ' H' _ pv => ?_) (fun i x σ' H' hx pv => ?_) (fun σ' H' pv => ?_)
    · obtain ⟨y5, y6, y7, us, es, _, _, _, _, _, _, _, _, _, q5, _⟩ := pv
      exact .of q5
    · obtain ⟨y5, y6, y7, us, es, rfl, u3, ur, un, ud, ul, u1, u2, u4, u5, hS8, X8⟩ := pv
      obtain ⟨nm, hnm, rfl⟩ : ∃ nm, ns[i]? = some nm ∧ x = .str nm := by
        unfold sv at hx
        rw [List.getElem?_map] at hx
        cases e : ns[i]? with
        | none =>
          rw [e] at hx
          cases hx
        | some y =>
          rw [e] at hx
          exact ⟨y, rfl, (Option.some.inj hx).symm⟩
      have hi : i < ns.length := (List.getElem?_eq_some_iff.mp hnm).1
      have lav : (sv as).length = as.length := List.length_map _
      refine ⟨.ref sd, rfl, .ref p1, rfl, p1, sv as, rfl, .inl (.of u1), sd, sg, sc, b + 60 + 3 * (ns.length - (i + 1)) + 2, (sv as).length, rfl, by omega, by omega, hS8.less (by omega), fun w1 H9 w10 w1l hS9 X9 => ?_⟩
      obtain ⟨o1, rfl⟩ : ∃ k : Nat, w1 = (k : Int) := ⟨w1.toNat, by omega⟩
      have v1 := X9 _ _ u1 m1 g1
      refine ⟨.int o1, rfl, _, _, rfl, rfl, .ref sd, rfl, .ref p1, rfl, p1, sv as, rfl, .inl (.of v1), _, _, rfl, rfl, sd, sg, sc, b + 60 + 3 * (ns.length - (i + 1)) + 1, (sv as).length - 1, rfl, by omega, by omega, hS9, fun w2 H10 w20 w2l hS10 X10 => ?_⟩
      have v1 := X10 _ _ v1 m1 g1
      refine ⟨(o1 : Int) + 1, w2, rfl, rfl, .inl ⟨_, rfl, .ref p1, rfl, p1, sv as, rfl, .inl (.of v1), _, _, rfl, rfl, by omega, ?_⟩⟩
      obtain ⟨o2, ho2⟩ : ∃ k : Nat, ((o1 : Int) + 1 + w2) % ((sv as).length : Int) = (k : Int) := ⟨(((o1 : Int) + 1 + w2) % ((sv as).length : Int)).toNat, by have := Int.emod_nonneg ((o1 : Int) + 1 + w2) (show ((sv as).length : Int) ≠ 0 by omega); omega⟩
      have ho2l : o2 < as.length := by
        have := Int.emod_lt_of_pos ((o1 : Int) + 1 + w2) (show (0 : Int) < ((sv as).length : Int) by omega)
        omega
      have ho1l : o1 < as.length := by omega
      have hne : o1 ≠ o2 := by
        intro e
        have e2 : ((o1 : Int) + 1 + w2) % ((sv as).length : Int) = (o1 : Int) := by rw [ho2, e]
        exact mod_ne (by omega) (by omega) (by omega) (by omega) e2
      show gName 7 (V.int (((o1 : Int) + 1 + w2) % ((sv as).length : Int))) _ _ _
      rw [ho2]
      have gas : ∀ {j : Nat}, j < as.length → (sv as)[j]? = some (.str (as.getD j "")) := fun {j} hj => by
        unfold sv
        rw [List.getElem?_map, List.getElem?_eq_getElem hj]
        simp [List.getD, List.getElem?_eq_getElem hj]
      have v3 := X10 _ _ (X9 _ _ u3 a3 b3) a3 b3
      refine ⟨.ref p3, rfl, .inl ⟨rfl, us, .of v3⟩, .str nm, rfl, .ref p1, rfl, .int o1, rfl, p1, sv as, o1, .str (as.getD o1 ""), rfl, rfl, .of v1, atI_nat (gas ho1l), .ref p1, rfl, .int o2, rfl, p1, sv as, o2, .str (as.getD o2 ""), rfl, rfl, .of v1, atI_nat (gas ho2l), .ref sd, rfl, by show 2 ≤ sizeLine; rw [sizeLine_eq]; decide, fun p6 f6 => ?_⟩
      obtain ⟨a6, b6, c6⟩ := hS10.off f6
      refine ⟨sd, sg, sc, b + 60 + 3 * (ns.length - (i + 1)), p6, sv leafs, rfl, upd_same, a6, b6, by decide, by decide, hS10.up (Ex.new f6), fun j4 x4 H11 hx4 hS11 X11 => ?_⟩
      obtain ⟨lf, hlf, rfl⟩ := List.mem_map.mp (List.mem_of_getElem? hx4)
      have X811 : ExS sd sg H' H11 := (X9.trans X10).trans (ExS.trans (.of (Ex.new f6)) X11)
      refine ⟨by show 4 ≤ sizeLine; rw [sizeLine_eq]; decide, fun p7 o7 f7 d7 => ?_⟩
      have q3 := X811 _ _ u3 a3 b3
      have n37 : p3 ≠ p7 := ne_of_none q3 f7
      have E12 : Ex H11 (upd H11 p7 (.frz o7 (.tup [.str nm, .str (as.getD o1 ""), .str (as.getD o2 ""), .str lf]))) := Ex.new f7
      have r7 : Rep (upd H11 p7 (.frz o7 (.tup [.str nm, .str (as.getD o1 ""), .str (as.getD o2 ""), .str lf]))) (.ref p7) (.tup [.str nm, .str (as.getD o1 ""), .str (as.getD o2 ""), .str lf]) := .tup ⟨o7, d7, upd_same⟩ (.cons (.str _) (.cons (.str _) (.cons (.str _) (.cons (.str _) .nil))))
      generalize upd H11 p7 (.frz o7 (.tup [.str nm, .str (as.getD o1 ""), .str (as.getD o2 ""), .str lf])) = H12 at E12 r7
      have X812 : ExS sd sg H' H12 := X811.trans (.of E12)
      have q3 := E12 _ _ q3
      have dok : D.dr as (.tup [.str nm, .str (as.getD o1 ""), .str (as.getD o2 ""), .str lf]) = true := by
        rw [dr_4]
        have t1 : nmS nm = true := vn nm (List.mem_of_getElem? hnm)
        have t2 : amg (as.getD o1 "") as = true := amg_iff.mpr (mem_getD ho1l)
        have t3 : amg (as.getD o2 "") as = true := amg_iff.mpr (mem_getD ho2l)
        have t4 : amg lf leafs = true := amg_iff.mpr hlf
        have t5 : as.getD o1 "" ≠ as.getD o2 "" := fun e => by
          have e1 := idx_getD na ho1l
          rw [e, idx_getD na ho2l] at e1
          exact hne e1.symm
        show ((nmS nm && (amg (as.getD o1 "") as && amg (as.getD o2 "") as)) && (!decide (as.getD o1 "" = as.getD o2 "") && amg lf leafs)) = true
        rw [t1, t2, t3, t4, decide_eq_false t5]
        rfl
      have imes : imms es = true := imms_iff.mpr fun x hx => dr_imm (ud x hx)
      have t12 : Tp H12 (upd H12 p3 (.lst (us ++ [.ref p7]))) := Tp.lst q3
      have usl : us.length = es.length := ur.length
      refine ⟨p3, us, .ref p7, rfl, rfl, q3, sz_lt (by omega), some (.str nm), some (.int o1), some (.int o2), us ++ [.ref p7], es ++ [.tup [.str nm, .str (as.getD o1 ""), .str (as.getD o2 ""), .str lf]], rfl, upd_same, ?_, ?_, ?_, by rw [List.length_append, ul]; rfl, ?_, ?_, ?_, ?_, ?_, ?_⟩
      · exact ((ur.monoT (hS8.tp X812) _ _ imes).monoT t12 _ _ imes).append (.cons (r7.monoT t12 _ _ rfl) .nil)
      · rw [List.map_append, un, List.take_add_one, hnm]
        rfl
      · intro x hx
        rcases List.mem_append.mp hx with hx | hx
        · exact ud x hx
        · rw [List.mem_singleton.mp hx]
          exact dok
      · exact (upd_ne n31.symm).trans (X812 _ _ u1 m1 g1)
      · exact (upd_ne n32.symm).trans (X812 _ _ u2 m2 g2)
      · exact (upd_ne n34.symm).trans (X812 _ _ u4 a4 b4)
      · exact (upd_ne n35.symm).trans (X812 _ _ u5 m5 g5)
      · exact (hS11.up E12).upd a3 b3 c3
      · exact fun a o h n1 n2 => (upd_ne (ne_of_none h f3H)).trans ((X8.trans X812) a o h n1 n2)
    · obtain ⟨y5, y6, y7, us, es, rfl, u3, ur, un, ud, ul, u1, u2, u4, u5, hS8, X8⟩ := pv
      rw [show (sv ns).length = ns.length from List.length_map _] at un ul hS8
      rw [List.take_length] at un
      refine ⟨.ref sd, rfl, by show 4 ≤ sizeLine; rw [sizeLine_eq]; decide, fun p8 f8 => ?_⟩
      obtain ⟨a8, b8, c8⟩ := hS8.off f8
      refine ⟨sd, sg, sc, b + 50, p8, [.int 2, .int 3, .int 40, .int 1], rfl, upd_same, a8, b8, by decide, by decide, (hS8.up (Ex.new f8)).less (by omega), fun j8 x8 HB hx8 hSB XB1 => ?_⟩
      obtain ⟨od, rfl, od0, od1⟩ : ∃ od : Int, x8 = .int od ∧ 0 < od ∧ od < 1000000 := by
        have := List.mem_of_getElem? hx8
        simp only [List.mem_cons, List.not_mem_nil, or_false] at this
        rcases this with rfl | rfl | rfl | rfl
        · exact ⟨2, rfl, by decide, by decide⟩
        · exact ⟨3, rfl, by decide, by decide⟩
        · exact ⟨40, rfl, by decide, by decide⟩
        · exact ⟨1, rfl, by decide, by decide⟩
      have X8B : ExS sd sg H' HB := ExS.trans (.of (Ex.new f8)) XB1
      have u3 := X8B _ _ u3 a3 b3
      have u1 := X8B _ _ u1 m1 g1
      have u2 := X8B _ _ u2 m2 g2
      have u4 := X8B _ _ u4 a4 b4
      have imes : imms es = true := imms_iff.mpr fun x hx => dr_imm (ud x hx)
      have ur := ur.monoT (hS8.tp X8B) _ _ imes
      have XHB : ExS sd sg H HB := X8.trans X8B
      have usl : us.length = es.length := ur.length
      have nd6 : ns.length ≤ 6 := by omega
      have ks3 : ks.length ≤ 3 := by omega
      have imt : ∀ tr : List Tri, imms (tr.map (Tri.d ks ns)) = true := fun tr => imms_iff.mpr fun x hx => by
        obtain ⟨t, _, rfl⟩ := List.mem_map.mp hx
        rfl
      clear hS8 X8 X8B XB1 hS7 hS6 hS5 hS4 hS3 hS2 hS1 f8
      refine ⟨.ref p2, rfl, p2, rfl, ⟨_, .of u2⟩, ?_⟩
      refine for_list (xs := sv ks) (fun i σ' H' => ∃ p y5 y6 y7 y9 y10 y11 ws tr, σ' = [some (.ref sd), some (.ref p1), some (.ref p2), some (.ref p3), some (.ref p), y5, y6, y7, some (.int od), y9, y10, y11] ∧ H' p = some (.lst ws) ∧ Reps H' ws (tr.map (Tri.d ks ns)) ∧ (∀ t ∈ tr, Tri.ok ks.length ns.length t) ∧ tr.Pairwise (fun x y => x.spot ns.length < y.spot ns.length) ∧ (∀ t ∈ tr, Tri.spot ns.length t < (i * ns.length) * 2) ∧ tr.length ≤ 12 * i
          ∧ p ≠ sd ∧ p ≠ sg ∧ Sta H' sd sg sc (b + 12 * (ks.length - i)) ∧ ExS sd sg HB H')
        ⟨p4, y5, y6, y7, none, none, none, [], [], rfl, u4, .nil, fun _ h => by simp at h, .nil, fun _ h => by simp at h, Nat.zero_le _, a4, b4, hSB.less (by omega), .refl _⟩ (fun i σ' H' _ pv => ?_) (fun i x σ' H' hx pv => ?_) (fun σ' H' pv => ?_)
      · obtain ⟨p, y5, y6, y7, y9, y10, y11, ws, tr, _, _, _, _, _, _, _, _, _, _, X⟩ := pv
        exact .of (X _ _ u2 m2 g2)
      · obtain ⟨p, y5, y6, y7, y9, y10, y11, ws, tr, rfl, t1, t2, t3, t4, t5, t6, t7, t8, t9, X⟩ := pv
        have hi : i < ks.length := by
          have := (List.getElem?_eq_some_iff.mp hx).1
          rwa [show (sv ks).length = ks.length from List.length_map _] at this
        obtain rfl : V.str (ks.getD i "") = x := by
          unfold sv at hx
          rw [List.getElem?_map, List.getElem?_eq_getElem hi] at hx
          have := Option.some.inj hx
          rw [← this]
          simp [List.getD, List.getElem?_eq_getElem hi]
        refine ⟨.ref p3, rfl, p3, rfl, ⟨_, .of (X _ _ u3 a3 b3)⟩, ?_⟩
        refine for_list (xs := us) (fun j σ' H' => ∃ p y10 y11 ws tr, σ' = [some (.ref sd), some (.ref p1), some (.ref p2), some (.ref p3), some (.ref p), y5, y6, y7, some (.int od), some (.str (ks.getD i "")), y10, y11] ∧ H' p = some (.lst ws) ∧ Reps H' ws (tr.map (Tri.d ks ns)) ∧ (∀ t ∈ tr, Tri.ok ks.length ns.length t) ∧ tr.Pairwise (fun x y => x.spot ns.length < y.spot ns.length) ∧ (∀ t ∈ tr, Tri.spot ns.length t < (i * ns.length + j) * 2) ∧ tr.length ≤ 12 * i + 2 * j
            ∧ p ≠ sd ∧ p ≠ sg ∧ Sta H' sd sg sc (b + 12 * (ks.length - (i + 1)) + 2 * (ns.length - j)) ∧ ExS sd sg HB H')
          ⟨p, y10, y11, ws, tr, rfl, t1, t2, t3, t4, t5, t6, t7, t8, t9.less (by omega), X⟩ (fun j σ' H' _ pv => ?_) (fun j x σ' H' hx pv => ?_) (fun σ' H' pv => ?_)
        · obtain ⟨p, y10, y11, ws, tr, _, _, _, _, _, _, _, _, _, _, X⟩ := pv
          exact .of (X _ _ u3 a3 b3)
        · clear t1 t2 t3 t4 t5 t6 t7 t8 t9 X
          obtain ⟨p, y10, y11, ws, tr, rfl, t1, t2, t3, t4, t5, t6, t7, t8, t9, X⟩ := pv
          have hj : j < ns.length := by
            have := (List.getElem?_eq_some_iff.mp hx).1
            omega
          -- the door
          obtain ⟨e, he, re⟩ := ur.get hx
          obtain ⟨nm, da1, db1, dl1, rfl, _⟩ := dr_shape (ud e (List.mem_of_getElem? he))
          have enm : ns.getD j "" = nm := by
            rw [← un]
            simp [List.getD, he, D.fst, D.txt]
          have re := (re.monoT (hSB.tp X) _ _ rfl)
          obtain ⟨da, dvs, rfl, hda, hdv⟩ := re.tupD
          have hdv0 : dvs[0]? = some (.str nm) := by
            cases hdv with
            | cons q0 _ =>
              obtain rfl := q0.strD
              rfl
          refine ⟨.ref p, rfl, by show 2 ≤ sizeLine; rw [sizeLine_eq]; decide, fun q6 f6 => ⟨q6, rfl, ⟨_, .of upd_same⟩, fun C hC => ?_⟩⟩
          have Ea : Ex H' (upd (upd H' q6 (.lst [.int 0, .int 1])) C (.lst [])) := (Ex.new f6).trans (Ex.new hC)
          have hq6 : upd (upd H' q6 (.lst [.int 0, .int 1])) C (.lst []) q6 = some (.lst [.int 0, .int 1]) := Ex.new hC _ _ upd_same
          obtain ⟨aq, bq, cq⟩ := t9.off f6
          obtain ⟨aC, bC, cC⟩ := (t9.up (Ex.new f6)).off hC
          have nCq : C ≠ q6 := (ne_of_none (o := .lst [.int 0, .int 1]) upd_same hC).symm
          have fC : H' C = none := fresh_back (Ex.new f6) hC
          have imt2 := imt
          refine lc_list (xs := [.int 0, .int 1]) (fun s H2 => ∃ zs tz, H2 C = some (.lst zs) ∧ Reps H2 zs (tz.map (Tri.d ks ns)) ∧ (∀ t ∈ tz, ∃ m, t = (i, j, m) ∧ m < s) ∧ tz.Pairwise (fun x y => x.spot ns.length < y.spot ns.length) ∧ tz.length ≤ s ∧ s ≤ 2 ∧ H2 q6 = some (.lst [.int 0, .int 1]) ∧ ExS sd sg H' H2 ∧ Sta H2 sd sg sc (b + 12 * (ks.length - (i + 1)) + 2 * (ns.length - (j + 1)) + (2 - s)))
            ⟨[], [], upd_same, .nil, fun _ h => by simp at h, .nil, Nat.le_refl _, by decide, hq6, .of Ea, (t9.less (by omega)).up Ea⟩ (fun s H2 _ pv => ?_) (fun s x H2 hx pv => ?_) (fun H2 pv => ?_)
          · obtain ⟨zs, tz, _, _, _, _, _, _, h, _⟩ := pv
            exact .of h
          · obtain ⟨zs, tz, z1, z2, z3, z4, z5, _, z6, z7, z8⟩ := pv
            obtain ⟨hs2, rfl⟩ : s < 2 ∧ x = .int (s : Nat) := by
              match s, hx with
              | 0, hx => exact ⟨by decide, (Option.some.inj hx).symm⟩
              | 1, hx => exact ⟨by decide, (Option.some.inj hx).symm⟩
              | k + 2, hx => simp at hx
            refine ⟨rfl, .ref sd, rfl, .int od, rfl, sd, sg, sc, b + 12 * (ks.length - (i + 1)) + 2 * (ns.length - (j + 1)) + (2 - (s + 1)), od, rfl, od0, od1, z8.less (by omega), fun z H3 _ _ hS3 X3 => ⟨z, 0, rfl, rfl, decide (0 < z), rfl, ?_⟩⟩
            have v1 := X3 _ _ z1 aC bC
            have v6 := X3 _ _ z6 aq bq
            have v2 := z2.monoT (z8.tp X3) _ _ (imt tz)
            have v7 : ExS sd sg H' H3 := z7.trans X3
            by_cases hz : 0 < z
            · show if decide (0 < z) = true then _ else _
              rw [if_pos (decide_eq_true hz)]
              refine ⟨_, rfl, .ref da, rfl, da, dvs, 0, .str nm, rfl, rfl, (hda.tp (t9.tp v7)).sq, atI_nat (j := 0) hdv0, .int s, rfl, by show 3 ≤ sizeLine; rw [sizeLine_eq]; decide, fun p7 o7 f7 d7 => ?_⟩
              have E4 : Ex H3 (upd H3 p7 (.frz o7 (.tup [.str (ks.getD i ""), .str nm, .int s]))) := Ex.new f7
              have r7 : Rep (upd H3 p7 (.frz o7 (.tup [.str (ks.getD i ""), .str nm, .int s]))) (.ref p7) (Tri.d ks ns (i, j, s)) := by
                show Rep _ _ (.tup [.str (ks.getD i ""), .str (ns.getD j ""), .int (s : Nat)])
                rw [enm]
                exact .tup ⟨o7, d7, upd_same⟩ (.cons (.str _) (.cons (.str _) (.cons (.int _) .nil)))
              generalize upd H3 p7 (.frz o7 (.tup [.str (ks.getD i ""), .str nm, .int s])) = H4 at E4 r7
              have v1 := E4 _ _ v1
              have tC : Tp H4 (upd H4 C (.lst (zs ++ [.ref p7]))) := Tp.lst v1
              have zl : zs.length = (tz.map (Tri.d ks ns)).length := v2.length
              rw [List.length_map] at zl
              refine ⟨zs, v1, sz_lt (by omega), zs ++ [.ref p7], tz ++ [(i, j, s)], upd_same, ?_, fun t ht => ?_, ?_, by rw [List.length_append]; exact Nat.succ_le_succ z5, by omega, (upd_ne nCq.symm).trans (E4 _ _ v6), fun a o h n1 n2 => (upd_ne (ne_of_none h fC)).trans (E4 _ _ (v7 a o h n1 n2)), (hS3.up E4).upd aC bC cC⟩
              · rw [List.map_append]
                exact ((v2.up E4).monoT tC _ _ (imt tz)).append (.cons (r7.monoT tC _ _ rfl) .nil)
              · rcases List.mem_append.mp ht with ht | ht
                · obtain ⟨m, e, hm⟩ := z3 t ht
                  exact ⟨m, e, by omega⟩
                · exact ⟨s, List.mem_singleton.mp ht, by omega⟩
              · refine List.pairwise_append.mpr ⟨z4, by simp, fun a ha c hc => ?_⟩
                obtain ⟨m, rfl, hm⟩ := z3 a ha
                rw [List.mem_singleton.mp hc]
                show Kx.spot _ i j m < Kx.spot _ i j s
                unfold Kx.spot
                omega
            · show if decide (0 < z) = true then _ else _
              rw [if_neg (by rw [decide_eq_false hz]; exact Bool.false_ne_true)]
              exact ⟨zs, tz, v1, v2, fun t ht => by obtain ⟨m, e, hm⟩ := z3 t ht; exact ⟨m, e, by omega⟩, z4, by omega, by omega, v6, v7, hS3⟩
          · obtain ⟨zs, tz, z1, z2, z3, z4, z5, _, z6, z7, z8⟩ := pv
            have zl : zs.length = (tz.map (Tri.d ks ns)).length := z2.length
            have wl : ws.length = (tr.map (Tri.d ks ns)).length := t2.length
            rw [List.length_map] at zl wl
            have z5 : tz.length ≤ 2 := z5
            refine ⟨p, C, ws, zs, rfl, rfl, z7 _ _ t1 t7 t8, z1, sz_of (by omega), fun r hr => ?_⟩
            obtain ⟨ar, br, cr⟩ := z8.off hr
            refine ⟨r, some (.ref da), _, ws ++ zs, tr ++ tz, rfl, upd_same, ?_, fun t ht => ?_, ?_, fun t ht => ?_, by rw [List.length_append]; omega, ar, br, (z8.up (Ex.new hr)).less (by omega), X.trans (z7.trans (.of (Ex.new hr)))⟩
            · rw [List.map_append]
              exact ((t2.monoT (t9.tp z7) _ _ (imt tr)).append z2).up (Ex.new hr)
            · rcases List.mem_append.mp ht with ht | ht
              · exact t3 t ht
              · obtain ⟨m, rfl, hm⟩ := z3 t ht
                exact ⟨hi, hj, hm⟩
            · refine List.pairwise_append.mpr ⟨t4, z4, fun a ha c hc => ?_⟩
              obtain ⟨m, rfl, hm⟩ := z3 c hc
              have := t5 a ha
              show _ < Kx.spot _ i j m
              unfold Kx.spot
              omega
            · rcases List.mem_append.mp ht with ht | ht
              · have := t5 t ht
                omega
              · obtain ⟨m, rfl, hm⟩ := z3 t ht
                have hm : m < 2 := hm
                show Kx.spot _ i j m < _
                unfold Kx.spot
                omega
        · clear t1 t2 t3 t4 t5 t6 t7 t8 t9 X
          obtain ⟨p, y10, y11, ws, tr, rfl, t1, t2, t3, t4, t5, t6, t7, t8, t9, X⟩ := pv
          refine ⟨p, y5, y6, y7, _, y10, y11, ws, tr, rfl, t1, t2, t3, t4, fun t ht => ?_, by omega, t7, t8, t9.less (by omega), X⟩
          have := t5 t ht
          rw [Nat.succ_mul]
          omega
      · obtain ⟨p, y5, y6, y7, y9, y10, y11, ws, tr, rfl, t1, t2, t3, t4, t5, t6, t7, t8, t9, X⟩ := pv
        rw [show (sv ks).length = ks.length from List.length_map _] at t5 t6 t9
        have k1 := X _ _ u1 m1 g1
        have k2 := X _ _ u2 m2 g2
        have k3 := X _ _ u3 a3 b3
        have kr := ur.monoT (hSB.tp X) _ _ imes
        refine ⟨.ref p1, rfl, p1, sv as, rfl, .of k1, fun q1 o1 f1 d1 => ?_⟩
        have EA := Ex.new (o := .frz o1 (.tup (sv as))) f1
        have R1 : Rep (upd H' q1 (.frz o1 (.tup (sv as)))) (.ref q1) (.tup (as.map D.str)) := .tup ⟨o1, d1, upd_same⟩ (reps_strs as)
        generalize upd H' q1 (.frz o1 (.tup (sv as))) = HA at EA R1
        refine ⟨.ref p3, rfl, p3, us, rfl, .of (EA _ _ k3), fun q2 o2 f2 d2 => ?_⟩
        have EB := Ex.new (o := .frz o2 (.tup us)) f2
        have R2 : Rep (upd HA q2 (.frz o2 (.tup us))) (.ref q2) (.tup es) := .tup ⟨o2, d2, upd_same⟩ (kr.up (EA.trans EB))
        generalize upd HA q2 (.frz o2 (.tup us)) = HC at EB R2
        refine ⟨.ref p2, rfl, p2, sv ks, rfl, .of (EB _ _ (EA _ _ k2)), fun q3 o3 f3 d3 => ?_⟩
        have EC := Ex.new (o := .frz o3 (.tup (sv ks))) f3
        have R3 : Rep (upd HC q3 (.frz o3 (.tup (sv ks)))) (.ref q3) (.tup (ks.map D.str)) := .tup ⟨o3, d3, upd_same⟩ (reps_strs ks)
        generalize upd HC q3 (.frz o3 (.tup (sv ks))) = HD at EC R3
        refine ⟨.ref p, rfl, p, ws, rfl, .of (EC _ _ (EB _ _ (EA _ _ t1))), fun q4 o4 f4 d4 => ?_⟩
        have ED := Ex.new (o := .frz o4 (.tup ws)) f4
        have R4 : Rep (upd HD q4 (.frz o4 (.tup ws))) (.ref q4) (.tup (tr.map (Tri.d ks ns))) := .tup ⟨o4, d4, upd_same⟩ (t2.up (((EA.trans EB).trans EC).trans ED))
        generalize upd HD q4 (.frz o4 (.tup ws)) = HE at ED R4
        refine ⟨by show 5 ≤ sizeLine; rw [sizeLine_eq]; decide, fun q5 o5 f5 d5 => ?_⟩
        have EE := Ex.new (o := .frz o5 (.tup [.str "building", .ref q1, .ref q2, .ref q3, .ref q4])) f5
        have R5 : Rep (upd HE q5 (.frz o5 (.tup [.str "building", .ref q1, .ref q2, .ref q3, .ref q4]))) (.ref q5) (.tup [.str "building", .tup (as.map D.str), .tup es, .tup (ks.map D.str), .tup (tr.map (Tri.d ks ns))]) :=
          .tup ⟨o5, d5, upd_same⟩ (.cons (.str _) (.cons (R1.up (((EB.trans EC).trans ED).trans EE)) (.cons (R2.up ((EC.trans ED).trans EE)) (.cons (R3.up (ED.trans EE)) (.cons (R4.up EE) .nil)))))
        generalize upd HE q5 (.frz o5 (.tup [.str "building", .ref q1, .ref q2, .ref q3, .ref q4])) = HF at EE R5
        have EF : Ex H' HF := (((EA.trans EB).trans EC).trans ED).trans EE
        have hb : D.bld (.tup [.str "building", .tup (as.map D.str), .tup es, .tup (ks.map D.str), .tup (tr.map (Tri.d ks ns))]) = true := by
          have tx1 : ∀ l : List Str, (l.map D.str).map D.txt = l := fun l => by
            rw [List.map_map]
            exact List.map_id l
          have nmsOk : ∀ (l : List Str) (lo hi : Int), lo ≤ (l.length : Int) → (l.length : Int) ≤ hi → l.Nodup → (∀ s ∈ l, nmS s = true) → D.nms (.tup (l.map D.str)) lo hi = true := fun l lo hi h1 h2 h3 h4 => by
            rw [nms_tup, tx1, decide_eq_true h3]
            have e1 : isTup (.tup (l.map D.str)) lo hi = true := by
              show (decide (lo ≤ ((l.map D.str).length : Int)) && decide (((l.map D.str).length : Int) ≤ hi)) = true
              rw [List.length_map, decide_eq_true h1, decide_eq_true h2]
              rfl
            have e2 : (l.map D.str).all D.nm = true := List.all_eq_true.mpr fun x hx => by
              obtain ⟨s, hs, rfl⟩ := List.mem_map.mp hx
              exact h4 s hs
            rw [e1, e2]
            rfl
          rw [bld_5, show D.txts (.tup (as.map D.str)) = as from tx1 as, show D.txts (.tup (ks.map D.str)) = ks from tx1 ks, show D.fsts (.tup es) = ns from un, nmsOk as 2 6 (by omega) (by omega) na va, nmsOk ks 1 3 (by omega) (by omega) nk vk, tri_rts nk nn t3 t4, drs_tup, un, decide_eq_true nn]
          have e1 : isTup (.tup es) 1 6 = true := by
            show (decide ((1 : Int) ≤ (es.length : Int)) && decide ((es.length : Int) ≤ 6)) = true
            rw [decide_eq_true (by omega), decide_eq_true (by omega)]
            rfl
          have e2 : es.all (D.dr as) = true := List.all_eq_true.mpr ud
          have e3 : D.isS (.str "building") "building" = true := by decide +kernel
          rw [e1, e2, e3]
          rfl
        obtain ⟨as', es', ks', rs', B⟩ := bld_is hb
        have hrl : rs'.length ≤ 36 := by
          have e := B.eq
          injection e with e
          injection e with _ e
          injection e with _ e
          injection e with _ e
          injection e with _ e
          injection e with e _
          injection e with e
          rw [← e, List.length_map]
          omega
        obtain ⟨im, sz⟩ := B.small (by omega)
        exact q _ _ HF R5 hb im sz ⟨as', es', ks', rs', B, hrl⟩ ((t9.less (by omega)).up EF) ((XHB.trans X).trans (.of EF))
end
end Kx

set_option Elab.async false
set_option linter.all false
set_option maxRecDepth 100000
set_option maxHeartbeats 1000000
namespace Kx
open PySem PySem.Spec PyProof.Rows L2 Evl
/-! ## isinstance -/
abbrev tIsi (K : PySem.W.Frag) (te : TE) (T : String) : TE := tCB (rIsi K) (tCons te (tCons (tC (.ty T)) tNil))
section
variable {X : Cx} {e : Expr} {te : TE} {n : Str} {N : String} {p1 p2 p3 : Pos}
theorem pe_isi (hz : X.mg "isinstance" = none) (hn : X.mg n = none) (hb : bootBuiltins n = some (.type N)) (he : PE X e te) (g1 : Gl X "isinstance" := by rfl) (g2 : Gl X n := by rfl)
    (na : starEach [e, .Name n p3] X.env = (false, eval e X.env) :: starEach [.Name n p3] X.env := by rfl) (nm : n ≠ "__name__" := by decide) (nd : (n == ("__debug__" : Str)) = false := by decide) :
    PE X (.Call (.Name "isinstance" p1) [e, .Name n p3] [] p2) (tIsi X.K te N) :=
  pe_callB call_isi g1 hz bo_isinstance (pa_cons he (pa_cons (pe_bltn g2 hn hb rfl nm nd) pa_nil) na) (he := na)
end
theorem Rep.tyX {K : PySem.W.Frag} {H : Hp} {v : V} {d : D} (r : Rep H v d) : TyX K H v (.type d.ty) := by
  cases r with
  | non => exact .base .non
  | bl b => exact .base (.bl b)
  | int i => exact .base (.int i)
  | str s => exact .base (.str s)
  | tup h _ =>
    obtain ⟨o, _, h2⟩ := h
    exact .fTuple h2
  | lst h _ => exact .base (.lst h)
  | dic h => exact .base (.dK h)
def isi (d : D) (T : String) : Bool := decide (d.ty = T) || (decide (d.ty = "bool") && decide (T = "int"))
theorem kit_all : ∀ t ∈ ["NoneType", "bool", "int", "str", "tuple", "list", "dict"], ∀ T ∈ ["str", "tuple", "bool", "int"], kitB t T = some (decide (t = T) || (decide (t = "bool") && decide (T = "int"))) := by decide +kernel
theorem isi_kit {K : PySem.W.Frag} (d : D) {T : String} (hT : T ∈ ["str", "tuple", "bool", "int"]) : PySem.W.kitOne K (.type d.ty) (.type T) = some (isi d T) :=
  kit_ty (kit_all d.ty (by cases d <;> simp [D.ty]) T hT)
section
variable {K : PySem.W.Frag} {σ : L2.St} {H : Hp} {ta tb te tl : TE} {tt : TT} {v x z : V} {d : D}
theorem ev_isi {T : String} (h : Ev te σ H v) (r : Rep H v d) (hT : T ∈ ["str", "tuple", "bool", "int"] := by decide) : Ev (tIsi K te T) σ H (.bl (isi d T)) := fun H1 e Q q =>
  h H1 e _ fun H2 e2 => ⟨v, .ty T, .type d.ty, .type T, isi d T, rfl, .ty T, (r.up (e.trans e2)).tyX, isi_kit d hT, q H2 e2⟩
/-- test and element of a comprehension, for the items that «it» tells -/
structure Each (tt : TT) (te : TE) (σ : L2.St) (j : Nat) (vs : List Nat) (H : Hp) (n : Nat) (it : Nat → V → Prop) (f : Nat → Bool) (w : Nat → V) : Prop where
  few : n ≤ 40000
  back : ∀ x, wipe ((wipe σ vs).set j (some x)) vs = wipe σ vs
  ask : ∀ i x H1, Ex H H1 → it i x → EvT tt ((wipe σ vs).set j (some x)) H1 (f i)
  val : ∀ i x H1, Ex H H1 → it i x → f i = true → Ev te ((wipe σ vs).set j (some x)) H1 (w i)
/-- what the i-th turn has to show -/
def Turned (tt : TT) (te : TE) (σ2 : L2.St) (Dl : Addr) (H H' : Hp) (i : Nat) (f : Nat → Bool) (w : Nat → V) : Prop :=
  tt σ2 H' fun b H3 => if b = true then te σ2 H3 fun y H4 => ∃ acc, H4 Dl = some (.lst acc) ∧ acc.length < sizeLine ∧ Cw H f w Dl (i + 1) (upd H4 Dl (.lst (acc ++ [y]))) else Cw H f w Dl (i + 1) H3
theorem Each.step {j n : Nat} {vs : List Nat} {it : Nat → V → Prop} {f : Nat → Bool} {w : Nat → V} (E : Each tt te σ j vs H n it f w) {i : Nat} {H0 H' : Hp} {Dl : Addr} (e : Ex H H0) (lt : i < n) (m : it i x) (c : Cw H0 f w Dl i H') :
    wipe ((wipe σ vs).set j (some x)) vs = wipe σ vs ∧ Turned tt te ((wipe σ vs).set j (some x)) Dl H0 H' i f w := by
  have few : i < 50000 := by
    have := E.few
    omega
  exact ⟨E.back x, cw_turn c few (E.ask i x H0 e m) (E.val i x H0 e m)⟩
theorem el_each_tup {a : Addr} {xs : List V} {j : Nat} {vs : List Nat} {f : Nat → Bool} {w : Nat → V} (h : Ev tl σ H (.ref a)) (hx : SqT K H a xs) (E : Each tt te σ j vs H xs.length (fun i x => xs[i]? = some x) f w) : EvL (tLc (iTup K tl) (gName j) tt te vs) σ H (given xs.length f w) := by
  intro H0 e Q q
  refine h H0 e _ fun H1 e1 => ⟨a, rfl, ⟨xs, ex_t (e.trans e1) hx⟩, fun Dl hD => ?_⟩
  refine lc_tup (xs := xs) (Cw H1 f w Dl) ?start ?there ?turn ?fin
  case start => exact ⟨hD, Ex.new hD, upd_same⟩
  case there => exact fun i H' _ c => ex_t ((e.trans e1).trans c.2.1) hx
  case turn => exact fun i x H' m c => E.step (e.trans e1) (List.getElem?_eq_some_iff.mp m).1 m c
  case fin => exact fun H' c => q Dl H' (fresh_back e1 c.1) (e1.trans c.2.1) c.2.2
theorem el_each_str {s : Str} {j : Nat} {vs : List Nat} {f : Nat → Bool} {w : Nat → V} (h : Ev tl σ H (.str s)) (E : Each tt te σ j vs H s.cps.size (fun i x => ∃ c, s.cps[i]? = some c ∧ x = .str ⟨#[c]⟩) f w) : EvL (tLc (iStr tl) (gName j) tt te vs) σ H (given s.cps.size f w) := by
  intro H0 e Q q
  refine h H0 e _ fun H1 e1 => ⟨s, rfl, fun Dl hD => ⟨fun i m H' => m + i = s.cps.size ∧ Cw H1 f w Dl i H', ⟨s.cps.size, rfl, hD, Ex.new hD, upd_same⟩, ?_⟩⟩
  rintro i m H' ⟨sum, c⟩
  match m with
  | 0 =>
    obtain rfl : i = s.cps.size := by omega
    exact .inl ⟨Nat.le_refl _, q Dl H' (fresh_back e1 c.1) (e1.trans c.2.1) c.2.2⟩
  | m + 1 =>
    have lt : i < s.cps.size := by omega
    refine .inr ⟨lt, fun H2 => Cw H1 f w Dl (i + 1) H2, fun H2 c2 => ⟨m, Nat.lt_succ_self m, by omega, c2⟩, fun x H2 y => ?_⟩
    obtain ⟨rfl, k, hk, rfl⟩ := y
    exact E.step (e.trans e1) lt ⟨k, hk, rfl⟩ c
/-- the same, test and element told one by one -/
theorem el_lcTg {a : Addr} {xs : List V} {j : Nat} {vs : List Nat} (f : Nat → Bool) (w : Nat → V) (h : Ev tl σ H (.ref a)) (hx : SqT K H a xs) (few : xs.length ≤ 40000) (back : ∀ x, wipe ((wipe σ vs).set j (some x)) vs = wipe σ vs)
    (ask : ∀ i x H1, Ex H H1 → xs[i]? = some x → EvT tt ((wipe σ vs).set j (some x)) H1 (f i)) (val : ∀ i x H1, Ex H H1 → xs[i]? = some x → f i = true → Ev te ((wipe σ vs).set j (some x)) H1 (w i)) :
    EvL (tLc (iTup K tl) (gName j) tt te vs) σ H (given xs.length f w) := el_each_tup h hx ⟨few, back, ask, val⟩
theorem el_lcSg {s : Str} {j : Nat} {vs : List Nat} (f : Nat → Bool) (w : Nat → V) (h : Ev tl σ H (.str s)) (few : s.cps.size ≤ 40000) (back : ∀ x, wipe ((wipe σ vs).set j (some x)) vs = wipe σ vs)
    (ask : ∀ i c H1, Ex H H1 → s.cps[i]? = some c → EvT tt ((wipe σ vs).set j (some (.str ⟨#[c]⟩))) H1 (f i)) (val : ∀ i c H1, Ex H H1 → s.cps[i]? = some c → f i = true → Ev te ((wipe σ vs).set j (some (.str ⟨#[c]⟩))) H1 (w i)) :
    EvL (tLc (iStr tl) (gName j) tt te vs) σ H (given s.cps.size f w) := el_each_str h ⟨few, back, fun i x H1 e ⟨c, m, z⟩ => by subst z; exact ask i c H1 e m, fun i x H1 e ⟨c, m, z⟩ => by subst z; exact val i c H1 e m⟩
theorem given_iv (n : Nat) (f : Nat → Bool) (w : Nat → Int) : given n f (fun i => .int (w i)) = iv (((List.range n).filter f).map w) := by
  unfold given iv
  rw [List.map_map]
  rfl
theorem eqv_iv (ns : List Int) : PyData.eqv (.list (ns.map PyData.int)) (.list []) = ns.isEmpty := by
  cases ns with
  | nil => exact eqv_nil
  | cons a r => exact eqv_cons _ _
theorem given_empty (n : Nat) (f : Nat → Bool) (w : Nat → Int) : (((List.range n).filter f).map w).isEmpty = (List.range n).all fun i => !f i := by
  rw [Bool.eq_iff_iff, List.isEmpty_iff, List.map_eq_nil_iff, List.filter_eq_nil_iff, List.all_eq_true]
  constructor
  · intro h i hi
    rw [Bool.eq_false_iff.mpr (h i hi)]
    rfl
  · intro h i hi e
    have := h i hi
    rw [e] at this
    cases this
theorem rv_eqNil {p q : Addr} {ns : List Int} (h : H p = some (.lst (iv ns))) (hq : H q = some (.lst [])) : RV (rEqD K) (.ref p) (.ref q) H (.bl ns.isEmpty) := fun H1 e Q k =>
  ⟨.list (ns.map .int), .list [], .lst (.of (e _ _ h)) (dp_iv ns), .lst (.of (e _ _ hq)) .nil, iv_shaped ns, iv_shaped [], by rw [eqv_iv]; exact k H1 (Ex.refl _)⟩
theorem rv_neNil {p q : Addr} {ns : List Int} (h : H p = some (.lst (iv ns))) (hq : H q = some (.lst [])) : RV (rNeD K) (.ref p) (.ref q) H (.bl (!ns.isEmpty)) := fun H1 e Q k =>
  ⟨.list (ns.map .int), .list [], .lst (.of (e _ _ h)) (dp_iv ns), .lst (.of (e _ _ hq)) .nil, iv_shaped ns, iv_shaped [], by rw [eqv_iv]; exact k H1 (Ex.refl _)⟩
theorem ev_eqNil {n : Nat} {f : Nat → Bool} {w : Nat → Int} (h : EvL ta σ H (given n f fun i => .int (w i))) : Ev (tOp (rEqD K) ta (tLst tNil)) σ H (.bl ((List.range n).all fun i => !f i)) := by
  rw [given_iv] at h
  rw [← given_empty n f w]
  exact ev_opLL h (el_lst ea_nil (by decide)) fun p q H1 h1 h2 _ => rv_eqNil h1 h2
theorem ev_neNil {n : Nat} {f : Nat → Bool} {w : Nat → Int} (h : EvL ta σ H (given n f fun i => .int (w i))) : Ev (tOp (rNeD K) ta (tLst tNil)) σ H (.bl (!((List.range n).all fun i => !f i))) := by
  rw [given_iv] at h
  rw [← given_empty n f w]
  exact ev_opLL h (el_lst ea_nil (by decide)) fun p q H1 h1 h2 _ => rv_neNil h1 h2
end
theorem nm_key (x : Str) : nmS x = (!(decide ((x.length : Int) < 1) || (decide ((8 : Int) < (x.length : Int)) || decide (V.str x = V.str "any"))) && x.cps.toList.all lowc) := by
  unfold nmS
  rw [show decide ((x.length : Int) < 1) = !decide (1 ≤ x.length) from by rw [← decide_not, decide_eq_decide]; omega, show decide ((8 : Int) < (x.length : Int)) = !decide (x.length ≤ 8) from by rw [← decide_not, decide_eq_decide]; omega,
    show decide (V.str x = V.str "any") = decide (x = "any") from decide_eq_decide.mpr ⟨fun h => V.str.inj h, fun h => by rw [h]⟩]
  generalize decide (1 ≤ x.length) = a
  generalize decide (x.length ≤ 8) = b
  generalize decide (x = "any") = c
  cases a <;> cases b <;> cases c <;> rfl
theorem all_abc (x : Str) : ((List.range x.cps.size).all fun i => !(match x.cps[i]? with | some c => !decide (c ∈ abc.cps.toList) | none => false)) = x.cps.toList.all lowc := by
  rw [Bool.eq_iff_iff, List.all_eq_true, List.all_eq_true]
  constructor
  · intro h c hc
    obtain ⟨i, hi⟩ := List.getElem?_of_mem hc
    have hi2 : x.cps[i]? = some c := by
      rw [← Array.getElem?_toList]
      exact hi
    have := h i (List.mem_range.mpr (Array.getElem?_eq_some_iff.mp hi2).1)
    rw [hi2] at this
    have h2 : (!!decide (c ∈ abc.cps.toList)) = true := this
    rw [Bool.not_not] at h2
    exact abc_lowc.mp (of_decide_eq_true h2)
  · intro h i hi
    have hi := List.mem_range.mp hi
    have hg : x.cps[i]? = some x.cps[i] := Array.getElem?_eq_getElem hi
    rw [hg]
    have hm := abc_lowc.mpr (h x.cps[i] (Array.getElem_mem_toList hi))
    show (!!decide (x.cps[i] ∈ abc.cps.toList)) = true
    rw [decide_eq_true hm]
    rfl
theorem isi_no {d : D} {T : String} (h : d.ty ≠ T) (hT : T ≠ "int" := by decide) : isi d T = false := by
  unfold isi
  rw [decide_eq_false h, decide_eq_false hT]
  cases decide (d.ty = "bool") <;> rfl
section
variable {P : Program} {w : World} {K : PySem.W.Frag} {mg : Str → Option Value} {base : Heap} (T : Txt K mg)
theorem ok_is_named : FnOk P w K mg base CX0 1 T.a_law_is_named T.d_law_is_named ["value"] (spX okName) := by
  refine T.F_law_is_named.ok sc_law_is_named (fun vs H Q E h => ?_) (fun cdv A outer s H vs Q E hr h => ?_)
  · obtain ⟨z, ⟨v, d, rfl, _⟩, _⟩ := h
    rfl
  · obtain ⟨z, ⟨v, d, rfl, hv, hz, rfl⟩, q⟩ := h
    have hu4 : (A.deeper (envOfC "_law_is_named" (defScope s_law_is_named) s.heap.objs.size T.a_law_is_named cdv)).units + 64 < cLine := by have := hr.un; omega
    refine ⟨_, pss_cons (ps_if (PW.pt (pw_or (pt_not (pt_val (pe_isi T.z_isinstance T.z_str bo_str (pv 0)))) (pw_or (pt_cmpR op_lt (pe_callB call_len (by rfl) T.z_len bo_len (pa_cons (pv 0) pa_nil)) pe_int (nomark _)) (pw_or (pt_cmpR op_gt (pe_callB call_len (by rfl) T.z_len bo_len (pa_cons (pv 0) pa_nil)) pe_int (nomark _))
        (pw_or1 (pt_cmpR op_eq (pv 0) pe_str (nomark _))))))) (pss_one (ps_ret pe_bl)) pss_nil)
      (pss_one (ps_ret (pe_cmpR (op_eqD hu4) (pe_lc (own := [("letter", 1)]) (g := gName 1) (by rfl) sc_law_is_named.nd (pi_str (pv 0)) (blkOk_by (N := ["value", "letter"]) (sc := defScope s_law_is_named) (by decide +kernel))
        (fun _ _ _ _ _ => pg_name (i := 1) sc_law_is_named.nd rfl (.inl rfl)) (fun _ _ _ _ _ => pts_one (pt_cmpR op_notIn_sign (pv 1) pe_str (by rfl))) (fun _ _ _ _ _ => pe_int)) (pe_lst pa_nil) (nomark _)))), ?_⟩
    by_cases ht : d.ty = "str"
    · obtain ⟨x, rfl⟩ := ty_str ht
      obtain rfl := hv.strD
      have hz : x.length ≤ 1000 := hz
      refine s_ifX (b := (!true || (decide ((x.length : Int) < 1) || (decide ((8 : Int) < (x.length : Int)) || decide (V.str x = V.str "any"))))) ?_ (fun hb H1 e1 => ?_) (fun hb H1 e1 => ?_)
      · exact et_or (et_not (et_val (ev_isi (ev_var rfl) (.str x)))) fun _ => et_or (et_test (ev_op (ev_lenS (ev_var rfl) (by omega)) ev_c rv_I0)) fun _ => et_or (et_test (ev_op (ev_lenS (ev_var rfl) (by omega)) ev_c rv_I0)) fun _ => et_test (ev_op (ev_var rfl) ev_c (rv_eq rfl))
      · have e : D.nm (.str x) = false := by
          show nmS x = false
          rw [nm_key, show (decide ((x.length : Int) < 1) || (decide ((8 : Int) < (x.length : Int)) || decide (V.str x = V.str "any"))) = true from hb]
          rfl
        rw [← e]
        exact q H1 e1
      · refine s_ret (v := .bl (D.nm (.str x))) (ev_is (ev_eqNil (n := x.cps.size) (f := fun i => match x.cps[i]? with | some c => !decide (c ∈ abc.cps.toList) | none => false) (w := fun _ => 1) (el_lcSg _ _ (ev_var rfl) (by show x.length ≤ 40000; omega) (fun _ => rfl) (fun i c H2 e2 hc => ?_) (fun i c H2 e2 hc hf => ev_c))) ?_) fun H2 e2 => q H2 (e1.trans e2)
        · rw [hc]
          exact et_test (ev_op (ev_var rfl) ev_c fun H3 e3 Q' q' => ⟨c, abc, rfl, rfl, q' H3 (Ex.refl _)⟩)
        · show V.bl _ = V.bl (nmS x)
          rw [nm_key, show (decide ((x.length : Int) < 1) || (decide ((8 : Int) < (x.length : Int)) || decide (V.str x = V.str "any"))) = false from hb, all_abc]
          rfl
    · refine s_ifX (b := true) ?_ (fun hb H1 e1 => ?_) (fun hb H1 e1 => by cases hb)
      · refine et_is (et_or (b := true) (et_not (et_val (ev_isi (ev_var rfl) hv))) fun hc => ?_) (by rw [isi_no ht]; rfl)
        rw [isi_no ht] at hc
        cases hc
      · have e : D.nm d = false := by
          cases d with
          | str s => exact absurd rfl ht
          | _ => rfl
        rw [← e]
        exact q H1 e1
end
end Kx

set_option Elab.async false
set_option linter.all false
set_option maxRecDepth 100000
set_option maxHeartbeats 1000000
namespace Kx
open PySem PySem.Spec PyProof.Rows L2 Evl
theorem nodup_take : ∀ (ts : List Str), decide ts.Nodup = (List.range ts.length).all fun i => !amg (ts.getD i "") (ts.take i) := fun ts => by
  rw [Bool.eq_iff_iff, decide_eq_true_iff, List.all_eq_true, List.nodup_iff_pairwise_ne, List.pairwise_iff_getElem]
  constructor
  · intro h i hi
    have hi := List.mem_range.mp hi
    have : amg (ts.getD i "") (ts.take i) = false := Bool.eq_false_iff.mpr fun e => by
      obtain ⟨j, hj⟩ := List.getElem?_of_mem (amg_iff.mp e)
      have hji : j < i := by
        have := (List.getElem?_eq_some_iff.mp hj).1
        rw [List.length_take] at this
        omega
      rw [List.getElem?_take_of_lt hji, List.getElem?_eq_getElem (by omega : j < ts.length)] at hj
      have e2 : ts.getD i "" = ts[i] := by simp [List.getD, List.getElem?_eq_getElem hi]
      exact h j i (by omega) hi hji ((Option.some.inj hj).trans e2)
    rw [this]
    rfl
  · intro h j i hj hi hji e
    have := h i (List.mem_range.mpr hi)
    have e2 : ts.getD i "" = ts[i] := by simp [List.getD, List.getElem?_eq_getElem hi]
    have hm : amg (ts.getD i "") (ts.take i) = true := by
      refine amg_iff.mpr (List.mem_iff_getElem?.mpr ⟨j, ?_⟩)
      rw [List.getElem?_take_of_lt hji, List.getElem?_eq_getElem hj, e2, e]
    rw [hm] at this
    cases this
theorem cut_take {α : Type} (xs : List α) {i : Nat} (h : i ≤ xs.length) : cutX xs none (some (i : Int)) = xs.take i := by
  unfold cutX
  rw [HT.sIx_nat, HT.sIx_none, List.drop_zero, Nat.sub_zero, Nat.min_eq_left h]
theorem all_range {f : D → Bool} (ds : List D) {n : Nat} (hn : n = ds.length) : ((List.range n).all fun i => !(!f (ds.getD i .non))) = ds.all f := by
  subst hn
  rw [Bool.eq_iff_iff, List.all_eq_true, List.all_eq_true]
  constructor
  · intro h d hd
    obtain ⟨i, hi⟩ := List.getElem?_of_mem hd
    have := h i (List.mem_range.mpr (List.getElem?_eq_some_iff.mp hi).1)
    rw [Bool.not_not] at this
    simpa [List.getD, hi] using this
  · intro h i hi
    have hi := List.mem_range.mp hi
    rw [Bool.not_not]
    have := h ds[i] (List.getElem_mem hi)
    simpa [List.getD, List.getElem?_eq_getElem hi] using this
section
variable {P : Program} {w : World} {K : PySem.W.Frag} {mg : Str → Option Value} {base : Heap} (T : Txt K mg)
theorem ok_lare_named : FnOk P w K mg base CX0 2 T.a_law_are_named T.d_law_are_named ["value", "low", "high"] (spX okNames) := by
  refine T.F_law_are_named.ok sc_law_are_named (fun vs H Q E h => ?_) (fun cdv A outer s H vs Q E hr h => ?_)
  · obtain ⟨z, ⟨v, d, lo, hi, rfl, _⟩, _⟩ := h
    rfl
  · obtain ⟨z, ⟨v, d, lo, hi, rfl, hv, hz, rfl⟩, q⟩ := h
    have hu4 : (A.deeper (envOfC "_law_are_named" (defScope s_law_are_named) s.heap.objs.size T.a_law_are_named cdv)).units + 64 < cLine := by have := hr.un; omega
    have nd := sc_law_are_named.nd
    refine ⟨_, pss_cons (ps_if (PW.pt (pw_or (pt_not (pt_val (pe_isi T.z_isinstance T.z_tuple bo_tuple (pv 0)))) (pw_or (pt_cmpR op_lt (pe_callB call_len_seq (by rfl) T.z_len bo_len (pa_cons (pv 0) pa_nil)) (pv 1) (by rfl)) (pw_or1 (pt_cmpR op_gt (pe_callB call_len_seq (by rfl) T.z_len bo_len (pa_cons (pv 0) pa_nil)) (pv 2) (by rfl)))))) (pss_one (ps_ret pe_bl)) pss_nil)
      (pss_cons (ps_if (pt_cmpR (op_neD hu4) (pe_lc (own := [("one", 3)]) (g := gName 3) (by rfl) nd (pi_tup (pv 0)) (blkOk_by (N := ["value", "low", "high", "one", "at"]) (sc := defScope s_law_are_named) (by decide +kernel))
          (fun _ _ _ _ _ => pg_name (i := 3) nd rfl (.inl rfl)) (fun _ _ _ _ _ => pts_one (pt_not (pt_val (pe_call (ok_is_named T) hr (by rfl) T.g_law_is_named T.F_law_is_named.kp (b_law_is_named T) .nil pass0 (pa_cons (pv 3) pa_nil))))) (fun _ _ _ _ _ => pe_int)) (pe_lst pa_nil) (nomark _)) (pss_one (ps_ret pe_bl)) pss_nil)
      (pss_one (ps_ret (pe_cmpR (op_eqD hu4) (pe_lc (own := [("at", 4)]) (g := gName 4) (by rfl) nd (pi_range1 (by rfl) T.z_range (pa_cons (pe_callB call_len_seq (by rfl) T.z_len bo_len (pa_cons (pv 0) pa_nil)) pa_nil)) (blkOk_by (N := ["value", "low", "high", "one", "at"]) (sc := defScope s_law_are_named) (by decide +kernel))
          (fun _ _ _ _ _ => pg_name (i := 4) nd rfl (.inl rfl)) (fun _ _ _ _ _ => pts_one (pt_cmpR (r := rIn K false) op_in_seq (pe_ix (r := rIxT K) ix_tup (pv 0) (pv 4) (fun _ _ => rfl)) (pe_slice (r := rSlF) sl_tupF (pv 0) po_none (po_some (pv 4))) (by rfl))) (fun _ _ _ _ _ => pv 4)) (pe_lst pa_nil) (nomark _))))), ?_⟩
    by_cases ht : d.ty = "tuple"
    · obtain ⟨ds, rfl⟩ := ty_tup ht
      obtain ⟨a, vs, rfl, ha, hs⟩ := hv.tupD
      have hl := hz.tup.1
      have hvl : vs.length = ds.length := hs.length
      refine s_ifX (b := (!true || (decide ((vs.length : Int) < lo) || decide (hi < (vs.length : Int))))) ?_ (fun hb H1 e1 => ?_) (fun hb H1 e1 => ?_)
      · exact et_or (et_not (et_val (ev_isi (ev_var rfl) hv))) fun _ => et_or (et_test (ev_op (ev_lenT (ev_var rfl) (.inr ha.rd)) (ev_var rfl) rv_I0)) fun _ => et_test (ev_op (ev_lenT (ev_var rfl) (.inr ha.rd)) (ev_var rfl) rv_I0)
      · have e : (D.tup ds).nms lo hi = false := by
          rw [nms_tup]
          have hb2 : (decide ((vs.length : Int) < lo) || decide (hi < (vs.length : Int))) = true := hb
          have h2 : isTup (.tup ds) lo hi = false := by
            show (decide (lo ≤ (ds.length : Int)) && decide ((ds.length : Int) ≤ hi)) = false
            rw [Bool.or_eq_true, decide_eq_true_iff, decide_eq_true_iff] at hb2
            rw [Bool.and_eq_false_iff, decide_eq_false_iff_not, decide_eq_false_iff_not]
            omega
          rw [h2]
          rfl
        rw [← e]
        exact q H1 e1
      · have h2 : isTup (.tup ds) lo hi = true := by
          have hb2 : (decide ((vs.length : Int) < lo) || decide (hi < (vs.length : Int))) = false := hb
          show (decide (lo ≤ (ds.length : Int)) && decide ((ds.length : Int) ≤ hi)) = true
          rw [Bool.or_eq_false_iff, decide_eq_false_iff_not, decide_eq_false_iff_not] at hb2
          rw [Bool.and_eq_true, decide_eq_true_iff, decide_eq_true_iff]
          omega
        have ha1 := ha.up e1
        have hs1 := hs.up e1
        refine s_ifX (b := !((List.range vs.length).all fun i => !(!(ds.getD i .non).nm))) (et_test (ev_neNil (w := fun _ => 1) (el_lcTg _ _ (ev_var rfl) ha1.sq (by omega) (fun _ => rfl) (fun i x H2 e2 hx => ?_) (fun i x H2 e2 hx hf => ev_c)))) (fun hb H2 e2 => ?_) (fun hb H2 e2 => ?_)
        · obtain ⟨d, hd, r⟩ := hs1.get hx
          have eg : ds.getD i .non = d := by simp [List.getD, hd]
          rw [eg]
          exact et_not (et_val (ev_sp stb_name (ea_cons (ev_var rfl) ea_nil) ⟨x, d, rfl, r.up e2, szD_of (hz.tup.2.get hd), rfl⟩))
        · have hb2 : (!((List.range vs.length).all fun i => !(!(ds.getD i .non).nm))) = true := hb
          rw [all_range ds hvl] at hb2
          have e : (D.tup ds).nms lo hi = false := by
            rw [nms_tup, h2]
            cases hc : ds.all D.nm with
            | false => rfl
            | true =>
              rw [hc] at hb2
              cases hb2
          rw [← e]
          exact q H2 (e1.trans e2)
        · have hb2 : (!((List.range vs.length).all fun i => !(!(ds.getD i .non).nm))) = false := hb
          rw [all_range ds hvl] at hb2
          have hall : ds.all D.nm = true := by
            cases hc : ds.all D.nm with
            | true => rfl
            | false =>
              rw [hc] at hb2
              cases hb2
          have hds := all_nm hall
          have hs2 := hs.up (e1.trans e2)
          have ha2 := ha1.up e2
          have hvs : vs = sv (ds.map D.txt) := strs_of_reps (hds ▸ hs)
          have nr : (D.tup ds).nms lo hi = ((List.range ((vs.length : Int).toNat)).all fun i => !amg ((ds.map D.txt).getD i "") ((ds.map D.txt).take i)) := by
            rw [nms_tup, h2, hall, nodup_take, Int.toNat_natCast, hvl, List.length_map]
            rfl
          rw [nr] at q
          refine s_ret (ev_eqNil (w := fun i => (i : Int)) (Evl.el_lcR1 (n := (vs.length : Int)) _ _ (ea_cons (ev_lenT (ev_var rfl) (.inr ha2.rd)) ea_nil) ⟨by omega, by omega⟩ (fun _ => rfl) (fun i H3 e3 hi => ?_) (fun i H3 e3 hi hf => ev_var rfl))) fun H3 e3 => q H3 ((e1.trans e2).trans e3)
          have hi : i < ds.length := by omega
          have hit : i < (ds.map D.txt).length := by rw [List.length_map]; exact hi
          have hgi : vs[i]? = some (.str ((ds.map D.txt).getD i "")) := by
            rw [hvs]
            unfold sv
            rw [List.getElem?_map, List.getElem?_eq_getElem hit, List.getD, List.getElem?_eq_getElem hit]
            rfl
          refine et_test fun H4 e4 Q' q' => ?_
          refine (ev_op (r := rIxT K) (ev_var rfl) (ev_var rfl) (rv_ixT (ha2.up e3).sq (atI_nat hgi)) : Ev _ _ H3 _) H4 e4 _ fun H5 e5 => ?_
          have r5 : Rep H5 (.ref a) (.tup ds) := .tup (((ha2.up e3).up e4).up e5) (((hs2.up e3).up e4).up e5)
          refine er_slice (lo := none) (hi := some (i : Int)) (er_of (ev_var rfl) r5) eo_none (eo_some (ev_var rfl)) H5 (Ex.refl _) _ fun v6 H6 e6 r6 => ?_
          rw [cut_take ds (by omega), hds, ← List.map_take] at r6
          obtain ⟨a6, vs6, rfl, h6, s6⟩ := r6.tupD
          have := strs_of_reps s6
          subst this
          exact rv_inTx (K := K) (.inr h6.rd) H6 (Ex.refl _) _ fun H7 e7 => q' H7 ((e5.trans e6).trans e7)
    · refine s_ifX (b := true) ?_ (fun hb H1 e1 => ?_) (fun hb H1 e1 => by cases hb)
      · refine et_is (et_or (b := true) (et_not (et_val (ev_isi (ev_var rfl) hv))) fun hc => ?_) (by rw [isi_no ht]; rfl)
        rw [isi_no ht] at hc
        cases hc
      · have e : d.nms lo hi = false := by
          cases d with
          | tup s => exact absurd rfl ht
          | _ => rfl
        rw [← e]
        exact q H1 e1
end
end Kx

set_option Elab.async false
set_option linter.all false
set_option maxRecDepth 100000
set_option maxHeartbeats 1000000
namespace Kx
open PySem PySem.Spec PyProof.Rows L2 Evl
theorem firsts {H : Hp} : ∀ {vs : List V} {ds : List D}, Reps H vs ds → (∀ d ∈ ds, ∃ x r, d = .tup (x :: r)) → ∃ ys : List V, Reps H ys (ds.map D.fst) ∧ ys.length = vs.length ∧ ∀ (j : Nat) (x y : V), vs[j]? = some x → ys[j]? = some y → ∃ c us, x = .ref c ∧ TupS H c us ∧ us[0]? = some y
  | _, _, .nil, _ => ⟨[], .nil, rfl, fun j x y h => by simp at h⟩
  | v :: vs, d :: ds, .cons r t, h => by
    obtain ⟨ys, h1, h2, h3⟩ := firsts t fun d hd => h d (List.mem_cons_of_mem _ hd)
    obtain ⟨x, rr, rfl⟩ := h d List.mem_cons_self
    obtain ⟨c, us, rfl, hc, hcs⟩ := r.tupD
    cases hcs with
    | @cons y us _ _ q0 qs =>
      refine ⟨y :: ys, .cons q0 h1, by rw [List.length_cons, List.length_cons, h2], fun j x y' hx hy => ?_⟩
      cases j with
      | zero =>
        obtain rfl := Option.some.inj hx
        obtain rfl := Option.some.inj hy
        exact ⟨c, _, rfl, hc, rfl⟩
      | succ j => exact h3 j x y' hx hy
def is4 : D → Bool
  | .tup [_, _, _, _] => true
  | _ => false
theorem is4_is : ∀ {d : D}, is4 d = true → ∃ n a b s, d = .tup [n, a, b, s]
  | .tup [n, a, b, s], _ => ⟨n, a, b, s, rfl⟩
  | .tup [], h | .tup [_], h | .tup [_, _], h | .tup [_, _, _], h | .tup (_ :: _ :: _ :: _ :: _ :: _), h => by simp [is4] at h
  | .non, h | .bl _, h | .str _, h | .int _, h | .lst _, h | .dic, h => by simp [is4] at h
theorem is4_tup (ds : List D) : is4 (.tup ds) = decide ((ds.length : Int) = 4) := by
  match ds with
  | [] | [_] | [_, _] | [_, _, _] => rfl
  | [_, _, _, _] => rfl
  | _ :: _ :: _ :: _ :: _ :: r =>
    show false = decide _
    rw [decide_eq_false]
    simp only [List.length_cons]
    omega
theorem dr_is4 {as : List Str} {d : D} (h : d.dr as = true) : is4 d = true := by
  obtain ⟨n, a, b, s, rfl, _⟩ := dr_shape h
  rfl
def okDoorsL : OkF := fun vs H z => ∃ v d a as, vs = [.ref a, v] ∧ Rep H v d ∧ d.Sz ∧ TupS H a (sv as) ∧ (∀ s ∈ as, nmS s = true) ∧ z = .bl (d.drs as)
theorem stb_doorsL : Stb okDoorsL := fun _ _ _ _ e ⟨v, d, a, as, h1, h2, h3, h4, h5, h6⟩ => ⟨v, d, a, as, h1, h2.up e, h3, h4.up e, h5, h6⟩
section
variable {P : Program} {w : World} {K : PySem.W.Frag} {mg : Str → Option Value} {base : Heap} (T : Txt K mg)
theorem ok_is_doored : FnOk P w K mg base CX0 3 T.a_law_is_doored T.d_law_is_doored ["areas", "value"] (spX okDoorsL) := by
  refine T.F_law_is_doored.ok sc_law_is_doored (fun vs H Q E h => ?_) (fun cdv A outer s H vs Q E hr h => ?_)
  · obtain ⟨z, ⟨v, d, a, as, rfl, _⟩, _⟩ := h
    rfl
  · obtain ⟨z, ⟨v, d, ar, as, rfl, hv, hz, has, hav, rfl⟩, q⟩ := h
    have hu4 : (A.deeper (envOfC "_law_is_doored" (defScope s_law_is_doored) s.heap.objs.size T.a_law_is_doored cdv)).units + 64 < cLine := by have := hr.un; omega
    have hr1 : Room 1 (A.deeper (envOfC "_law_is_doored" (defScope s_law_is_doored) s.heap.objs.size T.a_law_is_doored cdv)) := hr.mono (by decide)
    have nd := sc_law_is_doored.nd
    refine ⟨_, pss_cons (ps_if (PW.pt (pw_or (pt_not (pt_val (pe_isi T.z_isinstance T.z_tuple bo_tuple (pv 1)))) (pw_or (pt_cmpR op_lt (pe_callB call_len_seq (by rfl) T.z_len bo_len (pa_cons (pv 1) pa_nil)) pe_int (nomark _)) (pw_or1 (pt_cmpR op_gt (pe_callB call_len_seq (by rfl) T.z_len bo_len (pa_cons (pv 1) pa_nil)) pe_int (nomark _)))))) (pss_one (ps_ret pe_bl)) pss_nil)
      (pss_cons (ps_if (pt_cmpR (op_neD hu4) (pe_lc (own := [("one", 3)]) (g := gName 3) (by rfl) nd (pi_tup (pv 1)) (blkOk_by (N := ["areas", "value", "name", "one", "other", "sort"]) (sc := defScope s_law_is_doored) (by decide +kernel))
          (fun _ _ _ _ _ => pg_name (i := 3) nd rfl (.inl rfl)) (fun _ _ _ _ _ => pts_one (PW.pt (pw_or (pt_not (pt_val (pe_callB (r := rIsi K) call_isi (by rfl) T.z_isinstance bo_isinstance (pa_cons (pv 3) (pa_cons (pe_bltn (v := .ty "tuple") (by rfl) T.z_tuple bo_tuple rfl) pa_nil))))) (pw_or1 (pt_cmpR op_ne (pe_callB (r := rLenS K) call_len_seq (by rfl) T.z_len bo_len (pa_cons (pv 3) pa_nil)) pe_int (nomark _)))))) (fun _ _ _ _ _ => pe_int)) (pe_lst pa_nil) (nomark _)) (pss_one (ps_ret pe_bl)) pss_nil)
      (pss_cons (ps_if (pt_not (pt_val (pe_call (ok_lare_named T) hr (by rfl) T.g_law_are_named T.F_law_are_named.kp (b_law_are_named T) .nil pass0 (pa_cons (pe_callTy call_tupF (by rfl) T.z_tuple bo_tuple (pa_cons (pe_lc (own := [("one", 3)]) (g := gName 3) (tt := tYes) (by rfl) nd (pi_tup (pv 1)) (blkOk_by (N := ["areas", "value", "name", "one", "other", "sort"]) (sc := defScope s_law_is_doored) (by decide +kernel))
          (fun _ _ _ _ _ => pg_name (i := 3) nd rfl (.inl rfl)) (fun _ _ _ _ _ => pts_nil) (fun _ _ _ _ _ => pe_ix (r := rIxT K) ix_tup (pv 3) pe_int (fun _ _ => rfl))) pa_nil)) (pa_cons pe_int (pa_cons pe_int pa_nil)))))) (pss_one (ps_ret pe_bl)) pss_nil)
      (pss_cons (ps_for PassesOwn.never rfl (pi_tup (pv 1))
          (pg_tup rfl (pgs_cons (pg_name (i := 2) nd rfl (.inl rfl)) (pgs_cons (pg_name (i := 3) nd rfl (.inl rfl)) (pgs_cons (pg_name (i := 4) nd rfl (.inl rfl)) (pgs_cons (pg_name (i := 5) nd rfl (.inl rfl)) pgs_nil)))))
          (pss_cons (ps_if (PW.pt (pw_or (pt_not (pt_val (pe_call (ok_is_named T) hr1 (by rfl) T.g_law_is_named T.F_law_is_named.kp (b_law_is_named T) .nil pass0 (pa_cons (pv 3) pa_nil)))) (pw_or (pt_not (pt_val (pe_call (ok_is_named T) hr1 (by rfl) T.g_law_is_named T.F_law_is_named.kp (b_law_is_named T) .nil pass0 (pa_cons (pv 4) pa_nil))))
            (pw_or (pt_cmpR (r := rIn K true) op_notIn_seq (pv 3) (pv 0) (by rfl)) (pw_or1 (pt_cmpR (r := rIn K true) op_notIn_seq (pv 4) (pv 0) (by rfl))))))) (pss_one (ps_ret pe_bl)) pss_nil)
          (pss_one (ps_if (PW.pt (pw_or (pt_cmpR op_eq (pv 3) (pv 4) (by rfl)) (pw_or (pt_not (pt_val (pe_isi T.z_isinstance T.z_str bo_str (pv 5)))) (pw_or1 (pt_cmpR (r := rIn K true) op_notIn_seq (pv 5) (pe_lst (pa_cons pe_str (pa_cons pe_str pa_nil))) (by rfl)))))) (pss_one (ps_ret pe_bl)) pss_nil))))
      (pss_one (ps_ret pe_bl))))), ?_⟩
    by_cases ht : d.ty = "tuple"
    · obtain ⟨ds, rfl⟩ := ty_tup ht
      obtain ⟨a, vs, rfl, ha, hs⟩ := hv.tupD
      have hl := hz.tup.1
      have hvl : vs.length = ds.length := hs.length
      have out : (∀ e, D.drs as (.tup ds) = e → e = false → ∀ H1, Ex H H1 → Q (.bl false) H1) := fun e h1 h2 H1 e1 => by
        rw [h1, h2] at q
        exact q H1 e1
      refine s_ifX (b := (!true || (decide ((vs.length : Int) < 1) || decide ((6 : Int) < (vs.length : Int))))) ?_ (fun hb H1 e1 => ?_) (fun hb H1 e1 => ?_)
      · exact et_or (et_not (et_val (ev_isi (ev_var rfl) hv))) fun _ => et_or (et_test (ev_op (ev_lenT (ev_var rfl) (.inr ha.rd)) ev_c rv_I0)) fun _ => et_test (ev_op (ev_lenT (ev_var rfl) (.inr ha.rd)) ev_c rv_I0)
      · refine out _ rfl ?_ H1 e1
        rw [drs_tup]
        have hb2 : (decide ((vs.length : Int) < 1) || decide ((6 : Int) < (vs.length : Int))) = true := hb
        have h2 : isTup (.tup ds) 1 6 = false := by
          show (decide ((1 : Int) ≤ (ds.length : Int)) && decide ((ds.length : Int) ≤ 6)) = false
          rw [Bool.or_eq_true, decide_eq_true_iff, decide_eq_true_iff] at hb2
          rw [Bool.and_eq_false_iff, decide_eq_false_iff_not, decide_eq_false_iff_not]
          omega
        rw [h2]
        rfl
      · have h2 : isTup (.tup ds) 1 6 = true := by
          have hb2 : (decide ((vs.length : Int) < 1) || decide ((6 : Int) < (vs.length : Int))) = false := hb
          show (decide ((1 : Int) ≤ (ds.length : Int)) && decide ((ds.length : Int) ≤ 6)) = true
          rw [Bool.or_eq_false_iff, decide_eq_false_iff_not, decide_eq_false_iff_not] at hb2
          rw [Bool.and_eq_true, decide_eq_true_iff, decide_eq_true_iff]
          omega
        have ha1 := ha.up e1
        have hs1 := hs.up e1
        have drs_all : D.drs as (.tup ds) = true → ∀ x ∈ ds, D.dr as x = true := fun h x hx => by
          rw [drs_tup, h2, Bool.true_and, Bool.and_eq_true] at h
          exact List.all_eq_true.mp h.1 x hx
        refine s_ifX (b := !((List.range vs.length).all fun i => !(!is4 (ds.getD i .non)))) (et_test (ev_neNil (w := fun _ => 1) (el_lcTg _ _ (ev_var rfl) ha1.sq (by omega) (fun _ => rfl) (fun i x H2 e2 hx => ?_) (fun i x H2 e2 hx hf => ev_c)))) (fun hb H2 e2 => ?_) (fun hb H2 e2 => ?_)
        · obtain ⟨d, hd, r⟩ := hs1.get hx
          have eg : ds.getD i .non = d := by simp [List.getD, hd]
          rw [eg]
          have r := r.up e2
          by_cases hd4 : d.ty = "tuple"
          · obtain ⟨es, rfl⟩ := ty_tup hd4
            obtain ⟨c, us, rfl, hc, hcs⟩ := r.tupD
            have r := Rep.tup hc hcs
            rw [is4_tup]
            refine et_is (et_or (a := !true) (b := !decide (V.int (us.length : Int) = V.int 4)) (et_not (et_val (ev_isi (ev_var rfl) r))) fun _ => et_test (ev_op (ev_lenT (ev_var rfl) (.inr hc.rd)) ev_c (rv_ne rfl))) ?_
            show (!decide (V.int (us.length : Int) = V.int 4)) = !decide ((es.length : Int) = 4)
            rw [hcs.length]
            exact congrArg _ (decide_eq_decide.mpr ⟨fun h => V.int.inj h, fun h => by rw [h]⟩)
          · have e4 : is4 d = false := by
              cases d with
              | tup es => exact absurd rfl hd4
              | _ => rfl
            rw [e4]
            refine et_is (et_or (b := true) (et_not (et_val (ev_isi (ev_var rfl) r))) fun hc => ?_) (by rw [isi_no hd4]; rfl)
            rw [isi_no hd4] at hc
            cases hc
        · have hb2 : (!((List.range vs.length).all fun i => !(!is4 (ds.getD i .non)))) = true := hb
          rw [all_range ds hvl] at hb2
          refine out _ rfl ?_ H2 (e1.trans e2)
          cases hc : D.drs as (.tup ds) with
          | false => rfl
          | true =>
            have : ds.all is4 = true := List.all_eq_true.mpr fun x hx => dr_is4 (drs_all hc x hx)
            rw [this] at hb2
            cases hb2
        · have hb2 : (!((List.range vs.length).all fun i => !(!is4 (ds.getD i .non)))) = false := hb
          rw [all_range ds hvl] at hb2
          have h4 : ∀ x ∈ ds, ∃ n a b s, x = .tup [n, a, b, s] := fun x hx => is4_is (List.all_eq_true.mp (not_f hb2) x hx)
          have ha2 := ha1.up e2
          have hs2 := hs1.up e2
          obtain ⟨ys, yr, yl, yf⟩ := firsts hs2 fun x hx => by
            obtain ⟨n, a, b, s, rfl⟩ := h4 x hx
            exact ⟨n, _, rfl⟩
          have szf : (D.tup (ds.map D.fst)).Sz := sz_tup (by rw [List.length_map]; exact hl) fun x hx => by
            obtain ⟨y, hy, rfl⟩ := List.mem_map.mp hx
            obtain ⟨n, a, b, s, rfl⟩ := h4 y hy
            exact (hz.tup.2.mem hy).tup.2.get (j := 0) rfl
          have fn : D.nms (.tup (ds.map D.fst)) 1 6 = ((ds.map D.fst).all D.nm && decide ((ds.map fun x => x.fst.txt).Nodup)) := by
            rw [nms_tup, List.map_map]
            have : isTup (.tup (ds.map D.fst)) 1 6 = true := by
              show (decide ((1 : Int) ≤ ((ds.map D.fst).length : Int)) && decide (((ds.map D.fst).length : Int) ≤ 6)) = true
              rw [List.length_map]
              exact h2
            rw [this]
            rfl
          refine s_ifX (b := !(D.nms (.tup (ds.map D.fst)) 1 6)) (et_not (et_B fun H3 e3 Q' q' => ?_)) (fun hb H3 e3 => ?_) (fun hb H3 e3 => ?_)
          · refine ep_tupOf (K := K) (xs := ys) (el_lcT (ev_var rfl) (ha2.up e3).sq yl (by omega) fun j x y hx hy => ?_) H3 (Ex.refl _) _ fun p H4 e4 hp => ⟨_, ⟨.ref p, .tup (ds.map D.fst), 1, 6, rfl, .tup hp (yr.up (e3.trans e4)), szf, rfl⟩, fun H5 e5 => q' H5 (e4.trans e5)⟩
            obtain ⟨c, us, rfl, hc, hy0⟩ := yf j x y hx hy
            exact ev_ixT (j := 0) (ev_var rfl) (hc.up e3) hy0
          · refine out _ rfl ?_ H3 ((e1.trans e2).trans e3)
            have hb3 := not_t hb
            rw [fn] at hb3
            cases hc : D.drs as (.tup ds) with
            | false => rfl
            | true =>
              have hc2 := hc
              rw [drs_tup, h2, Bool.true_and, Bool.and_eq_true] at hc2
              have : (ds.map D.fst).all D.nm = true := List.all_eq_true.mpr fun x hx => by
                obtain ⟨y, hy, rfl⟩ := List.mem_map.mp hx
                obtain ⟨n, a, b, s, rfl, hn, _⟩ := dr_shape (drs_all hc y hy)
                exact hn
              rw [this, hc2.2] at hb3
              cases hb3
          · have hb3 := not_f hb
            rw [fn, Bool.and_eq_true] at hb3
            have E3 := (e1.trans e2).trans e3
            refine q_forT (xs := vs) (ev_var rfl) (ha2.up e3).sq (fun i σ' H' => ∃ y2 y3 y4 y5, σ' = [some (.ref ar), some (.ref a), y2, y3, y4, y5] ∧ Ex H3 H' ∧ ∀ j x, j < i → ds[j]? = some x → x.dr as = true)
              (fun H4 e4 => ⟨none, none, none, none, rfl, e4, fun j x h => by omega⟩) (fun i σ' H' _ hp => let ⟨_, _, _, _, _, e, _⟩ := hp; ((ha2.up e3).up e).sq) (fun i x σ' H' hx hp => ?_) (fun σ' H' hp => ?_)
            · obtain ⟨y2, y3, y4, y5, rfl, e4, hdone⟩ := hp
              obtain ⟨d, hd, r⟩ := hs.get hx
              have r := r.up (E3.trans e4)
              have hmem := List.mem_of_getElem? hd
              obtain ⟨dn, d1, d2, dsrt, rfl⟩ := h4 d hmem
              have hnm : dn.nm = true := List.all_eq_true.mp hb3.1 _ (List.mem_map.mpr ⟨_, hmem, rfl⟩)
              have hsz := (hz.tup.2.mem hmem).tup.2
              obtain ⟨c, us, rfl, hc, hcs⟩ := r.tupD
              cases hcs with
              | @cons vn _ _ _ q0 hcs => cases hcs with
                | @cons v1 _ _ _ q1 hcs => cases hcs with
                  | @cons v2 _ _ _ q2 hcs => cases hcs with
                    | @cons v3 _ _ _ q3 hcs =>
                      cases hcs
                      have has4 := has.up (E3.trans e4)
                      refine ⟨c, _, rfl, hc.sq, rfl, vn, _, rfl, v1, _, rfl, v2, _, rfl, v3, _, rfl, rfl, ?_⟩
                      have notdr : (amD d1 as && amD d2 as) = false ∨ (!decide (d1.txt = d2.txt) && amD dsrt leafs) = false → D.drs as (.tup ds) = false := fun h => by
                        cases hc : D.drs as (.tup ds) with
                        | false => rfl
                        | true =>
                          have := drs_all hc _ hmem
                          rw [dr_4, Bool.and_eq_true, Bool.and_eq_true] at this
                          rcases h with h | h
                          · rw [this.1.2] at h
                            cases h
                          · rw [this.2] at h
                            cases h
                      refine s_ifX (b := !(amD d1 as && amD d2 as)) ?_ (fun hb H5 e5 => ?_) (fun hb H5 e5 => ?_)
                      · have szn : ∀ {x : D}, x ∈ [dn, d1, d2, dsrt] → szD x ≤ 1000 := fun {x} h => szD_of (hsz.mem h)
                        have amnm : ∀ {x : D}, amD x as = true → x.nm = true := fun {x} h => by
                          obtain ⟨h1, h2⟩ := am_str h
                          rw [h1]
                          exact hav _ h2
                        refine et_is (et_or (a := !d1.nm) (b := (!d2.nm || (!amD d1 as || !amD d2 as))) (et_not (et_val (ev_sp stb_name (ea_cons (ev_var rfl) ea_nil) ⟨v1, d1, rfl, q1, szn (by simp), rfl⟩))) fun g1 => et_or (a := !d2.nm) (b := (!amD d1 as || !amD d2 as)) (et_not (et_val (ev_sp stb_name (ea_cons (ev_var rfl) ea_nil) ⟨v2, d2, rfl, q2, szn (by simp), rfl⟩))) fun g2 =>
                          et_or (a := !amD d1 as) (b := !amD d2 as) ?_ fun _ => ?_) ?_
                        · have x1 := nm_str (not_f g1)
                          rw [x1] at q1 ⊢
                          obtain rfl := q1.strD
                          exact et_test (ev_op (ev_var rfl) (ev_var rfl) (rv_niTx (ns := as) (.inr has4.rd)))
                        · have x2 := nm_str (not_f g2)
                          rw [x2] at q2 ⊢
                          obtain rfl := q2.strD
                          exact et_test (ev_op (ev_var rfl) (ev_var rfl) (rv_niTx (ns := as) (.inr has4.rd)))
                        · cases g1 : amD d1 as with
                          | false => cases d1.nm <;> cases d2.nm <;> cases amD d2 as <;> rfl
                          | true =>
                            rw [amnm g1]
                            cases g2 : amD d2 as with
                            | false => cases d2.nm <;> rfl
                            | true =>
                              rw [amnm g2]
                              rfl
                      · exact out _ rfl (notdr (.inl (not_t hb))) H5 ((E3.trans e4).trans e5)
                      · have hb5 := not_f hb
                        rw [Bool.and_eq_true] at hb5
                        obtain ⟨x1, m1⟩ := am_str hb5.1
                        obtain ⟨x2, m2⟩ := am_str hb5.2
                        rw [x1] at q1
                        rw [x2] at q2
                        obtain rfl := q1.strD
                        obtain rfl := q2.strD
                        refine s_if (b := !(!decide (d1.txt = d2.txt) && amD dsrt leafs)) ?_ (fun hb H6 e6 => ?_) (fun hb H6 e6 => ?_)
                        · have q3 := q3.up e5
                          refine et_is (et_or (a := decide (V.str d1.txt = V.str d2.txt)) (b := (!isi dsrt "str" || !amD dsrt leafs)) (et_test (ev_op (ev_var rfl) (ev_var rfl) (rv_eq rfl))) fun _ => et_or (a := !isi dsrt "str") (b := !amD dsrt leafs) (et_not (et_val (ev_isi (ev_var rfl) q3))) fun g => ?_) ?_
                          · have ht3 : dsrt.ty = "str" := Classical.byContradiction fun h => by
                              rw [isi_no h] at g
                              cases g
                            obtain ⟨st, rfl⟩ := ty_str ht3
                            obtain rfl := q3.strD
                            exact et_test (ev_opL (xs := sv leafs) (ev_var rfl) (el_lst (ea_cons ev_c (ea_cons ev_c ea_nil)) (by decide)) fun p H7 h7 e7 => rv_niTx (ns := leafs) (.inl h7))
                          · rw [show decide (V.str d1.txt = V.str d2.txt) = decide (d1.txt = d2.txt) from decide_eq_decide.mpr ⟨fun h => V.str.inj h, fun h => by rw [h]⟩]
                            cases g : amD dsrt leafs with
                            | false => cases decide (d1.txt = d2.txt) <;> cases isi dsrt "str" <;> rfl
                            | true =>
                              rw [(am_str g).1]
                              cases decide (d1.txt = d2.txt) <;> rfl
                        · exact out _ rfl (notdr (.inr (not_t hb))) H6 (((E3.trans e4).trans e5).trans e6)
                        · refine ⟨_, _, _, _, rfl, (e4.trans e5).trans e6, fun j x hj hjx => ?_⟩
                          by_cases hji : j = i
                          · rw [hji, hd] at hjx
                            obtain rfl := Option.some.inj hjx
                            rw [dr_4, hnm, hb5.1, hb5.2, not_f hb]
                            rfl
                          · exact hdone j x (by omega) hjx
            · obtain ⟨y2, y3, y4, y5, rfl, e4, hdone⟩ := hp
              have e : D.drs as (.tup ds) = true := by
                have : ds.all (D.dr as) = true := List.all_eq_true.mpr fun x hx => by
                  obtain ⟨j, hj⟩ := List.getElem?_of_mem hx
                  exact hdone j x (by have := (List.getElem?_eq_some_iff.mp hj).1; omega) hj
                rw [drs_tup, h2, this, hb3.2]
                rfl
              rw [e] at q
              exact q H' (E3.trans e4)
    · refine s_ifX (b := true) ?_ (fun hb H1 e1 => ?_) (fun hb H1 e1 => by cases hb)
      · refine et_is (et_or (b := true) (et_not (et_val (ev_isi (ev_var rfl) hv))) fun hc => ?_) (by rw [isi_no ht]; rfl)
        rw [isi_no ht] at hc
        cases hc
      · have e : d.drs as = false := by
          cases d with
          | tup s => exact absurd rfl ht
          | _ => rfl
        rw [← e]
        exact q H1 e1
end
end Kx

set_option Elab.async false
set_option linter.all false
set_option maxRecDepth 100000
set_option maxHeartbeats 1000000
namespace Kx
open PySem PySem.Spec PyProof.Rows PySem.SeqAt L2 Evl
def D.isI (d : D) (i : Int) : Bool := match d with
  | .int j => i == j
  | _ => false
def D.isB : D → Bool
  | .bl _ => true
  | _ => false
abbrev T3 := Str × Str × Int
def eq3 (t : T3) (d0 d1 d2 : D) : Bool := d0.isS t.1 && (d1.isS t.2.1 && d2.isI t.2.2)
/-- these values are tuples (text, text, number) -/
inductive Tris (H : Hp) : List V → List T3 → Prop
  | nil : Tris H [] []
  | cons {c : Addr} {k n : Str} {i : Int} {vs : List V} {ts : List T3} : TupS H c [.str k, .str n, .int i] → Tris H vs ts → Tris H (.ref c :: vs) ((k, n, i) :: ts)
theorem Tris.up {H H' : Hp} (e : Ex H H') : ∀ {vs : List V} {ts : List T3}, Tris H vs ts → Tris H' vs ts
  | _, _, .nil => .nil
  | _, _, .cons h t => .cons (h.up e) (t.up e)
theorem Tris.append {H : Hp} : ∀ {vs ws : List V} {ts us : List T3}, Tris H vs ts → Tris H ws us → Tris H (vs ++ ws) (ts ++ us)
  | _, _, _, _, .nil, s => s
  | _, _, _, _, .cons h t, s => .cons h (t.append s)
theorem Tris.length {H : Hp} : ∀ {vs : List V} {ts : List T3}, Tris H vs ts → vs.length = ts.length
  | _, _, .nil => rfl
  | _, _, .cons _ t => by rw [List.length_cons, List.length_cons, t.length]
section
variable {X : Cx} {pins : List (Addr × Obj)} {σ : L2.St} {H : Hp} {s : Shared} {A : Around}
theorem eq_strD (I : Inv X pins σ H s) (hu : A.units < cLine) {x : V} {d : D} {u : Value} (r : Rep H x d) (rx : RelV x u) (k : Str) (t : Tok) : EqAt A s (.str k t) u (d.isS k) := by
  cases r with
  | non => cases rx; exact .str_none k t
  | bl b => cases rx; exact .str_bool k t b
  | int i => obtain ⟨j, rfl⟩ := rx; exact .str_int k t i j
  | str z =>
    obtain ⟨j, rfl⟩ := rx
    have h := EqAt.str_str (A := A) (s := s) k t z j
    rw [show D.isS (.str z) k = (k == z) from Bool.eq_iff_iff.mpr ⟨fun h => by rw [eq_of_beq h]; exact beq_self_eq_true _, fun h => by rw [eq_of_beq h]; exact beq_self_eq_true _⟩]
    exact h
  | tup ha _ => cases rx; obtain ⟨its, rv, tp, _⟩ := I.tuple ha.sq; exact .str_tuple k t tp hu
  | lst ha _ => cases rx; obtain ⟨its, rv, tp, _⟩ := I.list (.of ha); exact .str_list k t tp.isList hu
  | dic ha => cases rx; exact eq_str_dict k t (dict_of I ha) hu
theorem eq_intD (I : Inv X pins σ H s) (hu : A.units < cLine) {x : V} {d : D} {u : Value} (r : Rep H x d) (rx : RelV x u) (hb : d.isB = false) (i : Int) (t : Tok) : EqAt A s (.int i t) u (d.isI i) := by
  cases r with
  | non => cases rx; exact .int_none i t
  | bl b => cases hb
  | int j => obtain ⟨j2, rfl⟩ := rx; exact .int_int i t j j2
  | str z => obtain ⟨j, rfl⟩ := rx; exact .int_str i t z j
  | tup ha _ => cases rx; obtain ⟨its, rv, tp, _⟩ := I.tuple ha.sq; exact .int_tuple i t tp hu
  | lst ha _ => cases rx; obtain ⟨its, rv, tp, _⟩ := I.list (.of ha); exact .int_list i t tp.isList hu
  | dic ha => cases rx; exact eq_int_dict i t (dict_of I ha) hu
theorem eq_same (l : Addr) : EqAt A s (.ref l) (.ref l) true := fun prog w E Q hq => by
  unfold eqBool
  exact wpAny_holding (wpAny_ite_split (fun _ => wpAny_bind (wpAny_rule (wpAny_pure hq))) (fun h => absurd (beq_self_eq_true _) h))
/-- a tuple of three beside one -/
theorem eq_tri (I : Inv X pins σ H s) (hu : A.units + 1 < cLine) {c b : Addr} {k n : Str} {i : Int} {x0 x1 x2 : V} {d0 d1 d2 : D} (hc : TupS H c [.str k, .str n, .int i]) (hb : TupS H b [x0, x1, x2]) (r0 : Rep H x0 d0) (r1 : Rep H x1 d1) (r2 : Rep H x2 d2) (nb : d2.isB = false) :
    EqAt A s (.ref c) (.ref b) (eq3 (k, n, i) d0 d1 d2) := by
  by_cases hcb : c = b
  · subst hcb
    obtain ⟨o, _, h1⟩ := hc
    obtain ⟨o2, _, h2⟩ := hb
    rw [h1] at h2
    have e := Option.some.inj h2
    injection e with _ e
    injection e with e
    injection e with e0 e
    injection e with e1 e
    injection e with e2 e
    subst e0 e1 e2
    obtain rfl : d0 = .str k := by cases r0; rfl
    obtain rfl : d1 = .str n := by cases r1; rfl
    obtain rfl : d2 = .int i := by cases r2; rfl
    have : eq3 (k, n, i) (.str k) (.str n) (.int i) = true := by
      unfold eq3 D.isS D.isI
      simp
    rw [this]
    exact eq_same c
  · obtain ⟨its, rv, tp, _⟩ := I.tuple hc.sq
    obtain ⟨its2, rv2, tp2, _⟩ := I.tuple hb.sq
    cases rv with
    | @cons _ ua _ _ qa rv => cases rv with
      | @cons _ ub _ _ qb rv => cases rv with
        | @cons _ uc _ _ qc rv =>
          cases rv
          cases rv2 with
          | @cons _ va _ _ pa rv2 => cases rv2 with
            | @cons _ vb _ _ pb rv2 => cases rv2 with
              | @cons _ vc _ _ pc rv2 =>
                cases rv2
                obtain ⟨ta, rfl⟩ := qa
                obtain ⟨tb, rfl⟩ := qb
                obtain ⟨tc, rfl⟩ := qc
                have hA : A.in1.units < cLine := hu
                have R := RcAt.tuples (A := A) (s := s) (l := c) (b := b) (items := #[.str k ta, .str n tb, .int i tc]) (items2 := #[va, vb, vc]) (e := fun j => match j with | 0 => d0.isS k | 1 => d1.isS n | _ => d2.isI i) tp tp2 (by omega) (fun j h1 h2 => by
                  match j, h1, h2 with
                  | 0, _, _ => exact eq_strD I hA r0 pa k ta
                  | 1, _, _ => exact eq_strD I hA r1 pb n tb
                  | 2, _, _ => exact eq_intD I hA r2 pc nb i tc
                  | m + 3, h1, _ => exact absurd h1 (by simp))
                have e : ((List.range (min (#[Value.str k ta, .str n tb, .int i tc] : Array Value).size (#[va, vb, vc] : Array Value).size)).all (fun j => match j with | 0 => d0.isS k | 1 => d1.isS n | _ => d2.isI i) && (#[Value.str k ta, .str n tb, .int i tc] : Array Value).size == (#[va, vb, vc] : Array Value).size) = eq3 (k, n, i) d0 d1 d2 := by
                  show ((d0.isS k && (d1.isS n && (d2.isI i && true))) && true) = (d0.isS k && (d1.isS n && d2.isI i))
                  rw [Bool.and_true, Bool.and_true]
                rw [e] at R
                exact EqAt.of_refs hcb R
end
/-- x not in a list of tuples (text, text, number), x a tuple of three whose last part is no truth -/
def rNi3 : R2 := fun x y H Q => ∃ (b : Addr) (x0 x1 x2 : V) (d0 d1 d2 : D) (l : Addr) (vs : List V) (ts : List T3), x = .ref b ∧ TupS H b [x0, x1, x2] ∧ Rep H x0 d0 ∧ Rep H x1 d1 ∧ Rep H x2 d2 ∧ d2.isB = false ∧ y = .ref l ∧ H l = some (.lst vs) ∧ Tris H vs ts ∧ Q (.bl (!ts.any fun t => eq3 t d0 d1 d2)) H
def eqU3 (H : Hp) (d0 d1 d2 : D) (w : Value) : Bool := match w with
  | .ref c => (match H c with
    | some (.frz _ (.tup [.str k, .str n, .int i])) => eq3 (k, n, i) d0 d1 d2
    | _ => false)
  | _ => false
theorem any_u3 {H : Hp} {d0 d1 d2 : D} : ∀ {vs : List V} {ts : List T3} {its : List Value}, Tris H vs ts → Vals vs its → its.any (eqU3 H d0 d1 d2) = ts.any fun t => eq3 t d0 d1 d2
  | _, _, _, .nil, .nil => rfl
  | _, _, _, .cons (c := c) (k := k) (n := n) (i := i) h t, .cons r rv => by
    rw [List.any_cons, List.any_cons, any_u3 t rv]
    cases r
    obtain ⟨o, _, h2⟩ := h
    have : eqU3 H d0 d1 d2 (.ref c) = eq3 (k, n, i) d0 d1 d2 := by
      show (match H c with | some (.frz _ (.tup [.str k, .str n, .int i])) => eq3 (k, n, i) d0 d1 d2 | _ => false) = _
      rw [h2]
    rw [this]
theorem mem_u3 {X : Cx} {pins : List (Addr × Obj)} {σ : L2.St} {H : Hp} {s : Shared} {A : Around} (I : Inv X pins σ H s) (hu : A.units + 1 < cLine) {b : Addr} {x0 x1 x2 : V} {d0 d1 d2 : D} (hb : TupS H b [x0, x1, x2]) (r0 : Rep H x0 d0) (r1 : Rep H x1 d1) (r2 : Rep H x2 d2) (nb : d2.isB = false) :
    ∀ {vs : List V} {ts : List T3} {its : List Value}, Tris H vs ts → Vals vs its → ∀ w ∈ its, EqAt A s w (.ref b) (eqU3 H d0 d1 d2 w)
  | _, _, _, .nil, .nil => fun w hw => by cases hw
  | _, _, _, .cons (c := c) (k := k) (n := n) (i := i) h t, .cons r rv => fun w hw => by
    rcases List.mem_cons.mp hw with rfl | hw
    · cases r
      obtain ⟨o, _, h2⟩ := id h
      have : eqU3 H d0 d1 d2 (.ref c) = eq3 (k, n, i) d0 d1 d2 := by
        show (match H c with | some (.frz _ (.tup [.str k, .str n, .int i])) => eq3 (k, n, i) d0 d1 d2 | _ => false) = _
        rw [h2]
      rw [this]
      exact eq_tri I hu h hb r0 r1 r2 nb
    · exact mem_u3 I hu hb r0 r1 r2 nb t rv w hw
theorem op_ni3 {X : Cx} (hu : X.A.units + 64 < cLine) : OpR X (compareOp .NotIn) rNi3 := by
  intro pins s σ H x y v u Q I rx ry h
  obtain ⟨b, x0, x1, x2, d0, d1, d2, l, vs, ts, rfl, hb, r0, r1, r2, nb, rfl, hl, ht, q⟩ := h
  cases rx
  cases ry
  obtain ⟨its, r, pl, hz⟩ := I.list (.of hl)
  refine SeqAt.notIn_listAt (eqU3 H d0 d1 d2) pl.isList (fun w hw => mem_u3 I (by show X.A.units + 1 + 1 < cLine; omega) hb r0 r1 r2 nb ht r w (by simpa using hw)) ⟨.bl _, H, I, rfl, ?_⟩
  rw [show its.toArray.any (eqU3 H d0 d1 d2) = its.any (eqU3 H d0 d1 d2) by simp, any_u3 ht r]
  exact q
end Kx

set_option Elab.async false
set_option linter.all false
set_option maxRecDepth 100000
set_option maxHeartbeats 1000000
namespace Kx
open PySem PySem.Spec PyProof.Rows L2 Evl
/-! ## all rights that can be, and rising places -/
def evAt (ks ns : List Str) (p : Nat) : T3 := (ks.getD (p / 2 / ns.length) "", ns.getD (p / 2 % ns.length) "", ((p % 2 : Nat) : Int))
def evs (ks ns : List Str) (n : Nat) : List T3 := (List.range n).map (evAt ks ns)
theorem evs_two {ks ns : List Str} {i j : Nat} (hj : j < ns.length) : evs ks ns ((i * ns.length + (j + 1)) * 2) = evs ks ns ((i * ns.length + j) * 2) ++ [(ks.getD i "", ns.getD j "", 0), (ks.getD i "", ns.getD j "", 1)] := by
  have e : (i * ns.length + (j + 1)) * 2 = (i * ns.length + j) * 2 + 1 + 1 := by omega
  have d1 : (i * ns.length + j) * 2 / 2 = i * ns.length + j := by omega
  have d2 : ((i * ns.length + j) * 2 + 1) / 2 = i * ns.length + j := by omega
  have d3 : (i * ns.length + j) / ns.length = i := by
    rw [Nat.mul_comm, Nat.mul_add_div (by omega), Nat.div_eq_of_lt hj, Nat.add_zero]
  have d4 : (i * ns.length + j) % ns.length = j := by
    rw [Nat.mul_comm, Nat.mul_add_mod, Nat.mod_eq_of_lt hj]
  have d5 : (i * ns.length + j) * 2 % 2 = 0 := by omega
  have d6 : ((i * ns.length + j) * 2 + 1) % 2 = 1 := by omega
  unfold evs
  rw [e, List.range_succ, List.range_succ, List.append_assoc, List.map_append]
  congr 1
  show [evAt ks ns ((i * ns.length + j) * 2), evAt ks ns ((i * ns.length + j) * 2 + 1)] = _
  unfold evAt
  rw [d1, d2, d3, d4, d5, d6]
  rfl
theorem spot_back {nd a c s : Nat} (hc : c < nd) (hs : s < 2) : spot nd a c s / 2 / nd = a ∧ spot nd a c s / 2 % nd = c ∧ spot nd a c s % 2 = s := by
  unfold spot
  have d1 : ((a * nd + c) * 2 + s) / 2 = a * nd + c := by omega
  have d2 : ((a * nd + c) * 2 + s) % 2 = s := by omega
  rw [d1, d2]
  refine ⟨?_, ?_, rfl⟩
  · rw [Nat.mul_comm, Nat.mul_add_div (by omega), Nat.div_eq_of_lt hc, Nat.add_zero]
  · rw [Nat.mul_comm, Nat.mul_add_mod, Nat.mod_eq_of_lt hc]
theorem spot_lt {nk nd a c s : Nat} (ha : a < nk) (hc : c < nd) (hs : s < 2) : spot nd a c s < nk * nd * 2 := by
  have h1 : a * nd + nd ≤ nk * nd := by
    rw [← Nat.succ_mul]
    exact Nat.mul_le_mul_right nd ha
  unfold spot
  omega
theorem getD_idx {ks : List Str} {k : Str} (h : k ∈ ks) : ks.getD (ks.idxOf k) "" = k := by
  have hl := List.idxOf_lt_length_of_mem h
  rw [List.getD, List.getElem?_eq_getElem hl]
  exact List.getElem_idxOf hl
theorem idx_lt {ks : List Str} {k : Str} (h : k ∈ ks) : ks.idxOf k < ks.length := List.idxOf_lt_length_of_mem h
/-- the place of a right among all -/
def spotOf (ks ns : List Str) (k n : Str) (s : Int) : Nat := spot ns.length (ks.idxOf k) (ns.idxOf n) s.toNat
theorem evs_at {ks ns : List Str} {k n : Str} {s : Int} (hk : k ∈ ks) (hn : n ∈ ns) (h0 : 0 ≤ s) (h1 : s ≤ 1) : (evs ks ns (ks.length * ns.length * 2))[spotOf ks ns k n s]? = some (k, n, s) := by
  have hs : s.toNat < 2 := by omega
  have hl := spot_lt (idx_lt hk) (idx_lt hn) hs
  obtain ⟨b1, b2, b3⟩ := spot_back (a := ks.idxOf k) (idx_lt hn) hs
  unfold evs spotOf
  rw [List.getElem?_map, List.getElem?_range hl]
  show some (evAt ks ns _) = _
  unfold evAt
  rw [b1, b2, b3, getD_idx hk, getD_idx hn]
  congr 3
  omega
theorem evs_mem {ks ns : List Str} {t : T3} (h : t ∈ evs ks ns (ks.length * ns.length * 2)) : t.1 ∈ ks ∧ t.2.1 ∈ ns ∧ 0 ≤ t.2.2 ∧ t.2.2 ≤ 1 := by
  obtain ⟨p, hp, rfl⟩ := List.mem_map.mp h
  have hp := List.mem_range.mp hp
  have h0 : 0 < ns.length := by
    rcases Nat.eq_zero_or_pos ns.length with e | e
    · rw [e] at hp
      omega
    · exact e
  refine ⟨mem_getD ?_, mem_getD (Nat.mod_lt _ h0), ?_, ?_⟩
  · rw [Nat.div_lt_iff_lt_mul h0]
    omega
  · show (0 : Int) ≤ ((p % 2 : Nat) : Int)
    omega
  · show ((p % 2 : Nat) : Int) ≤ 1
    omega
/-- in all rights just if it is one -/
theorem evs_any {ks ns : List Str} {d0 d1 d2 : D} (hb : d2.isB = false) : ((evs ks ns (ks.length * ns.length * 2)).any fun t => eq3 t d0 d1 d2) = D.rt ns ks (.tup [d0, d1, d2]) := by
  rw [rt_3, Bool.eq_iff_iff, List.any_eq_true]
  constructor
  · rintro ⟨t, ht, he⟩
    obtain ⟨h1, h2, h3, h4⟩ := evs_mem ht
    unfold eq3 at he
    simp only [Bool.and_eq_true] at he
    obtain ⟨e0, e1, e2⟩ := he
    obtain rfl := isS_eq e0
    obtain rfl := isS_eq e1
    have e2 : d2 = .int t.2.2 := by
      cases d2 with
      | int j => exact congrArg D.int (eq_of_beq e2).symm
      | _ => cases e2
    subst e2
    show (amg t.1 ks && (amg t.2.1 ns && isBetw (.int t.2.2) 0 1)) = true
    rw [amg_iff.mpr h1, amg_iff.mpr h2]
    show isBetw (.int t.2.2) 0 1 = true
    unfold isBetw
    simp
    omega
  · intro h
    simp only [Bool.and_eq_true] at h
    obtain ⟨h0, h1, h2⟩ := h
    obtain ⟨x0, m0⟩ := am_str h0
    obtain ⟨x1, m1⟩ := am_str h1
    cases d2 with
    | int s =>
      have h3 : 0 ≤ s ∧ s ≤ 1 := by
        unfold isBetw at h2
        simpa using h2
      refine ⟨(d0.txt, d1.txt, s), List.mem_of_getElem? (evs_at m0 m1 h3.1 h3.2), ?_⟩
      rw [x0, x1]
      show ((d0.txt == d0.txt) && ((d1.txt == d1.txt) && (s == s))) = true
      simp
    | _ => cases h2
theorem rise_iff {l : List Nat} : (∀ j, j + 1 < l.length → l.getD j 0 < l.getD (j + 1) 0) ↔ l.Pairwise (· < ·) := by
  rw [List.pairwise_iff_getElem]
  constructor
  · intro h
    have key : ∀ m j (hj : j + m + 1 < l.length), l.getD j 0 < l.getD (j + m + 1) 0 := fun m => by
      induction m with
      | zero => exact fun j hj => h j hj
      | succ m ih => exact fun j hj => Nat.lt_trans (ih j (by omega)) (h (j + m + 1) hj)
    intro i j hi hj hij
    obtain ⟨m, rfl⟩ : ∃ m, j = i + m + 1 := ⟨j - i - 1, by omega⟩
    have := key m i hj
    rwa [List.getD, List.getD, List.getElem?_eq_getElem hi, List.getElem?_eq_getElem hj] at this
  · intro h j hj
    have := h j (j + 1) (by omega) hj (by omega)
    rwa [List.getD, List.getD, List.getElem?_eq_getElem (by omega : j < l.length), List.getElem?_eq_getElem hj]
theorem sorted_uniq : ∀ (a b : List Int), a.Pairwise (· < ·) → b.Pairwise (· < ·) → (∀ x, x ∈ a ↔ x ∈ b) → a = b
  | [], [], _, _, _ => rfl
  | [], y :: b, _, _, h => by
    have := (h y).mpr List.mem_cons_self
    cases this
  | x :: a, [], _, _, h => by
    have := (h x).mp List.mem_cons_self
    cases this
  | x :: a, y :: b, ha, hb, h => by
    obtain ⟨ha1, ha2⟩ := List.pairwise_cons.mp ha
    obtain ⟨hb1, hb2⟩ := List.pairwise_cons.mp hb
    have e : x = y := by
      rcases List.mem_cons.mp ((h x).mp List.mem_cons_self) with e | e
      · exact e
      · rcases List.mem_cons.mp ((h y).mpr List.mem_cons_self) with e2 | e2
        · exact e2.symm
        · have := hb1 x e
          have := ha1 y e2
          omega
    subst e
    rw [sorted_uniq a b ha2 hb2 fun z => ?_]
    constructor
    · intro hz
      rcases List.mem_cons.mp ((h z).mp (List.mem_cons_of_mem _ hz)) with e | e
      · have := ha1 z hz
        omega
      · exact e
    · intro hz
      rcases List.mem_cons.mp ((h z).mpr (List.mem_cons_of_mem _ hz)) with e | e
      · have := hb1 z hz
        omega
      · exact e
theorem bdec {α : Type} [BEq α] [LawfulBEq α] [DecidableEq α] (a b : α) : (a == b) = decide (a = b) := by
  rw [Bool.eq_iff_iff, beq_iff_eq, decide_eq_true_iff]
def p3 (t : T3) : PyData := .tuple [.str t.1, .str t.2.1, .int t.2.2]
theorem eqvL_ints : ∀ (a b : List Int), PyData.eqvAll (a.map PyData.int) (b.map PyData.int) = decide (a = b)
  | [], [] => by simp [PyData.eqvAll]
  | [], y :: b => by simp [PyData.eqvAll]
  | x :: a, [] => by simp [PyData.eqvAll]
  | x :: a, y :: b => by simp [PyData.eqvAll, PyData.eqv, eqvL_ints a b, bdec]
theorem eqv_ints (a b : List Int) : PyData.eqv (.list (a.map PyData.int)) (.list (b.map PyData.int)) = decide (a = b) := by
  rw [← eqvL_ints a b]
  simp [PyData.eqv]
theorem eqv_p3 (t u : T3) : PyData.eqv (p3 t) (p3 u) = decide (t = u) := by
  obtain ⟨a, b, c⟩ := t
  obtain ⟨a', b', c'⟩ := u
  simp [p3, PyData.eqv, PyData.eqvAll, bdec]
theorem p3s_lay : ∀ ts : List T3, (∀ t ∈ ts, PyData.strOk t.1 = true ∧ PyData.strOk t.2.1 = true) → PyData.canLayAll0 (ts.map p3) = true
  | [], _ => by simp [PyData.canLayAll0]
  | t :: r, h => by
    obtain ⟨h1, h2⟩ := h t List.mem_cons_self
    simp [PyData.canLayAll0, PyData.canLay0, p3, h1, h2, p3s_lay r fun x hx => h x (List.mem_cons_of_mem _ hx)]
theorem p3s_dep : ∀ ts : List T3, PyData.depthAll (ts.map p3) ≤ 2
  | [] => by simp [PyData.depthAll]
  | t :: r => by
    have h := p3s_dep r
    simp only [List.map_cons, PyData.depthAll, PyData.depth, p3]
    omega
theorem p3s_shaped (ts : List T3) (h : ∀ t ∈ ts, PyData.strOk t.1 = true ∧ PyData.strOk t.2.1 = true) : SeqAt.shaped (.list (ts.map p3)) = true := by
  have h1 := p3s_dep ts
  show (PyData.canLay0 (.list (ts.map p3)) && decide (PyData.depth (.list (ts.map p3)) ≤ 64)) = true
  rw [Bool.and_eq_true]
  exact ⟨by simp only [PyData.canLay0]; exact p3s_lay ts h, decide_eq_true (by simp only [PyData.depth]; omega)⟩
theorem p3_shaped (t : T3) (h : PyData.strOk t.1 = true ∧ PyData.strOk t.2.1 = true) : SeqAt.shaped (p3 t) = true := by
  show (PyData.canLay0 (p3 t) && decide (PyData.depth (p3 t) ≤ 64)) = true
  rw [Bool.and_eq_true]
  refine ⟨by simp [p3, PyData.canLay0, PyData.canLayAll0, h.1, h.2], decide_eq_true ?_⟩
  simp only [p3, PyData.depth, PyData.depthAll]
  omega
theorem tris_dp {K : PySem.W.Frag} {H : Hp} : ∀ {vs : List V} {ts : List T3}, Tris H vs ts → DpAll K H vs (ts.map p3)
  | _, _, .nil => .nil
  | _, _, .cons h t => .cons (.tup h.sq (.cons (.str _) (.cons (.str _) (.cons (.int _) .nil)))) (tris_dp t)
end Kx

set_option Elab.async false
set_option linter.all false
set_option maxRecDepth 100000
set_option maxHeartbeats 1000000
namespace Kx
open PySem PySem.Spec PyProof.Rows L2 Evl
theorem Tris.tp {H H' : Hp} (e : Tp H H') : ∀ {vs : List V} {ts : List T3}, Tris H vs ts → Tris H' vs ts
  | _, _, .nil => .nil
  | _, _, .cons h t => .cons (h.tp e) (t.tp e)
theorem evs_own {ks ns : List Str} (h1 : ks.Nodup) (h2 : ns.Nodup) {m : Nat} {k n : Str} {s : Int} (h : (evs ks ns (ks.length * ns.length * 2))[m]? = some (k, n, s)) : m = spotOf ks ns k n s := by
  have hm : m < ks.length * ns.length * 2 := by
    have := (List.getElem?_eq_some_iff.mp h).1
    unfold evs at this
    rwa [List.length_map, List.length_range] at this
  have h0 : 0 < ns.length := by
    rcases Nat.eq_zero_or_pos ns.length with e | e
    · rw [e] at hm
      omega
    · exact e
  unfold evs at h
  rw [List.getElem?_map, List.getElem?_range hm] at h
  have e : evAt ks ns m = (k, n, s) := Option.some.inj h
  unfold evAt at e
  injection e with e0 e
  injection e with e1 e2
  have a1 : m / 2 / ns.length < ks.length := by
    rw [Nat.div_lt_iff_lt_mul h0]
    omega
  unfold spotOf spot
  rw [← e0, ← e1, ← e2, idx_getD h1 a1, idx_getD h2 (Nat.mod_lt _ h0), Int.toNat_natCast]
  have := Nat.div_add_mod (m / 2) ns.length
  rw [Nat.mul_comm] at this
  omega
theorem bld_no {ds : List D} (h : ds.length ≠ 5) : D.bld (.tup ds) = false := by
  match ds, h with
  | [], _ | [_], _ | [_, _], _ | [_, _, _], _ | [_, _, _, _], _ => rfl
  | [_, _, _, _, _], h => exact absurd rfl h
  | _ :: _ :: _ :: _ :: _ :: _ :: _, _ => rfl
/-- the places of rights that are none too many -/
def D.spot3 (ks ns : List Str) (d : D) : Nat := match d with
  | .tup [.str k, .str n, .int s] => spotOf ks ns k n s
  | _ => 0
theorem lex_spot {ks ns : List Str} {d e : D} (hd : D.rt ns ks d = true) (he : D.rt ns ks e = true) : HT.lexLt (rkey ns ks d) (rkey ns ks e) = decide (d.spot3 ks ns < e.spot3 ks ns) := by
  obtain ⟨k, n, s, rfl, mk, mn, s0, s1⟩ := rt_shape hd
  obtain ⟨k', n', s', rfl, mk', mn', s0', s1'⟩ := rt_shape he
  obtain ⟨x, rfl⟩ : ∃ x : Nat, s = (x : Int) := ⟨s.toNat, by omega⟩
  obtain ⟨y, rfl⟩ : ∃ y : Nat, s' = (y : Int) := ⟨s'.toNat, by omega⟩
  exact spot_lex (idx_lt mn) (idx_lt mn') (by omega) (by omega)
theorem asc_rise {ks ns : List Str} {rs : List D} (h : ∀ d ∈ rs, D.rt ns ks d = true) : ascT (rs.map (rkey ns ks)) = true ↔ (rs.map fun d => (d.spot3 ks ns : Int)).Pairwise (· < ·) := by
  have e : ∀ j (hj : j < rs.length), (rs.map (rkey ns ks)).getD j [] = rkey ns ks rs[j] := fun j hj => by simp [List.getD, List.getElem?_eq_getElem hj]
  have e2 : ∀ j (hj : j < rs.length), (rs.map (D.spot3 ks ns)).getD j 0 = rs[j].spot3 ks ns := fun j hj => by simp [List.getD, List.getElem?_eq_getElem hj]
  have e3 : (rs.map fun d => (d.spot3 ks ns : Int)).Pairwise (· < ·) ↔ (rs.map (D.spot3 ks ns)).Pairwise (· < ·) := by
    rw [List.pairwise_map, List.pairwise_map]
    constructor
    · exact fun z => z.imp fun hh => by omega
    · exact fun z => z.imp fun hh => by omega
  rw [e3, ← rise_iff, ascT_iff, List.length_map, List.length_map]
  constructor
  · intro g j hj
    have := g j hj
    rw [e j (by omega), e (j + 1) hj, lex_spot (h _ (List.getElem_mem _)) (h _ (List.getElem_mem _))] at this
    rw [e2 j (by omega), e2 (j + 1) hj]
    exact of_decide_eq_true this
  · intro g j hj
    have := g j hj
    rw [e2 j (by omega), e2 (j + 1) hj] at this
    rw [e j (by omega), e (j + 1) hj, lex_spot (h _ (List.getElem_mem _)) (h _ (List.getElem_mem _))]
    exact decide_eq_true this
section
variable {P : Program} {w : World} {K : PySem.W.Frag} {mg : Str → Option Value} {base : Heap} (T : Txt K mg)
theorem ok_is_housed : FnOk P w K mg base CX0 4 T.a_law_is_housed T.d_law_is_housed ["value"] (spX okBld) := by
  refine T.F_law_is_housed.ok sc_law_is_housed (fun vs H Q E h => ?_) (fun cdv A outer s H vs Q E hr h => ?_)
  · obtain ⟨z, ⟨v, d, rfl, _⟩, _⟩ := h
    rfl
  · obtain ⟨z, ⟨v, d, rfl, hv, hz, rfl⟩, q⟩ := h
    have hu4 : (A.deeper (envOfC "_law_is_housed" (defScope s_law_is_housed) s.heap.objs.size T.a_law_is_housed cdv)).units + 65 < cLine := by have := hr.un; omega
    have hu64 : (A.deeper (envOfC "_law_is_housed" (defScope s_law_is_housed) s.heap.objs.size T.a_law_is_housed cdv)).units + 64 < cLine := by omega
    have hr2 : Room 2 (A.deeper (envOfC "_law_is_housed" (defScope s_law_is_housed) s.heap.objs.size T.a_law_is_housed cdv)) := hr.mono (by decide)
    have nd := sc_law_is_housed.nd
    refine ⟨_, pss_cons (ps_if (PW.pt (pw_or (pt_not (pt_val (pe_isi T.z_isinstance T.z_tuple bo_tuple (pv 0)))) (pw_or (pt_cmpR op_ne (pe_callB call_len_seq (by rfl) T.z_len bo_len (pa_cons (pv 0) pa_nil)) pe_int (nomark _)) (pw_or (pt_not (pt_val (pe_isi T.z_isinstance T.z_str bo_str (pe_ix (r := rIxT K) ix_tup (pv 0) pe_int (fun _ _ => rfl)))))
          (pw_or1 (pt_cmpR (op_neS hr.units0) (pe_ix (r := rIxT K) ix_tup (pv 0) pe_int (fun _ _ => rfl)) pe_str (nomark _))))))) (pss_one (ps_ret pe_bl)) pss_nil)
      (pss_cons (ps_asg (pe_tupF (pa_cons (pe_ix (r := rIxT K) ix_tup (pv 0) pe_int (fun _ _ => rfl)) (pa_cons (pe_ix (r := rIxT K) ix_tup (pv 0) pe_int (fun _ _ => rfl)) (pa_cons (pe_ix (r := rIxT K) ix_tup (pv 0) pe_int (fun _ _ => rfl)) (pa_cons (pe_ix (r := rIxT K) ix_tup (pv 0) pe_int (fun _ _ => rfl)) pa_nil)))))
          (pg_tup rfl (pgs_cons (pg_name (i := 1) nd rfl (.inl rfl)) (pgs_cons (pg_name (i := 2) nd rfl (.inl rfl)) (pgs_cons (pg_name (i := 3) nd rfl (.inl rfl)) (pgs_cons (pg_name (i := 4) nd rfl (.inl rfl)) pgs_nil))))))
      (pss_cons (ps_if (PW.pt (pw_or (pt_not (pt_val (pe_call (ok_lare_named T) hr2 (by rfl) T.g_law_are_named T.F_law_are_named.kp (b_law_are_named T) .nil pass0 (pa_cons (pv 1) (pa_cons pe_int (pa_cons pe_int pa_nil)))))) (pw_or (pt_not (pt_val (pe_call (ok_is_doored T) hr (by rfl) T.g_law_is_doored T.F_law_is_doored.kp (b_law_is_doored T) .nil pass0 (pa_cons (pv 1) (pa_cons (pv 2) pa_nil)))))
          (pw_or1 (pt_not (pt_val (pe_call (ok_lare_named T) hr2 (by rfl) T.g_law_are_named T.F_law_are_named.kp (b_law_are_named T) .nil pass0 (pa_cons (pv 3) (pa_cons pe_int (pa_cons pe_int pa_nil)))))))))) (pss_one (ps_ret pe_bl)) pss_nil)
      (pss_cons (ps_par (i := 5) (j := 6) rfl nd rfl rfl (by decide) rfl rfl (pa_cons (pe_lst pa_nil) (pa_cons (pe_lst pa_nil) pa_nil)) (by rfl))
      (pss_cons (ps_for PassesOwn.never rfl (pi_tup (pv 3)) (pg_name (i := 7) nd rfl (.inl rfl))
        (pss_one (ps_for PassesOwn.never rfl (pi_tup (pv 2)) (pg_name (i := 8) nd rfl (.inl rfl))
          (pss_one (ps_set (i := 5) nd rfl (.inl rfl) (pe_op op_cat (pv 5) (pe_lst (pa_cons (pe_tupF (pa_cons (pv 7) (pa_cons (pe_ix (r := rIxT K) ix_tup (pv 8) pe_int (fun _ _ => rfl)) (pa_cons pe_int pa_nil)))) (pa_cons (pe_tupF (pa_cons (pv 7) (pa_cons (pe_ix (r := rIxT K) ix_tup (pv 8) pe_int (fun _ _ => rfl)) (pa_cons pe_int pa_nil)))) pa_nil)))))))))
      (pss_cons (ps_if (pt_not (pt_val (pe_isi T.z_isinstance T.z_tuple bo_tuple (pv 4)))) (pss_one (ps_ret pe_bl)) pss_nil)
      (pss_cons (ps_for PassesOwn.never rfl (pi_tup (pv 4)) (pg_name (i := 9) nd rfl (.inl rfl))
        (pss_cons (ps_if (PW.pt (pw_or (pt_not (pt_val (pe_isi T.z_isinstance T.z_tuple bo_tuple (pv 9)))) (pw_or (pt_cmpR op_ne (pe_callB call_len_seq (by rfl) T.z_len bo_len (pa_cons (pv 9) pa_nil)) pe_int (nomark _)) (pw_or (pt_val (pe_isi T.z_isinstance T.z_bool bo_bool (pe_ix (r := rIxT K) ix_tup (pv 9) pe_int (fun _ _ => rfl))))
            (pw_or1 (pt_cmpR (op_ni3 hu64) (pv 9) (pv 5) (by rfl))))))) (pss_one (ps_ret pe_bl)) pss_nil)
        (pss_cons (ps_if (pt_not (pt_val (pe_isi T.z_isinstance T.z_int bo_int (pe_ix (r := rIxT K) ix_tup (pv 9) pe_int (fun _ _ => rfl))))) (pss_one (ps_ret pe_bl)) pss_nil)
        (pss_one (ps_expr (pe_bm PySem.F.plainAttrs_list PySem.F.slot_list_append PySem.F.type_list_append mt_append (pv 6) (pa_cons (pe_bm PySem.F.plainAttrs_list PySem.F.slot_list_index PySem.F.type_list_index (mt_indexD hu4) (pv 5) (pa_cons (pv 9) pa_nil)) pa_nil)))))))
      (pss_one (ps_ret (pe_cmpR (op_eqD hu64) (pv 6) (pe_callB (cr_sortedSet rfl) (by rfl) T.z_sorted bo_sorted (pa_cons (pe_callTy (call_setI rfl) (by rfl) T.z_set bo_set (pa_cons (pv 6) pa_nil)) pa_nil)) (by rfl)))))))))), ?_⟩
    by_cases ht : d.ty = "tuple"
    · obtain ⟨ds, rfl⟩ := ty_tup ht
      obtain ⟨a, vs, rfl, ha, hs⟩ := hv.tupD
      have hl := hz.tup.1
      have hvl : vs.length = ds.length := hs.length
      by_cases h5 : ds.length = 5
      · match ds, h5 with
        | [t, da, dd, dk, dr], _ =>
        have hsz := hz.tup.2
        cases hs with
        | @cons v0 _ _ _ r0 hs => cases hs with
          | @cons v1 _ _ _ r1 hs => cases hs with
            | @cons v2 _ _ _ r2 hs => cases hs with
              | @cons v3 _ _ _ r3 hs => cases hs with
                | @cons v4 _ _ _ r4 hs =>
                  cases hs
                  rw [bld_5] at q
                  have out : ∀ H1, Ex H H1 → (t.isS "building" && ((da.nms 2 6 && dd.drs da.txts) && (dk.nms 1 3 && dr.rts dd.fsts dk.txts))) = false → Q (.bl false) H1 := fun H1 e1 e => by
                    rw [e] at q
                    exact q H1 e1
                  refine s_ifX (b := (!true || (!decide (V.int (([v0, v1, v2, v3, v4] : List V).length : Int) = V.int 5) || (!isi t "str" || !t.isS "building")))) ?_ (fun hb H1 e1 => ?_) (fun hb H1 e1 => ?_)
                  · refine et_or (et_not (et_val (ev_isi (ev_var rfl) hv))) fun _ => et_or (et_test (ev_op (ev_lenT (ev_var rfl) (.inr ha.rd)) ev_c (rv_ne rfl))) fun _ => et_or (et_not (et_val (ev_isi (ev_ixT (j := 0) (ev_var rfl) ha rfl) r0))) fun _ => et_test (ev_op (ev_ixT (j := 0) (ev_var rfl) ha rfl) ev_c (rv_neS r0))
                  · refine out H1 e1 ?_
                    have hb2 : (!isi t "str" || !t.isS "building") = true := hb
                    cases e : t.isS "building" with
                    | false => rfl
                    | true =>
                      rw [e, isS_eq e] at hb2
                      cases hb2
                  · have ht0 : t.isS "building" = true := by
                      have hb2 : (!isi t "str" || !t.isS "building") = false := hb
                      cases e : t.isS "building" with
                      | true => rfl
                      | false =>
                        rw [e] at hb2
                        revert hb2
                        cases isi t "str" <;> intro z <;> cases z
                    have ha1 := ha.up e1
                    refine s_unp (ds := [da, dd, dk, dr]) (er_tup (ear_cons (er_of (ev_ixT (j := 1) (ev_var rfl) ha1 rfl) (r1.up e1)) (ear_cons (er_of (ev_ixT (j := 2) (ev_var rfl) ha1 rfl) (r2.up e1)) (ear_cons (er_of (ev_ixT (j := 3) (ev_var rfl) ha1 rfl) (r3.up e1)) (ear_cons (er_of (ev_ixT (j := 4) (ev_var rfl) ha1 rfl) (r4.up e1)) ear_nil)))) (by simp)) rfl fun ws H2 e2 rs => ?_
                    cases rs with
                    | @cons w1 _ _ _ r1 rs => cases rs with
                      | @cons w2 _ _ _ r2 rs => cases rs with
                        | @cons w3 _ _ _ r3 rs => cases rs with
                          | @cons w4 _ _ _ r4 rs =>
                            cases rs
                            refine ⟨_, _, rfl, _, _, rfl, _, _, rfl, _, _, rfl, rfl, ?_⟩
                            have E2 := e1.trans e2
                            have sz1 : da.Sz := hsz.get (j := 1) rfl
                            have sz2 : dd.Sz := hsz.get (j := 2) rfl
                            have sz3 : dk.Sz := hsz.get (j := 3) rfl
                            have sz4 : dr.Sz := hsz.get (j := 4) rfl
                            refine s_ifX (b := (!da.nms 2 6 || (!dd.drs da.txts || !dk.nms 1 3))) ?_ (fun hb H3 e3 => ?_) (fun hb H3 e3 => ?_)
                            · refine et_or (et_not (et_val (ev_sp stb_names (ea_cons (ev_var rfl) (ea_cons ev_c (ea_cons ev_c ea_nil))) ⟨w1, da, 2, 6, rfl, r1, sz1, rfl⟩))) fun g1 => et_or (et_not (et_val ?_)) fun g2 => et_not (et_val (ev_sp stb_names (ea_cons (ev_var rfl) (ea_cons ev_c (ea_cons ev_c ea_nil))) ⟨w3, dk, 1, 3, rfl, r3, sz3, rfl⟩))
                              obtain ⟨s1, _, _, _, s5⟩ := nms_shape (not_f g1)
                              rw [s1] at r1
                              obtain ⟨a1, us1, rfl, h1, hs1⟩ := r1.tupD
                              rw [strs_of_reps hs1] at h1
                              exact ev_sp stb_doorsL (ea_cons (ev_var rfl) (ea_cons (ev_var rfl) ea_nil)) ⟨w2, dd, a1, da.txts, rfl, r2, sz2, h1, s5, rfl⟩
                            · refine out H3 (E2.trans e3) ?_
                              rw [ht0]
                              cases g1 : da.nms 2 6 with
                              | false => rfl
                              | true => cases g2 : dd.drs da.txts with
                                | false => rfl
                                | true => cases g3 : dk.nms 1 3 with
                                  | false => rfl
                                  | true =>
                                    rw [g1, g2, g3] at hb
                                    cases hb
                            · have g1 : da.nms 2 6 = true := by
                                cases g : da.nms 2 6 with
                                | true => rfl
                                | false => rw [g] at hb; cases hb
                              have g2 : dd.drs da.txts = true := by
                                cases g : dd.drs da.txts with
                                | true => rfl
                                | false => rw [g1, g] at hb; cases hb
                              have g3 : dk.nms 1 3 = true := by
                                cases g : dk.nms 1 3 with
                                | true => rfl
                                | false => rw [g1, g2, g] at hb; cases hb
                              rw [ht0, g1, g2, g3] at q out
                              have E3 := E2.trans e3
                              obtain ⟨s1, k1, k3, kn, kv⟩ := nms_shape g3
                              obtain ⟨es, d1, n1, n6, edr, nn⟩ := drs_shape g2
                              have edr := List.all_eq_true.mp edr
                              have r3 := r3.up e3
                              have r2 := r2.up e3
                              have r4 := r4.up e3
                              rw [s1] at r3
                              rw [d1] at r2
                              generalize hks : dk.txts = ks at q out s1 k1 k3 kn kv r3
                              have hns : dd.fsts = es.map fun x => x.fst.txt := by rw [d1]; rfl
                              generalize hnsn : dd.fsts = ns at q out nn hns
                              have nsl : ns.length = es.length := by rw [hns, List.length_map]
                              have nnm : ∀ n ∈ ns, nmS n = true := fun n hn => by
                                rw [hns] at hn
                                obtain ⟨x, hx, rfl⟩ := List.mem_map.mp hn
                                obtain ⟨m, _, _, _, rfl, hm, _⟩ := dr_shape (edr x hx)
                                exact hm
                              obtain ⟨a3, us3, rfl, h3, hs3⟩ := r3.tupD
                              have eu := strs_of_reps hs3
                              subst eu
                              obtain ⟨a2, us2, rfl, h2, hs2⟩ := r2.tupD
                              have hl2 : us2.length = es.length := hs2.length
                              refine ⟨Nat.zero_le _, fun p5 f5 => ⟨Nat.zero_le _, fun p6 f6 => ⟨_, _, rfl, ?_⟩⟩⟩
                              have n56 : p5 ≠ p6 := ne_of_none (upd_same (o := .lst [])) f6
                              have E5 : Ex H3 (upd (upd H3 p5 (.lst [])) p6 (.lst [])) := (Ex.new f5).trans (Ex.new f6)
                              have h5 : upd (upd H3 p5 (.lst [])) p6 (.lst []) p5 = some (.lst []) := Ex.new f6 _ _ upd_same
                              have h6 : upd (upd H3 p5 (.lst [])) p6 (.lst []) p6 = some (.lst []) := upd_same
                              have f6H : H3 p6 = none := fresh_back (Ex.new f5) f6
                              generalize upd (upd H3 p5 (.lst [])) p6 (.lst []) = H5 at E5 h5 h6
                              refine q_forT (xs := sv ks) (σ := [some (.ref a), some w1, some (.ref a2), some (.ref a3), some w4, some (.ref p5), some (.ref p6), none, none, none]) (ev_var rfl) (h3.up E5).sq (fun i σ' H' => ∃ p y7 y8 ws, σ' = [some (.ref a), some w1, some (.ref a2), some (.ref a3), some w4, some (.ref p), some (.ref p6), y7, y8, none] ∧ Ex H5 H' ∧ H' p = some (.lst ws) ∧ Tris H' ws (evs ks ns (i * ns.length * 2)) ∧ p ≠ p6)
                                (fun H6 e6 => ⟨p5, none, none, [], rfl, e6, e6 _ _ h5, by rw [Nat.zero_mul, Nat.zero_mul]; exact .nil, n56⟩) (fun i σ' H' _ hp => let ⟨_, _, _, _, _, e, _⟩ := hp; (h3.up (E5.trans e)).sq) (fun i x σ' H' hx hp => ?_) (fun σ' H' hp => ?_)
                              · obtain ⟨p, y7, y8, ws, rfl, e6, hp6, tr, np⟩ := hp
                                have hi : i < ks.length := by
                                  have := (List.getElem?_eq_some_iff.mp hx).1
                                  rwa [show (sv ks).length = ks.length from List.length_map _] at this
                                obtain rfl : V.str (ks.getD i "") = x := by
                                  unfold sv at hx
                                  rw [List.getElem?_map, List.getElem?_eq_getElem hi] at hx
                                  have := Option.some.inj hx
                                  rw [← this]
                                  simp [List.getD, List.getElem?_eq_getElem hi]
                                refine s_forT (xs := us2) (ev_var rfl) (h2.up (E5.trans e6)).sq (fun j σ' H' => ∃ p y8 ws, σ' = [some (.ref a), some w1, some (.ref a2), some (.ref a3), some w4, some (.ref p), some (.ref p6), some (.str (ks.getD i "")), y8, none] ∧ Ex H5 H' ∧ H' p = some (.lst ws) ∧ Tris H' ws (evs ks ns ((i * ns.length + j) * 2)) ∧ p ≠ p6)
                                  (fun H7 e7 => ⟨p, y8, ws, rfl, e6.trans e7, e7 _ _ hp6, tr.up e7, np⟩) (fun j σ' H' _ hp => let ⟨_, _, _, _, e, _⟩ := hp; (h2.up (E5.trans e)).sq) (fun j x σ' H' hx hp => ?_) (fun σ' H' hp => ?_)
                                · obtain ⟨p, y8, ws, rfl, e7, hp7, tr, np⟩ := hp
                                  obtain ⟨e, he, re⟩ := hs2.get hx
                                  obtain ⟨nm, da1, db1, dl1, rfl, _⟩ := dr_shape (edr e (List.mem_of_getElem? he))
                                  have hj : j < ns.length := by
                                    have := (List.getElem?_eq_some_iff.mp he).1
                                    omega
                                  have enm : ns.getD j "" = nm := by
                                    rw [hns]
                                    simp [List.getD, he, D.fst, D.txt]
                                  obtain ⟨c, us, rfl, hc, hcs⟩ := (re.up (E5.trans e7)).tupD
                                  cases hcs with
                                  | @cons vn _ _ _ q0 hcs =>
                                    obtain rfl := q0.strD
                                    have hm18 : i * ns.length ≤ 3 * 6 := Nat.mul_le_mul (by omega) (by omega)
                                    have wl : ws.length = (i * ns.length + j) * 2 := by
                                      rw [tr.length]
                                      unfold evs
                                      rw [List.length_map, List.length_range]
                                    refine ⟨.ref p, rfl, .str (ks.getD i ""), rfl, .ref c, rfl, c, _, 0, .str nm, rfl, rfl, hc.sq, atI_nat (j := 0) rfl, by show 3 ≤ sizeLine; rw [sizeLine_eq]; decide, fun x1 o1 z1 t1 => ?_⟩
                                    have F1 : Ex H' (upd H' x1 (.frz o1 (.tup [.str (ks.getD i ""), .str nm, .int 0]))) := Ex.new z1
                                    have T1 : TupS (upd H' x1 (.frz o1 (.tup [.str (ks.getD i ""), .str nm, .int 0]))) x1 [.str (ks.getD i ""), .str nm, .int 0] := ⟨o1, t1, upd_same⟩
                                    generalize upd H' x1 (.frz o1 (.tup [.str (ks.getD i ""), .str nm, .int 0])) = H8 at F1 T1
                                    refine ⟨.str (ks.getD i ""), rfl, .ref c, rfl, c, _, 0, .str nm, rfl, rfl, (hc.up F1).sq, atI_nat (j := 0) rfl, by show 3 ≤ sizeLine; rw [sizeLine_eq]; decide, fun x2 o2 z2 t2 => ?_⟩
                                    have F2 : Ex H8 (upd H8 x2 (.frz o2 (.tup [.str (ks.getD i ""), .str nm, .int 1]))) := Ex.new z2
                                    have T2 : TupS (upd H8 x2 (.frz o2 (.tup [.str (ks.getD i ""), .str nm, .int 1]))) x2 [.str (ks.getD i ""), .str nm, .int 1] := ⟨o2, t2, upd_same⟩
                                    generalize upd H8 x2 (.frz o2 (.tup [.str (ks.getD i ""), .str nm, .int 1])) = H9 at F2 T2
                                    refine ⟨by show 2 ≤ sizeLine; rw [sizeLine_eq]; decide, fun x3 z3 => ⟨p, x3, ws, [.ref x1, .ref x2], rfl, rfl, Ex.new z3 _ _ (F2 _ _ (F1 _ _ hp7)), upd_same, sz_of (by rw [wl]; show _ + 2 ≤ _; omega), fun x4 z4 => ?_⟩⟩
                                    have F9 : Ex H' (upd (upd H9 x3 (.lst [.ref x1, .ref x2])) x4 (.lst (ws ++ [.ref x1, .ref x2]))) := ((F1.trans F2).trans (Ex.new z3)).trans (Ex.new z4)
                                    have F4 : Ex H9 (upd (upd H9 x3 (.lst [.ref x1, .ref x2])) x4 (.lst (ws ++ [.ref x1, .ref x2]))) := (Ex.new z3).trans (Ex.new z4)
                                    refine ⟨x4, some (.ref c), _, rfl, e7.trans F9, upd_same, ?_, fun z => ?_⟩
                                    · rw [evs_two hj]
                                      refine (tr.up F9).append ?_
                                      rw [enm]
                                      exact .cons (T1.up (F2.trans F4)) (.cons (T2.up F4) .nil)
                                    · rw [z] at z4
                                      have := ((F1.trans F2).trans (Ex.new (o := .lst [.ref x1, .ref x2]) z3)) _ _ (e7 _ _ h6)
                                      rw [z4] at this
                                      cases this
                                · obtain ⟨p, y8, ws, rfl, e7, hp7, tr, np⟩ := hp
                                  refine ⟨p, _, y8, ws, rfl, e7, hp7, ?_, np⟩
                                  rw [hl2, ← nsl] at tr
                                  rw [Nat.succ_mul]
                                  exact tr
                              · obtain ⟨p, y7, y8, ws, rfl, e6, hp6, tr, np⟩ := hp
                                rw [show (sv ks).length = ks.length from List.length_map _] at tr
                                have E6 := E5.trans e6
                                refine s_ifX (b := !isi dr "tuple") (et_not (et_val (ev_isi (ev_var rfl) (r4.up E6)))) (fun hb H7 e7 => out H7 ((E3.trans E6).trans e7) ?_) (fun hb H7 e7 => ?_)
                                · have hn := not_t hb
                                  cases dr with
                                  | tup rs => cases hn
                                  | _ => rfl
                                · have hty : dr.ty = "tuple" := Classical.byContradiction fun z => by
                                    rw [isi_no z] at hb
                                    cases hb
                                  obtain ⟨rs, rfl⟩ := ty_tup hty
                                  obtain ⟨a4, us4, rfl, h4, hs4⟩ := r4.tupD
                                  have rl := sz4.tup.1
                                  have hl4 : us4.length = rs.length := hs4.length
                                  have E7 := E6.trans e7
                                  have g5 := e7 _ _ hp6
                                  have g6 := (e6.trans e7) _ _ h6
                                  have gt := tr.up e7
                                  rw [rts_tup] at q out
                                  have tpk : ∀ {H' : Hp}, ExS p6 p6 H7 H' → Tp H7 H' := fun {H'} X b o xs hb => X b _ hb (ne_of hb g6 (fun z => by cases z)) (ne_of hb g6 (fun z => by cases z))
                                  refine q_forT (xs := us4) (ev_var rfl) (h4.up E7).sq (fun i σ' H' => ∃ y9, σ' = [some (.ref a), some w1, some (.ref a2), some (.ref a3), some (.ref a4), some (.ref p), some (.ref p6), y7, y8, y9] ∧ ExS p6 p6 H7 H' ∧ Ex H3 H' ∧ H' p6 = some (.lst (iv ((rs.take i).map fun d => (d.spot3 ks ns : Int)))) ∧ ∀ d ∈ rs.take i, D.rt ns ks d = true)
                                    (fun H8 e8 => ⟨none, rfl, .of e8, E7.trans e8, e8 _ _ g6, fun d hd => by simp at hd⟩) (fun i σ' H' _ hp => let ⟨_, _, _, e, _⟩ := hp; (h4.up e).sq) (fun i x σ' H' hx hp => ?_) (fun σ' H' hp => ?_)
                                  · obtain ⟨y9, rfl, X, e8, hsp, hdone⟩ := hp
                                    obtain ⟨d, hd, re⟩ := hs4.get hx
                                    have re := re.up e8
                                    have hmem := List.mem_of_getElem? hd
                                    have hev := X _ _ g5 np np
                                    have htr := gt.tp (tpk X)
                                    refine s_ifX (b := !(D.rt ns ks d)) ?_ (fun hb H9 e9 => ?_) (fun hb H9 e9 => ?_)
                                    · by_cases hdt : d.ty = "tuple"
                                      · obtain ⟨cs, rfl⟩ := ty_tup hdt
                                        obtain ⟨b, xs, rfl, hb0, hbs⟩ := re.tupD
                                        by_cases h3 : cs.length = 3
                                        · match cs, h3 with
                                          | [d0, d1, d2], _ =>
                                          cases hbs with
                                          | @cons x0 _ _ _ q0 hbs => cases hbs with
                                            | @cons x1 _ _ _ q1 hbs => cases hbs with
                                              | @cons x2 _ _ _ q2 hbs =>
                                                cases hbs
                                                refine et_is (et_or (a := !true) (b := (!decide (V.int (([x0, x1, x2] : List V).length : Int) = V.int 3) || (isi d2 "bool" || !D.rt ns ks (.tup [d0, d1, d2])))) (et_not (et_val (ev_isi (ev_var rfl) re))) fun _ => et_or (et_test (ev_op (ev_lenT (ev_var rfl) (.inr hb0.rd)) ev_c (rv_ne rfl))) fun _ => et_or (et_val (ev_isi (ev_ixT (j := 2) (ev_var rfl) hb0 rfl) q2)) fun g => ?_) ?_
                                                · have nb : d2.isB = false := by
                                                    cases d2 with
                                                    | bl _ => cases g
                                                    | _ => rfl
                                                  rw [← evs_any nb]
                                                  exact et_test (ev_op (ev_var rfl) (ev_var rfl) fun H1 e1 Q1 k1 => ⟨b, x0, x1, x2, d0, d1, d2, p, ws, _, rfl, hb0.up e1, q0.up e1, q1.up e1, q2.up e1, nb, rfl, e1 _ _ hev, htr.up e1, k1 H1 (Ex.refl _)⟩)
                                                · cases d2 with
                                                  | bl b2 =>
                                                    rw [rt_3]
                                                    cases amD d0 ks <;> cases amD d1 ns <;> rfl
                                                  | _ => rfl
                                        · have e : D.rt ns ks (.tup cs) = false := by
                                            match cs, h3 with
                                            | [], _ | [_], _ | [_, _], _ => rfl
                                            | [_, _, _], h3 => exact absurd rfl h3
                                            | _ :: _ :: _ :: _ :: _, _ => rfl
                                          rw [e]
                                          refine et_is (et_or (a := !true) (b := (true || true)) (et_not (et_val (ev_isi (ev_var rfl) re))) fun _ => et_or (et_test (ev_is (ev_op (ev_lenT (ev_var rfl) (.inr hb0.rd)) ev_c (rv_ne rfl)) ?_)) fun hc => by cases hc) rfl
                                          rw [hbs.length, decide_eq_false fun e => h3 (by have := V.int.inj e; omega)]
                                          rfl
                                      · have e : D.rt ns ks d = false := by
                                          cases d with
                                          | tup s => exact absurd rfl hdt
                                          | _ => rfl
                                        rw [e]
                                        refine et_is (et_or (b := true) (et_not (et_val (ev_isi (ev_var rfl) re))) fun hc => ?_) (by rw [isi_no hdt]; rfl)
                                        rw [isi_no hdt] at hc
                                        cases hc
                                    · refine out H9 ((E3.trans e8).trans e9) ?_
                                      cases g : rs.all (D.rt ns ks) with
                                      | false => rfl
                                      | true =>
                                        rw [List.all_eq_true.mp g d hmem] at hb
                                        cases hb
                                    · have hrt := not_f hb
                                      obtain ⟨k, n, s, rfl, mk, mn, s0, s1⟩ := rt_shape hrt
                                      obtain ⟨b, xs, rfl, hb0, hbs⟩ := (re.up e9).tupD
                                      cases hbs with
                                      | @cons x0 _ _ _ q0 hbs => cases hbs with
                                        | @cons x1 _ _ _ q1 hbs => cases hbs with
                                          | @cons x2 _ _ _ q2 hbs =>
                                            cases hbs
                                            obtain rfl := q0.strD
                                            obtain rfl := q1.strD
                                            obtain rfl := q2.intD
                                            refine s_ifX (b := !isi (.int s) "int") (et_not (et_val (ev_isi (ev_ixT (j := 2) (ev_var rfl) hb0 rfl) (.int s)))) (fun hb => by cases hb) (fun _ H10 e10 => ?_)
                                            have e910 := e9.trans e10
                                            have hsp := e910 _ _ hsp
                                            have hev := e910 _ _ hev
                                            have htr := htr.up e910
                                            have hb1 := hb0.up e10
                                            have sl : (iv ((rs.take i).map fun d => (d.spot3 ks ns : Int))).length ≤ 1000 := by
                                              unfold iv
                                              rw [List.length_map, List.length_map, List.length_take]
                                              omega
                                            refine ⟨.ref p6, rfl, .inl ⟨rfl, _, .of hsp⟩, .ref p, rfl, .inl ⟨rfl, _, .of hev⟩, .ref b, rfl, p, .ref b, p3 (k, n, s), (evs ks ns (ks.length * ns.length * 2)).map p3, spotOf ks ns k n s, p3 (k, n, s), rfl, rfl, .lst (.of hev) (tris_dp htr), .tup hb1.sq (.cons (.str _) (.cons (.str _) (.cons (.int _) .nil))), p3s_shaped _ fun t ht => ?_, p3_shaped _ ⟨strOk_nm (kv k mk), strOk_nm (nnm n mn)⟩, ?_, by rw [eqv_p3]; exact decide_eq_true rfl, fun m z' hm hz' => ?_, p6, _, .int (spotOf ks ns k n s : Nat), rfl, rfl, hsp, sz_lt (by omega), ?_⟩
                                            · obtain ⟨t1, t2, _⟩ := evs_mem ht
                                              exact ⟨strOk_nm (kv _ t1), strOk_nm (nnm _ t2)⟩
                                            · rw [List.getElem?_map, evs_at mk mn s0 s1]
                                              rfl
                                            · rw [List.getElem?_map] at hz'
                                              cases hm2 : (evs ks ns (ks.length * ns.length * 2))[m]? with
                                              | none =>
                                                rw [hm2] at hz'
                                                cases hz'
                                              | some t =>
                                                rw [hm2] at hz'
                                                obtain rfl := Option.some.inj hz'
                                                rw [eqv_p3]
                                                refine decide_eq_false fun e => ?_
                                                rw [e] at hm2
                                                have := evs_own kn nn hm2
                                                omega
                                            · refine ⟨_, rfl, fun b2 o hb2 n1 n2 => ?_, ?_, ?_, ?_⟩
                                              · exact (upd_ne n1).trans (e910 _ _ (X _ _ hb2 n1 n2))
                                              · exact fun b2 o hb2 => (upd_ne (ne_of_none hb2 f6H)).trans ((e8.trans e910) _ _ hb2)
                                              · rw [upd_same, List.take_add_one, hd]
                                                unfold iv
                                                rw [List.map_append, List.map_append]
                                                rfl
                                              · intro d2 hd2
                                                rw [List.take_add_one, hd] at hd2
                                                rcases List.mem_append.mp hd2 with hd2 | hd2
                                                · exact hdone d2 hd2
                                                · obtain rfl := List.mem_singleton.mp hd2
                                                  exact hrt
                                  · obtain ⟨y9, rfl, X, e8, hsp, hdone⟩ := hp
                                    rw [List.take_of_length_le (by omega)] at hsp hdone
                                    have hall : rs.all (D.rt ns ks) = true := List.all_eq_true.mpr hdone
                                    rw [hall] at q
                                    have lsp : (rs.map fun d => (d.spot3 ks ns : Int)).length ≤ 1000 := by
                                      rw [List.length_map]
                                      exact rl
                                    have hNN : ks.length * ns.length ≤ 3 * 6 := Nat.mul_le_mul (by omega) (by omega)
                                    have hsp : H' p6 = some (.lst ((rs.map fun d : D => ((D.spot3 ks ns d : Nat) : Int)).map V.int)) := hsp
                                    refine ⟨.ref p6, rfl, .ref p6, rfl, p6, rs.map (fun d : D => ((D.spot3 ks ns d : Nat) : Int)), rfl, .of hsp, lsp, fun a5 c fa hc => ⟨a5, _, c, rfl, upd_same, ?_, fun ns' pp rising mem hlen fpp => ⟨.list ((rs.map fun d : D => ((D.spot3 ks ns d : Nat) : Int)).map .int), .list (ns'.map .int), .lst (.of (Ex.new fpp _ _ (Ex.new fa _ _ hsp))) (dp_iv _), .lst (.of upd_same) (dp_iv ns'), iv_shaped _, iv_shaped _, ?_⟩⟩⟩
                                    · have := hc 36 fun k hk => by
                                        obtain ⟨d, hd, rfl⟩ := List.mem_map.mp hk
                                        obtain ⟨k, n, s, rfl, mk, mn, s0, s1⟩ := rt_shape (hdone d hd)
                                        have := spot_lt (idx_lt mk) (idx_lt mn) (show s.toNat < 2 by omega)
                                        have : D.spot3 ks ns (.tup [.str k, .str n, .int s]) < ks.length * ns.length * 2 := this
                                        omega
                                      omega
                                    · have ev : PyData.eqv (.list ((rs.map fun d => (d.spot3 ks ns : Int)).map .int)) (.list (ns'.map .int)) = (true && ((true && true) && (true && (true && ascT (rs.map (rkey ns ks)))))) := by
                                        rw [eqv_ints, Bool.true_and, Bool.true_and, Bool.true_and, Bool.true_and, Bool.true_and, Bool.eq_iff_iff, decide_eq_true_iff, asc_rise hdone]
                                        constructor
                                        · intro e
                                          rw [e]
                                          exact rising
                                        · exact fun r => sorted_uniq _ _ r rising fun k => ((mem k).trans decide_eq_true_iff).symm
                                      rw [ev]
                                      exact q _ (((E3.trans e8).trans (Ex.new fa)).trans (Ex.new fpp))
      · refine s_ifX (b := (!true || (true || true))) ?_ (fun hb H1 e1 => ?_) (fun hb => by cases hb)
        · refine et_or (et_not (et_val (ev_isi (ev_var rfl) hv))) fun _ => et_or (et_test (ev_is (ev_op (ev_lenT (ev_var rfl) (.inr ha.rd)) ev_c (rv_ne rfl)) ?_)) fun hc => by cases hc
          rw [hvl, decide_eq_false fun e => h5 (by have := V.int.inj e; omega)]
          rfl
        · have e := bld_no h5
          rw [e] at q
          exact q H1 e1
    · refine s_ifX (b := true) ?_ (fun hb H1 e1 => ?_) (fun hb H1 e1 => by cases hb)
      · refine et_is (et_or (b := true) (et_not (et_val (ev_isi (ev_var rfl) hv))) fun hc => ?_) (by rw [isi_no ht]; rfl)
        rw [isi_no ht] at hc
        cases hc
      · have e : d.bld = false := by
          cases d with
          | tup s => exact absurd rfl ht
          | _ => rfl
        rw [← e]
        exact q H1 e1
end
end Kx

set_option Elab.async false
set_option linter.all false
set_option maxRecDepth 100000
set_option maxHeartbeats 1000000
namespace Kx
open PySem PySem.Spec PyProof.Rows L2 Evl
/-! ## sizes and depths of what is bent -/
mutual
def D.Zs (m : Nat) : D → Prop
  | .str s => s.length ≤ m
  | .tup ds => ds.length ≤ m ∧ Zss m ds
  | .lst ds => ds.length ≤ m ∧ Zss m ds
  | _ => True
def Zss (m : Nat) : List D → Prop
  | [] => True
  | d :: r => d.Zs m ∧ Zss m r
end
theorem zss_iff {m : Nat} : ∀ {ds : List D}, Zss m ds ↔ ∀ d ∈ ds, d.Zs m
  | [] => ⟨fun _ d h => by simp at h, fun _ => by unfold Zss; trivial⟩
  | x :: r => by
    unfold Zss
    rw [zss_iff (ds := r)]
    exact ⟨fun ⟨a, b⟩ d hd => (List.mem_cons.mp hd).elim (fun e => e ▸ a) (b d), fun h => ⟨h x List.mem_cons_self, fun d hd => h d (List.mem_cons_of_mem _ hd)⟩⟩
mutual
theorem zs_up {m n : Nat} (h : m ≤ n) : ∀ d : D, d.Zs m → d.Zs n
  | .str s, z => by unfold D.Zs at z ⊢; omega
  | .tup ds, z => by
    unfold D.Zs at z ⊢
    exact ⟨by omega, zss_up h ds z.2⟩
  | .lst ds, z => by
    unfold D.Zs at z ⊢
    exact ⟨by omega, zss_up h ds z.2⟩
  | .non, _ | .bl _, _ | .int _, _ | .dic, _ => by unfold D.Zs; trivial
theorem zss_up {m n : Nat} (h : m ≤ n) : ∀ ds : List D, Zss m ds → Zss n ds
  | [], _ => by unfold Zss; trivial
  | d :: r, z => by
    unfold Zss at z ⊢
    exact ⟨zs_up h d z.1, zss_up h r z.2⟩
end
mutual
theorem zs_sz {m : Nat} (h : m ≤ 1000) : ∀ d : D, d.Zs m → d.Sz
  | .str s, z => by unfold D.Zs at z; unfold D.Sz; omega
  | .tup ds, z => by
    unfold D.Zs at z
    unfold D.Sz
    exact ⟨by omega, zss_sz h ds z.2⟩
  | .lst ds, z => by
    unfold D.Zs at z
    unfold D.Sz
    exact ⟨by omega, zss_sz h ds z.2⟩
  | .non, _ | .bl _, _ | .int _, _ | .dic, _ => by unfold D.Sz; trivial
theorem zss_sz {m : Nat} (h : m ≤ 1000) : ∀ ds : List D, Zss m ds → Szs ds
  | [], _ => by unfold Szs; trivial
  | d :: r, z => by
    unfold Zss at z
    unfold Szs
    exact ⟨zs_sz h d z.1, zss_sz h r z.2⟩
end
/-- tuples in tuples, at most n deep -/
def D.dp : Nat → D → Prop
  | 0, d => d.ty ≠ "tuple"
  | n + 1, d => ∀ ds, d = .tup ds → ∀ x ∈ ds, D.dp n x
theorem dp_leaf {d : D} (h : d.ty ≠ "tuple") : ∀ n, D.dp n d
  | 0 => h
  | n + 1 => fun ds e => absurd (by rw [e]; rfl) h
theorem dp_up : ∀ {n : Nat} {d : D}, D.dp n d → D.dp (n + 1) d
  | 0, d, h => dp_leaf h 1
  | n + 1, d, h => fun ds e x hx => dp_up (h ds e x hx)
/-! ## a heap without the state -/
structure Ap (H : Hp) (sd sg : Addr) : Prop where
  d : ∃ o, H sd = some o
  g : ∃ o, H sg = some o
theorem Sta.ap {H : Hp} {sd sg sc : Addr} {b : Nat} (s : Sta H sd sg sc b) : Ap H sd sg := let ⟨_, _, _, _, w, _, _⟩ := s; ⟨⟨_, w.d⟩, ⟨_, w.g⟩⟩
theorem Ap.up {H H' : Hp} {sd sg : Addr} (a : Ap H sd sg) (e : Ex H H') : Ap H' sd sg := let ⟨o, h⟩ := a.d; let ⟨u, g⟩ := a.g; ⟨⟨o, e _ _ h⟩, ⟨u, e _ _ g⟩⟩
theorem Ap.ne {H : Hp} {sd sg p : Addr} (a : Ap H sd sg) (h : H p = none) : p ≠ sd ∧ p ≠ sg := by
  obtain ⟨⟨o, h1⟩, ⟨u, h2⟩⟩ := a
  exact ⟨fun e => (by rw [e, h1] at h; cases h), fun e => (by rw [e, h2] at h; cases h)⟩
theorem hid_at {H : Hp} {sd sg p : Addr} {o : HO} (h : H p = some o) (n1 : p ≠ sd) (n2 : p ≠ sg) : hid H sd sg p = some o := by
  unfold hid
  rw [if_neg fun z => z.elim n1 n2]
  exact h
theorem hid_none {H : Hp} {sd sg p : Addr} (h : H p = none) : hid H sd sg p = none := by
  unfold hid
  split
  · rfl
  · exact h
/-- what te gives stands for d, apart from the state -/
def EvH (te : TE) (σ : L2.St) (H : Hp) (sd sg : Addr) (d : D) : Prop := ∀ H1, Ex H H1 → ∀ Q : VK, (∀ v H2, Ex H1 H2 → Rep (hid H2 sd sg) v d → Q v H2) → te σ H1 Q
section
variable {K : PySem.W.Frag} {σ : L2.St} {H H' : Hp} {sd sg : Addr} {ta tb te : TE} {v : V} {d : D} {ds es : List D}
theorem rep_ex (r : Rep (hid H sd sg) v d) (e : Ex H H') : Rep (hid H' sd sg) v d := r.up (hid_mono (.of e))
theorem reps_ex {vs : List V} (r : Reps (hid H sd sg) vs ds) (e : Ex H H') : Reps (hid H' sd sg) vs ds := r.up (hid_mono (.of e))
theorem hid_ev (h : Ev te σ H v) (r : Rep (hid H sd sg) v d) : EvH te σ H sd sg d := fun H1 e Q q => h H1 e _ fun H2 e2 => q v H2 e2 (rep_ex r (e.trans e2))
/-- a new tuple -/
theorem newT_hid {xs : List V} {Q : VK} (ap : Ap H sd sg) (r : Reps (hid H sd sg) xs ds) (q : ∀ v H2, Ex H H2 → Rep (hid H2 sd sg) v (.tup ds) → Q v H2) : newT xs H Q := fun p o hp ho => by
  obtain ⟨n1, n2⟩ := ap.ne hp
  exact q (.ref p) _ (Ex.new hp) (.tup ⟨o, ho, hid_at upd_same n1 n2⟩ (reps_ex r (Ex.new hp)))
theorem eh_slice {tlo thi : TO} {lo hi : Option Int} (ap : Ap H sd sg) (h : EvH te σ H sd sg (.tup ds)) (h1 : EvO tlo σ H lo) (h2 : EvO thi σ H hi) : EvH (tSl rSlF te tlo thi) σ H sd sg (.tup (cutX ds lo hi)) := fun H1 e Q q =>
  h H1 e _ fun v H2 e2 r => h1 H2 (e.trans e2) _ fun H3 e3 => h2 H3 ((e.trans e2).trans e3) _ fun H4 e4 => by
    obtain ⟨a, vs, rfl, ha, hs⟩ := (rep_ex r (e3.trans e4)).tupD
    have E := (e2.trans e3).trans e4
    refine ⟨a, vs, rfl, ha.up hid_ex, fun hw => ?_, fun _ => newT_hid (ap.up (e.trans E)) (hs.cut lo hi) fun v H5 e5 r5 => q v H5 (E.trans e5) r5⟩
    have ew : cutX ds lo hi = ds := by
      unfold cutX
      rw [← hs.length, hw.1, hw.2, List.drop_zero, Nat.sub_zero, hs.length, List.take_length]
    rw [ew] at q
    exact q _ H4 E (.tup ha hs)
/-- x + y, both at hand -/
theorem cat_hid {v u : V} {Q : VK} (ap : Ap H sd sg) (r1 : Rep (hid H sd sg) v (.tup ds)) (r2 : Rep (hid H sd sg) u (.tup es)) (hz : ds.length + es.length ≤ 100000) (q : ∀ z H2, Ex H H2 → Rep (hid H2 sd sg) z (.tup (ds ++ es)) → Q z H2) : rCatF v u H Q := by
  obtain ⟨a, xs, rfl, h1, s1⟩ := r1.tupD
  obtain ⟨b, ys, rfl, h2, s2⟩ := r2.tupD
  refine ⟨a, b, xs, ys, rfl, rfl, h1.up hid_ex, h2.up hid_ex, by rw [s1.length, s2.length]; exact sz_of hz, fun e0 => ?_, fun _ e0 => ?_, fun _ _ => newT_hid ap (s1.append s2) q⟩
  · subst e0
    cases s1
    exact q _ H (Ex.refl _) (.tup h2 s2)
  · subst e0
    cases s2
    rw [List.append_nil] at q
    exact q _ H (Ex.refl _) (.tup h1 s1)
theorem eh_cat (ap : Ap H sd sg) (ha : EvH ta σ H sd sg (.tup ds)) (hb : EvH tb σ H sd sg (.tup es)) (hz : ds.length + es.length ≤ 100000) : EvH (tOp rCatF ta tb) σ H sd sg (.tup (ds ++ es)) := fun H1 e Q q =>
  ha H1 e _ fun v H2 e2 r => hb H2 (e.trans e2) _ fun u H3 e3 r2 => cat_hid (ap.up ((e.trans e2).trans e3)) (rep_ex r e3) r2 hz fun z H4 e4 r4 => q z H4 ((e2.trans e3).trans e4) r4
theorem eh_one (ap : Ap H sd sg) (ha : EvH ta σ H sd sg d) : EvH (tTupF (tCons ta tNil)) σ H sd sg (.tup [d]) := fun H1 e Q q =>
  ha H1 e _ fun v H2 e2 r => ⟨by show 1 ≤ sizeLine; rw [sizeLine_eq]; decide, newT_hid (ap.up (e.trans e2)) (.cons r .nil) fun z H3 e3 r3 => q z H3 (e2.trans e3) r3⟩
theorem eh_two {d2 : D} (ap : Ap H sd sg) (ha : EvH ta σ H sd sg d) (hb : EvH tb σ H sd sg d2) : EvH (tTupF (tCons ta (tCons tb tNil))) σ H sd sg (.tup [d, d2]) := fun H1 e Q q =>
  ha H1 e _ fun v H2 e2 r => hb H2 (e.trans e2) _ fun u H3 e3 r2 => ⟨by show 2 ≤ sizeLine; rw [sizeLine_eq]; decide, newT_hid (ap.up ((e.trans e2).trans e3)) (.cons (rep_ex r e3) (.cons r2 .nil)) fun z H4 e4 r4 => q z H4 ((e2.trans e3).trans e4) r4⟩
theorem eh_ix {a : Addr} {vs : List V} {j : Nat} {k : Int} (h : Ev ta σ H (.ref a)) (hk : Ev tb σ H (.int k)) (ha : TupS (hid H sd sg) a vs) (hs : Reps (hid H sd sg) vs ds) (e : k = (j : Int)) (hj : ds[j]? = some d) : EvH (tOp (rIxT K) ta tb) σ H sd sg d := by
  obtain ⟨v, hv, r⟩ := hs.getD hj
  exact hid_ev (ev_ixTi h hk (ha.up hid_ex) e hv) r
end
theorem cut_drop {α : Type} (xs : List α) {i : Nat} (h : i ≤ xs.length) : cutX xs (some (i : Int)) none = xs.drop i := by
  unfold cutX
  rw [HT.sIx_nat, HT.sIx_none, Nat.min_eq_left h]
  exact List.take_of_length_le (by rw [List.length_drop]; exact Nat.le_refl _)
def spBent (n : Nat) : Sp := fun vs H Q _ => ∃ (sd sg sc : Addr) (b m : Nat) (v : V) (d : D), vs = [.ref sd, v] ∧ Rep (hid H sd sg) v d ∧ D.dp n d ∧ 17 ≤ m ∧ m ≤ 1000 ∧ d.Zs m ∧ Sta H sd sg sc (b + 3 * (n + 1)) ∧ ∀ (v' : V) (d' : D) (H' : Hp), Rep (hid H' sd sg) v' d' → D.dp (n + 1) d' → d'.Zs (3 * m + 3) → Sta H' sd sg sc b → ExS sd sg H H' → Q v' H'
section
variable {P : Program} {w : World} {K : PySem.W.Frag} {mg : Str → Option Value} {base : Heap} (T : Txt K mg)
theorem ok_bent_step (n : Nat) (sp : Sp) (hrec : FnOk P w K mg base CX0 (n + 3) T.a_law_bent T.d_law_bent ["state", "value"] sp) (hsp : ∀ m, n = m + 1 → sp = spBent m) : FnOk P w K mg base CX0 (n + 4) T.a_law_bent T.d_law_bent ["state", "value"] (spBent n) := by
  refine T.F_law_bent.ok sc_law_bent (fun vs H Q E h => ?_) (fun cdv A outer s H vs Q E hr h => ?_)
  · obtain ⟨sd, sg, sc, b, m, v, d, rfl, _⟩ := h
    rfl
  · obtain ⟨sd, sg, sc, b, m, v, d, rfl, hv, hdp, m17, m500, hzs, hS, q⟩ := h
    have nd := sc_law_bent.nd
    have hr3 : Room 3 (A.deeper (envOfC "_law_bent" (defScope s_law_bent) s.heap.objs.size T.a_law_bent cdv)) := hr.mono (by omega)
    have hr2 : Room 2 (A.deeper (envOfC "_law_bent" (defScope s_law_bent) s.heap.objs.size T.a_law_bent cdv)) := hr.mono (by omega)
    refine ⟨_, pss_cons (ps_set (i := 2) nd rfl (.inl rfl) (pe_call (ok_draw T) hr2 (by rfl) T.g_law_draw T.F_law_draw.kp (b_law_draw T) .nil pass0 (pa_cons (pv 0) (pa_cons pe_int pa_nil))))
      (pss_cons (ps_if (PW.pt (pw_or (pt_not (pt_val (pe_isi T.z_isinstance T.z_tuple bo_tuple (pv 1)))) (pw_or (pt_cmpR op_eq (pv 2) pe_int (nomark _)) (pw_or1 (pt_cmpR op_eq (pe_callB call_len_seq (by rfl) T.z_len bo_len (pa_cons (pv 1) pa_nil)) pe_int (nomark _))))))
        (pss_cons (ps_set (i := 3) nd rfl (.inl rfl) (pe_lst (pa_cons pe_non (pa_cons pe_str (pa_cons pe_str (pa_cons pe_int (pa_cons pe_bl (pa_cons pe_int (pa_cons pe_int (pa_cons (pe_un un_neg pe_int) (pa_cons pe_int (pa_cons pe_str (pa_cons pe_str (pa_cons pe_str (pa_cons pe_str (pa_cons pe_str (pa_cons (pe_tupF pa_nil) (pa_cons (pe_lst (pa_cons (pv 1) pa_nil)) (pa_cons pe_dnewK pa_nil)))))))))))))))))))
        (pss_cons (ps_set (i := 3) nd rfl (.inl rfl) (pe_op op_cat (pv 3) (pe_ifExp (pt_val (pe_isi T.z_isinstance T.z_str bo_str (pv 1)))
            (pe_lst (pa_cons (pe_op op_add_str (pv 1) pe_str) (pa_cons (pe_slice sl_str (pv 1) (po_some pe_int) po_none) (pa_cons (pe_upper (pv 1)) (pa_cons (pe_op op_add_str (pv 1) pe_str) pa_nil)))))
            (pe_lst (pa_cons (pv 1) pa_nil)))))
        (pss_one (ps_ret (pe_call (ok_pickL T) hr3 (by rfl) T.g_law_pick T.F_law_pick.kp (b_law_pick T) .nil pass0 (pa_cons (pv 0) (pa_cons (pv 3) pa_nil))))))) pss_nil)
      (pss_cons (ps_set (i := 4) nd rfl (.inl rfl) (pe_call (ok_draw T) hr2 (by rfl) T.g_law_draw T.F_law_draw.kp (b_law_draw T) .nil pass0 (pa_cons (pv 0) (pa_cons (pe_callB call_len_seq (by rfl) T.z_len bo_len (pa_cons (pv 1) pa_nil)) pa_nil))))
      (pss_cons (ps_if (pt_cmpR op_eq (pv 2) pe_int (nomark _)) (pss_one (ps_ret (pe_op op_catF (pe_slice sl_tupF (pv 1) po_none (po_some (pv 4))) (pe_slice sl_tupF (pv 1) (po_some (pe_op op_add (pv 4) pe_int)) po_none)))) pss_nil)
      (pss_cons (ps_if (pt_cmpR op_eq (pv 2) pe_int (nomark _)) (pss_one (ps_ret (pe_op op_catF (pe_op op_catF (pe_slice sl_tupF (pv 1) po_none (po_some (pv 4))) (pe_tupF (pa_cons (pe_ix (r := rIxT K) ix_tup (pv 1) (pv 4) (fun _ _ => rfl)) pa_nil))) (pe_slice sl_tupF (pv 1) (po_some (pv 4)) po_none)))) pss_nil)
      (pss_cons (ps_if (PW.pt (pw_and (pt_cmpR op_eq (pv 2) pe_int (nomark _)) (pw_and1 (pt_cmpR op_gt (pv 4) pe_int (nomark _))))) (pss_one (ps_ret (pe_op op_catF (pe_op op_catF (pe_slice sl_tupF (pv 1) po_none (po_some (pe_op op_sub (pv 4) pe_int))) (pe_tupF (pa_cons (pe_ix (r := rIxT K) ix_tup (pv 1) (pv 4) (fun _ _ => rfl)) (pa_cons (pe_ix (r := rIxT K) ix_tup (pv 1) (pe_op op_sub (pv 4) pe_int) (fun _ _ => rfl)) pa_nil)))) (pe_slice sl_tupF (pv 1) (po_some (pe_op op_add (pv 4) pe_int)) po_none)))) pss_nil)
      (pss_cons (ps_if (pt_cmpR op_eq (pv 2) pe_int (nomark _)) (pss_one (ps_ret (pe_op op_catF (pe_op op_catF (pe_slice sl_tupF (pv 1) po_none (po_some (pv 4))) (pe_tupF (pa_cons (pe_ix (r := rIxT K) ix_tup (pv 1) (pe_call (ok_draw T) hr2 (by rfl) T.g_law_draw T.F_law_draw.kp (b_law_draw T) .nil pass0 (pa_cons (pv 0) (pa_cons (pe_callB call_len_seq (by rfl) T.z_len bo_len (pa_cons (pv 1) pa_nil)) pa_nil))) (fun _ _ => rfl)) pa_nil))) (pe_slice sl_tupF (pv 1) (po_some (pe_op op_add (pv 4) pe_int)) po_none)))) pss_nil)
      (pss_one (ps_ret (pe_op op_catF (pe_op op_catF (pe_slice sl_tupF (pv 1) po_none (po_some (pv 4))) (pe_tupF (pa_cons (pe_call (hrec) (hr.mono (by omega)) (by rfl) T.g_law_bent T.F_law_bent.kp (b_law_bent T) .nil pass0 (pa_cons (pv 0) (pa_cons (pe_ix (r := rIxT K) ix_tup (pv 1) (pv 4) (fun _ _ => rfl)) pa_nil))) pa_nil))) (pe_slice sl_tupF (pv 1) (po_some (pe_op op_add (pv 4) pe_int)) po_none)))))))))), ?_⟩
    refine q_asgW (σ := [some (.ref sd), some v, none, none, none]) ⟨.ref sd, rfl, sd, sg, sc, b + 3 * n + 2, 7, rfl, by decide, by decide, hS.less (by omega), fun z H1 z0 z7 hS1 X1 => ?_⟩
    have hv1 := hv.up (hid_mono X1)
    have zup : ∀ x : D, x.Zs m → x.Zs (3 * m + 3) := zs_up (by omega)
    refine s_ifX (σ := [some (.ref sd), some v, some (.int z), none, none]) (b := match d with | .tup ds => decide (V.int z = V.int 0) || decide (V.int (ds.length : Int) = V.int 0) | _ => true) ?_ (fun hb H2 e2 => ?_) (fun hb H2 e2 => ?_)
    · by_cases ht : d.ty = "tuple"
      · obtain ⟨ds, rfl⟩ := ty_tup ht
        obtain ⟨a, vs, rfl, ha, hs⟩ := hv1.tupD
        refine et_is (et_or (a := !true) (b := (decide (V.int z = V.int 0) || decide (V.int (vs.length : Int) = V.int 0))) (et_not (et_val (ev_isi (ev_var rfl) (hv1.up hid_ex)))) fun _ => et_or (et_test (ev_op (ev_var rfl) ev_c (rv_eq rfl))) fun _ => et_test (ev_op (ev_lenT (ev_var rfl) (.inr (ha.up hid_ex).rd)) ev_c (rv_eq rfl))) ?_
        rw [hs.length]
        rfl
      · refine et_is (et_or (b := true) (et_not (et_val (ev_isi (ev_var rfl) (hv1.up hid_ex)))) fun hc => ?_) ?_
        · rw [isi_no ht] at hc
          cases hc
        · rw [isi_no ht]
          cases d with
          | tup ds => exact absurd rfl ht
          | _ => rfl
    · -- one of the odd values
      have hS2 := hS1.up e2
      have hv2 := rep_ex hv1 e2
      refine q_asgW ⟨1, rfl, ⟨by show 0 ≤ sizeLine; exact Nat.zero_le _, fun p1 o1 f1 d1 => ⟨v, rfl, by show 1 ≤ sizeLine; rw [sizeLine_eq]; decide, fun p2 f2 => fun p3 f3 => ⟨by show 17 ≤ sizeLine; rw [sizeLine_eq]; decide, fun p4 f4 => ?_⟩⟩⟩⟩
      have ap2 := hS2.ap
      have E1 : Ex H2 (upd H2 p1 (.frz o1 (.tup []))) := Ex.new f1
      have t1 : (upd H2 p1 (.frz o1 (.tup []))) p1 = some (.frz o1 (.tup [])) := upd_same
      obtain ⟨a1, b1⟩ := ap2.ne f1
      generalize upd H2 p1 (.frz o1 (.tup [])) = Ha at E1 t1 f2 f3 f4 ⊢
      have E2 : Ex Ha (upd Ha p2 (.lst [v])) := Ex.new f2
      have t2 : (upd Ha p2 (.lst [v])) p2 = some (.lst [v]) := upd_same
      obtain ⟨a2, b2⟩ := (ap2.up E1).ne f2
      generalize upd Ha p2 (.lst [v]) = Hb at E2 t2 f3 f4 ⊢
      have E3 : Ex Hb (upd Hb p3 (.dK [])) := Ex.new f3
      have t3 : (upd Hb p3 (.dK [])) p3 = some (.dK []) := upd_same
      obtain ⟨a3, b3⟩ := (ap2.up (E1.trans E2)).ne f3
      generalize upd Hb p3 (.dK []) = Hc at E3 t3 f4 ⊢
      obtain ⟨a4, b4⟩ := (ap2.up ((E1.trans E2).trans E3)).ne f4
      have base_r : Reps (hid Hc sd sg) [.non, .str "", .str "any", .int 5, .bl true, .int 1, .int 0, .int (-1), .int 2, .str "A", .str "abcdefghi", .str "out", .str "leaf", .str "gate", .ref p1, .ref p2, .ref p3] [.non, .str "", .str "any", .int 5, .bl true, .int 1, .int 0, .int (-1), .int 2, .str "A", .str "abcdefghi", .str "out", .str "leaf", .str "gate", .tup [], .lst [d], .dic] :=
        .cons .non (.cons (.str _) (.cons (.str _) (.cons (.int _) (.cons (.bl _) (.cons (.int _) (.cons (.int _) (.cons (.int _) (.cons (.int _) (.cons (.str _) (.cons (.str _) (.cons (.str _) (.cons (.str _) (.cons (.str _)
          (.cons (.tup ⟨o1, d1, hid_at ((E2.trans E3) _ _ t1) a1 b1⟩ .nil) (.cons (.lst (hid_at (E3 _ _ t2) a2 b2) (.cons (rep_ex hv2 ((E1.trans E2).trans E3)) .nil)) (.cons (.dic (hid_at t3 a3 b3)) .nil))))))))))))))))
      have base_ok : ∀ x ∈ [D.non, .str "", .str "any", .int 5, .bl true, .int 1, .int 0, .int (-1), .int 2, .str "A", .str "abcdefghi", .str "out", .str "leaf", .str "gate", .tup [], .lst [d], .dic], D.dp (n + 1) x ∧ x.Zs (3 * m + 3) := fun x hx => by
        have st : ∀ s : Str, s.length ≤ 17 → D.dp (n + 1) (.str s) ∧ (D.str s).Zs (3 * m + 3) := fun s hs => ⟨dp_leaf (by simp [D.ty]) _, by unfold D.Zs; omega⟩
        have nt : ∀ y : D, y.ty ≠ "tuple" → y.ty ≠ "str" → y.ty ≠ "list" → D.dp (n + 1) y ∧ y.Zs (3 * m + 3) := fun y h1 h2 h3 => ⟨dp_leaf h1 _, by cases y <;> first | (unfold D.Zs; trivial) | exact absurd rfl h1 | exact absurd rfl h2 | exact absurd rfl h3⟩
        simp only [List.mem_cons, List.not_mem_nil, or_false] at hx
        rcases hx with rfl | rfl | rfl | rfl | rfl | rfl | rfl | rfl | rfl | rfl | rfl | rfl | rfl | rfl | rfl | rfl | rfl
        · exact nt _ (by simp [D.ty]) (by simp [D.ty]) (by simp [D.ty])
        · exact st _ (by decide)
        · exact st _ (by decide)
        · exact nt _ (by simp [D.ty]) (by simp [D.ty]) (by simp [D.ty])
        · exact nt _ (by simp [D.ty]) (by simp [D.ty]) (by simp [D.ty])
        · exact nt _ (by simp [D.ty]) (by simp [D.ty]) (by simp [D.ty])
        · exact nt _ (by simp [D.ty]) (by simp [D.ty]) (by simp [D.ty])
        · exact nt _ (by simp [D.ty]) (by simp [D.ty]) (by simp [D.ty])
        · exact nt _ (by simp [D.ty]) (by simp [D.ty]) (by simp [D.ty])
        · exact st _ (by decide)
        · exact st _ (by decide)
        · exact st _ (by decide)
        · exact st _ (by decide)
        · exact st _ (by decide)
        · refine ⟨fun ds e => ?_, by unfold D.Zs; exact ⟨Nat.zero_le _, zss_iff.mpr fun _ h => by simp at h⟩⟩
          injection e with e
          subst e
          exact fun x hx => by simp at hx
        · refine ⟨dp_leaf (by simp [D.ty]) _, ?_⟩
          unfold D.Zs
          exact ⟨by show 1 ≤ _; omega, zss_iff.mpr fun x hx => by rw [List.mem_singleton.mp hx]; exact zup d hzs⟩
        · exact nt _ (by simp [D.ty]) (by simp [D.ty]) (by simp [D.ty])
      have E4 : Ex Hc (upd Hc p4 (.lst [.non, .str "", .str "any", .int 5, .bl true, .int 1, .int 0, .int (-1), .int 2, .str "A", .str "abcdefghi", .str "out", .str "leaf", .str "gate", .ref p1, .ref p2, .ref p3])) := Ex.new f4
      have t4 : (upd Hc p4 (.lst [.non, .str "", .str "any", .int 5, .bl true, .int 1, .int 0, .int (-1), .int 2, .str "A", .str "abcdefghi", .str "out", .str "leaf", .str "gate", .ref p1, .ref p2, .ref p3])) p4 = some (.lst [.non, .str "", .str "any", .int 5, .bl true, .int 1, .int 0, .int (-1), .int 2, .str "A", .str "abcdefghi", .str "out", .str "leaf", .str "gate", .ref p1, .ref p2, .ref p3]) := upd_same
      have EA := ((E1.trans E2).trans E3)
      show tSeq _ _ _ [some (.ref sd), some v, some (.int z), some (.ref p4), none] (upd Hc p4 (.lst [.non, .str "", .str "any", .int 5, .bl true, .int 1, .int 0, .int (-1), .int 2, .str "A", .str "abcdefghi", .str "out", .str "leaf", .str "gate", .ref p1, .ref p2, .ref p3]))
      generalize upd Hc p4 (.lst [.non, .str "", .str "any", .int 5, .bl true, .int 1, .int 0, .int (-1), .int 2, .str "A", .str "abcdefghi", .str "out", .str "leaf", .str "gate", .ref p1, .ref p2, .ref p3]) = Hd at E4 t4 ⊢
      have fin : ∀ (H5 : Hp) (p5 p6 : Addr) (ys : List V) (es : List D) (D0 : Ends), D0.rt = Q → Ex Hd H5 → H5 p5 = some (.lst ys) → Reps (hid H5 sd sg) ys es → es.length ≤ 4 → (∀ x ∈ es, D.dp (n + 1) x ∧ x.Zs (3 * m + 3)) → H5 p6 = none →
          tRet (tCall spPickL [] E0 (tCons (tVar 0) (tCons (tVar 3) tNil))) D0 [some (.ref sd), some v, some (.int z), some (.ref p6), none] (upd H5 p6 (.lst ([.non, .str "", .str "any", .int 5, .bl true, .int 1, .int 0, .int (-1), .int 2, .str "A", .str "abcdefghi", .str "out", .str "leaf", .str "gate", .ref p1, .ref p2, .ref p3] ++ ys))) := fun H5 p5 p6 ys es D0 hD E5 h5 r5 l5 ok5 f6 => by
        have E6 : Ex H5 (upd H5 p6 (.lst ([.non, .str "", .str "any", .int 5, .bl true, .int 1, .int 0, .int (-1), .int 2, .str "A", .str "abcdefghi", .str "out", .str "leaf", .str "gate", .ref p1, .ref p2, .ref p3] ++ ys))) := Ex.new f6
        have EH := ((EA.trans E4).trans E5).trans E6
        obtain ⟨a6, b6⟩ := (ap2.up ((EA.trans E4).trans E5)).ne f6
        have ra := reps_ex (reps_ex base_r (E4.trans E5)) E6
        have rb := reps_ex r5 E6
        have rab := ra.append rb
        have yl := r5.length
        refine ⟨.ref sd, rfl, .ref p6, rfl, sd, sg, sc, b + 3 * n + 1, p6, [.non, .str "", .str "any", .int 5, .bl true, .int 1, .int 0, .int (-1), .int 2, .str "A", .str "abcdefghi", .str "out", .str "leaf", .str "gate", .ref p1, .ref p2, .ref p3] ++ ys, rfl, upd_same, a6, b6, by simp, by rw [List.length_append]; simp; omega, (hS2.up EH).less (by omega), fun j x H7 hx hS7 X7 => ?_⟩
        obtain ⟨dx, hdx, rx⟩ := rab.get hx
        have ok := fun y hy => (List.mem_append.mp hy).elim (base_ok y) (ok5 y)
        obtain ⟨k1, k2⟩ := ok dx (List.mem_of_getElem? hdx)
        show D0.rt x H7
        rw [hD]
        exact q x dx H7 (rx.up (hid_mono X7)) k1 k2 (hS7.less (by omega)) ((X1.trans (.of e2)).trans ((ExS.of EH).trans X7))
      refine q_asgW (σ := [some (.ref sd), some v, some (.int z), some (.ref p4), none]) ⟨.ref p4, rfl, ?_⟩
      have hvd := rep_ex hv2 (EA.trans E4)
      refine (et_val (ev_isi (ev_var rfl) (hvd.up hid_ex)) : EvT _ [some (.ref sd), some v, some (.int z), some (.ref p4), none] Hd (isi d "str")) Hd (Ex.refl _) _ fun H5 e5 => ?_
      by_cases ht : d.ty = "str"
      · obtain ⟨s, rfl⟩ := ty_str ht
        obtain rfl := hv.strD
        have hsl : s.length ≤ m := by unfold D.Zs at hzs; exact hzs
        show if isi (.str s) "str" = true then _ else _
        rw [if_pos (show isi (.str s) "str" = true from rfl)]
        refine ⟨.str s, rfl, s, "x", rfl, rfl, sz_of (by show s.length + 1 ≤ _; omega), .str s, rfl, 1, rfl, s, rfl, sz_of (by omega), .str s, rfl, ⟨s, rfl⟩, s, rfl, rfl, by omega, .str s, rfl, s, " ", rfl, rfl, sz_of (by show s.length + 1 ≤ _; omega), by show 4 ≤ sizeLine; rw [sizeLine_eq]; decide, fun p5 f5 => ⟨p4, p5, [.non, .str "", .str "any", .int 5, .bl true, .int 1, .int 0, .int (-1), .int 2, .str "A", .str "abcdefghi", .str "out", .str "leaf", .str "gate", .ref p1, .ref p2, .ref p3], [.str (s ++ "x"), .str (cutS s (some 1) none), .str (Txt.upper s), .str (s ++ " ")], rfl, rfl, Ex.new f5 _ _ (e5 _ _ t4), upd_same, by show 17 + 4 ≤ sizeLine; rw [sizeLine_eq]; decide, fun p6 f6 => ?_⟩⟩
        have st : ∀ t : Str, t.length ≤ 3 * m + 3 → D.dp (n + 1) (.str t) ∧ (D.str t).Zs (3 * m + 3) := fun t hs => ⟨dp_leaf (by simp [D.ty]) _, by unfold D.Zs; exact hs⟩
        refine fin _ p5 p6 _ [.str (s ++ "x"), .str (cutS s (some 1) none), .str (Txt.upper s), .str (s ++ " ")] _ rfl (e5.trans (Ex.new f5)) upd_same (.cons (.str _) (.cons (.str _) (.cons (.str _) (.cons (.str _) .nil)))) (by simp) (fun x hx => ?_) f6
        have la : ∀ t : Str, t.length = 1 → (s ++ t).length = s.length + 1 := fun t ht => by
          show ((s.cps ++ t.cps).size) = _
          rw [Array.size_append]
          have : t.cps.size = 1 := ht
          have : s.cps.size = s.length := rfl
          omega
        have lu := len_upper s
        have lc := cutS_length s (some 1) none
        simp only [List.mem_cons, List.not_mem_nil, or_false] at hx
        rcases hx with rfl | rfl | rfl | rfl
        · exact st _ (by rw [la _ rfl]; omega)
        · exact st _ (by omega)
        · exact st _ (by omega)
        · exact st _ (by rw [la _ rfl]; omega)
      · show if isi d "str" = true then _ else _
        rw [if_neg (by rw [isi_no ht]; exact Bool.false_ne_true)]
        refine ⟨v, rfl, by show 1 ≤ sizeLine; rw [sizeLine_eq]; decide, fun p5 f5 => ⟨p4, p5, [.non, .str "", .str "any", .int 5, .bl true, .int 1, .int 0, .int (-1), .int 2, .str "A", .str "abcdefghi", .str "out", .str "leaf", .str "gate", .ref p1, .ref p2, .ref p3], [v], rfl, rfl, Ex.new f5 _ _ (e5 _ _ t4), upd_same, by show 17 + 1 ≤ sizeLine; rw [sizeLine_eq]; decide, fun p6 f6 => ?_⟩⟩
        exact fin _ p5 p6 _ [d] _ rfl (e5.trans (Ex.new f5)) upd_same (.cons (rep_ex hvd (e5.trans (Ex.new f5))) .nil) (by simp) (fun x hx => by rw [List.mem_singleton.mp hx]; exact ⟨dp_up hdp, zup d hzs⟩) f6
    · -- a change in a tuple
      obtain ⟨ds, rfl⟩ : ∃ ds, d = .tup ds := by
        cases d with
        | tup ds => exact ⟨ds, rfl⟩
        | _ => cases hb
      have hb2 : (decide (V.int z = V.int 0) || decide (V.int (ds.length : Int) = V.int 0)) = false := hb
      rw [Bool.or_eq_false_iff, decide_eq_false_iff_not, decide_eq_false_iff_not] at hb2
      have hdl : 0 < ds.length := Nat.pos_of_ne_zero fun e => hb2.2 (by rw [e]; rfl)
      obtain ⟨n', rfl⟩ : ∃ n', n = n' + 1 := by
        cases n with
        | zero => exact absurd rfl hdp
        | succ n' => exact ⟨n', rfl⟩
      obtain rfl := hsp n' rfl
      have hS2 := hS1.up e2
      have hv2 := rep_ex hv1 e2
      obtain ⟨a, vs, rfl, ha, hs⟩ := hv2.tupD
      have hvl : vs.length = ds.length := hs.length
      have hzs2 := hzs
      unfold D.Zs at hzs2
      have dlm : ds.length ≤ m := hzs2.1
      have inds : ∀ x ∈ ds, D.dp (n' + 1) x ∧ x.Zs (3 * m + 3) := fun x hx => ⟨dp_up (hdp ds rfl x hx), zup x (zss_iff.mp hzs2.2 x hx)⟩
      refine q_asgW (σ := [some (.ref sd), some (.ref a), some (.int z), none, none]) ⟨.ref sd, rfl, .ref a, rfl, a, vs, rfl, .inr (ha.up hid_ex).sq, sd, sg, sc, b + 3 * n' + 4, vs.length, rfl, by omega, by omega, hS2.less (by omega), fun w3 H3 w0 wl hS3 X3 => ?_⟩
      obtain ⟨k, rfl⟩ : ∃ k : Nat, w3 = (k : Int) := ⟨w3.toNat, by omega⟩
      have hk : k < ds.length := by omega
      have X03 : ExS sd sg H H3 := (X1.trans (.of e2)).trans X3
      have hv3 : Rep (hid H3 sd sg) (.ref a) (.tup ds) := (Rep.tup ha hs).up (hid_mono X3)
      have gk : ds[k]? = some ds[k] := List.getElem?_eq_getElem hk
      have res : ∀ (v' : V) (es : List D) (H5 : Hp), Rep (hid H5 sd sg) v' (.tup es) → es.length ≤ ds.length + 1 → (∀ x ∈ es, D.dp (n' + 1) x ∧ x.Zs (3 * m + 3)) → Sta H5 sd sg sc b → ExS sd sg H3 H5 → Q v' H5 := fun v' es H5 r l ok st x => by
        refine q v' (.tup es) H5 r (fun ds' e y hy => ?_) ?_ st (X03.trans x)
        · injection e with e
          subst e
          exact (ok y hy).1
        · unfold D.Zs
          exact ⟨by omega, zss_iff.mpr fun y hy => (ok y hy).2⟩
      have tk : ∀ {x : D} {i : Nat}, x ∈ ds.take i → x ∈ ds := fun h => List.mem_of_mem_take h
      have dk : ∀ {x : D} {i : Nat}, x ∈ ds.drop i → x ∈ ds := fun h => List.mem_of_mem_drop h
      have kin : ds[k] ∈ ds := List.getElem_mem hk
      have ap := hS3.ap
      -- the parts of the value
      have pre : ∀ {i : Nat} {te : TE} {H4 : Hp} {σ : L2.St}, i ≤ ds.length → Ex H3 H4 → σ[1]? = some (some (.ref a)) → Ev te σ H4 (.int (i : Int)) → EvH (tSl rSlF (tVar 1) tNoPart (tPart te)) σ H4 sd sg (.tup (ds.take i)) := fun {i te H4 σ} hi e4 hs1 h => by
        rw [← cut_take ds hi]
        exact eh_slice (ap.up e4) (hid_ev (ev_var hs1) (rep_ex hv3 e4)) eo_none (eo_some h)
      have post : ∀ {i : Nat} {te : TE} {H4 : Hp} {σ : L2.St}, i ≤ ds.length → Ex H3 H4 → σ[1]? = some (some (.ref a)) → Ev te σ H4 (.int (i : Int)) → EvH (tSl rSlF (tVar 1) (tPart te) tNoPart) σ H4 sd sg (.tup (ds.drop i)) := fun {i te H4 σ} hi e4 hs1 h => by
        rw [← cut_drop ds hi]
        exact eh_slice (ap.up e4) (hid_ev (ev_var hs1) (rep_ex hv3 e4)) (eo_some h) eo_none
      have succ : ∀ {H4 : Hp} {σ : L2.St}, σ[4]? = some (some (.int (k : Int))) → Ev (tOp (rI0 fun i j => .int (i + j)) (tVar 4) (tC (.int 1))) σ H4 (.int ((k + 1 : Nat) : Int)) := fun h => ev_op (ev_var h) ev_c rv_I0
      have hv3u := hv3
      obtain ⟨a', vs', e', ha3, hs3⟩ := hv3u.tupD
      obtain rfl := V.ref.inj e'
      refine s_ifX (σ := [some (.ref sd), some (.ref a), some (.int z), none, some (.int k)]) (b := decide (V.int z = V.int 1)) (et_test (ev_op (ev_var rfl) ev_c (rv_eq rfl))) (fun _ H4 e4 => ?_) (fun _ H4 e4 => ?_)
      · refine eh_cat (ap.up e4) (pre (by omega) e4 rfl (ev_var rfl)) (post (i := k + 1) (by omega) e4 rfl (succ rfl)) ?_ H4 (Ex.refl _) _ fun v' H5 e5 r5 => res v' _ H5 r5 ?_ (fun x hx => ?_) ((hS3.less (by omega)).up (e4.trans e5)) (.of (e4.trans e5))
        · rw [List.length_take, List.length_drop]; omega
        · rw [List.length_append, List.length_take, List.length_drop]; omega
        · rcases List.mem_append.mp hx with h | h
          · exact inds x (tk h)
          · exact inds x (dk h)
      refine s_ifX (b := decide (V.int z = V.int 2)) (et_test (ev_op (ev_var rfl) ev_c (rv_eq rfl))) (fun _ H5 e5 => ?_) (fun _ H5 e5 => ?_)
      · have e45 := e4.trans e5
        refine eh_cat (ap.up e45) (eh_cat (ap.up e45) (pre (by omega) e45 rfl (ev_var rfl)) (eh_one (ap.up e45) (eh_ix (ev_var rfl) (ev_var rfl) (ha3.up (hid_mono (.of e45))) (reps_ex hs3 e45) rfl gk)) ?_) (post (by omega) e45 rfl (ev_var rfl)) ?_ H5 (Ex.refl _) _ fun v' H6 e6 r6 => res v' _ H6 r6 ?_ (fun x hx => ?_) ((hS3.less (by omega)).up (e45.trans e6)) (.of (e45.trans e6))
        · rw [List.length_take]; simp; omega
        · rw [List.length_append, List.length_take, List.length_drop]; simp; omega
        · rw [List.length_append, List.length_append, List.length_take, List.length_drop]; simp; omega
        · rcases List.mem_append.mp hx with h | h
          · rcases List.mem_append.mp h with h | h
            · exact inds x (tk h)
            · rw [List.mem_singleton.mp h]; exact inds _ kin
          · exact inds x (dk h)
      refine s_ifX (b := (decide (V.int z = V.int 3) && decide ((0 : Int) < (k : Int)))) (et_and (et_test (ev_op (ev_var rfl) ev_c (rv_eq rfl))) fun _ => et_test (ev_op (ev_var rfl) ev_c rv_I0)) (fun hb3 H6 e6 => ?_) (fun _ H6 e6 => ?_)
      · have e46 := (e4.trans e5).trans e6
        rw [Bool.and_eq_true, decide_eq_true_iff, decide_eq_true_iff] at hb3
        obtain ⟨k0, rfl⟩ : ∃ k0, k = k0 + 1 := ⟨k - 1, by omega⟩
        have pred : ∀ {H4 : Hp}, Ev (tOp (rI0 fun i j => .int (i - j)) (tVar 4) (tC (.int 1))) [some (.ref sd), some (.ref a), some (.int z), none, some (.int ((k0 + 1 : Nat) : Int))] H4 (.int (k0 : Int)) := fun {H4} => ev_is (ev_op (ev_var rfl) ev_c rv_I0) (congrArg V.int (by omega))
        have gk0 : ds[k0]? = some ds[k0] := List.getElem?_eq_getElem (by omega)
        refine eh_cat (ap.up e46) (eh_cat (ap.up e46) (pre (i := k0) (by omega) e46 rfl pred) (eh_two (ap.up e46) (eh_ix (ev_var rfl) (ev_var rfl) (ha3.up (hid_mono (.of e46))) (reps_ex hs3 e46) rfl gk) (eh_ix (ev_var rfl) pred (ha3.up (hid_mono (.of e46))) (reps_ex hs3 e46) rfl gk0)) ?_) (post (i := k0 + 1 + 1) (by omega) e46 rfl (succ rfl)) ?_ H6 (Ex.refl _) _ fun v' H7 e7 r7 => res v' _ H7 r7 ?_ (fun x hx => ?_) ((hS3.less (by omega)).up (e46.trans e7)) (.of (e46.trans e7))
        · rw [List.length_take]; simp; omega
        · rw [List.length_append, List.length_take, List.length_drop]; simp; omega
        · rw [List.length_append, List.length_append, List.length_take, List.length_drop]; simp; omega
        · rcases List.mem_append.mp hx with h | h
          · rcases List.mem_append.mp h with h | h
            · exact inds x (tk h)
            · rcases List.mem_cons.mp h with h | h
              · rw [h]; exact inds _ kin
              · rw [List.mem_singleton.mp h]; exact inds _ (List.getElem_mem _)
          · exact inds x (dk h)
      refine s_ifX (b := decide (V.int z = V.int 4)) (et_test (ev_op (ev_var rfl) ev_c (rv_eq rfl))) (fun _ H7 e7 => ?_) (fun _ H7 e7 => ?_)
      · have e47 := ((e4.trans e5).trans e6).trans e7
        refine pre (i := k) (by omega) e47 rfl (ev_var rfl) H7 (Ex.refl _) _ fun vA H8 e8 rA => ?_
        have e48 := e47.trans e8
        refine ⟨.ref a, rfl, .ref sd, rfl, .ref a, rfl, a, vs', rfl, .inr ((ha3.up (hid_mono (.of e48))).up hid_ex).sq, sd, sg, sc, b + 3 * n' + 3, vs'.length, rfl, by rw [hs3.length]; omega, by rw [hs3.length]; omega, (hS3.up e48).less (by omega), fun w4 H9 w0' wl' hS9 X9 => ?_⟩
        obtain ⟨k2, rfl⟩ : ∃ k2 : Nat, w4 = (k2 : Int) := ⟨w4.toNat, by omega⟩
        have hk2 : k2 < ds.length := by rw [hs3.length] at wl'; omega
        have X39 : ExS sd sg H3 H9 := (ExS.of e48).trans X9
        have hv9 := hv3.up (hid_mono X39)
        have hs9 := hs3.up (hid_mono X39)
        have ha9 := ha3.up (hid_mono X39)
        obtain ⟨vk, hvk, rk⟩ := hs9.getD (show ds[k2]? = some ds[k2] from List.getElem?_eq_getElem hk2)
        have okX := inds _ (List.getElem_mem hk2)
        generalize ds[k2] = dX at rk okX
        refine ⟨a, vs', k2, vk, rfl, rfl, (ha9.up hid_ex).sq, atI_nat hvk, by show 1 ≤ sizeLine; rw [sizeLine_eq]; decide, newT_hid hS9.ap (.cons rk .nil) fun vB H10 e10 rB => ?_⟩
        refine cat_hid (hS9.ap.up e10) (rep_ex (rA.up (hid_mono X9)) e10) rB (by rw [List.length_take]; simp; omega) fun vC H11 e11 rC => ?_
        have ap11 := hS9.ap.up (e10.trans e11)
        have l2 : ((ds.take k) ++ [dX]).length + (ds.drop (k + 1)).length ≤ 100000 := by
          rw [List.length_append, List.length_take, List.length_drop]; simp; omega
        have post2 : EvH (tSl rSlF (tVar 1) (tPart (tOp (rI0 fun i j => .int (i + j)) (tVar 4) (tC (.int 1)))) tNoPart) [some (.ref sd), some (.ref a), some (.int z), none, some (.int (k : Int))] H11 sd sg (.tup (ds.drop (k + 1))) := by
          rw [← cut_drop ds (by omega : k + 1 ≤ ds.length)]
          exact eh_slice ap11 (hid_ev (ev_var rfl) (rep_ex hv9 (e10.trans e11))) (eo_some (succ rfl)) eo_none
        refine post2 H11 (Ex.refl _) _ fun vD H12 e12 rD => cat_hid (ap11.up e12) (rep_ex rC e12) rD l2 fun vE H13 e13 rE => res vE _ H13 rE ?_ (fun x hx => ?_) ((hS9.less (by omega)).up (((e10.trans e11).trans e12).trans e13)) (X39.trans (.of (((e10.trans e11).trans e12).trans e13)))
        · rw [List.length_append, List.length_append, List.length_take, List.length_drop]; simp; omega
        · rcases List.mem_append.mp hx with h | h
          · rcases List.mem_append.mp h with h | h
            · exact inds x (tk h)
            · rw [List.mem_singleton.mp h]; exact okX
          · exact inds x (dk h)
      · have e47 := ((e4.trans e5).trans e6).trans e7
        refine pre (i := k) (by omega) e47 rfl (ev_var rfl) H7 (Ex.refl _) _ fun vA H8 e8 rA => ?_
        have e48 := e47.trans e8
        have ha8 := ha3.up (hid_mono (.of e48))
        have hs8 := reps_ex hs3 e48
        obtain ⟨vk0, hvk0, rk0⟩ := hs8.getD gk
        refine ⟨.ref sd, rfl, .ref a, rfl, .int k, rfl, a, vs', k, vk0, rfl, rfl, (ha8.up hid_ex).sq, atI_nat hvk0, sd, sg, sc, b, m, vk0, ds[k], rfl, rk0, hdp ds rfl _ kin, m17, m500, zss_iff.mp hzs2.2 _ kin, (hS3.up e48).less (by omega), fun vk dX H9 rk dpX zsX hS9 X9 => ?_⟩
        have X39 : ExS sd sg H3 H9 := (ExS.of e48).trans X9
        have hv9 := hv3.up (hid_mono X39)
        have okX : D.dp (n' + 1) dX ∧ dX.Zs (3 * m + 3) := ⟨dpX, zsX⟩
        refine ⟨by show 1 ≤ sizeLine; rw [sizeLine_eq]; decide, newT_hid hS9.ap (.cons rk .nil) fun vB H10 e10 rB => ?_⟩
        refine cat_hid (hS9.ap.up e10) (rep_ex (rA.up (hid_mono X9)) e10) rB (by rw [List.length_take]; simp; omega) fun vC H11 e11 rC => ?_
        have ap11 := hS9.ap.up (e10.trans e11)
        have l2 : ((ds.take k) ++ [dX]).length + (ds.drop (k + 1)).length ≤ 100000 := by
          rw [List.length_append, List.length_take, List.length_drop]; simp; omega
        have post2 : EvH (tSl rSlF (tVar 1) (tPart (tOp (rI0 fun i j => .int (i + j)) (tVar 4) (tC (.int 1)))) tNoPart) [some (.ref sd), some (.ref a), some (.int z), none, some (.int (k : Int))] H11 sd sg (.tup (ds.drop (k + 1))) := by
          rw [← cut_drop ds (by omega : k + 1 ≤ ds.length)]
          exact eh_slice ap11 (hid_ev (ev_var rfl) (rep_ex hv9 (e10.trans e11))) (eo_some (succ rfl)) eo_none
        refine post2 H11 (Ex.refl _) _ fun vD H12 e12 rD => cat_hid (ap11.up e12) (rep_ex rC e12) rD l2 fun vE H13 e13 rE => res vE _ H13 rE ?_ (fun x hx => ?_) ((hS9.less (by omega)).up (((e10.trans e11).trans e12).trans e13)) (X39.trans (.of (((e10.trans e11).trans e12).trans e13)))
        · rw [List.length_append, List.length_append, List.length_take, List.length_drop]; simp; omega
        · rcases List.mem_append.mp hx with h | h
          · rcases List.mem_append.mp h with h | h
            · exact inds x (tk h)
            · rw [List.mem_singleton.mp h]; exact okX
          · exact inds x (dk h)
theorem ok_bent : ∀ n : Nat, FnOk P w K mg base CX0 (n + 4) T.a_law_bent T.d_law_bent ["state", "value"] (spBent n)
  | 0 => ok_bent_step T 0 (fun _ _ _ _ => False) (T.F_law_bent.ok sc_law_bent (fun vs H Q E h => h.elim) (fun cdv A outer s H vs Q E hr h => h.elim)) fun m h => by omega
  | n + 1 => ok_bent_step T (n + 1) (spBent n) (ok_bent n) fun m h => by
    obtain rfl : n = m := by omega
    rfl
end
end Kx

set_option Elab.async false
set_option linter.all false
set_option maxRecDepth 100000
set_option maxHeartbeats 1000000
namespace Kx
open PySem PySem.Spec PyProof.Rows L2 Evl
def ab (i : Int) : Int := if i < 0 then -i else i
def spBegun (K : PySem.W.Frag) : Sp := fun vs H Q _ => ∃ (l : Addr) (cells : List Int), vs = [.ref l] ∧ SqL K H l (iv cells) ∧ cells.length ≤ 1000 ∧ ∀ (sd sg sc : Addr) (gs : List Int) (H' : Hp), StW H' sd sg sc gs (cells.map ab) 0 0 → Ex H H' → H sd = none → H sg = none → Q (.ref sd) H'
theorem pair_go {k : V} {tv : TE} {r : List (TE × TE)} {σ : L2.St} {H : Hp} {Q : List (V × V) → Hp → Prop} (h : tv σ H fun y H2 => tPairs r σ H2 fun ps H3 => Q ((k, y) :: ps) H3) : tPairs ((tC k, tv) :: r) σ H Q := h
section
variable {P : Program} {w : World} {K : PySem.W.Frag} {mg : Str → Option Value} {base : Heap} (T : Txt K mg)
theorem ok_begun : FnOk P w K mg base CX0 1 T.a_law_begun T.d_law_begun ["script"] (spBegun K) := by
  refine T.F_law_begun.ok sc_law_begun (fun vs H Q E h => ?_) (fun cdv A outer s H vs Q E hr h => ?_)
  · obtain ⟨l, cells, rfl, _⟩ := h
    rfl
  · obtain ⟨l, cells, rfl, hl, hz, q⟩ := h
    have nd := sc_law_begun.nd
    refine ⟨_, pss_cons (ps_setLc (i := 1) (own := [("cell", 2)]) (g := gName 2) (by rfl) nd rfl rfl (by rfl) (pi_list (pv 0)) (blkOk_by (N := ["script", "great", "cell"]) (sc := defScope s_law_begun) (by decide +kernel))
        (fun _ _ _ _ _ => pg_name (i := 2) nd rfl (.inl rfl)) (fun _ _ _ _ _ => pts_one (pt_cmpR op_ge (pe_callB call_abs (by rfl) T.z_abs bo_abs (pa_cons (pv 2) pa_nil)) (pe_op op_pow pe_int pe_int) (by rfl)))
        (fun _ _ _ _ _ => pe_op op_sub (pe_callB call_abs (by rfl) T.z_abs bo_abs (pa_cons (pv 2) pa_nil)) (pe_op op_pow pe_int pe_int)))
      (pss_one (ps_ret (pe_disp (pps_cons pe_str (pv 1) (pps_cons pe_str (pe_lc (own := [("cell", 2)]) (g := gName 2) (tt := tYes) (by rfl) nd (pi_list (pv 0)) (blkOk_by (N := ["script", "great", "cell"]) (sc := defScope s_law_begun) (by decide +kernel))
        (fun _ _ _ _ _ => pg_name (i := 2) nd rfl (.inl rfl)) (fun _ _ _ _ _ => pts_nil) (fun _ _ _ _ _ => pe_callB call_abs (by rfl) T.z_abs bo_abs (pa_cons (pv 2) pa_nil))) (pps_cons pe_str pe_int (pps_cons pe_str pe_int pps_nil)))) (by decide +kernel) rfl (by simp) (by simp)))), ?_⟩
    have il : (iv cells).length = cells.length := List.length_map _
    have at_ : ∀ {i : Nat} {x : V}, (iv cells)[i]? = some x → x = .int (cells.getD i 0) := fun {i x} h => by
      unfold iv at h
      rw [List.getElem?_map] at h
      cases e : cells[i]? with
      | none =>
        rw [e] at h
        cases h
      | some c =>
        rw [e] at h
        rw [List.getD, e]
        exact (Option.some.inj h).symm
    have ev_ab : ∀ {σ : L2.St} {H : Hp} {i : Int}, σ[2]? = some (some (.int i)) → Ev (tCB (fun xs H Q => ∃ i, xs = [V.int i] ∧ Q (.int (if i < 0 then -i else i)) H) (tCons (tVar 2) tNil)) σ H (.int (ab i)) := fun {σ H i} h =>
      ev_cb (ea_cons (ev_var h) ea_nil) fun H1 e Q q => ⟨i, rfl, q H1 (Ex.refl _)⟩
    have ev_p : ∀ {σ : L2.St} {H : Hp}, Ev (tOp (rI CPow fun i j => .int (i ^ j.toNat)) (tC (.int 10)) (tC (.int 18))) σ H (.int ((10 : Int) ^ (18 : Int).toNat)) := fun {σ H} => ev_op ev_c ev_c (rv_I ⟨by decide, by decide, by decide⟩)
    have L1 := Evl.el_lcL (K := K) (σ := [some (.ref l), none, none]) (H := H) (tl := tVar 0) (j := 2) (vs := [2]) (xs := iv cells)
      (t := tTest (tOp (rI0 fun i j => .bl (decide (j ≤ i))) (tCB (fun xs H Q => ∃ i, xs = [V.int i] ∧ Q (.int (if i < 0 then -i else i)) H) (tCons (tVar 2) tNil)) (tOp (rI CPow fun i j => .int (i ^ j.toNat)) (tC (.int 10)) (tC (.int 18)))))
      (te := tOp (rI0 fun i j => .int (i - j)) (tCB (fun xs H Q => ∃ i, xs = [V.int i] ∧ Q (.int (if i < 0 then -i else i)) H) (tCons (tVar 2) tNil)) (tOp (rI CPow fun i j => .int (i ^ j.toNat)) (tC (.int 10)) (tC (.int 18))))
      (fun i => decide ((10 : Int) ^ (18 : Int).toNat ≤ ab (cells.getD i 0))) (fun i => .int (ab (cells.getD i 0) - (10 : Int) ^ (18 : Int).toNat)) (ev_var rfl) hl (by omega) (fun _ => rfl) (fun i x H1 e1 hx => by
        rw [at_ hx]
        exact et_test (ev_op (ev_ab rfl) ev_p rv_I0)) (fun i x H1 e1 hx _ => by
        rw [at_ hx]
        exact ev_op (ev_ab rfl) ev_p rv_I0)
    rw [given_iv] at L1
    refine q_asgL (σ := [some (.ref l), none, none]) L1 fun sg H1 nsg e1 h1 => fun sd nsd => ⟨.ref sg, rfl, ?_⟩
    have e2 : Ex H1 (upd H1 sd (.dK [])) := Ex.new nsd
    have h2 : (upd H1 sd (.dK [])) sd = some (.dK []) := upd_same
    generalize upd H1 sd (.dK []) = H2 at e2 h2
    have L2 : EvL (tLc (iList K (tVar 0)) (gName 2) tYes (tCB (fun xs H Q => ∃ i, xs = [V.int i] ∧ Q (.int (if i < 0 then -i else i)) H) (tCons (tVar 2) tNil)) [2]) [some (.ref l), some (.ref sg), none] H2 (iv (cells.map ab)) := el_lcL (K := K) (i := 2) (xs := iv cells) (ev_var rfl) (ex_l (e1.trans e2) hl) (by unfold iv; simp) (by omega) fun j x y hx hy => by
      rw [at_ hx]
      unfold iv at hx hy
      rw [List.getElem?_map, List.getElem?_map] at hy
      cases e : cells[j]? with
      | none =>
        rw [e] at hy
        cases hy
      | some c =>
        rw [e] at hy
        obtain rfl := Option.some.inj hy
        rw [List.getD, e]
        exact ev_ab rfl
    refine pair_go ?_
    refine L2 H2 (Ex.refl _) _ fun sc H3 nsc e3 h3 => ⟨e3 _ _ h2, stK sg sc 0 0, rfl, by show 4 ≤ 15; decide, ?_⟩
    · have em : mergeK [] (stK sg sc 0 0) = stK sg sc 0 0 := by
        simp [mergeK, putK, stK, nGR, nGC, nGT, nCR, nCT, nRT]
      rw [em]
      have n1 : sg ≠ sd := ne_of_none h1 nsd
      have n2 : sc ≠ sd := fun z => by
        rw [z] at nsc
        rw [h2] at nsc
        cases nsc
      have n3 : sc ≠ sg := fun z => by
        rw [z] at nsc
        have := e2 _ _ h1
        rw [nsc] at this
        cases this
      refine q sd sg sc _ _ ⟨upd_same, (upd_ne n1).trans (e3 _ _ (e2 _ _ h1)), (upd_ne n2).trans h3, n3⟩ (fun a o h => ?_) (fresh_back e1 nsd) nsg
      exact (upd_ne (ne_of_none h (fresh_back e1 nsd))).trans (((e1.trans e2).trans e3) _ _ h)
end
end Kx

set_option Elab.async false
set_option linter.all false
set_option maxRecDepth 100000
set_option maxHeartbeats 1000000
namespace Kx
open PySem PySem.Spec PyProof.Rows L2 Evl LamX
/-- an action is tried: what it raises is kept, else None -/
def TCaught (K : PySem.W.Frag) (CS : Addr) : (XK → Hp → VK → Prop) → Hp → VK → Prop := fun tl H Q => ∀ R : VK, (∀ v H', Q .non H' → R v H') →
  tl (fun cls d H' => PySem.W.exmOne K cls (.ref CS) = some true ∧ d = none ∧ ∀ a, H' a = none → Q (.ref a) (upd H' a (ExR cls a))) H R
theorem caught_gives {X : Cx} {x q : Str} {g CS : Addr} {cdg : Value} (hme : X.mg "KeptError" = some (.ref CS)) {j : Nat} {p0 p1 p2 p3 p4 p5 p6 p7 p8 p9 pa pb pc pd : Pos} :
    GivesTo X ["action", "found", "error"] x (defScope s_law_caught) g cdg [.Assign [.Name "found" p0] (.Constant .none j p1) p2, .Try [.Expr (.Call (.Name "action" p3) [] [] p4) p5] [.ExceptHandler (some (.Name "KeptError" p6)) (some "error") [.Assign [.Name "found" p7] (.Name "error" p8) p9] pa] [] [] pb, .Return (some (.Name "found" pc)) pd] "action" q (TCaught X.K CS) := by
  intro f c' s H Q tl act hc h
  have nd := sc_law_caught.nd
  have hgl : Gl (cxOf C8.CX0 X.prog X.w X.K X.mg X.base ["action", "found", "error"] x (defScope s_law_caught) g cdg X.A X.stack s H C8.E0).nox "KeptError" := by rfl
  refine ⟨_, pss_cons (ps_set (i := 1) nd rfl (.inl rfl) pe_non) (pss_cons (ps_try_keep (X := (cxOf C8.CX0 X.prog X.w X.K X.mg X.base ["action", "found", "error"] x (defScope s_law_caught) g cdg X.A X.stack s H C8.E0).nox) (i := 2) (n := "error") (c := .ref CS)
      (tb := fun W D σ H' => ∃ Ech : XK, (∀ cls d σ' H', Ech cls d H' → W cls d σ' H') ∧ σ[0]? = some (some (.ref f)) ∧ H' c' = some (CodeO c' q) ∧ tl Ech H' (fun _ H2 => D.nx σ H2)) (ts := fun a => tAsg (tVar 2) (gName 1))
      rfl rfl rfl nd rfl rfl ⟨hgl, by decide, .inl hme⟩ (fun W pn xe tk => ?_) (fun a oe pn => pss_one (ps_set (i := 1) nd rfl (.inl rfl) (pv 2)))) (pss_one (ps_ret (pv 1)))), ?_⟩
  · refine ⟨fun pins s' σ H' D I h' => ?_⟩
    obtain ⟨Ech, hW, h1, h2, h3⟩ := h'
    have hp := act W pn xe Ech p3 p4 tk hW
    exact (pss_one (ps_expr (pos := p5) hp)).run pins s' σ H' D I ⟨h1, h2, h3⟩
  · refine ⟨fun cls d H' => PySem.W.exmOne X.K cls (.ref CS) = some true ∧ d = none ∧ ∀ a, H' a = none → Q (.ref a) (upd H' a (ExR cls a)), fun cls d σ' H' ⟨e1, e2, e3⟩ => ⟨e1, e2, fun a ha hlen => ?_⟩, rfl, hc, ?_⟩
    · match σ', hlen with
      | [x0, x1, x2], _ => exact ⟨.ref a, rfl, fun hn => ⟨.ref a, rfl, e3 a ha⟩⟩
    · exact h _ fun v H' hq => ⟨.non, rfl, hq⟩
end Kx

set_option Elab.async false
set_option linter.all false
set_option maxRecDepth 100000
set_option maxHeartbeats 1000000
namespace Kx
open PySem PySem.Spec PyProof.Rows L2 Evl LamX
/-! ## defs whose code is known: lambdas stand in them -/
def FunC (K : PySem.W.Frag) (x : Str) (st : Stmt) (f c : Addr) (fd : FuncData) : Prop := ∃ (o1 : Value) (o2 : Option Addr) (kv dv mv : Value) (a1 : Option Addr) (t1 : Value) (sl : Array (Option Value)),
  fd = PySem.W.fnOf x x (defArgs st) (defBody st) (defScope st) .none kv dv mv a1 (.ref c) t1 ∧ K.lookup f = some ⟨o1, o2, .func fd, sl⟩ ∧ PySem.W.codeIn K (.ref c) x = true
theorem FunC.ok {P : Program} {w : World} {K : PySem.W.Frag} {mg : Str → Option Value} {base : Heap} {x : Str} {st : Stmt} {f c : Addr} {fd : FuncData} {N ps : List Str} {k : Nat} {sp : Sp} (F : FunC K x st f c fd) (S : FnScope N ps (defScope st)) (len : ∀ vs H Q E, sp vs H Q E → vs.length = ps.length)
    (hb : ∀ (A : Around) (outer : List Env) (s : Shared) (H : Hp) (vs : List V) (Q : VK) (E : XK), Room k (A.deeper (envOfC x (defScope st) s.heap.objs.size f (.ref c))) → sp vs H Q E →
      ∃ t, PSs (cxOf CX0 P w K mg base N x (defScope st) f (.ref c) A outer s H E).nox (defBody st) t ∧ t { nx := fun _ H' => Q .non H', rt := Q } (L2.start N vs) H) : FnOk P w K mg base CX0 (k + 1) f fd ps sp := by
  obtain ⟨o1, o2, kv, dv, mv, a1, t1, sl, rfl, lk, hc⟩ := F
  refine fn_of lk hc S len fun A outer s H vs Q E hr h => ?_
  obtain ⟨t, h1, h2⟩ := hb A outer s H vs Q E hr h
  exact ⟨t, h1.nox, h2⟩
/-! ## what stays when tables of lambdas grow -/
theorem TupS.xn {H H' : Hp} {a : Addr} {vs : List V} (h : TupS H a vs) (e : ExtN H H') : TupS H' a vs := let ⟨o, h1, h2⟩ := h; ⟨o, h1, e _ _ h2 fun ps z => by cases z⟩
mutual
theorem Rep.xn {H H' : Hp} (e : ExtN H H') : ∀ (d : D) (v : V), Rep H v d → Rep H' v d
  | _, _, .non => .non
  | _, _, .bl b => .bl b
  | _, _, .int i => .int i
  | _, _, .str s => .str s
  | _, _, .tup h r => .tup (h.xn e) (Reps.xn e _ _ r)
  | _, _, .lst h r => .lst (e _ _ h fun ps z => by cases z) (Reps.xn e _ _ r)
  | _, _, .dic h => .dic (e _ _ h fun ps z => by cases z)
theorem Reps.xn {H H' : Hp} (e : ExtN H H') : ∀ (ds : List D) (vs : List V), Reps H vs ds → Reps H' vs ds
  | _, _, .nil => .nil
  | _, _, .cons r t => .cons (Rep.xn e _ _ r) (Reps.xn e _ _ t)
end
theorem hid_xn {H H' : Hp} {sd sg : Addr} (e : ExtN H H') : ExtN (hid H sd sg) (hid H' sd sg) := fun a o h n => by
  unfold hid at h ⊢
  split at h
  · cases h
  · rename_i z
    rw [if_neg z]
    exact e a o h n
theorem Sta.xn {H H' : Hp} {sd sg sc : Addr} {b : Nat} (s : Sta H sd sg sc b) (e : ExtN H H') : Sta H' sd sg sc b :=
  let ⟨gs, cs, r, t, w, h1, h2⟩ := s
  ⟨gs, cs, r, t, ⟨e _ _ w.d fun ps z => (by cases z), e _ _ w.g fun ps z => (by cases z), e _ _ w.c fun ps z => (by cases z), w.ne⟩, h1, h2⟩
/-- isinstance of an error that is kept -/
def rIsK (K : PySem.W.Frag) : List V → Hp → VK → Prop := fun xs H Q => ∃ (a D C : Addr) (b : Bool), xs = [.ref a, .ref C] ∧ H a = some (ExR (.ref D) a) ∧ ExcC K D ∧ PySem.W.kitOne K (.ref D) (.ref C) = some b ∧ Q (.bl b) H
theorem call_isK {X : Cx} : CallR X (.builtin "isinstance") (rIsK X.K) := by
  intro pins s σ H xs us Q I r h
  obtain ⟨a, D, C, b, rfl, ha, EC, hk, q⟩ := h
  cases r with
  | cons rx rr => cases rr with
    | cons rt rr =>
      cases rr
      cases rx
      cases rt
      obtain ⟨⟨o, vs, hget, hz, hv⟩, _⟩ := I.hok a _ ha
      have J : PySem.W.InstAt s.heap a o D none := by
        obtain ⟨oc, od, oda, osl⟩ := o
        obtain ⟨h1, h2⟩ := hz
        dsimp only at h1 h2 hv
        subst h1 h2 hv
        exact ⟨hget, rfl, rfl, trivial⟩
      exact PySem.W.kia_one (PySem.W.handS_kitx_exc EC.hg EC.hk EC.hs EC.hd EC.ha EC.hn EC.ht EC.hm) I.kIn J hk (fun z => nomatch z) fun tk => ⟨.bl b, H, I.kept (t' := tk) fun _ _ z => z, rfl, q⟩
/-- an own error is caught by its root -/
theorem Txt.caught {K : PySem.W.Frag} {mg : Str → Option Value} (T : Txt K mg) {C : Addr} (h : PySem.W.subIn K (.ref C) (.ref T.c_KeptError) = some true) : PySem.W.exmOne K (.ref C) (.ref T.c_KeptError) = some true :=
  PySem.W.exm_ref T.E_KeptError.bx T.E_KeptError.ex.hd T.E_KeptError.ty h
end Kx

set_option Elab.async false
set_option linter.all false
set_option maxRecDepth 100000
set_option maxHeartbeats 300000
namespace Kx
open PySem PySem.Spec PyProof.Rows L2 Evl LamX
/-- isinstance of what was kept: an error, or None -/
def rIs2 (K : PySem.W.Frag) : List V → Hp → VK → Prop := fun xs H Q => rIsK K xs H Q ∨ rIsi K xs H Q
theorem call_is2 {X : Cx} : CallR X (.builtin "isinstance") (rIs2 X.K) := by
  intro pins s σ H xs us Q I r h
  rcases h with h | h
  · exact call_isK pins s σ H xs us Q I r h
  · exact call_isi pins s σ H xs us Q I r h
/-- the name of the lambdas there -/
def qLam : Str := (envOfC "_law_refused_right" (defScope s_law_refused_right) 0 0 .none).qual ++ ("<lambda>" : Str)
/-- what law_caught gives, by what the action does -/
def Kept (H : Hp) (x : V) (o : Out) : Prop := match o with
  | .ret _ => x = .non
  | .exc C => ∃ a, x = .ref a ∧ H a = some (ExR (.ref C) a)
theorem exR_ne {cls : Value} {a : Addr} (ps : Array Value) : ExR cls a ≠ .tbl ps := fun z => by
  unfold ExR at z
  cases z
theorem Kept.xn {H H' : Hp} {x : V} {o : Out} (k : Kept H x o) (e : ExtN H H') : Kept H' x o := by
  cases o with
  | ret z => exact k
  | exc C =>
    obtain ⟨a, h1, h2⟩ := k
    exact ⟨a, h1, e _ _ h2 fun ps => exR_ne ps⟩
theorem kept_go {K : PySem.W.Frag} {CS : Addr} {o : Out} {H1 : Hp} {Q R : VK} (hc : ∀ C, o = .exc C → PySem.W.exmOne K (.ref C) (.ref CS) = some true) (hR : ∀ v H', Q .non H' → R v H') (q : ∀ x H3, Ex H1 H3 → Kept H3 x o → Q x H3) :
    ∀ H2, Ex H1 H2 → outOk o H2 R (fun cls d H' => PySem.W.exmOne K cls (.ref CS) = some true ∧ d = none ∧ ∀ a, H' a = none → Q (.ref a) (upd H' a (ExR cls a))) := fun H2 e => by
  cases o with
  | ret z => exact hR z H2 (q .non H2 e rfl)
  | exc C => exact ⟨hc C rfl, rfl, fun a ha => q (.ref a) _ (e.trans (Ex.new ha)) ⟨a, rfl, upd_same⟩⟩
theorem caught_go {K : PySem.W.Frag} {CS : Addr} {tl : XK → Hp → VK → Prop} {o : Out} {H1 : Hp} {Q : VK} (hc : ∀ C, o = .exc C → PySem.W.exmOne K (.ref C) (.ref CS) = some true) (ht : ∀ (E : XK) (R : VK), (∀ z H2, o = .ret .non → Ex H1 H2 → R z H2) → (∀ H2, Ex H1 H2 → outOk o H2 R E) → tl E H1 R)
    (q : ∀ x H3, Ex H1 H3 → Kept H3 x o → Q x H3) : TCaught K CS tl H1 Q := fun R hR => ht _ R (fun z H2 eo e => hR z H2 (q .non H2 e (by rw [eo]; rfl))) (kept_go hc hR q)
def spRef (Tb : List (Addr × Str)) : Sp := fun vs H Q _ => ∃ h v d, vs = [h, v] ∧ Rep H v d ∧ d.Sz ∧ Tabs Tb H ∧ ∀ H', ExtN H H' → Tabs Tb H' → Q (.bl true) H'
theorem kept_upd {H : Hp} {x : V} {o : Out} {p : Addr} {xs ys : List V} (k : Kept H x o) (hp : H p = some (.lst xs)) : Kept (upd H p (.lst ys)) x o := by
  cases o with
  | ret z => exact k
  | exc C =>
    obtain ⟨a, h1, h2⟩ := k
    refine ⟨a, h1, (upd_ne fun z => ?_).trans h2⟩
    rw [z, hp] at h2
    have e := Option.some.inj h2
    unfold ExR at e
    cases e
theorem tabs_upd {Tb : List (Addr × Str)} {H : Hp} {p : Addr} {xs ys : List V} (t : Tabs Tb H) (hp : H p = some (.lst xs)) : Tabs Tb (upd H p (.lst ys)) := fun e he => by
  obtain ⟨ps, h1, h2, h3⟩ := t e he
  refine ⟨ps, (upd_ne fun z => ?_).trans h1, h2, fun pos cv hc => ?_⟩
  · rw [z, hp] at h1
    cases h1
  · obtain ⟨c, e1, e2⟩ := h3 pos cv hc
    refine ⟨c, e1, (upd_ne fun z => ?_).trans e2⟩
    rw [z, hp] at e2
    have e := Option.some.inj e2
    unfold CodeO at e
    cases e
section
variable {K : PySem.W.Frag} {σ : L2.St} {H : Hp} {te : TE} {x : V} {C D0 : Addr} {b : Bool}
theorem ev_isErr (h : Ev te σ H x) (k : Kept H x (.exc D0)) (EC : ExcC K D0) (hk : PySem.W.kitOne K (.ref D0) (.ref C) = some b) : Ev (tCB (rIs2 K) (tCons te (tCons (tC (.ref C)) tNil))) σ H (.bl b) := by
  obtain ⟨a, rfl, ha⟩ := k
  exact ev_cb (ea_cons h (ea_cons ev_c ea_nil)) fun H1 e Q q => .inl ⟨a, D0, C, b, rfl, e _ _ ha, EC, hk, q H1 (Ex.refl _)⟩
theorem ev_isNon {z : V} (h : Ev te σ H x) (k : Kept H x (.ret z)) (hk : PySem.W.kitOne K (.type "NoneType") (.ref C) = some b) : Ev (tCB (rIs2 K) (tCons te (tCons (tC (.ref C)) tNil))) σ H (.bl b) := by
  have e : x = .non := k
  subst e
  exact ev_cb (ea_cons h (ea_cons ev_c ea_nil)) fun H1 e Q q => .inr ⟨.non, .ref C, .type "NoneType", .ref C, b, rfl, .own C, .base .non, hk, q H1 (Ex.refl _)⟩
end
section
variable {P : Program} {w : World} {K : PySem.W.Frag} {mg : Str → Option Value} {base : Heap} (T : Txt K mg)
theorem ok_refused {c Pt : Addr} {Tb : List (Addr × Str)} (F : FunC K "_law_refused_right" s_law_refused_right T.a_law_refused_right c T.d_law_refused_right) (TB : TabB base mg c Pt) (hm : (Pt, qLam) ∈ Tb) (hu : ∀ p ∈ Tb, p.1 = Pt → p.2 = qLam)
    (nB : PySem.W.kitOne K (.type "NoneType") (.ref T.c_BadBuilding) = some false) : FnOk P w K mg base CX0 10 T.a_law_refused_right T.d_law_refused_right ["house", "bad"] (spRef Tb) := by
  refine F.ok sc_law_refused_right (fun vs H Q E h => ?_) (fun A outer s H vs Q E hr h => ?_)
  · obtain ⟨h, v, d, rfl, _⟩ := h
    rfl
  · obtain ⟨h, v, d, rfl, hv, hz, hT, q⟩ := h
    have nd := sc_law_refused_right.nd
    obtain ⟨oc, od, kV, doc, pm, an, cdv, ct, osl, ed, lk, hcd⟩ := T.F_law_caught.ex
    have hb := b_law_caught T
    rw [ed] at hb lk
    have G1 : GivesTo (cxOf CX0 P w K mg base ["house", "bad", "caught"] "_law_refused_right" (defScope s_law_refused_right) T.a_law_refused_right (.ref c) A outer s H E).nox ["action", "found", "error"] "_law_caught" (defScope s_law_caught) T.a_law_caught cdv (defBody s_law_caught) "action" qLam (TCaught K T.c_KeptError) := caught_gives T.E_KeptError.g
    refine ⟨_, pss_cons (ps_set (i := 2) nd rfl (.inl rfl) (pe_lst (pa_cons (pe_lamcall (T := Tb) (k := 6) (TT := TCaught K T.c_KeptError) (t := fun E1 => tCall (spO (okAt T.c_BadBuilding T.c_BadDoor T.c_BadSide)) [] E1 (tCons (tVar 1) (tCons (tC (.str "d")) (tCons (tC (.int 0)) tNil)))) (by rfl) T.g_law_caught T.F_law_caught.kp lk hcd hb sc_law_caught rfl (.inl rfl) G1 TB rfl hm hu (hr.mono (by decide)) (lamS_by (by show lamSB (defScope s_law_refused_right) _ = true; decide +kernel)) rfl (fun _ _ _ _ _ => rfl)
        (fun A outer s H E f c' hr => pe_call (E := E) (ok_area_at T) hr (by rfl) T.g_area_at T.F_area_at.kp (b_area_at T) .nil (passes_call (takes_of rfl rfl rfl rfl) fun _ _ _ _ h => h) (pa_cons (pv 1) (pa_cons pe_str (pa_cons pe_int pa_nil))))) pa_nil)))
      (pss_cons (ps_expr (pe_bm PySem.F.plainAttrs_list PySem.F.slot_list_append PySem.F.type_list_append mt_append (pv 2) (pa_cons (pe_lamcall (T := Tb) (k := 6) (TT := TCaught K T.c_KeptError) (t := fun E1 => tCall (okJo T.c_BadBuilding) [] E1 (tCons (tVar 1) (tCons (tLst tNil) tNil))) (by rfl) T.g_law_caught T.F_law_caught.kp lk hcd hb sc_law_caught rfl (.inl rfl) G1 TB rfl hm hu (hr.mono (by decide)) (lamS_by (by show lamSB (defScope s_law_refused_right) _ = true; decide +kernel)) rfl (fun _ _ _ _ _ => rfl)
        (fun A outer s H E f c' hr => pe_call (E := E) (ok_joined T) hr (by rfl) T.g_joined T.F_joined.kp (b_joined T) .nil (passes_call (takes_of rfl rfl rfl rfl) fun _ _ _ _ h => h) (pa_cons (pv 1) (pa_cons (pe_lst pa_nil) pa_nil)))) pa_nil)))
      (pss_cons (ps_if (pt_val (pe_call (ok_is_housed T) (hr.mono (by decide)) (by rfl) T.g_law_is_housed T.F_law_is_housed.kp (b_law_is_housed T) .nil pass0 (pa_cons (pv 1) pa_nil)))
          (pss_one (ps_ret (pe_and (pe_not (pe_callB call_is2 (by rfl) T.z_isinstance bo_isinstance (pa_cons (pe_ix (r := rIxL K) ix_list (pv 2) pe_int (fun _ _ => rfl)) (pa_cons (pe_glob (v := .ref T.c_BadBuilding) (by rfl) T.E_BadBuilding.g rfl) pa_nil)))) (pe_one (pe_cmpR op_isN (pe_ix (r := rIxL K) ix_list (pv 2) pe_int (fun _ _ => rfl)) pe_non (nomark _)))))) pss_nil)
      (pss_one (ps_ret (pe_and (pe_callB call_is2 (by rfl) T.z_isinstance bo_isinstance (pa_cons (pe_ix (r := rIxL K) ix_list (pv 2) pe_int (fun _ _ => rfl)) (pa_cons (pe_glob (v := .ref T.c_BadBuilding) (by rfl) T.E_BadBuilding.g rfl) pa_nil))) (pe_one (pe_callB call_is2 (by rfl) T.z_isinstance bo_isinstance (pa_cons (pe_ix (r := rIxL K) ix_list (pv 2) pe_int (fun _ _ => rfl)) (pa_cons (pe_glob (v := .ref T.c_BadBuilding) (by rfl) T.E_BadBuilding.g rfl) pa_nil))))))))), ?_⟩
    have out1 : ∃ o1 : Out, (∀ H2 v2, v2 = v → Rep H2 v2 d → okAt T.c_BadBuilding T.c_BadDoor T.c_BadSide [v2, .str "d", .int 0] H2 o1) ∧ (d.bld = true → (∃ z, o1 = .ret z) ∨ o1 = .exc T.c_BadDoor) ∧ (d.bld = false → o1 = .exc T.c_BadBuilding) := by
      refine ⟨_, fun H2 v2 e r => ⟨v2, d, .str "d", .str "d", .int 0, .int 0, rfl, r, hz, .str _, .int _, rfl⟩, fun hb => ?_, fun hb => ?_⟩
      · rw [if_pos hb]
        by_cases hd : amD (.str "d") d.dn = true
        · rw [if_pos hd]
          exact .inl ⟨_, rfl⟩
        · rw [if_neg hd]
          exact .inr rfl
      · rw [if_neg (by rw [hb]; exact Bool.false_ne_true)]
    obtain ⟨o1, ok1, ot, of⟩ := out1
    have hc1 : ∀ C, o1 = .exc C → PySem.W.exmOne K (.ref C) (.ref T.c_KeptError) = some true := fun C e => by
      cases hb : d.bld with
      | true =>
        rcases ot hb with ⟨z, ez⟩ | ez
        · rw [ez] at e
          cases e
        · rw [ez] at e
          cases e
          exact T.caught T.u_BadDoor
      | false =>
        rw [of hb] at e
        cases e
        exact T.caught T.u_BadBuilding
    refine q_asgW (σ := [some h, some v, none]) ⟨hT, fun H1 e1 T1 => caught_go hc1 (fun E1 R _ k => ⟨v, rfl, o1, ok1 H1 v rfl (hv.xn e1), k⟩) fun x1 H3 e3 k1 => ⟨by show 1 ≤ sizeLine; rw [sizeLine_eq]; decide, fun p fp => ?_⟩⟩
    have E3 : ExtN H (upd H3 p (.lst [x1])) := e1.trans (ExtN.of (e3.trans (Ex.new fp)))
    have T3 := T1.ext (e3.trans (Ex.new fp) : Ex H1 (upd H3 p (.lst [x1])))
    have hp3 : (upd H3 p (.lst [x1])) p = some (.lst [x1]) := upd_same
    have k3 := k1.xn (ExtN.of (Ex.new (o := .lst [x1]) fp))
    generalize upd H3 p (.lst [x1]) = H4 at E3 T3 hp3 k3
    let o2 : Out := if d.bld = true then .ret .non else .exc T.c_BadBuilding
    have hc2 : ∀ C, o2 = .exc C → PySem.W.exmOne K (.ref C) (.ref T.c_KeptError) = some true := fun C e => by
      show _
      by_cases hb : d.bld = true
      · rw [show o2 = .ret .non from if_pos hb] at e
        cases e
      · rw [show o2 = .exc T.c_BadBuilding from if_neg hb] at e
        cases e
        exact T.caught T.u_BadBuilding
    refine ⟨.ref p, rfl, .inl ⟨rfl, _, .of hp3⟩, T3, fun H5 e5 T5 => caught_go (o := o2) hc2 (fun E1 R kz k => ⟨v, rfl, Nat.zero_le _, fun p6 f6 => ⟨v, d, p6, rfl, (hv.xn (E3.trans e5)).up (Ex.new f6), hz, upd_same, fun hb z H8 e8 => ?_, fun hb H8 e8 => ?_⟩⟩) fun x2 H7 e7 k7 => ?_⟩
    · exact kz z H8 (if_pos hb) ((Ex.new f6).trans e8)
    · have g := k H8 ((Ex.new f6).trans e8)
      rw [show o2 = .exc T.c_BadBuilding from if_neg (by rw [hb]; exact Bool.false_ne_true)] at g
      exact g
    · have hp7 := e7 _ _ (e5 _ _ hp3 fun ps z => by cases z)
      have k7a := (k3.xn e5).xn (ExtN.of e7)
      have EA : ExtN H H7 := (E3.trans e5).trans (ExtN.of e7)
      have T7 := T5.ext e7
      refine ⟨p, [x1], x2, rfl, rfl, hp7, by show 1 < sizeLine; rw [sizeLine_eq]; decide, ?_⟩
      have np : ∀ b o, H b = some o → (∀ ps, o ≠ .tbl ps) → b ≠ p := fun b o hb nt z => by
        have := (e1.trans (ExtN.of e3)) b o hb nt
        rw [z, fp] at this
        cases this
      have E8 : ExtN H (upd H7 p (.lst ([x1] ++ [x2]))) := fun b o hb nt => (upd_ne (np b o hb nt)).trans (EA b o hb nt)
      have T8 : Tabs Tb (upd H7 p (.lst ([x1] ++ [x2]))) := tabs_upd T7 hp7
      have hp8 : (upd H7 p (.lst ([x1] ++ [x2]))) p = some (.lst [x1, x2]) := upd_same
      have k8 : Kept (upd H7 p (.lst ([x1] ++ [x2]))) x1 o1 := kept_upd k7a hp7
      have k8b : Kept (upd H7 p (.lst ([x1] ++ [x2]))) x2 o2 := kept_upd k7 hp7
      generalize upd H7 p (.lst ([x1] ++ [x2])) = H8 at E8 T8 hp8 k8 k8b
      have fin : ∀ H9, Ex H8 H9 → Q (.bl true) H9 := fun H9 e9 => q H9 (E8.trans (ExtN.of e9)) (T8.ext e9)
      have i0 : ∀ {H9 : Hp}, Ex H8 H9 → Ev (tOp (rIxL K) (tVar 2) (tC (.int 0))) [some h, some v, some (.ref p)] H9 x1 := fun {H9} e9 => ev_op (ev_var rfl) ev_c (rv_ixL (.of (e9 _ _ hp8)) (atI_nat (j := 0) rfl))
      have i1 : ∀ {H9 : Hp}, Ex H8 H9 → Ev (tOp (rIxL K) (tVar 2) (tC (.int 1))) [some h, some v, some (.ref p)] H9 x2 := fun {H9} e9 => ev_op (ev_var rfl) ev_c (rv_ixL (.of (e9 _ _ hp8)) (atI_nat (j := 1) rfl))
      refine s_ifX (σ := [some h, some v, some (.ref p)]) (b := d.bld) (et_B (ev_sp stb_bld (ea_cons (ev_var rfl) ea_nil) ⟨v, d, rfl, hv.xn E8, hz, rfl⟩)) (fun hb H9 e9 => ?_) (fun hb H9 e9 => ?_)
      · have kb := k8b.xn (ExtN.of e9)
        rw [show o2 = .ret .non from if_pos hb] at kb
        have ex2 : x2 = .non := kb
        have n1 : Ev (tCB (rIs2 K) (tCons (tOp (rIxL K) (tVar 2) (tC (.int 0))) (tCons (tC (.ref T.c_BadBuilding)) tNil))) [some h, some v, some (.ref p)] H9 (.bl false) := by
          have ka := k8.xn (ExtN.of e9)
          rcases ot hb with ⟨z, ez⟩ | ez
          · rw [ez] at ka
            exact ev_isNon (i0 e9) ka nB
          · rw [ez] at ka
            exact ev_isErr (i0 e9) ka T.E_BadDoor.ex T.q_DB
        refine s_ret (v := .bl true) (ev_andV (a := !false) (b := true) (ev_notV n1) fun _ => ev_is (ev_op (i1 e9) ev_c fun H1 e1 Q1 k1 => ⟨rfl, k1 H1 (Ex.refl _)⟩) ?_) fun H10 e10 => fin H10 (e9.trans e10)
        rw [ex2]
        rfl
      · have kb := k8b.xn (ExtN.of e9)
        rw [show o2 = .exc T.c_BadBuilding from if_neg (by rw [hb]; exact Bool.false_ne_true)] at kb
        have ka := k8.xn (ExtN.of e9)
        rw [of hb] at ka
        exact s_ret (v := .bl true) (ev_andV (a := true) (b := true) (ev_isErr (i0 e9) ka T.E_BadBuilding.ex T.q_BB) fun _ => ev_isErr (i1 e9) kb T.E_BadBuilding.ex T.q_BB) fun H10 e10 => fin H10 (e9.trans e10)
end
end Kx

set_option Elab.async false
set_option linter.all false
set_option maxRecDepth 100000
set_option maxHeartbeats 1000000
namespace Kx
open PySem PySem.Spec PyProof.Rows L2 Evl LamX
/-! ## a call whose arguments are all told by name; 'x' * 8 -/
section
variable {X : Cx} {CX : CXT} {k : Nat} {f : Addr} {fd : FuncData} {ps ks : List Str} {sp : Sp} {E : XK} {x : Str} {p pos : Pos} {kws : List Keyword} {tk : TA} {g : List Value → List Value → List Value} {gV : List V → List V → List V}
theorem pe_named (F : FnOk X.prog X.w X.K X.mg X.base CX k f fd ps sp) (hr : Room k X.A) (hg : Gl X x) (hm : X.mg x = some (.ref f)) (hk : PySem.W.keepIn X.K (.ref f) = true) (hb : KBinds X.K fd ps ks g gV) (hx : Passes CX X E) (hkw : PK X kws tk)
    (all : (backToKw pos (keywordEach kws X.env)).all (·.1.isSome) = true := by rfl) (eks : (backToKw pos (keywordEach kws X.env)).filterMap (·.1) = ks := by rfl) (nd : (x == ("__debug__" : Str)) = false := by decide)
    (pl : ((backTo pos (starEach [] X.env)).any (·.1) || (backToKw pos (keywordEach kws X.env)).any (·.1.isNone)) = false := by rfl) : PE X (.Call (.Name x p) [] kws pos) (tCallK sp gV E tNil tk) where
  run := fun pins s σ H Q I h => wpAny_Call_Name_kw <| ld_glob I hg hm (PySem.W.callWith_KW0 (h₀ := X.base) I.ok.mod.kin hk all (thn (hkw.run pos pins s σ H _ I h) fun ws u hu => by
    obtain ⟨zs, H2, J, rz, q⟩ := hu
    refine ⟨J.kIn, ?_⟩
    rw [eks]
    exact run_fnk F hr hb hx J .nil rz q) pl) nd
def rX8 : R2 := fun x y H Q => x = .str "x" ∧ y = .int 8 ∧ Q (.str "xxxxxxxx") H
theorem op_x8 : OpR X (binaryOp .Mult) rX8 := by
  intro pins s σ H x y v u Q I rx ry h
  obtain ⟨rfl, rfl, q⟩ := h
  obtain ⟨t, rfl⟩ := rx
  obtain ⟨t', rfl⟩ := ry
  refine PySem.P.mul_str (by decide) (fun _ _ => by decide) (fun _ _ => by decide) ?_
  exact ⟨by decide, .str "xxxxxxxx", H, I.tok _, ⟨_, rfl⟩, q⟩
theorem rv_x8 {H : Hp} : RV rX8 (.str "x") (.int 8) H (.str "xxxxxxxx") := fun H1 e Q q => ⟨rfl, rfl, q H1 (Ex.refl _)⟩
end
section
variable {σ : L2.St} {H : Hp} {ta : TA} {z : V} {ok : OkO} {vs : List V} {E : XK}
/-- a call that gives a value, of a def that may raise -/
theorem ev_callO (h : EvA ta σ H vs) (hk : ∀ H1, Ex H H1 → ok vs H1 (.ret z)) : Ev (tCall (spO ok) [] E ta) σ H z := fun H1 e Q q => h H1 e _ fun H2 e2 => by
  rw [List.append_nil]
  exact ⟨.ret z, hk H2 (e.trans e2), fun H3 e3 => q H3 (e2.trans e3)⟩
theorem ev_callOK {gV : List V → List V → List V} {zs : List V} (h : EvA ta σ H zs) (hk : ∀ H1, Ex H H1 → ok (gV [] zs) H1 (.ret z)) : Ev (tCallK (spO ok) gV E tNil ta) σ H z := fun H1 e Q q => h H1 e _ fun H2 e2 =>
  ⟨.ret z, hk H2 (e.trans e2), fun H3 e3 => q H3 (e2.trans e3)⟩
end
/-- building, side, door as they are told, in the order of the parameters -/
def g3 {α : Type} (us ws : List α) : List α := match us, ws with
  | [], [a, b, c] => [a, c, b]
  | _, _ => []
def g1 {α : Type} (us ws : List α) : List α := match us, ws with
  | [], [a] => [a]
  | _, _ => []
section
variable {K : PySem.W.Frag} {mg : Str → Option Value}
theorem kb_area_at (T : Txt K mg) : KBinds K T.d_area_at ["building", "door", "side"] ["building", "side", "door"] g3 g3 where
  to := fun s us ws X hl => by
    obtain ⟨oc, od, kV, doc, pm, an, cdv, ct, osl, ed, lk, hcd⟩ := T.F_area_at.ex
    rw [ed]
    match us, ws, hl with
    | [], [a, b, c], _ => exact .of_eq rfl
  rel := fun {vs us zs ws} r rz => by
    cases r with
    | nil => cases rz with
      | nil => exact .nil
      | cons r1 rz => cases rz with
        | nil => exact .nil
        | cons r2 rz => cases rz with
          | nil => exact .nil
          | cons r3 rz => cases rz with
            | nil => exact .cons r1 (.cons r3 (.cons r2 .nil))
            | cons _ _ => exact .nil
    | cons _ _ => exact .nil
theorem kb_is_building (T : Txt K mg) : KBinds K T.d_is_building ["value"] ["value"] g1 g1 where
  to := fun s us ws X hl => by
    obtain ⟨oc, od, kV, doc, pm, an, cdv, ct, osl, ed, lk, hcd⟩ := T.F_is_building.ex
    rw [ed]
    match us, ws, hl with
    | [], [a], _ => exact .of_eq rfl
  rel := fun {vs us zs ws} r rz => by
    cases r with
    | nil => cases rz with
      | nil => exact .nil
      | cons r1 rz => cases rz with
        | nil => exact .cons r1 .nil
        | cons _ _ => exact .nil
    | cons _ _ => exact .nil
end
end Kx

set_option Elab.async false
set_option linter.all false
set_option maxRecDepth 100000
set_option maxHeartbeats 400000
namespace Kx
open PySem PySem.Spec PyProof.Rows L2 Evl LamX
def qLam2 : Str := (envOfC "_law_sides_right" (defScope s_law_sides_right) 0 0 .none).qual ++ ("<lambda>" : Str)
def spSides (Tb : List (Addr × Str)) : Sp := fun vs H Q _ => ∃ (sd sg sc : Addr) (b : Nat) (v : V) (d : D), vs = [.ref sd, v] ∧ Rep H v d ∧ d.bld = true ∧ d.imm = true ∧ d.Sz ∧ Sta H sd sg sc (b + 2) ∧ Tabs Tb H ∧
  ∀ H', Sta H' sd sg sc b → Tp H H' → Tabs Tb H' → Q (.bl true) H'
theorem IsB.area {d : D} {as : List Str} {es : List D} {ks : List Str} {rs : List D} (B : IsB d as es ks rs) {i : Nat} {n a1 b1 s1 : Str} (h : es[i]? = some (.tup [.str n, .str a1, .str b1, .str s1])) : n ∈ d.dn ∧ d.areaAt n 0 = a1 ∧ d.areaAt n 1 = b1 := by
  have hn : d.dn[i]? = some n := by
    rw [B.dn, List.getElem?_map, h]
    rfl
  have nd : d.dn.Nodup := B.dn ▸ B.en
  have hi : d.dn.idxOf n = i := by
    obtain ⟨hlt, e⟩ := List.getElem?_eq_some_iff.mp hn
    rw [← e]
    exact nd.idxOf_getElem i hlt
  have e2 : (d.item 2).item i = .tup [.str n, .str a1, .str b1, .str s1] := by
    rw [B.eq]
    show es.getD i .non = _
    rw [List.getD_eq_getElem?_getD, h]
    rfl
  refine ⟨List.mem_of_getElem? hn, ?_, ?_⟩
  · unfold D.areaAt
    rw [hi, e2]
    rfl
  · unfold D.areaAt
    rw [hi, e2]
    rfl
section
variable {cB cD cS : Addr} {H : Hp} {v x y : V} {d e f : D} {n : Str}
theorem okAt_ret {s : Int} (R : Rep H v d) (hz : d.Sz) (hb : d.bld = true) (hn : n ∈ d.dn) (hs : s = 0 ∨ s = 1) : okAt cB cD cS [v, .str n, .int s] H (.ret (.str (d.areaAt n s))) :=
  ⟨v, d, .str n, .str n, .int s, .int s, rfl, R, hz, .str _, .int _, by
    rw [if_pos hb, if_pos (show amD (.str n) d.dn = true from amg_iff.mpr hn)]
    rcases hs with rfl | rfl <;> rfl⟩
theorem okAt_door (R : Rep H v d) (hz : d.Sz) (hb : d.bld = true) (hx : Rep H x e) (he : amD e d.dn = false) (hy : Rep H y f) : okAt cB cD cS [v, x, y] H (.exc cD) :=
  ⟨v, d, x, e, y, f, rfl, R, hz, hx, hy, by rw [if_pos hb, if_neg (by rw [he]; exact Bool.false_ne_true)]⟩
theorem okAt_side (R : Rep H v d) (hz : d.Sz) (hb : d.bld = true) (hn : n ∈ d.dn) (hy : Rep H y f) (hf : isBetw f 0 1 = false) : okAt cB cD cS [v, .str n, y] H (.exc cS) :=
  ⟨v, d, .str n, .str n, y, f, rfl, R, hz, .str _, hy, by
    rw [if_pos hb, if_pos (show amD (.str n) d.dn = true from amg_iff.mpr hn)]
    cases f with
    | int s => dsimp only; rw [if_neg (by rw [hf]; exact Bool.false_ne_true)]
    | _ => rfl⟩
theorem tabs_exs {Tb : List (Addr × Str)} {H' : Hp} {sd sg sc : Addr} {b : Nat} (t : Tabs Tb H) (s : Sta H sd sg sc b) (X : ExS sd sg H H') : Tabs Tb H' := fun p hp => by
  obtain ⟨gs, cs, r, tt, w, _, _⟩ := s
  obtain ⟨ps, h1, h2, h3⟩ := t p hp
  refine ⟨ps, X _ _ h1 (ne_of h1 w.d (fun z => by cases z)) (ne_of h1 w.g (fun z => by cases z)), h2, fun pos cv hc => ?_⟩
  obtain ⟨c, e1, e2⟩ := h3 pos cv hc
  exact ⟨c, e1, X _ _ e2 (ne_of e2 w.d (fun z => by unfold CodeO at z; cases z)) (ne_of e2 w.g (fun z => by unfold CodeO at z; cases z))⟩
theorem ExtN.tp {H' : Hp} (e : ExtN H H') : Tp H H' := fun a o xs h => e _ _ h fun ps z => by cases z
end
theorem Sta.tph {H : Hp} {sd sg sc : Addr} {b : Nat} (s : Sta H sd sg sc b) : Tp H (hid H sd sg) := fun a o xs h =>
  let ⟨_, _, _, _, w, _, _⟩ := s; hid_at h (ne_of h w.d (fun z => by cases z)) (ne_of h w.g (fun z => by cases z))
/-- no door of this name -/
theorem no_door {d : D} {as : List Str} {es : List D} {ks : List Str} {rs : List D} (B : IsB d as es ks rs) {s : Str} (h : nmS s = false) : amD (.str s) d.dn = false := by
  cases e : amD (.str s) d.dn with
  | false => rfl
  | true =>
    have m := amg_iff.mp (show amg s d.dn = true from e)
    rw [B.dn] at m
    obtain ⟨x, hx, ex⟩ := List.mem_map.mp m
    obtain ⟨n, a1, b1, s1, rfl, hn, _⟩ := dr_shape (B.ed x hx)
    have e2 : n = s := ex
    rw [← e2, hn] at h
    cases h
theorem nm_add {n : Str} : nmS (n ++ "xxxxxxxx") = (decide (n.length = 0) && nmS (n ++ "xxxxxxxx")) := by
  by_cases h : n.length = 0
  · rw [decide_eq_true h, Bool.true_and]
  · rw [decide_eq_false h, Bool.false_and]
    unfold nmS
    have l : (n ++ ("xxxxxxxx" : Str)).length = n.length + 8 := by
      show (n.cps ++ ("xxxxxxxx" : Str).cps).size = _
      rw [Array.size_append]
      rfl
    rw [l, decide_eq_false (show ¬ n.length + 8 ≤ 8 by omega), Bool.and_false, Bool.false_and, Bool.false_and]
section
variable {P : Program} {w : World} {K : PySem.W.Frag} {mg : Str → Option Value} {base : Heap} (T : Txt K mg)
theorem ok_sides {c Pt : Addr} {Tb : List (Addr × Str)} (F : FunC K "_law_sides_right" s_law_sides_right T.a_law_sides_right c T.d_law_sides_right) (TB : TabB base mg c Pt) (hm : (Pt, qLam2) ∈ Tb) (hu : ∀ p ∈ Tb, p.1 = Pt → p.2 = qLam2) :
    FnOk P w K mg base CX0 10 T.a_law_sides_right T.d_law_sides_right ["state", "house"] (spSides Tb) := by
  refine F.ok sc_law_sides_right (fun vs H Q E h => ?_) (fun A outer s H vs Q E hr h => ?_)
  · obtain ⟨sd, sg, sc, b, v, d, rfl, _⟩ := h
    rfl
  · obtain ⟨sd, sg, sc, b, v, d, rfl, hv, hb, him, hz, hS, hT, q⟩ := h
    have nd := sc_law_sides_right.nd
    obtain ⟨oc, od, kV, doc, pm, an, cdv, ct, osl, ed, lk, hcd⟩ := T.F_law_caught.ex
    have hbd := b_law_caught T
    rw [ed] at hbd lk
    have G1 : GivesTo (cxOf CX0 P w K mg base ["state", "house", "name", "one", "other", "sort", "odd", "side", "caught"] "_law_sides_right" (defScope s_law_sides_right) T.a_law_sides_right (.ref c) A outer s H E).nox ["action", "found", "error"] "_law_caught" (defScope s_law_caught) T.a_law_caught cdv (defBody s_law_caught) "action" qLam2 (TCaught K T.c_KeptError) := caught_gives T.E_KeptError.g
    refine ⟨_, pss_cons (ps_for PassesOwn.never rfl (pi_tup (pe_ix (r := rIxT K) ix_tup (pv 1) pe_int (fun _ _ => rfl)))
        (pg_tup rfl (pgs_cons (pg_name (i := 2) nd rfl (.inr rfl)) (pgs_cons (pg_name (i := 3) nd rfl (.inl rfl)) (pgs_cons (pg_name (i := 4) nd rfl (.inl rfl)) (pgs_cons (pg_name (i := 5) nd rfl (.inl rfl)) pgs_nil)))))
        (pss_one (ps_if (PW.pt (pw_or (pt_cmpR op_ne (pe_call (E := fun _ _ _ => False) (ok_area_at T) (hr.mono (by decide)) (by rfl) T.g_area_at T.F_area_at.kp (b_area_at T) .nil (passes_call L2.takes0 fun _ _ _ _ h => h) (pa_cons (pv 1) (pa_cons (pv 2) (pa_cons pe_int pa_nil)))) (pv 3) (nomark _))
            (pw_or1 (pt_cmpR op_ne (pe_named (E := fun _ _ _ => False) (ok_area_at T) (hr.mono (by decide)) (by rfl) T.g_area_at T.F_area_at.kp (kb_area_at T) (passes_call L2.takes0 fun _ _ _ _ h => h) (pk_cons (pv 1) (pk_cons pe_int (pk_cons (pv 2) pk_nil)))) (pv 4) (nomark _))))) (pss_one (ps_ret pe_bl)) pss_nil)))
      (pss_cons (ps_set (i := 2) nd rfl (.inr rfl) (pe_ix (r := rIxT K) ix_tup (pe_ix (r := rIxT K) ix_tup (pe_ix (r := rIxT K) ix_tup (pv 1) pe_int (fun _ _ => rfl)) pe_int (fun _ _ => rfl)) pe_int (fun _ _ => rfl)))
      (pss_cons (ps_set (i := 6) nd rfl (.inr rfl) (pe_call (ok_pickL T) (hr.mono (by decide)) (by rfl) T.g_law_pick T.F_law_pick.kp (b_law_pick T) .nil pass0 (pa_cons (pv 0) (pa_cons (pe_lst (pa_cons pe_non (pa_cons pe_str (pa_cons (pe_op op_add_str (pv 2) (pe_op op_x8 pe_str pe_int)) (pa_cons pe_int (pa_cons (pe_lst (pa_cons (pv 2) pa_nil)) (pa_cons (pe_ix (r := rIxT K) ix_tup (pe_ix (r := rIxT K) ix_tup (pv 1) pe_int (fun _ _ => rfl)) pe_int (fun _ _ => rfl)) (pa_cons pe_str pa_nil)))))))) pa_nil))))
      (pss_cons (ps_set (i := 7) nd rfl (.inr rfl) (pe_call (ok_pickL T) (hr.mono (by decide)) (by rfl) T.g_law_pick T.F_law_pick.kp (b_law_pick T) .nil pass0 (pa_cons (pv 0) (pa_cons (pe_lst (pa_cons pe_int (pa_cons (pe_un un_neg pe_int) (pa_cons pe_non (pa_cons pe_bl (pa_cons pe_bl (pa_cons pe_str (pa_cons (pe_op op_pow pe_int pe_int) (pa_cons (pe_tupF (pa_cons pe_int pa_nil)) pa_nil))))))))) pa_nil))))
      (pss_cons (ps_set (i := 8) nd rfl (.inl rfl) (pe_lst (pa_cons (pe_lamcall (T := Tb) (k := 6) (TT := TCaught K T.c_KeptError) (t := fun E1 => tCall (spO (okAt T.c_BadBuilding T.c_BadDoor T.c_BadSide)) [] E1 (tCons (tVar 1) (tCons (tVar 6) (tCons (tVar 7) tNil)))) (by rfl) T.g_law_caught T.F_law_caught.kp lk hcd hbd sc_law_caught rfl (.inl rfl) G1 TB rfl hm hu (hr.mono (by decide)) (lamS_by (by show lamSB (defScope s_law_sides_right) _ = true; decide +kernel)) rfl (fun _ _ _ _ _ => rfl)
        (fun A outer s H E f c' hr => pe_call (E := E) (ok_area_at T) hr (by rfl) T.g_area_at T.F_area_at.kp (b_area_at T) .nil (passes_call (takes_of rfl rfl rfl rfl) fun _ _ _ _ h => h) (pa_cons (pv 1) (pa_cons (pv 6) (pa_cons (pv 7) pa_nil))))) pa_nil)))
      (pss_cons (ps_expr (pe_bm PySem.F.plainAttrs_list PySem.F.slot_list_append PySem.F.type_list_append mt_append (pv 8) (pa_cons (pe_lamcall (T := Tb) (k := 6) (TT := TCaught K T.c_KeptError) (t := fun E1 => tCall (spO (okAt T.c_BadBuilding T.c_BadDoor T.c_BadSide)) [] E1 (tCons (tVar 1) (tCons (tVar 2) (tCons (tVar 7) tNil)))) (by rfl) T.g_law_caught T.F_law_caught.kp lk hcd hbd sc_law_caught rfl (.inl rfl) G1 TB rfl hm hu (hr.mono (by decide)) (lamS_by (by show lamSB (defScope s_law_sides_right) _ = true; decide +kernel)) rfl (fun _ _ _ _ _ => rfl)
        (fun A outer s H E f c' hr => pe_call (E := E) (ok_area_at T) hr (by rfl) T.g_area_at T.F_area_at.kp (b_area_at T) .nil (passes_call (takes_of rfl rfl rfl rfl) fun _ _ _ _ h => h) (pa_cons (pv 1) (pa_cons (pv 2) (pa_cons (pv 7) pa_nil))))) pa_nil)))
      (pss_one (ps_ret (pe_and (pe_callB call_is2 (by rfl) T.z_isinstance bo_isinstance (pa_cons (pe_ix (r := rIxL K) ix_list (pv 8) pe_int (fun _ _ => rfl)) (pa_cons (pe_glob (v := .ref T.c_BadDoor) (by rfl) T.E_BadDoor.g rfl) pa_nil))) (pe_one (pe_callB call_is2 (by rfl) T.z_isinstance bo_isinstance (pa_cons (pe_ix (r := rIxL K) ix_list (pv 8) pe_int (fun _ _ => rfl)) (pa_cons (pe_glob (v := .ref T.c_BadSide) (by rfl) T.E_BadSide.g rfl) pa_nil)))))))))))), ?_⟩
    obtain ⟨as, es, ks, rs, B⟩ := bld_is hb
    obtain ⟨a, vs, bb, ws, rfl, ha, h2, hbt, hbs⟩ := door_at B hv
    refine q_forT (xs := ws) (ev_ixT (j := 2) (ev_var rfl) ha h2) hbt.sq (fun i σ' H' => ∃ y2 y3 y4 y5, σ' = [some (.ref sd), some (.ref a), y2, y3, y4, y5, none, none, none] ∧ Ex H H') (fun H1 e1 => ⟨none, none, none, none, rfl, e1⟩)
      (fun i σ' H' _ hq => let ⟨_, _, _, _, _, e⟩ := hq; (hbt.up e).sq) (fun i x σ' H' hx hq => ?_) (fun σ' H' hq => ?_)
    · obtain ⟨y2, y3, y4, y5, rfl, e1⟩ := hq
      obtain ⟨e, he, r⟩ := hbs.get hx
      obtain ⟨n, a1, b1, s1, rfl, _⟩ := dr_shape (B.ed e (List.mem_of_getElem? he))
      obtain ⟨hn, ea, eb⟩ := B.area he
      obtain ⟨c, us, rfl, hc, hcs⟩ := (r.up e1).tupD
      have eu : us = [.str n, .str a1, .str b1, .str s1] := by
        cases hcs with
        | cons q0 hcs => cases hcs with
          | cons q1 hcs => cases hcs with
            | cons q2 hcs => cases hcs with
              | cons q3 hcs =>
                cases hcs
                rw [q0.strD, q1.strD, q2.strD, q3.strD]
      subst eu
      have R : Rep H' (.ref a) d := hv.up e1
      refine ⟨c, _, rfl, hc.sq, rfl, .str n, _, rfl, .str a1, _, rfl, .str b1, _, rfl, .str s1, _, rfl, rfl, ?_⟩
      refine s_if (b := false) (et_is (et_or (a := !decide (V.str (d.areaAt n 0) = V.str a1)) (b := !decide (V.str (d.areaAt n 1) = V.str b1)) (et_test (ev_op (ev_callO (ea_cons (ev_var rfl) (ea_cons (ev_var rfl) (ea_cons ev_c ea_nil))) fun H1 e => okAt_ret (R.up e) hz hb hn (.inl rfl)) (ev_var rfl) (rv_ne rfl))) fun _ =>
        et_test (ev_op (ev_callOK (ea_cons (ev_var rfl) (ea_cons ev_c (ea_cons (ev_var rfl) ea_nil))) fun H1 e => okAt_ret (R.up e) hz hb hn (.inr rfl)) (ev_var rfl) (rv_ne rfl))) ?_) (fun hf => by cases hf) (fun _ H1 e2 => ?_)
      · rw [ea, eb, decide_eq_true rfl, decide_eq_true rfl]
        rfl
      · exact ⟨_, _, _, _, rfl, e1.trans e2⟩
    · obtain ⟨y2, y3, y4, y5, rfl, e1⟩ := hq
      obtain ⟨e0, he0⟩ : ∃ e0, es[0]? = some e0 := ⟨es[0]'(by have := B.e1; omega), List.getElem?_eq_getElem _⟩
      obtain ⟨w0, hw0, r0⟩ := hbs.getD he0
      obtain ⟨n, a1, b1, s1, rfl, hnm, _⟩ := dr_shape (B.ed e0 (List.mem_of_getElem? he0))
      obtain ⟨hn, _, _⟩ := B.area he0
      have rt0 := r0
      obtain ⟨c0, us, rfl, hc, hcs⟩ := r0.tupD
      have hu0 : us[0]? = some (.str n) := by
        cases hcs with
        | cons q0 _ =>
          rw [q0.strD]
          rfl
      have nl := nm_len hnm
      refine s_asgX (v := .str n) (ev_ixT (j := 0) (ev_ixT (j := 0) (ev_ixT (j := 2) (ev_var rfl) (ha.up e1) h2) (hbt.up e1) hw0) (hc.up e1) hu0) fun H2 e2 => ?_
      have E2 := e1.trans e2
      have S2 := hS.up E2
      have ap2 := S2.ap
      refine q_asgW (σ := [some (.ref sd), some (.ref a), some (.str n), y3, y4, y5, none, none, none]) ⟨.ref sd, rfl, .str n, rfl, rfl, rfl, n, "xxxxxxxx", rfl, rfl, sz_of (by show n.length + 8 ≤ _; omega), .str n, rfl, by show 1 ≤ sizeLine; rw [sizeLine_eq]; decide, fun p1 f1 =>
        ⟨.ref a, rfl, a, vs, 2, .ref bb, rfl, rfl, ((ha.up E2).up (Ex.new f1)).sq, atI_nat (j := 2) h2, bb, ws, 0, .ref c0, rfl, rfl, ((hbt.up E2).up (Ex.new f1)).sq, atI_nat (j := 0) hw0, by show 7 ≤ sizeLine; rw [sizeLine_eq]; decide, fun p2 f2 => ?_⟩⟩
      have EA : Ex H2 (upd H2 p1 (.lst [.str n])) := Ex.new f1
      have tA : (upd H2 p1 (.lst [.str n])) p1 = some (.lst [.str n]) := upd_same
      obtain ⟨u1, v1⟩ := ap2.ne f1
      generalize upd H2 p1 (.lst [.str n]) = HA at EA tA f2 ⊢
      obtain ⟨u2, v2⟩ := (ap2.up EA).ne f2
      have SA := S2.up EA
      have rd0 : Rep (hid HA sd sg) (.ref c0) (.tup [.str n, .str a1, .str b1, .str s1]) := (rt0.up (E2.trans EA)).monoT SA.tph _ _ rfl
      have rl : Reps (hid HA sd sg) [.non, .str "any", .str (n ++ "xxxxxxxx"), .int 0, .ref p1, .ref c0, .str ""] [.non, .str "any", .str (n ++ "xxxxxxxx"), .int 0, .lst [.str n], .tup [.str n, .str a1, .str b1, .str s1], .str ""] :=
        .cons .non (.cons (.str _) (.cons (.str _) (.cons (.int _) (.cons (.lst (hid_at tA u1 v1) (.cons (.str _) .nil)) (.cons rd0 (.cons (.str _) .nil))))))
      have EB : Ex HA (upd HA p2 (.lst [.non, .str "any", .str (n ++ "xxxxxxxx"), .int 0, .ref p1, .ref c0, .str ""])) := Ex.new f2
      refine ⟨sd, sg, sc, b + 1, p2, [.non, .str "any", .str (n ++ "xxxxxxxx"), .int 0, .ref p1, .ref c0, .str ""], rfl, upd_same, u2, v2, by simp, by simp, (SA.up EB).less (by omega), fun j x H3 hx S3 X3 => ?_⟩
      have XB : ExS sd sg H H3 := (ExS.of ((E2.trans EA).trans EB)).trans X3
      have XA : ExS sd sg HA H3 := (ExS.of EB).trans X3
      obtain ⟨e, hex, rx⟩ := rl.get hx
      have rx3 := rx.up (hid_mono XA)
      have ne : amD e d.dn = false := by
        have m := List.mem_of_getElem? hex
        simp only [List.mem_cons, List.not_mem_nil, or_false] at m
        rcases m with rfl | rfl | rfl | rfl | rfl | rfl | rfl
        · rfl
        · exact no_door B (by decide)
        · refine no_door B ?_
          rw [nm_add, decide_eq_false (fun z => ?_), Bool.false_and]
          unfold nmS at hnm
          rw [z] at hnm
          simp at hnm
        · rfl
        · rfl
        · rfl
        · exact no_door B (by decide)
      generalize upd HA p2 (.lst [.non, .str "any", .str (n ++ "xxxxxxxx"), .int 0, .ref p1, .ref c0, .str ""]) = HB at EB X3
      have ap3 := S3.ap
      refine q_asgW (σ := [some (.ref sd), some (.ref a), some (.str n), y3, y4, y5, some x, none, none]) ⟨.ref sd, rfl, 1, rfl, 10, 40, rfl, rfl, ⟨by decide, by decide, by decide⟩, by show 1 ≤ sizeLine; rw [sizeLine_eq]; decide, fun p3 o3 f3 d3 => ⟨by show 8 ≤ sizeLine; rw [sizeLine_eq]; decide, fun p4 f4 => ?_⟩⟩
      have EC : Ex H3 (upd H3 p3 (.frz o3 (.tup [.int 0]))) := Ex.new f3
      have tC3 : (upd H3 p3 (.frz o3 (.tup [.int 0]))) p3 = some (.frz o3 (.tup [.int 0])) := upd_same
      obtain ⟨u3, v3⟩ := ap3.ne f3
      generalize upd H3 p3 (.frz o3 (.tup [.int 0])) = HC at EC tC3 f4 ⊢
      obtain ⟨u4, v4⟩ := (ap3.up EC).ne f4
      have rs2 : Reps (hid HC sd sg) [.int 2, .int (-1), .non, .bl true, .bl false, .str "0", .int ((10 : Int) ^ (40 : Int).toNat), .ref p3] [.int 2, .int (-1), .non, .bl true, .bl false, .str "0", .int ((10 : Int) ^ (40 : Int).toNat), .tup [.int 0]] :=
        .cons (.int _) (.cons (.int _) (.cons .non (.cons (.bl _) (.cons (.bl _) (.cons (.str _) (.cons (.int _) (.cons (.tup ⟨o3, d3, hid_at tC3 u3 v3⟩ (.cons (.int _) .nil)) .nil)))))))
      have ED : Ex HC (upd HC p4 (.lst [.int 2, .int (-1), .non, .bl true, .bl false, .str "0", .int ((10 : Int) ^ (40 : Int).toNat), .ref p3])) := Ex.new f4
      refine ⟨sd, sg, sc, b, p4, [.int 2, .int (-1), .non, .bl true, .bl false, .str "0", .int ((10 : Int) ^ (40 : Int).toNat), .ref p3], rfl, upd_same, u4, v4, by simp, by simp, S3.up (EC.trans ED), fun j2 y H5 hy S5 X5 => ?_⟩
      have XC : ExS sd sg HC H5 := (ExS.of ED).trans X5
      have X35 : ExS sd sg H3 H5 := (ExS.of EC).trans XC
      have XH : ExS sd sg H H5 := XB.trans X35
      obtain ⟨f, hfy, ry⟩ := rs2.get hy
      have ry5 : Rep H5 y f := (ry.up (hid_mono XC)).up hid_ex
      have rx5 : Rep H5 x e := (rx3.up (hid_mono X35)).up hid_ex
      have nf : isBetw f 0 1 = false := by
        have m := List.mem_of_getElem? hfy
        simp only [List.mem_cons, List.not_mem_nil, or_false] at m
        rcases m with rfl | rfl | rfl | rfl | rfl | rfl | rfl | rfl <;> first | rfl | decide +kernel
      generalize upd HC p4 (.lst [.int 2, .int (-1), .non, .bl true, .bl false, .str "0", .int ((10 : Int) ^ (40 : Int).toNat), .ref p3]) = HD at ED X5
      have TP : Tp H H5 := hS.tp XH
      have R5 : Rep H5 (.ref a) d := hv.monoT TP _ _ him
      have T5 : Tabs Tb H5 := tabs_exs hT hS XH
      have hcD : ∀ C, Out.exc T.c_BadDoor = .exc C → PySem.W.exmOne K (.ref C) (.ref T.c_KeptError) = some true := fun C e => by
        cases e
        exact T.caught T.u_BadDoor
      have hcS : ∀ C, Out.exc T.c_BadSide = .exc C → PySem.W.exmOne K (.ref C) (.ref T.c_KeptError) = some true := fun C e => by
        cases e
        exact T.caught T.u_BadSide
      refine q_asgW (σ := [some (.ref sd), some (.ref a), some (.str n), y3, y4, y5, some x, some y, none]) ⟨T5, fun H6 e6 T6 => caught_go (o := .exc T.c_BadDoor) hcD (fun E1 R _ k => ⟨.ref a, rfl, x, rfl, y, rfl, .exc T.c_BadDoor, okAt_door (R5.xn e6) hz hb (rx5.xn e6) ne (ry5.xn e6), k⟩) fun x1 H7 e7 k1 => ⟨by show 1 ≤ sizeLine; rw [sizeLine_eq]; decide, fun p fp => ?_⟩⟩
      have E8 : ExtN H5 (upd H7 p (.lst [x1])) := e6.trans (ExtN.of (e7.trans (Ex.new fp)))
      have T8 := T6.ext (e7.trans (Ex.new fp) : Ex H6 (upd H7 p (.lst [x1])))
      have hp8 : (upd H7 p (.lst [x1])) p = some (.lst [x1]) := upd_same
      have k8 := k1.xn (ExtN.of (Ex.new (o := .lst [x1]) fp))
      have np : ∀ q o, H5 q = some o → (∀ ps, o ≠ .tbl ps) → q ≠ p := fun q o hq nt z => by
        have := (e6.trans (ExtN.of e7)) q o hq nt
        rw [z, fp] at this
        cases this
      generalize upd H7 p (.lst [x1]) = H8 at E8 T8 hp8 k8
      refine ⟨.ref p, rfl, .inl ⟨rfl, _, .of hp8⟩, T8, fun H9 e9 T9 => caught_go (o := .exc T.c_BadSide) hcS (fun E1 R _ k => ⟨.ref a, rfl, .str n, rfl, y, rfl, .exc T.c_BadSide, okAt_side (R5.xn (E8.trans e9)) hz hb hn (ry5.xn (E8.trans e9)) nf, k⟩) fun x2 H10 e10 k2 => ?_⟩
      have hp10 := e10 _ _ (e9 _ _ hp8 fun ps z => by cases z)
      have k10 := (k8.xn e9).xn (ExtN.of e10)
      have EF : ExtN H5 H10 := (E8.trans e9).trans (ExtN.of e10)
      have T10 := T9.ext e10
      refine ⟨p, [x1], x2, rfl, rfl, hp10, by show 1 < sizeLine; rw [sizeLine_eq]; decide, ?_⟩
      have EG : ExtN H5 (upd H10 p (.lst ([x1] ++ [x2]))) := fun q o hq nt => (upd_ne (np q o hq nt)).trans (EF q o hq nt)
      have TG : Tabs Tb (upd H10 p (.lst ([x1] ++ [x2]))) := tabs_upd T10 hp10
      have hpG : (upd H10 p (.lst ([x1] ++ [x2]))) p = some (.lst [x1, x2]) := upd_same
      have kG1 : Kept (upd H10 p (.lst ([x1] ++ [x2]))) x1 (.exc T.c_BadDoor) := kept_upd k10 hp10
      have kG2 : Kept (upd H10 p (.lst ([x1] ++ [x2]))) x2 (.exc T.c_BadSide) := kept_upd k2 hp10
      generalize upd H10 p (.lst ([x1] ++ [x2])) = HG at EG TG hpG kG1 kG2
      have i0 : ∀ {H9 : Hp}, Ex HG H9 → Ev (tOp (rIxL K) (tVar 8) (tC (.int 0))) [some (.ref sd), some (.ref a), some (.str n), y3, y4, y5, some x, some y, some (.ref p)] H9 x1 := fun {H9} e9 => ev_op (ev_var rfl) ev_c (rv_ixL (.of (e9 _ _ hpG)) (atI_nat (j := 0) rfl))
      have i1 : ∀ {H9 : Hp}, Ex HG H9 → Ev (tOp (rIxL K) (tVar 8) (tC (.int 1))) [some (.ref sd), some (.ref a), some (.str n), y3, y4, y5, some x, some y, some (.ref p)] H9 x2 := fun {H9} e9 => ev_op (ev_var rfl) ev_c (rv_ixL (.of (e9 _ _ hpG)) (atI_nat (j := 1) rfl))
      refine s_ret (σ := [some (.ref sd), some (.ref a), some (.str n), y3, y4, y5, some x, some y, some (.ref p)]) (v := .bl true) (ev_andV (a := true) (b := true) (ev_isErr (i0 (Ex.refl _)) kG1 T.E_BadDoor.ex T.q_DD) fun _ => ev_isErr (i1 (Ex.refl _)) kG2 T.E_BadSide.ex T.q_SS) fun HZ eZ => ?_
      exact q HZ ((S5.xn EG).up eZ) ((TP.trans (ExtN.tp EG)).trans (Ex.tp eZ)) (TG.ext eZ)
end
end Kx

set_option Elab.async false
set_option linter.all false
set_option maxRecDepth 100000
set_option maxHeartbeats 400000
namespace Kx
open PySem PySem.Spec PyProof.Rows L2 Evl LamX
theorem zs_tup {m : Nat} {ds : List D} (h : ds.length ≤ m) (h2 : ∀ d ∈ ds, d.Zs m) : (D.tup ds).Zs m := by unfold D.Zs; exact ⟨h, zss_iff.mpr h2⟩
theorem zs_str {m : Nat} {s : Str} (h : s.length ≤ m) : (D.str s).Zs m := by unfold D.Zs; exact h
/-- a building is at most three deep, and nothing in it is longer than 36 -/
theorem IsB.low {d : D} {as : List Str} {es : List D} {ks : List Str} {rs : List D} (h : IsB d as es ks rs) (hr : rs.length ≤ 36) : D.dp 3 d ∧ d.Zs 36 := by
  have ns : ∀ {x : D}, x ∈ es → ∃ m a b t, x = .tup [.str m, .str a, .str b, .str t] ∧ m.length ≤ 8 ∧ a.length ≤ 8 ∧ b.length ≤ 8 ∧ t.length ≤ 4 := fun {x} hx => by
    obtain ⟨m, a, b, t, e, hm, ha, hb, _, ht⟩ := dr_shape (h.ed x hx)
    exact ⟨m, a, b, t, e, nm_len hm, nm_len (h.av a ha), nm_len (h.av b hb), leaf_len ht⟩
  have rsh : ∀ {r : D}, r ∈ rs → ∃ k n s, r = .tup [.str k, .str n, .int s] ∧ k.length ≤ 8 ∧ n.length ≤ 8 := fun {r} hr => by
    obtain ⟨k, n, s, e, hk, hn, _⟩ := rt_shape (List.all_eq_true.mp h.rd r hr)
    refine ⟨k, n, s, e, nm_len (h.kv k hk), ?_⟩
    obtain ⟨x, hx, rfl⟩ := List.mem_map.mp hn
    obtain ⟨m, a, b, t, rfl, hm, _⟩ := dr_shape (h.ed x hx)
    exact nm_len hm
  have stx : ∀ (l : List Str) {x : D}, x ∈ l.map D.str → ∃ s ∈ l, x = .str s := fun l {x} hx => let ⟨s, hs, e⟩ := List.mem_map.mp hx; ⟨s, hs, e.symm⟩
  have leaf : ∀ {x : D} (n : Nat), x.ty ≠ "tuple" → D.dp n x := fun {x} n hx => dp_leaf hx n
  have a6 := h.a6
  have e6 := h.e6
  have k3 := h.k3
  rw [h.eq]
  constructor
  · intro ds e x hx
    injection e with e
    subst e
    simp only [List.mem_cons, List.not_mem_nil, or_false] at hx
    rcases hx with rfl | rfl | rfl | rfl | rfl
    · exact leaf _ (by simp [D.ty])
    · intro ds e x hx
      injection e with e
      subst e
      obtain ⟨s, _, rfl⟩ := stx _ hx
      exact leaf _ (by simp [D.ty])
    · intro ds e x hx
      injection e with e
      subst e
      obtain ⟨m, a, b, t, rfl, _⟩ := ns hx
      intro ds e x hx
      injection e with e
      subst e
      simp only [List.mem_cons, List.not_mem_nil, or_false] at hx
      rcases hx with rfl | rfl | rfl | rfl <;> exact leaf _ (by simp [D.ty])
    · intro ds e x hx
      injection e with e
      subst e
      obtain ⟨s, _, rfl⟩ := stx _ hx
      exact leaf _ (by simp [D.ty])
    · intro ds e x hx
      injection e with e
      subst e
      obtain ⟨k, n, s, rfl, _⟩ := rsh hx
      intro ds e x hx
      injection e with e
      subst e
      simp only [List.mem_cons, List.not_mem_nil, or_false] at hx
      rcases hx with rfl | rfl | rfl <;> exact leaf _ (by simp [D.ty])
  · refine zs_tup (by simp) fun d hd => ?_
    simp only [List.mem_cons, List.not_mem_nil, or_false] at hd
    rcases hd with rfl | rfl | rfl | rfl | rfl
    · exact zs_str (by decide)
    · refine zs_tup (by rw [List.length_map]; omega) fun x hx => ?_
      obtain ⟨s, hs, rfl⟩ := stx _ hx
      have := nm_len (h.av s hs)
      exact zs_str (by omega)
    · refine zs_tup (by omega) fun x hx => ?_
      obtain ⟨m, a, b, t, rfl, h1, h2, h3, h4⟩ := ns hx
      refine zs_tup (by simp) fun d hd => ?_
      simp only [List.mem_cons, List.not_mem_nil, or_false] at hd
      rcases hd with rfl | rfl | rfl | rfl <;> exact zs_str (by omega)
    · refine zs_tup (by rw [List.length_map]; omega) fun x hx => ?_
      obtain ⟨s, hs, rfl⟩ := stx _ hx
      have := nm_len (h.kv s hs)
      exact zs_str (by omega)
    · refine zs_tup hr fun x hx => ?_
      obtain ⟨k, n, s, rfl, h1, h2⟩ := rsh hx
      refine zs_tup (by simp) fun d hd => ?_
      simp only [List.mem_cons, List.not_mem_nil, or_false] at hd
      rcases hd with rfl | rfl | rfl
      · exact zs_str (by omega)
      · exact zs_str (by omega)
      · unfold D.Zs; trivial
section
variable {K : PySem.W.Frag} {σ : L2.St} {H : Hp} {te ta : TE} {t u : TT} {tu tz : TS} {D : Ends} {z : V}
/-- «if t or u», t false: then u has the word -/
theorem q_or (h : EvT t σ H false) (k : ∀ H1, Ex H H1 → u σ H1 fun b H2 => if b = true then tu { D with nx := tz D } σ H2 else tz D σ H2) : tSeq (tIfS (tOr t u) tu tNext) tz D σ H := h H (Ex.refl _) _ fun H1 e => iteF (k H1 e)
theorem s_or (h : EvT t σ H false) (k : ∀ H1, Ex H H1 → u σ H1 fun b H2 => if b = true then tu D σ H2 else D.nx σ H2) : tIfS (tOr t u) tu tNext D σ H := h H (Ex.refl _) _ fun H1 e => iteF (k H1 e)
/-- «if t: n = e», both ways go on from M -/
theorem q_ifM {i : Nat} {b : Bool} (M : L2.St → Hp → Prop) (k : ∀ σ' H', M σ' H' → tz D σ' H') (h : EvT t σ H b) (h1 : b = true → ∀ N : L2.St → Hp → Prop, (∀ σ' H', M σ' H' → N σ' H') → ∀ H1, Ex H H1 → te σ H1 fun x H2 => N (σ.set i (some x)) H2)
    (h2 : b = false → ∀ H1, Ex H H1 → M σ H1) : tSeq (tIfS t (tAsg te (gName i)) tNext) tz D σ H := s_ifX h (fun hb H1 e => h1 hb _ k H1 e) fun hb H1 e => k _ _ (h2 hb H1 e)
theorem ev_spK {ok : OkF} {E : XK} {tk : TA} {gV : List V → List V → List V} {zs : List V} (st : Stb ok) (h : EvA tk σ H zs) (hk : ok (gV [] zs) H z) : Ev (tCallK (spX ok) gV E tNil tk) σ H z := fun H1 e Q q => h H1 e _ fun H2 e2 =>
  ⟨z, st _ _ _ _ (e.trans e2) hk, fun H3 e3 => q H3 (e2.trans e3)⟩
theorem rv_isNotB {a b : Bool} : RV (fun x y H Q => ∃ a b, x = V.bl a ∧ y = V.bl b ∧ Q (.bl (!decide (a = b))) H) (.bl a) (.bl b) H (.bl (!decide (a = b))) := fun H1 e Q q => ⟨a, b, rfl, rfl, q H1 (Ex.refl _)⟩
end
theorem zs_szD {m : Nat} (h : m ≤ 1000) : ∀ {d : D}, d.Zs m → szD d ≤ 1000
  | .str s, z => by unfold D.Zs at z; show s.length ≤ 1000; omega
  | .non, _ | .bl _, _ | .tup _, _ | .int _, _ | .lst _, _ | .dic, _ => Nat.zero_le _
def spLaw (K : PySem.W.Frag) (Tb : List (Addr × Str)) : Sp := fun vs H Q _ => ∃ (l : Addr) (cells : List Int), vs = [.ref l] ∧ SqL K H l (iv cells) ∧ cells.length ≤ 63 ∧ Tabs Tb H ∧ ∀ H', Q (.bl true) H'
section
variable {P : Program} {w : World} {K : PySem.W.Frag} {mg : Str → Option Value} {base : Heap} (T : Txt K mg)
theorem ok_law {Tb : List (Addr × Str)} (hSides : FnOk P w K mg base CX0 10 T.a_law_sides_right T.d_law_sides_right ["state", "house"] (spSides Tb)) (hRef : FnOk P w K mg base CX0 10 T.a_law_refused_right T.d_law_refused_right ["house", "bad"] (spRef Tb)) :
    FnOk P w K mg base CX0 11 T.a_law T.d_law ["script"] (spLaw K Tb) := by
  refine T.F_law.ok sc_law (fun vs H Q E h => ?_) (fun cdv A outer s H vs Q E hr h => ?_)
  · obtain ⟨l, cells, rfl, _⟩ := h
    rfl
  · obtain ⟨l, cells, rfl, hl, hz, hT, q⟩ := h
    have nd := sc_law.nd
    have r1 : Room 1 (A.deeper (envOfC "law" (defScope s_law) s.heap.objs.size T.a_law cdv)) := hr.mono (by decide)
    have r4 : Room 4 (A.deeper (envOfC "law" (defScope s_law) s.heap.objs.size T.a_law cdv)) := hr.mono (by decide)
    refine ⟨_, pss_cons (ps_set (i := 1) nd rfl (.inl rfl) (pe_call (ok_begun T) r1 (by rfl) T.g_law_begun T.F_law_begun.kp (b_law_begun T) .nil pass0 (pa_cons (pv 0) pa_nil)))
      (pss_cons (ps_for PassesOwn.never rfl (pi_range1 (by rfl) T.z_range (pa_cons (pe_op op_add pe_int (pe_callB (call_min2 (by rfl)) (by rfl) T.z_min bo_min (pa_cons (pe_callB call_len_seq (by rfl) T.z_len bo_len (pa_cons (pv 0) pa_nil)) (pa_cons pe_int pa_nil)))) pa_nil)) (pg_name (i := 2) nd rfl (.inl rfl))
        (pss_cons (ps_set (i := 3) nd rfl (.inl rfl) (pe_call (ok_house T) (hr.mono (by decide)) (by rfl) T.g_law_house T.F_law_house.kp (b_law_house T) .nil pass0 (pa_cons (pv 1) pa_nil)))
        (pss_cons (ps_if (PW.pt (pw_or (pt_cmpR op_isnot_bl (pe_call (ok_is_building T) r4 (by rfl) T.g_is_building T.F_is_building.kp (b_is_building T) .nil pass0 (pa_cons (pv 3) pa_nil)) pe_bl (nomark _))
            (pw_or1 (pt_not (pt_val (pe_call hSides hr (by rfl) T.g_law_sides_right T.F_law_sides_right.kp (b_law_sides_right T) .nil pass0 (pa_cons (pv 1) (pa_cons (pv 3) pa_nil)))))))) (pss_one (ps_ret pe_bl)) pss_nil)
        (pss_cons (ps_for PassesOwn.never rfl (pi_range1 (by rfl) T.z_range (pa_cons pe_int pa_nil)) (pg_name (i := 4) nd rfl (.inl rfl))
          (pss_cons (ps_set (i := 5) nd rfl (.inl rfl) (pe_call (ok_bent T 3) (hr.mono (by decide)) (by rfl) T.g_law_bent T.F_law_bent.kp (b_law_bent T) .nil pass0 (pa_cons (pv 1) (pa_cons (pv 3) pa_nil))))
          (pss_cons (ps_if (pt_cmpR op_gt (pv 4) pe_int (nomark _)) (pss_one (ps_set (i := 5) nd rfl (.inl rfl) (pe_call (ok_bent T 4) (hr.mono (by decide)) (by rfl) T.g_law_bent T.F_law_bent.kp (b_law_bent T) .nil pass0 (pa_cons (pv 1) (pa_cons (pv 5) pa_nil))))) pss_nil)
          (pss_one (ps_if (PW.pt (pw_or (pt_not (pt_val (pe_call (ok_tells T) r1 (by rfl) T.g_law_tells T.F_law_tells.kp (b_law_tells T) .nil pass0 (pa_cons (pe_named (ok_is_building T) r4 (by rfl) T.g_is_building T.F_is_building.kp (kb_is_building T) pass0 (pk_cons (pv 5) pk_nil)) (pa_cons (pe_call (ok_is_housed T) r4 (by rfl) T.g_law_is_housed T.F_law_is_housed.kp (b_law_is_housed T) .nil pass0 (pa_cons (pv 5) pa_nil)) pa_nil)))))
            (pw_or1 (pt_not (pt_val (pe_call hRef hr (by rfl) T.g_law_refused_right T.F_law_refused_right.kp (b_law_refused_right T) .nil pass0 (pa_cons (pv 3) (pa_cons (pv 5) pa_nil)))))))) (pss_one (ps_ret pe_bl)) pss_nil)))))
        (pss_cons (ps_set (i := 6) nd rfl (.inl rfl) (pe_call (ok_bent T 0) r4 (by rfl) T.g_law_bent T.F_law_bent.kp (b_law_bent T) .nil pass0 (pa_cons (pv 1) (pa_cons (pe_call (ok_letters T) r4 (by rfl) T.g_law_letters T.F_law_letters.kp (b_law_letters T) .nil pass0 (pa_cons (pv 1) (pa_cons (pe_call (ok_pickL T) (hr.mono (by decide)) (by rfl) T.g_law_pick T.F_law_pick.kp (b_law_pick T) .nil pass0 (pa_cons (pv 1) (pa_cons (pe_lst (pa_cons pe_int (pa_cons pe_int (pa_cons pe_int (pa_cons pe_int (pa_cons pe_int pa_nil)))))) pa_nil))) pa_nil))) pa_nil))))
        (pss_one (ps_if (PW.pt (pw_or (pt_not (pt_val (pe_call (ok_tells T) r1 (by rfl) T.g_law_tells T.F_law_tells.kp (b_law_tells T) .nil pass0 (pa_cons (pe_call (ok_is_name T) r1 (by rfl) T.g_is_name T.F_is_name.kp (b_is_name T) .nil pass0 (pa_cons (pv 6) pa_nil)) (pa_cons (pe_call (ok_is_named T) r1 (by rfl) T.g_law_is_named T.F_law_is_named.kp (b_law_is_named T) .nil pass0 (pa_cons (pv 6) pa_nil)) pa_nil)))))
            (pw_or (pt_cmpR op_isnot_bl (pe_call (ok_is_name T) r1 (by rfl) T.g_is_name T.F_is_name.kp (b_is_name T) .nil pass0 (pa_cons pe_str pa_nil)) pe_bl (nomark _))
            (pw_or1 (pt_cmpR op_isnot_bl (pe_call (ok_is_name T) r1 (by rfl) T.g_is_name T.F_is_name.kp (b_is_name T) .nil pass0 (pa_cons pe_str pa_nil)) pe_bl (nomark _)))))) (pss_one (ps_ret pe_bl)) pss_nil)))))))
      (pss_one (ps_ret pe_bl))), ?_⟩
    refine q_asgW (σ := [some (.ref l), none, none, none, none, none, none]) ⟨.ref l, rfl, l, cells, rfl, hl, by omega, fun sd sg sc gs H1 w1 e1 n1 n2 => ?_⟩
    have S1 : Sta H1 sd sg sc 1800 := ⟨gs, _, 0, 0, w1, by decide, by decide⟩
    have T1 := hT.ext e1
    have il : (iv cells).length = cells.length := List.length_map _
    refine q_forR1 (σ := [some (.ref l), some (.ref sd), none, none, none, none, none]) (n := 1 + (if (2 : Int) < ((iv cells).length : Int) then 2 else ((iv cells).length : Int)))
      (ea_cons (ev_op ev_c (ev_cb (ea_cons (ev_cb (ea_cons (ev_var rfl) ea_nil) fun H2 e2 Q2 q2 => ⟨l, iv cells, rfl, .inl (ex_l (e1.trans e2) hl), q2 H2 (Ex.refl _)⟩) (ea_cons ev_c ea_nil)) fun H2 e2 Q2 q2 => ⟨((iv cells).length : Int), 2, rfl, q2 H2 (Ex.refl _)⟩) rv_I0) ea_nil)
      ⟨by split <;> omega, by split <;> omega⟩ (fun i σ' H' => ∃ y2 y3 y4 y5 y6, σ' = [some (.ref l), some (.ref sd), y2, y3, y4, y5, y6] ∧ Sta H' sd sg sc (600 * (3 - i)) ∧ Tabs Tb H') (fun H2 e2 => ⟨none, none, none, none, none, rfl, S1.up e2, T1.ext e2⟩) (fun i σ' H' hi p => ?_) (fun σ' H' p => ?_)
    · obtain ⟨y2, y3, y4, y5, y6, rfl, S', T'⟩ := p
      have hi3 : i < 3 := by
        have h2 : ∀ x : Int, (if (2 : Int) < x then (2 : Int) else x) ≤ 2 := fun x => by split <;> omega
        have := h2 ((iv cells).length : Int)
        omega
      refine q_asgW (σ := [some (.ref l), some (.ref sd), some (.int (i : Int)), y3, y4, y5, y6]) ⟨.ref sd, rfl, sd, sg, sc, 600 * (2 - i) + 200, rfl, S'.less (by omega), fun v d H2 R hb him hz hlow S2 X2 => ?_⟩
      obtain ⟨as, es, ks, rs, B, hrs⟩ := hlow
      obtain ⟨dp3, z36⟩ := B.low hrs
      have T2 : Tabs Tb H2 := tabs_exs T' S' X2
      refine q_or (σ := [some (.ref l), some (.ref sd), some (.int (i : Int)), some v, y4, y5, y6]) (et_is (et_test (ev_op (ev_sp stb_bld (ea_cons (ev_var rfl) ea_nil) ⟨v, d, rfl, R, hz, rfl⟩) ev_c rv_isNotB)) (by rw [hb]; rfl)) fun H3 e3 => ⟨.ref sd, rfl, v, rfl, sd, sg, sc, 600 * (2 - i) + 198, v, d, rfl, R.up e3, hb, him, hz, S2.up e3, T2.ext e3, fun H4 S4 tp4 T4 => ⟨true, rfl, iteF ?_⟩⟩
      have R4 : Rep H4 v d := (R.up e3).monoT tp4 _ _ him
      refine q_forR1 (σ := [some (.ref l), some (.ref sd), some (.int (i : Int)), some v, y4, y5, y6]) (n := 6) (ea_cons ev_c ea_nil) ⟨by decide, by decide⟩ (fun j σ' H' => ∃ z4 z5, σ' = [some (.ref l), some (.ref sd), some (.int (i : Int)), some v, z4, z5, y6] ∧ Rep H' v d ∧ Sta H' sd sg sc (600 * (2 - i) + 18 + 30 * (6 - j)) ∧ Tabs Tb H')
        (fun H5 e5 => ⟨_, _, rfl, R4.up e5, (S4.up e5).less (by omega), T4.ext e5⟩) (fun j σ' H' hj p => ?_) (fun σ' H' p => ?_)
      · obtain ⟨z4, z5, rfl, R5, S5, T5⟩ := p
        have hj6 : j < 6 := by omega
        refine q_asgW (σ := [some (.ref l), some (.ref sd), some (.int (i : Int)), some v, some (.int (j : Int)), z5, y6]) ⟨.ref sd, rfl, v, rfl, sd, sg, sc, 600 * (2 - i) + 18 + 30 * (5 - j) + 18, 36, v, d, rfl, R5.monoT S5.tph _ _ him, dp3, by decide, by decide, z36, S5.less (by omega), fun v1 d1 H6 r1 dp1 z1 S6 X6 => ?_⟩
        refine q_ifM (σ := [some (.ref l), some (.ref sd), some (.int (i : Int)), some v, some (.int (j : Int)), some v1, y6]) (b := decide ((3 : Int) < (j : Int)))
          (fun σ' H7 => ∃ v2 d2, σ' = [some (.ref l), some (.ref sd), some (.int (i : Int)), some v, some (.int (j : Int)), some v2, y6] ∧ Rep (hid H7 sd sg) v2 d2 ∧ d2.Zs 336 ∧ Sta H7 sd sg sc (600 * (2 - i) + 18 + 30 * (5 - j)) ∧ ExS sd sg H' H7) (fun σ' H7 m => ?_)
          (et_test (ev_op (ev_var rfl) ev_c rv_I0)) (fun _ N hN H7 e7 => ?_) (fun _ H7 e7 => ⟨v1, d1, rfl, r1.up (hid_mono (.of e7)), zs_up (by decide) _ z1, (S6.up e7).less (by omega), X6.trans (.of e7)⟩)
        · obtain ⟨v2, d2, rfl, r2, z2, S7, X7⟩ := m
          have hz2 : d2.Sz := zs_sz (by decide) _ z2
          have R7 : Rep H7 v2 d2 := r2.up hid_ex
          have T7 : Tabs Tb H7 := tabs_exs T5 S5 X7
          refine s_or (σ := [some (.ref l), some (.ref sd), some (.int (i : Int)), some v, some (.int (j : Int)), some v2, y6])
            (et_is (et_not (et_B (ev_sp stb_tells (ea_cons (ev_spK stb_bld (ea_cons (ev_var rfl) ea_nil) ⟨v2, d2, rfl, R7, hz2, rfl⟩) (ea_cons (ev_sp stb_bld (ea_cons (ev_var rfl) ea_nil) ⟨v2, d2, rfl, R7, hz2, rfl⟩) ea_nil)) ⟨d2.bld, d2.bld, rfl, rfl⟩))) (by rw [decide_eq_true rfl]; rfl))
            fun H8 e8 => ⟨v, rfl, v2, rfl, v, v2, d2, rfl, R7.up e8, hz2, T7.ext e8, fun H9 x9 T9 => ⟨true, rfl, iteF ?_⟩⟩
          exact ⟨_, _, rfl, ((R5.monoT (S5.tp X7) _ _ him).up e8).xn x9, ((S7.up e8).xn x9).less (by omega), T9⟩
        · exact ⟨.ref sd, rfl, v1, rfl, sd, sg, sc, 600 * (2 - i) + 18 + 30 * (5 - j), 3 * 36 + 3, v1, d1, rfl, r1.up (hid_mono (.of e7)), dp1, by decide, by decide, z1, (S6.up e7).less (by omega), fun v2 d2 H8 r2 dp2 z2 S8 X8 => hN _ _ ⟨v2, d2, rfl, r2, z2, S8, (X6.trans (.of e7)).trans X8⟩⟩
      · obtain ⟨z4, z5, rfl, R5, S5, T5⟩ := p
        refine q_asgW (σ := [some (.ref l), some (.ref sd), some (.int (i : Int)), some v, z4, z5, y6]) ⟨.ref sd, rfl, .ref sd, rfl, .ref sd, rfl, by show 5 ≤ sizeLine; rw [sizeLine_eq]; decide, fun p f => ?_⟩
        obtain ⟨u1, u2, _⟩ := S5.off f
        refine ⟨sd, sg, sc, 600 * (2 - i) + 17, p, [.int 1, .int 8, .int 9, .int 0, .int 3], rfl, upd_same, u1, u2, by simp, by simp, (S5.up (Ex.new f)).less (by omega), fun jj x H6 hx S6 X6 => ?_⟩
        obtain ⟨m, rfl, hm⟩ : ∃ m : Nat, x = .int (m : Int) ∧ m ≤ 9 := by
          have mem := List.mem_of_getElem? hx
          simp only [List.mem_cons, List.not_mem_nil, or_false] at mem
          rcases mem with rfl | rfl | rfl | rfl | rfl
          · exact ⟨1, rfl, by decide⟩
          · exact ⟨8, rfl, by decide⟩
          · exact ⟨9, rfl, by decide⟩
          · exact ⟨0, rfl, by decide⟩
          · exact ⟨3, rfl, by decide⟩
        have X56 : ExS sd sg H' H6 := (ExS.of (Ex.new f)).trans X6
        refine ⟨sd, sg, sc, 600 * (2 - i) + 8, m, rfl, by omega, S6.less (by omega), fun cs H7 lc low S7 X7 => ?_⟩
        have lt : (tx cs).length ≤ 17 := by rw [tx_len]; omega
        refine ⟨sd, sg, sc, 600 * (2 - i), 17, .str (tx cs), .str (tx cs), rfl, .str _, dp_leaf (by simp [D.ty]) _, by decide, by decide, zs_str lt, S7.less (by omega), fun v3 d3 H8 r3 dp3' z3 S8 X8 => ?_⟩
        have R8 : Rep H8 v3 d3 := r3.up hid_ex
        have T8 : Tabs Tb H8 := tabs_exs T5 S5 ((X56.trans X7).trans X8)
        have s3 : szD d3 ≤ 1000 := zs_szD (by decide) z3
        refine s_if (σ := [some (.ref l), some (.ref sd), some (.int (i : Int)), some v, z4, z5, some v3]) (b := false)
          (et_is (et_or (a := false) (b := false) (et_is (et_not (et_B (ev_sp stb_tells (ea_cons (ev_sp stb_name (ea_cons (ev_var rfl) ea_nil) ⟨v3, d3, rfl, R8, s3, rfl⟩) (ea_cons (ev_sp stb_name (ea_cons (ev_var rfl) ea_nil) ⟨v3, d3, rfl, R8, s3, rfl⟩) ea_nil)) ⟨d3.nm, d3.nm, rfl, rfl⟩))) (by rw [decide_eq_true rfl]; rfl)) fun _ =>
            et_is (et_or (a := false) (b := false) (et_is (et_test (ev_op (ev_sp stb_name (ea_cons ev_c ea_nil) ⟨.str "any", .str "any", rfl, .str _, by decide, rfl⟩) ev_c rv_isNotB)) (by decide +kernel)) fun _ =>
              et_is (et_test (ev_op (ev_sp stb_name (ea_cons ev_c ea_nil) ⟨.str "a", .str "a", rfl, .str _, by decide, rfl⟩) ev_c rv_isNotB)) (by decide +kernel)) rfl) rfl) (fun hf => by cases hf) (fun _ H9 e9 => ?_)
        exact ⟨_, _, _, _, _, rfl, (S8.up e9).less (by omega), T8.ext e9⟩
    · obtain ⟨y2, y3, y4, y5, y6, rfl, S', T'⟩ := p
      exact s_ret (v := .bl true) ev_c fun H2 e2 => q H2
end
end Kx

set_option Elab.async false
set_option linter.all false
set_option maxRecDepth 100000
set_option maxHeartbeats 1000000
namespace Kx
open PySem PySem.Spec PyProof.Rows L2 Evl LamX
/-! ## what the text's top has left -/
/-- the def x of the text -/
def TextAt (K : PySem.W.Frag) (x : Str) (st : Stmt) : Prop := ∃ (f : Addr) (oc : Value) (od : Option Addr) (kV doc pm : Value) (an : Option Addr) (cdv ct : Value) (osl : Array (Option Value)), PySem.W.nsIn K mainGlobals x = some (some (.ref f)) ∧
  K.lookup f = some ⟨oc, od, .func (PySem.W.fnOf x x (defArgs st) (defBody st) (defScope st) .none kV doc pm an cdv ct), osl⟩ ∧ PySem.W.codeIn K cdv x = true ∧ PySem.W.keepIn K (.ref f) = true
theorem textAt {K : PySem.W.Frag} {x : Str} {st : Stmt} {f : Addr} {oc : Value} {od : Option Addr} {kV doc pm : Value} {an : Option Addr} {cdv ct : Value} {osl : Array (Option Value)} (a : PySem.W.nsIn K mainGlobals x = some (some (.ref f)))
    (l : K.lookup f = some ⟨oc, od, .func (PySem.W.fnOf x x (defArgs st) (defBody st) (defScope st) .none kV doc pm an cdv ct), osl⟩) (c : PySem.W.codeIn K cdv x = true) (k : PySem.W.keepIn K (.ref f) = true) : TextAt K x st := ⟨f, oc, od, kV, doc, pm, an, cdv, ct, osl, a, l, c, k⟩
theorem TextAt.fn {K : PySem.W.Frag} {x : Str} {st : Stmt} (t : TextAt K x st) : ∃ f fd, Fun K x x st f fd ∧ PySem.W.nsIn K mainGlobals x = some (some (.ref f)) :=
  let ⟨f, _, _, _, _, _, _, _, _, _, a, l, c, k⟩ := t; ⟨f, _, fun_mk l c k, a⟩
/-- the def x of the text, whose code c has its table at P -/
def TabAt (K : PySem.W.Frag) (x : Str) (st : Stmt) (P : Addr) : Prop := ∃ (f : Addr) (oc : Value) (od : Option Addr) (kV doc pm : Value) (an : Option Addr) (c : Addr) (ct : Value) (osl : Array (Option Value)), PySem.W.nsIn K mainGlobals x = some (some (.ref f)) ∧
  K.lookup f = some ⟨oc, od, .func (PySem.W.fnOf x x (defArgs st) (defBody st) (defScope st) .none kV doc pm an (.ref c) ct), osl⟩ ∧ PySem.W.codeIn K (.ref c) x = true ∧ PySem.W.keepIn K (.ref f) = true ∧ K.lookup P = none ∧ PySem.W.codeHdIn K c P = true
theorem tabAt {K : PySem.W.Frag} {x : Str} {st : Stmt} {f P c : Addr} {oc : Value} {od : Option Addr} {kV doc pm : Value} {an : Option Addr} {ct : Value} {osl : Array (Option Value)} (a : PySem.W.nsIn K mainGlobals x = some (some (.ref f)))
    (l : K.lookup f = some ⟨oc, od, .func (PySem.W.fnOf x x (defArgs st) (defBody st) (defScope st) .none kV doc pm an (.ref c) ct), osl⟩) (d : PySem.W.codeIn K (.ref c) x = true) (k : PySem.W.keepIn K (.ref f) = true) (n : K.lookup P = none) (e : PySem.W.codeHdIn K c P = true) : TabAt K x st P :=
  ⟨f, oc, od, kV, doc, pm, an, c, ct, osl, a, l, d, k, n, e⟩
theorem TabAt.fn {K : PySem.W.Frag} {x : Str} {st : Stmt} {P : Addr} (t : TabAt K x st P) : ∃ f fd c, Fun K x x st f fd ∧ PySem.W.nsIn K mainGlobals x = some (some (.ref f)) ∧ FunC K x st f c fd ∧ K.lookup P = none ∧ PySem.W.codeHdIn K c P = true :=
  let ⟨f, oc, od, kV, doc, pm, an, c, ct, osl, a, l, d, k, n, e⟩ := t; ⟨f, _, c, fun_mk l d k, a, ⟨oc, od, kV, doc, pm, an, ct, osl, rfl, l, d⟩, n, e⟩
/-- an own class of errors stands at C -/
structure ErrAt (K : PySem.W.Frag) (x : Str) (R C : Addr) : Prop where
  n : PySem.W.nsIn K mainGlobals x = some (some (.ref C))
  q : PySem.W.excIn K C [.type "ValueError", .type "Exception", .type "BaseException", .type "object"] "ValueError.__new__" = true
  kp : PySem.W.keepIn K (.ref C) = true
  bx : PySem.W.subIn K (.ref C) (.type "BaseException") = some true
  ty : PySem.W.typeIn K (.ref C) = some (.type "type")
  hg : PySem.W.findIn K (.ref C) "__getattribute__" = some (some (.builtin "BaseException.__getattribute__"))
  hk : PySem.W.findIn K (.ref C) "__getattr__" = some none
  hd : PySem.W.hasDictIn K C = true
  ha : PySem.W.findIn K (.ref C) "__class__" = some (some (.builtin "object.__class__"))
  hn : PySem.W.specialIn K (.builtin "object.__class__") "__get__" = some (some (.builtin "getset_descriptor.__get__"))
  ht : PySem.W.takesIn K (.builtin "object.__class__") = some true
  hm : PySem.W.mroIn K C (.type "object") = some true
  up : PySem.W.subIn K (.ref C) (.ref R) = some true
theorem ErrAt.ok {K : PySem.W.Frag} {h : Heap} {mg : Str → Option Value} {x : Str} {R C : Addr} (X : K.In h) (G : h.Ns mainGlobals mg) (e : ErrAt K x R C) : ExK K mg x C := ⟨PySem.W.mg_of X G e.n, e.q, e.kp, e.bx, e.ty, ⟨e.hg, e.hk, e.bx, e.hd, e.ha, e.hn, e.ht, e.hm⟩⟩

theorem all_mk {l : PySem.W.OpenLaw} {w : World} {K : PySem.W.Frag} {h : Heap} {mg : Str → Option Value} {fa : Addr} (X : K.In h) (G : h.Ns mainGlobals mg) (hfa : mg "law" = some (.ref fa))
    (t_is_between : TextAt K "is_between" s_is_between)
    (t_is_row : TextAt K "is_row" s_is_row)
    (t_is_tuple : TextAt K "is_tuple" s_is_tuple)
    (t_is_among : TextAt K "is_among" s_is_among)
    (t_is_ascending : TextAt K "is_ascending" s_is_ascending)
    (t_are_unlike : TextAt K "are_unlike" s_are_unlike)
    (t_is_name : TextAt K "is_name" s_is_name)
    (t_are_names : TextAt K "are_names" s_are_names)
    (t_is_door : TextAt K "is_door" s_is_door)
    (t_are_doors : TextAt K "are_doors" s_are_doors)
    (t_is_right : TextAt K "is_right" s_is_right)
    (t_are_rights : TextAt K "are_rights" s_are_rights)
    (t_is_building : TextAt K "is_building" s_is_building)
    (t_areas_of : TextAt K "areas_of" s_areas_of)
    (t_doors_of : TextAt K "doors_of" s_doors_of)
    (t_door_names : TextAt K "door_names" s_door_names)
    (t_side_area : TextAt K "side_area" s_side_area)
    (t_check_building : TextAt K "check_building" s_check_building)
    (t_check_door : TextAt K "check_door" s_check_door)
    (t_check_side : TextAt K "check_side" s_check_side)
    (t_area_at : TextAt K "area_at" s_area_at)
    (t_check_free : TextAt K "check_free" s_check_free)
    (t_steps_from : TextAt K "steps_from" s_steps_from)
    (t_reached_from : TextAt K "reached_from" s_reached_from)
    (t_areas_joined : TextAt K "areas_joined" s_areas_joined)
    (t_joined : TextAt K "joined" s_joined)
    (t_law_begun : TextAt K "_law_begun" s_law_begun)
    (t_law_mixed : TextAt K "_law_mixed" s_law_mixed)
    (t_law_draw : TextAt K "_law_draw" s_law_draw)
    (t_law_pick : TextAt K "_law_pick" s_law_pick)
    (t_law_tells : TextAt K "_law_tells" s_law_tells)
    (t_law_caught : TextAt K "_law_caught" s_law_caught)
    (t_law_letters : TextAt K "_law_letters" s_law_letters)
    (t_law_new : TextAt K "_law_new" s_law_new)
    (t_law_names : TextAt K "_law_names" s_law_names)
    (t_law_house : TextAt K "_law_house" s_law_house)
    (t_law_is_named : TextAt K "_law_is_named" s_law_is_named)
    (t_law_are_named : TextAt K "_law_are_named" s_law_are_named)
    (t_law_is_doored : TextAt K "_law_is_doored" s_law_is_doored)
    (t_law_is_housed : TextAt K "_law_is_housed" s_law_is_housed)
    (t_law_bent : TextAt K "_law_bent" s_law_bent)
    (t_law : TextAt K "law" s_law)
    {P1 P2 cK cB cD cDs cS : Addr} (t_law_refused_right : TabAt K "_law_refused_right" s_law_refused_right P1) (t_law_sides_right : TabAt K "_law_sides_right" s_law_sides_right P2) (nP : P1 ≠ P2) (o1 : h.get? P1 = some { cls := .none, data := .fields #[] }) (o2 : h.get? P2 = some { cls := .none, data := .fields #[] })
    (eK : ErrAt K "KeptError" cK cK) (eB : ErrAt K "BadBuilding" cK cB) (eD : ErrAt K "BadDoor" cK cD) (eDs : ErrAt K "BadDoors" cK cDs) (eS : ErrAt K "BadSide" cK cS)
    (q1 : PySem.W.kitOne K (.ref cB) (.ref cB) = some true) (q2 : PySem.W.kitOne K (.ref cD) (.ref cB) = some false) (q3 : PySem.W.kitOne K (.ref cD) (.ref cD) = some true) (q4 : PySem.W.kitOne K (.ref cS) (.ref cS) = some true) (nB : PySem.W.kitOne K (.type "NoneType") (.ref cB) = some false)
    (z_type : PySem.W.nsIn K mainGlobals "type" = some none) (z_int : PySem.W.nsIn K mainGlobals "int" = some none) (z_str : PySem.W.nsIn K mainGlobals "str" = some none) (z_bool : PySem.W.nsIn K mainGlobals "bool" = some none) (z_tuple : PySem.W.nsIn K mainGlobals "tuple" = some none) (z_list : PySem.W.nsIn K mainGlobals "list" = some none) (z_len : PySem.W.nsIn K mainGlobals "len" = some none) (z_all : PySem.W.nsIn K mainGlobals "all" = some none) (z_set : PySem.W.nsIn K mainGlobals "set" = some none) (z_range : PySem.W.nsIn K mainGlobals "range" = some none) (z_isinstance : PySem.W.nsIn K mainGlobals "isinstance" = some none) (z_abs : PySem.W.nsIn K mainGlobals "abs" = some none) (z_sorted : PySem.W.nsIn K mainGlobals "sorted" = some none) (z_min : PySem.W.nsIn K mainGlobals "min" = some none) :
    LawAtS l w K CX0 11 63 "script" mg fa h := by
  obtain ⟨a_is_between, d_is_between, F_is_between, n_is_between⟩ := t_is_between.fn
  obtain ⟨a_is_row, d_is_row, F_is_row, n_is_row⟩ := t_is_row.fn
  obtain ⟨a_is_tuple, d_is_tuple, F_is_tuple, n_is_tuple⟩ := t_is_tuple.fn
  obtain ⟨a_is_among, d_is_among, F_is_among, n_is_among⟩ := t_is_among.fn
  obtain ⟨a_is_ascending, d_is_ascending, F_is_ascending, n_is_ascending⟩ := t_is_ascending.fn
  obtain ⟨a_are_unlike, d_are_unlike, F_are_unlike, n_are_unlike⟩ := t_are_unlike.fn
  obtain ⟨a_is_name, d_is_name, F_is_name, n_is_name⟩ := t_is_name.fn
  obtain ⟨a_are_names, d_are_names, F_are_names, n_are_names⟩ := t_are_names.fn
  obtain ⟨a_is_door, d_is_door, F_is_door, n_is_door⟩ := t_is_door.fn
  obtain ⟨a_are_doors, d_are_doors, F_are_doors, n_are_doors⟩ := t_are_doors.fn
  obtain ⟨a_is_right, d_is_right, F_is_right, n_is_right⟩ := t_is_right.fn
  obtain ⟨a_are_rights, d_are_rights, F_are_rights, n_are_rights⟩ := t_are_rights.fn
  obtain ⟨a_is_building, d_is_building, F_is_building, n_is_building⟩ := t_is_building.fn
  obtain ⟨a_areas_of, d_areas_of, F_areas_of, n_areas_of⟩ := t_areas_of.fn
  obtain ⟨a_doors_of, d_doors_of, F_doors_of, n_doors_of⟩ := t_doors_of.fn
  obtain ⟨a_door_names, d_door_names, F_door_names, n_door_names⟩ := t_door_names.fn
  obtain ⟨a_side_area, d_side_area, F_side_area, n_side_area⟩ := t_side_area.fn
  obtain ⟨a_check_building, d_check_building, F_check_building, n_check_building⟩ := t_check_building.fn
  obtain ⟨a_check_door, d_check_door, F_check_door, n_check_door⟩ := t_check_door.fn
  obtain ⟨a_check_side, d_check_side, F_check_side, n_check_side⟩ := t_check_side.fn
  obtain ⟨a_area_at, d_area_at, F_area_at, n_area_at⟩ := t_area_at.fn
  obtain ⟨a_check_free, d_check_free, F_check_free, n_check_free⟩ := t_check_free.fn
  obtain ⟨a_steps_from, d_steps_from, F_steps_from, n_steps_from⟩ := t_steps_from.fn
  obtain ⟨a_reached_from, d_reached_from, F_reached_from, n_reached_from⟩ := t_reached_from.fn
  obtain ⟨a_areas_joined, d_areas_joined, F_areas_joined, n_areas_joined⟩ := t_areas_joined.fn
  obtain ⟨a_joined, d_joined, F_joined, n_joined⟩ := t_joined.fn
  obtain ⟨a_law_begun, d_law_begun, F_law_begun, n_law_begun⟩ := t_law_begun.fn
  obtain ⟨a_law_mixed, d_law_mixed, F_law_mixed, n_law_mixed⟩ := t_law_mixed.fn
  obtain ⟨a_law_draw, d_law_draw, F_law_draw, n_law_draw⟩ := t_law_draw.fn
  obtain ⟨a_law_pick, d_law_pick, F_law_pick, n_law_pick⟩ := t_law_pick.fn
  obtain ⟨a_law_tells, d_law_tells, F_law_tells, n_law_tells⟩ := t_law_tells.fn
  obtain ⟨a_law_caught, d_law_caught, F_law_caught, n_law_caught⟩ := t_law_caught.fn
  obtain ⟨a_law_letters, d_law_letters, F_law_letters, n_law_letters⟩ := t_law_letters.fn
  obtain ⟨a_law_new, d_law_new, F_law_new, n_law_new⟩ := t_law_new.fn
  obtain ⟨a_law_names, d_law_names, F_law_names, n_law_names⟩ := t_law_names.fn
  obtain ⟨a_law_house, d_law_house, F_law_house, n_law_house⟩ := t_law_house.fn
  obtain ⟨a_law_is_named, d_law_is_named, F_law_is_named, n_law_is_named⟩ := t_law_is_named.fn
  obtain ⟨a_law_are_named, d_law_are_named, F_law_are_named, n_law_are_named⟩ := t_law_are_named.fn
  obtain ⟨a_law_is_doored, d_law_is_doored, F_law_is_doored, n_law_is_doored⟩ := t_law_is_doored.fn
  obtain ⟨a_law_is_housed, d_law_is_housed, F_law_is_housed, n_law_is_housed⟩ := t_law_is_housed.fn
  obtain ⟨a_law_bent, d_law_bent, F_law_bent, n_law_bent⟩ := t_law_bent.fn
  obtain ⟨a_law_refused_right, d_law_refused_right, c_law_refused_right, F_law_refused_right, n_law_refused_right, C_law_refused_right, w_law_refused_right, h_law_refused_right⟩ := t_law_refused_right.fn
  obtain ⟨a_law_sides_right, d_law_sides_right, c_law_sides_right, F_law_sides_right, n_law_sides_right, C_law_sides_right, w_law_sides_right, h_law_sides_right⟩ := t_law_sides_right.fn
  obtain ⟨a_law, oc, od, kV, doc, pm, an, cdv, ct, osl, n_law, l_law, c_law, k_law⟩ := t_law
  have F_law := fun_mk (st := s_law) l_law c_law k_law
  let T : Txt K mg := { a_is_between := a_is_between, d_is_between := d_is_between, F_is_between := F_is_between, g_is_between := PySem.W.mg_of X G n_is_between, a_is_row := a_is_row, d_is_row := d_is_row, F_is_row := F_is_row, g_is_row := PySem.W.mg_of X G n_is_row, a_is_tuple := a_is_tuple, d_is_tuple := d_is_tuple, F_is_tuple := F_is_tuple, g_is_tuple := PySem.W.mg_of X G n_is_tuple, a_is_among := a_is_among, d_is_among := d_is_among, F_is_among := F_is_among, g_is_among := PySem.W.mg_of X G n_is_among, a_is_ascending := a_is_ascending, d_is_ascending := d_is_ascending, F_is_ascending := F_is_ascending, g_is_ascending := PySem.W.mg_of X G n_is_ascending, a_are_unlike := a_are_unlike, d_are_unlike := d_are_unlike, F_are_unlike := F_are_unlike, g_are_unlike := PySem.W.mg_of X G n_are_unlike, a_is_name := a_is_name, d_is_name := d_is_name, F_is_name := F_is_name, g_is_name := PySem.W.mg_of X G n_is_name, a_are_names := a_are_names, d_are_names := d_are_names, F_are_names := F_are_names, g_are_names := PySem.W.mg_of X G n_are_names, a_is_door := a_is_door, d_is_door := d_is_door, F_is_door := F_is_door, g_is_door := PySem.W.mg_of X G n_is_door, a_are_doors := a_are_doors, d_are_doors := d_are_doors, F_are_doors := F_are_doors, g_are_doors := PySem.W.mg_of X G n_are_doors, a_is_right := a_is_right, d_is_right := d_is_right, F_is_right := F_is_right, g_is_right := PySem.W.mg_of X G n_is_right, a_are_rights := a_are_rights, d_are_rights := d_are_rights, F_are_rights := F_are_rights, g_are_rights := PySem.W.mg_of X G n_are_rights, a_is_building := a_is_building, d_is_building := d_is_building, F_is_building := F_is_building, g_is_building := PySem.W.mg_of X G n_is_building, a_areas_of := a_areas_of, d_areas_of := d_areas_of, F_areas_of := F_areas_of, g_areas_of := PySem.W.mg_of X G n_areas_of, a_doors_of := a_doors_of, d_doors_of := d_doors_of, F_doors_of := F_doors_of, g_doors_of := PySem.W.mg_of X G n_doors_of, a_door_names := a_door_names, d_door_names := d_door_names, F_door_names := F_door_names, g_door_names := PySem.W.mg_of X G n_door_names, a_side_area := a_side_area, d_side_area := d_side_area, F_side_area := F_side_area, g_side_area := PySem.W.mg_of X G n_side_area, a_check_building := a_check_building, d_check_building := d_check_building, F_check_building := F_check_building, g_check_building := PySem.W.mg_of X G n_check_building, a_check_door := a_check_door, d_check_door := d_check_door, F_check_door := F_check_door, g_check_door := PySem.W.mg_of X G n_check_door, a_check_side := a_check_side, d_check_side := d_check_side, F_check_side := F_check_side, g_check_side := PySem.W.mg_of X G n_check_side, a_area_at := a_area_at, d_area_at := d_area_at, F_area_at := F_area_at, g_area_at := PySem.W.mg_of X G n_area_at, a_check_free := a_check_free, d_check_free := d_check_free, F_check_free := F_check_free, g_check_free := PySem.W.mg_of X G n_check_free, a_steps_from := a_steps_from, d_steps_from := d_steps_from, F_steps_from := F_steps_from, g_steps_from := PySem.W.mg_of X G n_steps_from, a_reached_from := a_reached_from, d_reached_from := d_reached_from, F_reached_from := F_reached_from, g_reached_from := PySem.W.mg_of X G n_reached_from, a_areas_joined := a_areas_joined, d_areas_joined := d_areas_joined, F_areas_joined := F_areas_joined, g_areas_joined := PySem.W.mg_of X G n_areas_joined, a_joined := a_joined, d_joined := d_joined, F_joined := F_joined, g_joined := PySem.W.mg_of X G n_joined, a_law_begun := a_law_begun, d_law_begun := d_law_begun, F_law_begun := F_law_begun, g_law_begun := PySem.W.mg_of X G n_law_begun, a_law_mixed := a_law_mixed, d_law_mixed := d_law_mixed, F_law_mixed := F_law_mixed, g_law_mixed := PySem.W.mg_of X G n_law_mixed, a_law_draw := a_law_draw, d_law_draw := d_law_draw, F_law_draw := F_law_draw, g_law_draw := PySem.W.mg_of X G n_law_draw, a_law_pick := a_law_pick, d_law_pick := d_law_pick, F_law_pick := F_law_pick, g_law_pick := PySem.W.mg_of X G n_law_pick, a_law_tells := a_law_tells, d_law_tells := d_law_tells, F_law_tells := F_law_tells, g_law_tells := PySem.W.mg_of X G n_law_tells, a_law_caught := a_law_caught, d_law_caught := d_law_caught, F_law_caught := F_law_caught, g_law_caught := PySem.W.mg_of X G n_law_caught, a_law_letters := a_law_letters, d_law_letters := d_law_letters, F_law_letters := F_law_letters, g_law_letters := PySem.W.mg_of X G n_law_letters, a_law_new := a_law_new, d_law_new := d_law_new, F_law_new := F_law_new, g_law_new := PySem.W.mg_of X G n_law_new, a_law_names := a_law_names, d_law_names := d_law_names, F_law_names := F_law_names, g_law_names := PySem.W.mg_of X G n_law_names, a_law_house := a_law_house, d_law_house := d_law_house, F_law_house := F_law_house, g_law_house := PySem.W.mg_of X G n_law_house, a_law_is_named := a_law_is_named, d_law_is_named := d_law_is_named, F_law_is_named := F_law_is_named, g_law_is_named := PySem.W.mg_of X G n_law_is_named, a_law_are_named := a_law_are_named, d_law_are_named := d_law_are_named, F_law_are_named := F_law_are_named, g_law_are_named := PySem.W.mg_of X G n_law_are_named, a_law_is_doored := a_law_is_doored, d_law_is_doored := d_law_is_doored, F_law_is_doored := F_law_is_doored, g_law_is_doored := PySem.W.mg_of X G n_law_is_doored, a_law_is_housed := a_law_is_housed, d_law_is_housed := d_law_is_housed, F_law_is_housed := F_law_is_housed, g_law_is_housed := PySem.W.mg_of X G n_law_is_housed, a_law_bent := a_law_bent, d_law_bent := d_law_bent, F_law_bent := F_law_bent, g_law_bent := PySem.W.mg_of X G n_law_bent, a_law_refused_right := a_law_refused_right, d_law_refused_right := d_law_refused_right, F_law_refused_right := F_law_refused_right, g_law_refused_right := PySem.W.mg_of X G n_law_refused_right, a_law_sides_right := a_law_sides_right, d_law_sides_right := d_law_sides_right, F_law_sides_right := F_law_sides_right, g_law_sides_right := PySem.W.mg_of X G n_law_sides_right, a_law := a_law, d_law := _, F_law := F_law, g_law := PySem.W.mg_of X G n_law, c_KeptError := cK, E_KeptError := eK.ok X G, u_KeptError := eK.up, c_BadBuilding := cB, E_BadBuilding := eB.ok X G, u_BadBuilding := eB.up, c_BadDoor := cD, E_BadDoor := eD.ok X G, u_BadDoor := eD.up, c_BadDoors := cDs, E_BadDoors := eDs.ok X G, u_BadDoors := eDs.up, c_BadSide := cS, E_BadSide := eS.ok X G, u_BadSide := eS.up, q_BB := q1, q_DB := q2, q_DD := q3, q_SS := q4, z_type := PySem.W.mg_none_of X G z_type, z_int := PySem.W.mg_none_of X G z_int, z_str := PySem.W.mg_none_of X G z_str, z_bool := PySem.W.mg_none_of X G z_bool, z_tuple := PySem.W.mg_none_of X G z_tuple, z_list := PySem.W.mg_none_of X G z_list, z_len := PySem.W.mg_none_of X G z_len, z_all := PySem.W.mg_none_of X G z_all, z_set := PySem.W.mg_none_of X G z_set, z_range := PySem.W.mg_none_of X G z_range, z_isinstance := PySem.W.mg_none_of X G z_isinstance, z_abs := PySem.W.mg_none_of X G z_abs, z_sorted := PySem.W.mg_none_of X G z_sorted, z_min := PySem.W.mg_none_of X G z_min }
  have e := hfa.symm.trans (PySem.W.mg_of X G n_law)
  cases e
  let Tb : List (Addr × Str) := [(P1, qLam), (P2, qLam2)]
  refine ⟨_, [(c_law_refused_right, P1), (c_law_sides_right, P2)], spLaw K Tb, fun p hp => ?_, fun p hp => ?_, fun p hp => ?_, fun s u => .of_eq rfl, fun H a ns hl _ hH hS => ?_, fun base KB NB TB => ok_law T ?_ ?_⟩
  · rcases List.mem_cons.mp hp with rfl | hp
    · exact o1
    · rw [List.mem_singleton.mp hp]
      exact o2
  · rcases List.mem_cons.mp hp with rfl | hp
    · exact w_law_refused_right
    · rw [List.mem_singleton.mp hp]
      exact w_law_sides_right
  · rcases List.mem_cons.mp hp with rfl | hp
    · exact PySem.W.codeHd_of_K X h_law_refused_right
    · rw [List.mem_singleton.mp hp]
      exact PySem.W.codeHd_of_K X h_law_sides_right
  · refine ⟨a, ns, rfl, hS, hl, fun p hp => ?_, fun _ => rfl⟩
    rcases List.mem_cons.mp hp with rfl | hp
    · exact TabS.nil (hH (c_law_refused_right, P1) List.mem_cons_self)
    · rw [List.mem_singleton.mp hp]
      exact TabS.nil (hH (c_law_sides_right, P2) (List.mem_cons_of_mem _ List.mem_cons_self))
  · refine ok_sides T C_law_sides_right (TB (c_law_sides_right, P2) (List.mem_cons_of_mem _ List.mem_cons_self)) (List.mem_cons_of_mem _ List.mem_cons_self) fun p hp ep => ?_
    rcases List.mem_cons.mp hp with rfl | hp
    · exact absurd ep nP
    · rw [List.mem_singleton.mp hp]
  · refine ok_refused T C_law_refused_right (TB (c_law_refused_right, P1) List.mem_cons_self) List.mem_cons_self (fun p hp ep => ?_) nB
    rcases List.mem_cons.mp hp with rfl | hp
    · rfl
    · rw [List.mem_singleton.mp hp] at ep
      exact absurd ep.symm nP
end Kx

set_option Elab.async false
set_option maxRecDepth 100000
open PySem PySem.W PyProof.Rows in
set_option maxRecDepth 100000 in
set_option maxHeartbeats 0 in
theorem PySem.Challenge.cw_housekept_k77_buildings_judged_holds : PySem.Challenge.rw_housekept_k77_buildings_judged.Holds := by
  w_on; o_law; k_head; (case hw => w_witness2)
  k_fill
  refine LamX.walk_ofTs (l := PySem.Challenge.rw_housekept_k77_buildings_judged) (n := 63) (k := 11) (x := "script") (CX := fun _ => L2.CX0) rfl (by decide) rfl ⟨rfl, by decide, by decide⟩ (fun w h Y => PySem.W.km_in_of Y) ?F (fun _ _ _ _ _ z => z)
  case F =>
    intro w mg fa h Y KX G hmg
    have tb := PySem.W.km_tabs_of Y
    refine' Kx.all_mk KX G hmg ?t_is_between ?t_is_row ?t_is_tuple ?t_is_among ?t_is_ascending ?t_are_unlike ?t_is_name ?t_are_names ?t_is_door ?t_are_doors ?t_is_right ?t_are_rights ?t_is_building ?t_areas_of ?t_doors_of ?t_door_names ?t_side_area ?t_check_building ?t_check_door ?t_check_side ?t_area_at ?t_check_free ?t_steps_from ?t_reached_from ?t_areas_joined ?t_joined ?t_law_begun ?t_law_mixed ?t_law_draw ?t_law_pick ?t_law_tells ?t_law_caught ?t_law_letters ?t_law_new ?t_law_names ?t_law_house ?t_law_is_named ?t_law_are_named ?t_law_is_doored ?t_law_is_housed ?t_law_bent ?t_law ?u1 ?u2 ?nP ?o1 ?o2 ?eK ?eB ?eD ?eDs ?eS ?q1 ?q2 ?q3 ?q4 ?nB ?z_type ?z_int ?z_str ?z_bool ?z_tuple ?z_list ?z_len ?z_all ?z_set ?z_range ?z_isinstance ?z_abs ?z_sorted ?z_min
    case t_is_between => (refine' Kx.textAt ?a ?l ?c ?k; (case a => k_is); (case l => k_is); (case c => k_is); (case k => k_is))
    case t_is_row => (refine' Kx.textAt ?a ?l ?c ?k; (case a => k_is); (case l => k_is); (case c => k_is); (case k => k_is))
    case t_is_tuple => (refine' Kx.textAt ?a ?l ?c ?k; (case a => k_is); (case l => k_is); (case c => k_is); (case k => k_is))
    case t_is_among => (refine' Kx.textAt ?a ?l ?c ?k; (case a => k_is); (case l => k_is); (case c => k_is); (case k => k_is))
    case t_is_ascending => (refine' Kx.textAt ?a ?l ?c ?k; (case a => k_is); (case l => k_is); (case c => k_is); (case k => k_is))
    case t_are_unlike => (refine' Kx.textAt ?a ?l ?c ?k; (case a => k_is); (case l => k_is); (case c => k_is); (case k => k_is))
    case t_is_name => (refine' Kx.textAt ?a ?l ?c ?k; (case a => k_is); (case l => k_is); (case c => k_is); (case k => k_is))
    case t_are_names => (refine' Kx.textAt ?a ?l ?c ?k; (case a => k_is); (case l => k_is); (case c => k_is); (case k => k_is))
    case t_is_door => (refine' Kx.textAt ?a ?l ?c ?k; (case a => k_is); (case l => k_is); (case c => k_is); (case k => k_is))
    case t_are_doors => (refine' Kx.textAt ?a ?l ?c ?k; (case a => k_is); (case l => k_is); (case c => k_is); (case k => k_is))
    case t_is_right => (refine' Kx.textAt ?a ?l ?c ?k; (case a => k_is); (case l => k_is); (case c => k_is); (case k => k_is))
    case t_are_rights => (refine' Kx.textAt ?a ?l ?c ?k; (case a => k_is); (case l => k_is); (case c => k_is); (case k => k_is))
    case t_is_building => (refine' Kx.textAt ?a ?l ?c ?k; (case a => k_is); (case l => k_is); (case c => k_is); (case k => k_is))
    case t_areas_of => (refine' Kx.textAt ?a ?l ?c ?k; (case a => k_is); (case l => k_is); (case c => k_is); (case k => k_is))
    case t_doors_of => (refine' Kx.textAt ?a ?l ?c ?k; (case a => k_is); (case l => k_is); (case c => k_is); (case k => k_is))
    case t_door_names => (refine' Kx.textAt ?a ?l ?c ?k; (case a => k_is); (case l => k_is); (case c => k_is); (case k => k_is))
    case t_side_area => (refine' Kx.textAt ?a ?l ?c ?k; (case a => k_is); (case l => k_is); (case c => k_is); (case k => k_is))
    case t_check_building => (refine' Kx.textAt ?a ?l ?c ?k; (case a => k_is); (case l => k_is); (case c => k_is); (case k => k_is))
    case t_check_door => (refine' Kx.textAt ?a ?l ?c ?k; (case a => k_is); (case l => k_is); (case c => k_is); (case k => k_is))
    case t_check_side => (refine' Kx.textAt ?a ?l ?c ?k; (case a => k_is); (case l => k_is); (case c => k_is); (case k => k_is))
    case t_area_at => (refine' Kx.textAt ?a ?l ?c ?k; (case a => k_is); (case l => k_is); (case c => k_is); (case k => k_is))
    case t_check_free => (refine' Kx.textAt ?a ?l ?c ?k; (case a => k_is); (case l => k_is); (case c => k_is); (case k => k_is))
    case t_steps_from => (refine' Kx.textAt ?a ?l ?c ?k; (case a => k_is); (case l => k_is); (case c => k_is); (case k => k_is))
    case t_reached_from => (refine' Kx.textAt ?a ?l ?c ?k; (case a => k_is); (case l => k_is); (case c => k_is); (case k => k_is))
    case t_areas_joined => (refine' Kx.textAt ?a ?l ?c ?k; (case a => k_is); (case l => k_is); (case c => k_is); (case k => k_is))
    case t_joined => (refine' Kx.textAt ?a ?l ?c ?k; (case a => k_is); (case l => k_is); (case c => k_is); (case k => k_is))
    case t_law_begun => (refine' Kx.textAt ?a ?l ?c ?k; (case a => k_is); (case l => k_is); (case c => k_is); (case k => k_is))
    case t_law_mixed => (refine' Kx.textAt ?a ?l ?c ?k; (case a => k_is); (case l => k_is); (case c => k_is); (case k => k_is))
    case t_law_draw => (refine' Kx.textAt ?a ?l ?c ?k; (case a => k_is); (case l => k_is); (case c => k_is); (case k => k_is))
    case t_law_pick => (refine' Kx.textAt ?a ?l ?c ?k; (case a => k_is); (case l => k_is); (case c => k_is); (case k => k_is))
    case t_law_tells => (refine' Kx.textAt ?a ?l ?c ?k; (case a => k_is); (case l => k_is); (case c => k_is); (case k => k_is))
    case t_law_caught => (refine' Kx.textAt ?a ?l ?c ?k; (case a => k_is); (case l => k_is); (case c => k_is); (case k => k_is))
    case t_law_letters => (refine' Kx.textAt ?a ?l ?c ?k; (case a => k_is); (case l => k_is); (case c => k_is); (case k => k_is))
    case t_law_new => (refine' Kx.textAt ?a ?l ?c ?k; (case a => k_is); (case l => k_is); (case c => k_is); (case k => k_is))
    case t_law_names => (refine' Kx.textAt ?a ?l ?c ?k; (case a => k_is); (case l => k_is); (case c => k_is); (case k => k_is))
    case t_law_house => (refine' Kx.textAt ?a ?l ?c ?k; (case a => k_is); (case l => k_is); (case c => k_is); (case k => k_is))
    case t_law_is_named => (refine' Kx.textAt ?a ?l ?c ?k; (case a => k_is); (case l => k_is); (case c => k_is); (case k => k_is))
    case t_law_are_named => (refine' Kx.textAt ?a ?l ?c ?k; (case a => k_is); (case l => k_is); (case c => k_is); (case k => k_is))
    case t_law_is_doored => (refine' Kx.textAt ?a ?l ?c ?k; (case a => k_is); (case l => k_is); (case c => k_is); (case k => k_is))
    case t_law_is_housed => (refine' Kx.textAt ?a ?l ?c ?k; (case a => k_is); (case l => k_is); (case c => k_is); (case k => k_is))
    case t_law_bent => (refine' Kx.textAt ?a ?l ?c ?k; (case a => k_is); (case l => k_is); (case c => k_is); (case k => k_is))
    case t_law => (refine' Kx.textAt ?a ?l ?c ?k; (case a => k_is); (case l => k_is); (case c => k_is); (case k => k_is))
    case u1 => (refine' Kx.tabAt (P := 334) ?a ?l ?d ?k ?n ?e; (case a => k_is); (case l => k_is); (case d => k_is); (case k => k_is); (case n => first | k_is | kernel_rfl); (case e => kernel_rfl))
    case u2 => (refine' Kx.tabAt (P := 341) ?a ?l ?d ?k ?n ?e; (case a => k_is); (case l => k_is); (case d => k_is); (case k => k_is); (case n => first | k_is | kernel_rfl); (case e => kernel_rfl))
    case nP => decide
    case o1 => exact tb _ (by decide)
    case o2 => exact tb _ (by decide)
    case eK => (refine' Kx.ErrAt.mk ?e1 ?e2 ?e3 ?e4 ?e5 ?e6 ?e7 ?e8 ?e9 ?e10 ?e11 ?e12 ?e13; (case e1 => first | k_is | kernel_rfl); (case e2 => first | k_is | kernel_rfl); (case e3 => first | k_is | kernel_rfl); (case e4 => first | k_is | kernel_rfl); (case e5 => first | k_is | kernel_rfl); (case e6 => first | k_is | kernel_rfl); (case e7 => first | k_is | kernel_rfl); (case e8 => first | k_is | kernel_rfl); (case e9 => first | k_is | kernel_rfl); (case e10 => first | k_is | kernel_rfl); (case e11 => first | k_is | kernel_rfl); (case e12 => first | k_is | kernel_rfl); (case e13 => first | k_is | rfl))
    case eB => (refine' Kx.ErrAt.mk ?e1 ?e2 ?e3 ?e4 ?e5 ?e6 ?e7 ?e8 ?e9 ?e10 ?e11 ?e12 ?e13; (case e1 => first | k_is | kernel_rfl); (case e2 => first | k_is | kernel_rfl); (case e3 => first | k_is | kernel_rfl); (case e4 => first | k_is | kernel_rfl); (case e5 => first | k_is | kernel_rfl); (case e6 => first | k_is | kernel_rfl); (case e7 => first | k_is | kernel_rfl); (case e8 => first | k_is | kernel_rfl); (case e9 => first | k_is | kernel_rfl); (case e10 => first | k_is | kernel_rfl); (case e11 => first | k_is | kernel_rfl); (case e12 => first | k_is | kernel_rfl); (case e13 => first | k_is | rfl))
    case eD => (refine' Kx.ErrAt.mk ?e1 ?e2 ?e3 ?e4 ?e5 ?e6 ?e7 ?e8 ?e9 ?e10 ?e11 ?e12 ?e13; (case e1 => first | k_is | kernel_rfl); (case e2 => first | k_is | kernel_rfl); (case e3 => first | k_is | kernel_rfl); (case e4 => first | k_is | kernel_rfl); (case e5 => first | k_is | kernel_rfl); (case e6 => first | k_is | kernel_rfl); (case e7 => first | k_is | kernel_rfl); (case e8 => first | k_is | kernel_rfl); (case e9 => first | k_is | kernel_rfl); (case e10 => first | k_is | kernel_rfl); (case e11 => first | k_is | kernel_rfl); (case e12 => first | k_is | kernel_rfl); (case e13 => first | k_is | rfl))
    case eDs => (refine' Kx.ErrAt.mk ?e1 ?e2 ?e3 ?e4 ?e5 ?e6 ?e7 ?e8 ?e9 ?e10 ?e11 ?e12 ?e13; (case e1 => first | k_is | kernel_rfl); (case e2 => first | k_is | kernel_rfl); (case e3 => first | k_is | kernel_rfl); (case e4 => first | k_is | kernel_rfl); (case e5 => first | k_is | kernel_rfl); (case e6 => first | k_is | kernel_rfl); (case e7 => first | k_is | kernel_rfl); (case e8 => first | k_is | kernel_rfl); (case e9 => first | k_is | kernel_rfl); (case e10 => first | k_is | kernel_rfl); (case e11 => first | k_is | kernel_rfl); (case e12 => first | k_is | kernel_rfl); (case e13 => first | k_is | rfl))
    case eS => (refine' Kx.ErrAt.mk ?e1 ?e2 ?e3 ?e4 ?e5 ?e6 ?e7 ?e8 ?e9 ?e10 ?e11 ?e12 ?e13; (case e1 => first | k_is | kernel_rfl); (case e2 => first | k_is | kernel_rfl); (case e3 => first | k_is | kernel_rfl); (case e4 => first | k_is | kernel_rfl); (case e5 => first | k_is | kernel_rfl); (case e6 => first | k_is | kernel_rfl); (case e7 => first | k_is | kernel_rfl); (case e8 => first | k_is | kernel_rfl); (case e9 => first | k_is | kernel_rfl); (case e10 => first | k_is | kernel_rfl); (case e11 => first | k_is | kernel_rfl); (case e12 => first | k_is | kernel_rfl); (case e13 => first | k_is | rfl))
    case q1 => first | k_is | rfl
    case q2 => first | k_is | rfl
    case q3 => first | k_is | rfl
    case q4 => first | k_is | rfl
    case nB => first | k_is | rfl
    case z_type => k_is
    case z_int => k_is
    case z_str => k_is
    case z_bool => k_is
    case z_tuple => k_is
    case z_list => k_is
    case z_len => k_is
    case z_all => k_is
    case z_set => k_is
    case z_range => k_is
    case z_isinstance => k_is
    case z_abs => k_is
    case z_sorted => k_is
    case z_min => k_is
