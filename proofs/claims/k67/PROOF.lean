import PyProof.Rows.All
import Wide.All
import OpenK.AllK
import Wide.FinOn
import HandS.Evl
import HandS.More
import HandS.Text
import HandS.Iter
import HandS.Comp
import HandS.Words
import HandS.WordsList
import HandS.Exc
import HandS.ExcOwn
import HandS.ExcIs
import HandS.ExcInit
import HandS.ExcField
import HandS.SetFor
import HandS.Strs
import PyProof.NeKinds
import PyProof.EqKinds
import PyProof.EqAt
import HandS.TupAny
import HandS.IsInst
import HandS.WordsExc
import HandS.Lambda
import HandS.Deep
import HandS.Dict
import HandS.TupLe
import PyProof.TupleCall
import HandS.Sort
import HandS.Rev
import HandS.Zip
import HandS.DictComp
import HandS.NoneIn
import HandS.TupSets
import HandS.Steps
import KE.KExcIs
import HandS.Small
import HandS.Style
import HandS.EndTab
import KE.KNestM
import PySem.Challenge.RW_housekept_k67_airs_step_by_step
set_option Elab.async false
set_option linter.all false
set_option maxRecDepth 100000
set_option maxHeartbeats 1000000
namespace Kx
open PySem PySem.Spec PyProof.Rows L2 Evl

/-! ## Data: what the law's values are -/
inductive D where
  | non | bl (b : Bool) | int (i : Int) | str (s : Str) | tup (ds : List D) | lst (ds : List D) | dic
/-- a tuple whose object is known to have no dict of its own -/
def TupS (H : Hp) (a : Addr) (vs : List V) : Prop := ∃ o : Obj, o.dict = none ∧ H a = some (.frz o (.tup vs))
theorem TupS.up {H H' : Hp} {a : Addr} {vs : List V} (h : TupS H a vs) (e : Ex H H') : TupS H' a vs := let ⟨o, h1, h2⟩ := h; ⟨o, h1, e _ _ h2⟩
theorem TupS.sq {K : PySem.W.Frag} {H : Hp} {a : Addr} {vs : List V} (h : TupS H a vs) : SqT K H a vs := let ⟨o, _, h2⟩ := h; .inl (.inr ⟨o, h2⟩)
mutual
inductive Rep (H : Hp) : V → D → Prop
  | non : Rep H .non .non
  | bl (b : Bool) : Rep H (.bl b) (.bl b)
  | int (i : Int) : Rep H (.int i) (.int i)
  | str (s : Str) : Rep H (.str s) (.str s)
  | tup {a : Addr} {vs : List V} {ds : List D} : TupS H a vs → Reps H vs ds → Rep H (.ref a) (.tup ds)
  | lst {a : Addr} {vs : List V} {ds : List D} : H a = some (.lst vs) → Reps H vs ds → Rep H (.ref a) (.lst ds)
  | dic {a : Addr} : H a = some (.dK []) → Rep H (.ref a) .dic
inductive Reps (H : Hp) : List V → List D → Prop
  | nil : Reps H [] []
  | cons {v : V} {vs : List V} {d : D} {ds : List D} : Rep H v d → Reps H vs ds → Reps H (v :: vs) (d :: ds)
end
mutual
theorem Rep.mono {H H' : Hp} (e : Ex H H') : ∀ (d : D) (v : V), Rep H v d → Rep H' v d
  | _, _, .non => .non
  | _, _, .bl b => .bl b
  | _, _, .int i => .int i
  | _, _, .str s => .str s
  | _, _, .tup h r => .tup (h.up e) (Reps.mono e _ _ r)
  | _, _, .lst h r => .lst (e _ _ h) (Reps.mono e _ _ r)
  | _, _, .dic h => .dic (e _ _ h)
theorem Reps.mono {H H' : Hp} (e : Ex H H') : ∀ (ds : List D) (vs : List V), Reps H vs ds → Reps H' vs ds
  | _, _, .nil => .nil
  | _, _, .cons r t => .cons (Rep.mono e _ _ r) (Reps.mono e _ _ t)
end
theorem Rep.up {H H' : Hp} {v : V} {d : D} (r : Rep H v d) (e : Ex H H') : Rep H' v d := r.mono e
theorem Reps.up {H H' : Hp} {vs : List V} {ds : List D} (r : Reps H vs ds) (e : Ex H H') : Reps H' vs ds := r.mono e
theorem Reps.length {H : Hp} : ∀ {vs : List V} {ds : List D}, Reps H vs ds → vs.length = ds.length
  | _, _, .nil => rfl
  | _, _, .cons _ t => by rw [List.length_cons, List.length_cons, Reps.length t]
theorem Reps.get {H : Hp} : ∀ {vs : List V} {ds : List D} {j : Nat} {v : V}, Reps H vs ds → vs[j]? = some v → ∃ d, ds[j]? = some d ∧ Rep H v d
  | _, _, _, _, .nil, h => by simp at h
  | _, _, 0, _, .cons r _, h => by
    have h2 := Option.some.inj h
    subst h2
    exact ⟨_, rfl, r⟩
  | _, _, j + 1, _, .cons _ t, h => Reps.get (j := j) t h
theorem Reps.getD {H : Hp} : ∀ {vs : List V} {ds : List D} {j : Nat} {d : D}, Reps H vs ds → ds[j]? = some d → ∃ v, vs[j]? = some v ∧ Rep H v d
  | _, _, _, _, .nil, h => by simp at h
  | _, _, 0, _, .cons r _, h => by
    have h2 := Option.some.inj h
    subst h2
    exact ⟨_, rfl, r⟩
  | _, _, j + 1, _, .cons _ t, h => Reps.getD (j := j) t h
theorem Reps.append {H : Hp} : ∀ {vs ws : List V} {ds es : List D}, Reps H vs ds → Reps H ws es → Reps H (vs ++ ws) (ds ++ es)
  | _, _, _, _, .nil, s => s
  | _, _, _, _, .cons r t, s => .cons r (Reps.append t s)
theorem Reps.take {H : Hp} : ∀ {vs : List V} {ds : List D} (n : Nat), Reps H vs ds → Reps H (vs.take n) (ds.take n)
  | _, _, 0, _ => .nil
  | _, _, _ + 1, .nil => .nil
  | _, _, n + 1, .cons r t => .cons r (Reps.take n t)
theorem Reps.drop {H : Hp} : ∀ {vs : List V} {ds : List D} (n : Nat), Reps H vs ds → Reps H (vs.drop n) (ds.drop n)
  | _, _, 0, r => r
  | _, _, _ + 1, .nil => .nil
  | _, _, n + 1, .cons _ t => Reps.drop n t
def sv (ss : List Str) : List V := ss.map V.str
theorem reps_strs {H : Hp} : ∀ ss : List Str, Reps H (sv ss) (ss.map D.str)
  | [] => .nil
  | s :: r => .cons (.str s) (reps_strs r)
theorem strs_of_reps {H : Hp} : ∀ {ss : List Str} {vs : List V}, Reps H vs (ss.map D.str) → vs = sv ss
  | [], _, .nil => rfl
  | s :: r, _, .cons h t => by
    cases h
    rw [strs_of_reps t]
    rfl

/-- the type's name -/
def D.ty : D → String
  | .non => "NoneType" | .bl _ => "bool" | .int _ => "int" | .str _ => "str" | .tup _ => "tuple" | .lst _ => "list" | .dic => "dict"
theorem Rep.tyB {K : PySem.W.Frag} {H : Hp} {v : V} {d : D} (r : Rep H v d) : TyB K H v d.ty := by
  cases r with
  | non => exact .non
  | bl b => exact .bl b
  | int i => exact .int i
  | str s => exact .str s
  | tup h _ => exact .tup h.sq
  | lst h _ => exact .lst (.of h)
  | dic h => exact .dK h
section
variable {K : PySem.W.Frag} {σ : L2.St} {H H' : Hp} {ta tb tc te tl : TE} {x y z v : V} {r r' : R2}
theorem ev_type {d : D} (h : Ev ta σ H v) (q : Rep H v d) : Ev (tCB (rTyp K) (tCons ta tNil)) σ H (.ty d.ty) :=
  ev_cb (ea_cons h ea_nil) fun H1 e Q k => ⟨v, d.ty, rfl, (q.up e).tyB, k H1 (Ex.refl _)⟩
theorem rv_isTy {a b : String} : RV (fun x y H Q => ∃ a b, x = V.ty a ∧ y = V.ty b ∧ Q (.bl (decide (a = b))) H) (.ty a) (.ty b) H (.bl (decide (a = b))) :=
  fun H1 e Q k => ⟨a, b, rfl, rfl, k H1 (Ex.refl _)⟩
theorem rv_notTy {a b : String} : RV rNT (.ty a) (.ty b) H (.bl (!decide (a = b))) := fun H1 e Q k => ⟨a, b, rfl, rfl, k H1 (Ex.refl _)⟩
/-- a op b op' c -/
theorem ev_chain {b1 b2 : Bool} (ha : Ev ta σ H x) (hb : Ev tb σ H y) (h1 : RV r x y H (.bl b1)) (hc : b1 = true → Ev tc σ H z) (h2 : b1 = true → RV r' y z H (.bl b2)) :
    Ev (tChain r r' ta tb tc) σ H (.bl (b1 && b2)) := fun H1 e1 Q q => ha H1 e1 _ fun H2 e2 => hb H2 (e1.trans e2) _ fun H3 e3 => h1 H3 ((e1.trans e2).trans e3) _ fun H4 e4 => ⟨b1, rfl, by
      have e14 := (e2.trans e3).trans e4
      have E := e1.trans e14
      cases b1 with
      | false => exact q H4 e14
      | true => exact hc rfl H4 E _ fun H5 e5 => h2 rfl H5 (E.trans e5) _ fun H6 e6 => q H6 ((e14.trans e5).trans e6)⟩
theorem et_val {b : Bool} (h : Ev te σ H (.bl b)) : EvT (fun σ H Q => te σ H fun x H1 => ∃ k, x = .bl k ∧ Q k H1) σ H b := fun H1 e Q q => h H1 e _ fun H2 e2 => ⟨b, rfl, q H2 e2⟩
theorem ev_chainT {b : Bool} (h : Ev te σ H (.bl b)) : EvT (tTest te) σ H b := et_test h
/-- all(..) of a new list of truths -/
theorem ev_all {bs : List Bool} (h : EvL te σ H (bs.map V.bl)) : Ev (tCB (rAll K) (tCons te tNil)) σ H (.bl (bs.all id)) := fun H1 e Q q =>
  h H1 e _ fun p H2 _ e2 hp => ⟨p, bs, rfl, .of hp, q H2 e2⟩
/-- [te for x in a tuple] -/
theorem el_lcT {i : Nat} {a : Addr} {xs ys : List V} (h : Ev tl σ H (.ref a)) (hx : SqT K H a xs) (hl : ys.length = xs.length) (hz : xs.length < 100000)
    (hy : ∀ (j : Nat) (x y : V), xs[j]? = some x → ys[j]? = some y → Ev te ((σ.set i none).set i (some x)) H y) : EvL (tLc (iTup K tl) (gName i) tYes te [i]) σ H ys := fun H1 e Q q =>
  h H1 e _ fun H2 e2 => ⟨a, rfl, ⟨xs, ex_t (e.trans e2) hx⟩, fun D hD =>
    lc_tup (xs := xs) (fun j H' => Ex H2 H' ∧ H' D = some (.lst (ys.take j))) ⟨Ex.new hD, upd_same⟩ (fun j H' _ p => ex_t ((e.trans e2).trans p.1) hx)
      (fun j x H' hj p => ⟨by show (((σ.set i none).set i (some x)).set i none) = (σ.set i none); rw [List.set_set, List.set_set], by
        have hlt : j < xs.length := (List.getElem?_eq_some_iff.mp hj).1
        have hlt2 : j < ys.length := by omega
        have gy : ys[j]? = some ys[j] := List.getElem?_eq_getElem hlt2
        refine hy j x _ hj gy H' ((e.trans e2).trans p.1) _ fun H3 e3 => ⟨ys.take j, e3 _ _ p.2, ?_, (p.1.trans e3).mut hD, ?_⟩
        · rw [List.length_take]
          exact sz_lt (Nat.lt_of_le_of_lt (Nat.min_le_right _ _) (by omega))
        · rw [upd_same, List.take_add_one, gy]
          rfl⟩)
      (fun H' p => q D H' (fresh_back e2 hD) (e2.trans p.1) (by rw [p.2, List.take_of_length_le (by omega)]))⟩
theorem el_lcL {i : Nat} {a : Addr} {xs ys : List V} (h : Ev tl σ H (.ref a)) (hx : SqL K H a xs) (hl : ys.length = xs.length) (hz : xs.length < 100000)
    (hy : ∀ (j : Nat) (x y : V), xs[j]? = some x → ys[j]? = some y → Ev te ((σ.set i none).set i (some x)) H y) : EvL (tLc (iList K tl) (gName i) tYes te [i]) σ H ys := fun H1 e Q q =>
  h H1 e _ fun H2 e2 => ⟨a, rfl, ⟨xs, ex_l (e.trans e2) hx⟩, fun D hD =>
    lc_list (xs := xs) (fun j H' => Ex H2 H' ∧ H' D = some (.lst (ys.take j))) ⟨Ex.new hD, upd_same⟩ (fun j H' _ p => ex_l ((e.trans e2).trans p.1) hx)
      (fun j x H' hj p => ⟨by show (((σ.set i none).set i (some x)).set i none) = (σ.set i none); rw [List.set_set, List.set_set], by
        have hlt : j < xs.length := (List.getElem?_eq_some_iff.mp hj).1
        have hlt2 : j < ys.length := by omega
        have gy : ys[j]? = some ys[j] := List.getElem?_eq_getElem hlt2
        refine hy j x _ hj gy H' ((e.trans e2).trans p.1) _ fun H3 e3 => ⟨ys.take j, e3 _ _ p.2, ?_, (p.1.trans e3).mut hD, ?_⟩
        · rw [List.length_take]
          exact sz_lt (Nat.lt_of_le_of_lt (Nat.min_le_right _ _) (by omega))
        · rw [upd_same, List.take_add_one, gy]
          rfl⟩)
      (fun H' p => q D H' (fresh_back e2 hD) (e2.trans p.1) (by rw [p.2, List.take_of_length_le (by omega)]))⟩
end
end Kx

set_option Elab.async false
set_option linter.all false
set_option maxRecDepth 100000
set_option maxHeartbeats 1000000
namespace Kx
open PySem PySem.Spec PyProof.Rows L2 Evl
def topK (i : Nat) : Stmt := PySem.Challenge.pw_housekept_k67_airs_step_by_step.main.body.getD i (.Pass ⟨0, 0, 0, 0⟩)
abbrev s_is_between : Stmt := topK 7
abbrev s_is_tuple : Stmt := topK 8
abbrev s_is_among : Stmt := topK 9
abbrev s_is_ascending : Stmt := topK 10
abbrev s_are_unlike : Stmt := topK 11
abbrev s_are_wholes : Stmt := topK 12
abbrev s_is_name : Stmt := topK 14
abbrev s_is_room : Stmt := topK 17
abbrev s_are_rooms : Stmt := topK 18
abbrev s_is_leak : Stmt := topK 19
abbrev s_are_leaks : Stmt := topK 20
abbrev s_is_heater : Stmt := topK 21
abbrev s_are_heaters : Stmt := topK 22
abbrev s_is_weather : Stmt := topK 23
abbrev s_is_air : Stmt := topK 24
abbrev s_are_named : Stmt := topK 25
abbrev s_is_setting_of : Stmt := topK 26
abbrev s_check_air : Stmt := topK 27
abbrev s_is_setting : Stmt := topK 28
abbrev s_check_degrees : Stmt := topK 29
abbrev s_next_degrees : Stmt := topK 30
abbrev s_stepped_degrees : Stmt := topK 31
abbrev s_law_begun : Stmt := topK 33
abbrev s_law_mixed : Stmt := topK 34
abbrev s_law_draw : Stmt := topK 35
abbrev s_law_pick : Stmt := topK 36
abbrev s_law_shuffled : Stmt := topK 37
abbrev s_law_some : Stmt := topK 38
abbrev s_law_caught : Stmt := topK 39
abbrev s_law_whole_number : Stmt := topK 40
abbrev s_law_tells : Stmt := topK 41
abbrev s_law_any : Stmt := topK 42
abbrev s_law_spoilt : Stmt := topK 43
abbrev s_law_leaks : Stmt := topK 44
abbrev s_law_even_gain : Stmt := topK 45
abbrev s_law_air : Stmt := topK 46
abbrev s_law_heater_names : Stmt := topK 47
abbrev s_law_door_names : Stmt := topK 48
abbrev s_law_setting : Stmt := topK 49
abbrev s_law_later : Stmt := topK 50
abbrev s_law_is_name : Stmt := topK 51
abbrev s_law_between : Stmt := topK 52
abbrev s_law_is_tuple : Stmt := topK 53
abbrev s_law_good_rooms : Stmt := topK 54
abbrev s_law_good_leaks : Stmt := topK 55
abbrev s_law_good_heaters : Stmt := topK 56
abbrev s_law_good_air : Stmt := topK 57
abbrev s_law_good_names : Stmt := topK 58
abbrev s_law_good_setting : Stmt := topK 59
abbrev s_law_ask_errors : Stmt := topK 60
abbrev s_law : Stmt := topK 61
theorem sc_is_between : FnScope ["value", "low", "high"] ["value", "low", "high"] (defScope s_is_between) := ⟨rfl, rfl, rfl, by decide +kernel, rfl, by decide +kernel, by decide +kernel⟩
theorem sc_is_tuple : FnScope ["value", "least", "most"] ["value", "least", "most"] (defScope s_is_tuple) := ⟨rfl, rfl, rfl, by decide +kernel, rfl, by decide +kernel, by decide +kernel⟩
theorem sc_is_among : FnScope ["value", "names"] ["value", "names"] (defScope s_is_among) := ⟨rfl, rfl, rfl, by decide +kernel, rfl, by decide +kernel, by decide +kernel⟩
theorem sc_is_ascending : FnScope ["row", "at"] ["row"] (defScope s_is_ascending) := ⟨rfl, rfl, rfl, by decide +kernel, rfl, by decide +kernel, by decide +kernel⟩
theorem sc_are_unlike : FnScope ["row"] ["row"] (defScope s_are_unlike) := ⟨rfl, rfl, rfl, by decide +kernel, rfl, by decide +kernel, by decide +kernel⟩
theorem sc_are_wholes : FnScope ["row", "low", "high", "item"] ["row", "low", "high"] (defScope s_are_wholes) := ⟨rfl, rfl, rfl, by decide +kernel, rfl, by decide +kernel, by decide +kernel⟩
theorem sc_is_name : FnScope ["value", "sign"] ["value"] (defScope s_is_name) := ⟨rfl, rfl, rfl, by decide +kernel, rfl, by decide +kernel, by decide +kernel⟩
theorem sc_is_room : FnScope ["value", "low", "high", "first"] ["value"] (defScope s_is_room) := ⟨rfl, rfl, rfl, by decide +kernel, rfl, by decide +kernel, by decide +kernel⟩
theorem sc_are_rooms : FnScope ["value", "row"] ["value"] (defScope s_are_rooms) := ⟨rfl, rfl, rfl, by decide +kernel, rfl, by decide +kernel, by decide +kernel⟩
theorem sc_is_leak : FnScope ["value", "names", "whole"] ["value", "names", "whole"] (defScope s_is_leak) := ⟨rfl, rfl, rfl, by decide +kernel, rfl, by decide +kernel, by decide +kernel⟩
theorem sc_are_leaks : FnScope ["value", "names", "whole", "row", "area", "other", "_", "door", "name"] ["value", "names", "whole"] (defScope s_are_leaks) := ⟨rfl, rfl, rfl, by decide +kernel, rfl, by decide +kernel, by decide +kernel⟩
theorem sc_is_heater : FnScope ["value", "names"] ["value", "names"] (defScope s_is_heater) := ⟨rfl, rfl, rfl, by decide +kernel, rfl, by decide +kernel, by decide +kernel⟩
theorem sc_are_heaters : FnScope ["value", "names", "row"] ["value", "names"] (defScope s_are_heaters) := ⟨rfl, rfl, rfl, by decide +kernel, rfl, by decide +kernel, by decide +kernel⟩
theorem sc_is_weather : FnScope ["value", "least", "most", "first", "move"] ["value"] (defScope s_is_weather) := ⟨rfl, rfl, rfl, by decide +kernel, rfl, by decide +kernel, by decide +kernel⟩
theorem sc_is_air : FnScope ["value", "names", "row"] ["value"] (defScope s_is_air) := ⟨rfl, rfl, rfl, by decide +kernel, rfl, by decide +kernel, by decide +kernel⟩
theorem sc_are_named : FnScope ["value", "names", "item"] ["value", "names"] (defScope s_are_named) := ⟨rfl, rfl, rfl, by decide +kernel, rfl, by decide +kernel, by decide +kernel⟩
theorem sc_is_setting_of : FnScope ["air", "value", "doors", "row"] ["air", "value"] (defScope s_is_setting_of) := ⟨rfl, rfl, rfl, by decide +kernel, rfl, by decide +kernel, by decide +kernel⟩
theorem sc_check_air : FnScope ["air"] ["air"] (defScope s_check_air) := ⟨rfl, rfl, rfl, by decide +kernel, rfl, by decide +kernel, by decide +kernel⟩
theorem sc_is_setting : FnScope ["air", "value"] ["air", "value"] (defScope s_is_setting) := ⟨rfl, rfl, rfl, by decide +kernel, rfl, by decide +kernel, by decide +kernel⟩
theorem sc_check_degrees : FnScope ["air", "degrees", "many"] ["air", "degrees"] (defScope s_check_degrees) := ⟨rfl, rfl, rfl, by decide +kernel, rfl, by decide +kernel, by decide +kernel⟩
theorem sc_next_degrees : FnScope ["air", "degrees", "weather", "setting"] ["air", "degrees", "weather", "setting"] (defScope s_next_degrees) := ⟨rfl, rfl, rfl, by decide +kernel, rfl, by decide +kernel, by decide +kernel⟩
theorem sc_stepped_degrees : FnScope ["air", "degrees", "weather", "setting", "on", "free", "around", "found", "row", "area", "leaks", "flows", "kept", "gains", "degree", "leak", "_", "other", "share", "name", "there", "gain"] ["air", "degrees", "weather", "setting"] (defScope s_stepped_degrees) := ⟨rfl, rfl, rfl, by decide +kernel, rfl, by decide +kernel, by decide +kernel⟩
theorem sc_law_begun : FnScope ["script", "great", "cell"] ["script"] (defScope s_law_begun) := ⟨rfl, rfl, rfl, by decide +kernel, rfl, by decide +kernel, by decide +kernel⟩
theorem sc_law_mixed : FnScope ["state", "turn", "found", "prime", "blend", "cell"] ["state"] (defScope s_law_mixed) := ⟨rfl, rfl, rfl, by decide +kernel, rfl, by decide +kernel, by decide +kernel⟩
theorem sc_law_draw : FnScope ["state", "room", "found"] ["state", "room"] (defScope s_law_draw) := ⟨rfl, rfl, rfl, by decide +kernel, rfl, by decide +kernel, by decide +kernel⟩
theorem sc_law_pick : FnScope ["state", "some"] ["state", "some"] (defScope s_law_pick) := ⟨rfl, rfl, rfl, by decide +kernel, rfl, by decide +kernel, by decide +kernel⟩
theorem sc_law_shuffled : FnScope ["state", "some", "left", "found"] ["state", "some"] (defScope s_law_shuffled) := ⟨rfl, rfl, rfl, by decide +kernel, rfl, by decide +kernel, by decide +kernel⟩
theorem sc_law_some : FnScope ["state", "items", "odds", "item"] ["state", "items", "odds"] (defScope s_law_some) := ⟨rfl, rfl, rfl, by decide +kernel, rfl, by decide +kernel, by decide +kernel⟩
theorem sc_law_caught : FnScope ["task", "error"] ["task"] (defScope s_law_caught) := ⟨rfl, rfl, rfl, by decide +kernel, rfl, by decide +kernel, by decide +kernel⟩
theorem sc_law_whole_number : FnScope ["value"] ["value"] (defScope s_law_whole_number) := ⟨rfl, rfl, rfl, by decide +kernel, rfl, by decide +kernel, by decide +kernel⟩
theorem sc_law_tells : FnScope ["value", "due"] ["value", "due"] (defScope s_law_tells) := ⟨rfl, rfl, rfl, by decide +kernel, rfl, by decide +kernel, by decide +kernel⟩
theorem sc_law_any : FnScope ["state", "number", "some"] ["state"] (defScope s_law_any) := ⟨rfl, rfl, rfl, by decide +kernel, rfl, by decide +kernel, by decide +kernel⟩
theorem sc_law_spoilt : FnScope ["state", "thing", "way", "row", "at", "more", "some"] ["state", "thing"] (defScope s_law_spoilt) := ⟨rfl, rfl, rfl, by decide +kernel, rfl, by decide +kernel, by decide +kernel⟩
theorem sc_law_leaks : FnScope ["state", "rooms", "whole", "found", "at", "area", "left", "ends", "other", "share", "door", "name", "row"] ["state", "rooms", "whole"] (defScope s_law_leaks) := ⟨rfl, rfl, rfl, by decide +kernel, rfl, by decide +kernel, by decide +kernel⟩
theorem sc_law_even_gain : FnScope ["state", "air", "room", "loss", "sky", "area", "other", "share", "door", "gain"] ["state", "air"] (defScope s_law_even_gain) := ⟨rfl, rfl, rfl, by decide +kernel, rfl, by decide +kernel, by decide +kernel⟩
theorem sc_law_air : FnScope ["state", "most_rooms", "wide", "rooms", "middle", "name", "low", "many", "whole", "span", "least", "weather", "air", "heaters", "area", "gain", "row"] ["state", "most_rooms", "wide"] (defScope s_law_air) := ⟨rfl, rfl, rfl, by decide +kernel, rfl, by decide +kernel, by decide +kernel⟩
theorem sc_law_heater_names : FnScope ["air", "row"] ["air"] (defScope s_law_heater_names) := ⟨rfl, rfl, rfl, by decide +kernel, rfl, by decide +kernel, by decide +kernel⟩
theorem sc_law_door_names : FnScope ["air", "row"] ["air"] (defScope s_law_door_names) := ⟨rfl, rfl, rfl, by decide +kernel, rfl, by decide +kernel, by decide +kernel⟩
theorem sc_law_setting : FnScope ["state", "air", "on"] ["state", "air"] (defScope s_law_setting) := ⟨rfl, rfl, rfl, by decide +kernel, rfl, by decide +kernel, by decide +kernel⟩
theorem sc_law_later : FnScope ["air", "now", "sky", "setting", "rooms", "found", "at", "name", "heat", "kept", "area", "other", "share", "door", "label", "gain", "row"] ["air", "now", "sky", "setting"] (defScope s_law_later) := ⟨rfl, rfl, rfl, by decide +kernel, rfl, by decide +kernel, by decide +kernel⟩
theorem sc_law_is_name : FnScope ["value", "letters", "sign"] ["value"] (defScope s_law_is_name) := ⟨rfl, rfl, rfl, by decide +kernel, rfl, by decide +kernel, by decide +kernel⟩
theorem sc_law_between : FnScope ["value", "low", "high"] ["value", "low", "high"] (defScope s_law_between) := ⟨rfl, rfl, rfl, by decide +kernel, rfl, by decide +kernel, by decide +kernel⟩
theorem sc_law_is_tuple : FnScope ["value", "least", "most"] ["value", "least", "most"] (defScope s_law_is_tuple) := ⟨rfl, rfl, rfl, by decide +kernel, rfl, by decide +kernel, by decide +kernel⟩
theorem sc_law_good_rooms : FnScope ["value", "names", "row", "number"] ["value"] (defScope s_law_good_rooms) := ⟨rfl, rfl, rfl, by decide +kernel, rfl, by decide +kernel, by decide +kernel⟩
theorem sc_law_good_leaks : FnScope ["rooms", "whole", "value", "seen", "sums", "row", "name", "part"] ["rooms", "whole", "value"] (defScope s_law_good_leaks) := ⟨rfl, rfl, rfl, by decide +kernel, rfl, by decide +kernel, by decide +kernel⟩
theorem sc_law_good_heaters : FnScope ["rooms", "value", "names", "row"] ["rooms", "value"] (defScope s_law_good_heaters) := ⟨rfl, rfl, rfl, by decide +kernel, rfl, by decide +kernel, by decide +kernel⟩
theorem sc_law_good_air : FnScope ["value", "rooms", "sky", "row", "number"] ["value"] (defScope s_law_good_air) := ⟨rfl, rfl, rfl, by decide +kernel, rfl, by decide +kernel, by decide +kernel⟩
theorem sc_law_good_names : FnScope ["some", "value", "part"] ["some", "value"] (defScope s_law_good_names) := ⟨rfl, rfl, rfl, by decide +kernel, rfl, by decide +kernel, by decide +kernel⟩
theorem sc_law_good_setting : FnScope ["air", "value"] ["air", "value"] (defScope s_law_good_setting) := ⟨rfl, rfl, rfl, by decide +kernel, rfl, by decide +kernel, by decide +kernel⟩
theorem sc_law_ask_errors : FnScope ["state", "air", "now", "sky", "setting", "given", "lap", "at", "wrong", "degree"] ["state", "air", "now", "sky", "setting"] (defScope s_law_ask_errors) := ⟨rfl, rfl, rfl, by decide +kernel, rfl, by decide +kernel, by decide +kernel⟩
theorem sc_law : FnScope ["script", "state", "lap", "air", "bent", "now", "sky", "setting", "later", "more", "warmer", "above", "row", "degree", "low", "high"] ["script"] (defScope s_law) := ⟨rfl, rfl, rfl, by decide +kernel, rfl, by decide +kernel, by decide +kernel⟩
def clsB : Stmt → List Stmt | .ClassDef _ _ _ b _ _ _ _ _ _ _ => b | _ => []
abbrev s_init : Stmt := (clsB (topK 5)).getD 0 (.Pass ⟨0, 0, 0, 0⟩)
theorem sc_init : FnScope ["self", "at"] ["self", "at"] (defScope s_init) := ⟨rfl, rfl, rfl, by decide +kernel, rfl, by decide +kernel, by decide +kernel⟩
/-- an own class of errors at C -/
structure ExK (K : PySem.W.Frag) (mg : Str → Option Value) (x : Str) (C : Addr) : Prop where
  g : mg x = some (.ref C)
  q : PySem.W.excIn K C [.type "ValueError", .type "Exception", .type "BaseException", .type "object"] "ValueError.__new__" = true
  kp : PySem.W.keepIn K (.ref C) = true
  bx : PySem.W.subIn K (.ref C) (.type "BaseException") = some true
  ty : PySem.W.typeIn K (.ref C) = some (.type "type")
  ex : ExcC K C
/-- where the text's defs and classes stand -/
structure Txt (K : PySem.W.Frag) (mg : Str → Option Value) where
  a_is_between : Addr
  d_is_between : FuncData
  F_is_between : Fun K "is_between" "is_between" s_is_between a_is_between d_is_between
  g_is_between : mg "is_between" = some (.ref a_is_between)
  a_is_tuple : Addr
  d_is_tuple : FuncData
  F_is_tuple : Fun K "is_tuple" "is_tuple" s_is_tuple a_is_tuple d_is_tuple
  g_is_tuple : mg "is_tuple" = some (.ref a_is_tuple)
  a_is_among : Addr
  d_is_among : FuncData
  F_is_among : Fun K "is_among" "is_among" s_is_among a_is_among d_is_among
  g_is_among : mg "is_among" = some (.ref a_is_among)
  a_is_ascending : Addr
  d_is_ascending : FuncData
  F_is_ascending : Fun K "is_ascending" "is_ascending" s_is_ascending a_is_ascending d_is_ascending
  g_is_ascending : mg "is_ascending" = some (.ref a_is_ascending)
  a_are_unlike : Addr
  d_are_unlike : FuncData
  F_are_unlike : Fun K "are_unlike" "are_unlike" s_are_unlike a_are_unlike d_are_unlike
  g_are_unlike : mg "are_unlike" = some (.ref a_are_unlike)
  a_are_wholes : Addr
  d_are_wholes : FuncData
  F_are_wholes : Fun K "are_wholes" "are_wholes" s_are_wholes a_are_wholes d_are_wholes
  g_are_wholes : mg "are_wholes" = some (.ref a_are_wholes)
  a_is_name : Addr
  d_is_name : FuncData
  F_is_name : Fun K "is_name" "is_name" s_is_name a_is_name d_is_name
  g_is_name : mg "is_name" = some (.ref a_is_name)
  a_is_room : Addr
  d_is_room : FuncData
  F_is_room : Fun K "is_room" "is_room" s_is_room a_is_room d_is_room
  g_is_room : mg "is_room" = some (.ref a_is_room)
  a_are_rooms : Addr
  d_are_rooms : FuncData
  F_are_rooms : Fun K "are_rooms" "are_rooms" s_are_rooms a_are_rooms d_are_rooms
  g_are_rooms : mg "are_rooms" = some (.ref a_are_rooms)
  a_is_leak : Addr
  d_is_leak : FuncData
  F_is_leak : Fun K "is_leak" "is_leak" s_is_leak a_is_leak d_is_leak
  g_is_leak : mg "is_leak" = some (.ref a_is_leak)
  a_are_leaks : Addr
  d_are_leaks : FuncData
  F_are_leaks : Fun K "are_leaks" "are_leaks" s_are_leaks a_are_leaks d_are_leaks
  g_are_leaks : mg "are_leaks" = some (.ref a_are_leaks)
  a_is_heater : Addr
  d_is_heater : FuncData
  F_is_heater : Fun K "is_heater" "is_heater" s_is_heater a_is_heater d_is_heater
  g_is_heater : mg "is_heater" = some (.ref a_is_heater)
  a_are_heaters : Addr
  d_are_heaters : FuncData
  F_are_heaters : Fun K "are_heaters" "are_heaters" s_are_heaters a_are_heaters d_are_heaters
  g_are_heaters : mg "are_heaters" = some (.ref a_are_heaters)
  a_is_weather : Addr
  d_is_weather : FuncData
  F_is_weather : Fun K "is_weather" "is_weather" s_is_weather a_is_weather d_is_weather
  g_is_weather : mg "is_weather" = some (.ref a_is_weather)
  a_is_air : Addr
  d_is_air : FuncData
  F_is_air : Fun K "is_air" "is_air" s_is_air a_is_air d_is_air
  g_is_air : mg "is_air" = some (.ref a_is_air)
  a_are_named : Addr
  d_are_named : FuncData
  F_are_named : Fun K "are_named" "are_named" s_are_named a_are_named d_are_named
  g_are_named : mg "are_named" = some (.ref a_are_named)
  a_is_setting_of : Addr
  d_is_setting_of : FuncData
  F_is_setting_of : Fun K "is_setting_of" "is_setting_of" s_is_setting_of a_is_setting_of d_is_setting_of
  g_is_setting_of : mg "is_setting_of" = some (.ref a_is_setting_of)
  a_check_air : Addr
  d_check_air : FuncData
  F_check_air : Fun K "check_air" "check_air" s_check_air a_check_air d_check_air
  g_check_air : mg "check_air" = some (.ref a_check_air)
  a_is_setting : Addr
  d_is_setting : FuncData
  F_is_setting : Fun K "is_setting" "is_setting" s_is_setting a_is_setting d_is_setting
  g_is_setting : mg "is_setting" = some (.ref a_is_setting)
  a_check_degrees : Addr
  d_check_degrees : FuncData
  F_check_degrees : Fun K "check_degrees" "check_degrees" s_check_degrees a_check_degrees d_check_degrees
  g_check_degrees : mg "check_degrees" = some (.ref a_check_degrees)
  a_next_degrees : Addr
  d_next_degrees : FuncData
  F_next_degrees : Fun K "next_degrees" "next_degrees" s_next_degrees a_next_degrees d_next_degrees
  g_next_degrees : mg "next_degrees" = some (.ref a_next_degrees)
  a_stepped_degrees : Addr
  d_stepped_degrees : FuncData
  F_stepped_degrees : Fun K "stepped_degrees" "stepped_degrees" s_stepped_degrees a_stepped_degrees d_stepped_degrees
  g_stepped_degrees : mg "stepped_degrees" = some (.ref a_stepped_degrees)
  a_law_begun : Addr
  d_law_begun : FuncData
  F_law_begun : Fun K "_law_begun" "_law_begun" s_law_begun a_law_begun d_law_begun
  g_law_begun : mg "_law_begun" = some (.ref a_law_begun)
  a_law_mixed : Addr
  d_law_mixed : FuncData
  F_law_mixed : Fun K "_law_mixed" "_law_mixed" s_law_mixed a_law_mixed d_law_mixed
  g_law_mixed : mg "_law_mixed" = some (.ref a_law_mixed)
  a_law_draw : Addr
  d_law_draw : FuncData
  F_law_draw : Fun K "_law_draw" "_law_draw" s_law_draw a_law_draw d_law_draw
  g_law_draw : mg "_law_draw" = some (.ref a_law_draw)
  a_law_pick : Addr
  d_law_pick : FuncData
  F_law_pick : Fun K "_law_pick" "_law_pick" s_law_pick a_law_pick d_law_pick
  g_law_pick : mg "_law_pick" = some (.ref a_law_pick)
  a_law_shuffled : Addr
  d_law_shuffled : FuncData
  F_law_shuffled : Fun K "_law_shuffled" "_law_shuffled" s_law_shuffled a_law_shuffled d_law_shuffled
  g_law_shuffled : mg "_law_shuffled" = some (.ref a_law_shuffled)
  a_law_some : Addr
  d_law_some : FuncData
  F_law_some : Fun K "_law_some" "_law_some" s_law_some a_law_some d_law_some
  g_law_some : mg "_law_some" = some (.ref a_law_some)
  a_law_caught : Addr
  d_law_caught : FuncData
  F_law_caught : Fun K "_law_caught" "_law_caught" s_law_caught a_law_caught d_law_caught
  g_law_caught : mg "_law_caught" = some (.ref a_law_caught)
  a_law_whole_number : Addr
  d_law_whole_number : FuncData
  F_law_whole_number : Fun K "_law_whole_number" "_law_whole_number" s_law_whole_number a_law_whole_number d_law_whole_number
  g_law_whole_number : mg "_law_whole_number" = some (.ref a_law_whole_number)
  a_law_tells : Addr
  d_law_tells : FuncData
  F_law_tells : Fun K "_law_tells" "_law_tells" s_law_tells a_law_tells d_law_tells
  g_law_tells : mg "_law_tells" = some (.ref a_law_tells)
  a_law_any : Addr
  d_law_any : FuncData
  F_law_any : Fun K "_law_any" "_law_any" s_law_any a_law_any d_law_any
  g_law_any : mg "_law_any" = some (.ref a_law_any)
  a_law_spoilt : Addr
  d_law_spoilt : FuncData
  F_law_spoilt : Fun K "_law_spoilt" "_law_spoilt" s_law_spoilt a_law_spoilt d_law_spoilt
  g_law_spoilt : mg "_law_spoilt" = some (.ref a_law_spoilt)
  a_law_leaks : Addr
  d_law_leaks : FuncData
  F_law_leaks : Fun K "_law_leaks" "_law_leaks" s_law_leaks a_law_leaks d_law_leaks
  g_law_leaks : mg "_law_leaks" = some (.ref a_law_leaks)
  a_law_even_gain : Addr
  d_law_even_gain : FuncData
  F_law_even_gain : Fun K "_law_even_gain" "_law_even_gain" s_law_even_gain a_law_even_gain d_law_even_gain
  g_law_even_gain : mg "_law_even_gain" = some (.ref a_law_even_gain)
  a_law_air : Addr
  d_law_air : FuncData
  F_law_air : Fun K "_law_air" "_law_air" s_law_air a_law_air d_law_air
  g_law_air : mg "_law_air" = some (.ref a_law_air)
  a_law_heater_names : Addr
  d_law_heater_names : FuncData
  F_law_heater_names : Fun K "_law_heater_names" "_law_heater_names" s_law_heater_names a_law_heater_names d_law_heater_names
  g_law_heater_names : mg "_law_heater_names" = some (.ref a_law_heater_names)
  a_law_door_names : Addr
  d_law_door_names : FuncData
  F_law_door_names : Fun K "_law_door_names" "_law_door_names" s_law_door_names a_law_door_names d_law_door_names
  g_law_door_names : mg "_law_door_names" = some (.ref a_law_door_names)
  a_law_setting : Addr
  d_law_setting : FuncData
  F_law_setting : Fun K "_law_setting" "_law_setting" s_law_setting a_law_setting d_law_setting
  g_law_setting : mg "_law_setting" = some (.ref a_law_setting)
  a_law_later : Addr
  d_law_later : FuncData
  F_law_later : Fun K "_law_later" "_law_later" s_law_later a_law_later d_law_later
  g_law_later : mg "_law_later" = some (.ref a_law_later)
  a_law_is_name : Addr
  d_law_is_name : FuncData
  F_law_is_name : Fun K "_law_is_name" "_law_is_name" s_law_is_name a_law_is_name d_law_is_name
  g_law_is_name : mg "_law_is_name" = some (.ref a_law_is_name)
  a_law_between : Addr
  d_law_between : FuncData
  F_law_between : Fun K "_law_between" "_law_between" s_law_between a_law_between d_law_between
  g_law_between : mg "_law_between" = some (.ref a_law_between)
  a_law_is_tuple : Addr
  d_law_is_tuple : FuncData
  F_law_is_tuple : Fun K "_law_is_tuple" "_law_is_tuple" s_law_is_tuple a_law_is_tuple d_law_is_tuple
  g_law_is_tuple : mg "_law_is_tuple" = some (.ref a_law_is_tuple)
  a_law_good_rooms : Addr
  d_law_good_rooms : FuncData
  F_law_good_rooms : Fun K "_law_good_rooms" "_law_good_rooms" s_law_good_rooms a_law_good_rooms d_law_good_rooms
  g_law_good_rooms : mg "_law_good_rooms" = some (.ref a_law_good_rooms)
  a_law_good_leaks : Addr
  d_law_good_leaks : FuncData
  F_law_good_leaks : Fun K "_law_good_leaks" "_law_good_leaks" s_law_good_leaks a_law_good_leaks d_law_good_leaks
  g_law_good_leaks : mg "_law_good_leaks" = some (.ref a_law_good_leaks)
  a_law_good_heaters : Addr
  d_law_good_heaters : FuncData
  F_law_good_heaters : Fun K "_law_good_heaters" "_law_good_heaters" s_law_good_heaters a_law_good_heaters d_law_good_heaters
  g_law_good_heaters : mg "_law_good_heaters" = some (.ref a_law_good_heaters)
  a_law_good_air : Addr
  d_law_good_air : FuncData
  F_law_good_air : Fun K "_law_good_air" "_law_good_air" s_law_good_air a_law_good_air d_law_good_air
  g_law_good_air : mg "_law_good_air" = some (.ref a_law_good_air)
  a_law_good_names : Addr
  d_law_good_names : FuncData
  F_law_good_names : Fun K "_law_good_names" "_law_good_names" s_law_good_names a_law_good_names d_law_good_names
  g_law_good_names : mg "_law_good_names" = some (.ref a_law_good_names)
  a_law_good_setting : Addr
  d_law_good_setting : FuncData
  F_law_good_setting : Fun K "_law_good_setting" "_law_good_setting" s_law_good_setting a_law_good_setting d_law_good_setting
  g_law_good_setting : mg "_law_good_setting" = some (.ref a_law_good_setting)
  a_law_ask_errors : Addr
  d_law_ask_errors : FuncData
  F_law_ask_errors : Fun K "_law_ask_errors" "_law_ask_errors" s_law_ask_errors a_law_ask_errors d_law_ask_errors
  g_law_ask_errors : mg "_law_ask_errors" = some (.ref a_law_ask_errors)
  a_law : Addr
  d_law : FuncData
  F_law : Fun K "law" "law" s_law a_law d_law
  g_law : mg "law" = some (.ref a_law)
  c_KeptError : Addr
  E_KeptError : ExK K mg "KeptError" c_KeptError
  u_KeptError : PySem.W.subIn K (.ref c_KeptError) (.ref c_KeptError) = some true
  c_BadAir : Addr
  E_BadAir : ExK K mg "BadAir" c_BadAir
  u_BadAir : PySem.W.subIn K (.ref c_BadAir) (.ref c_KeptError) = some true
  c_BadDegrees : Addr
  E_BadDegrees : ExK K mg "BadDegrees" c_BadDegrees
  u_BadDegrees : PySem.W.subIn K (.ref c_BadDegrees) (.ref c_KeptError) = some true
  c_BadSetting : Addr
  E_BadSetting : ExK K mg "BadSetting" c_BadSetting
  u_BadSetting : PySem.W.subIn K (.ref c_BadSetting) (.ref c_KeptError) = some true
  c_BadWeather : Addr
  G_BadWeather : mg "BadWeather" = some (.ref c_BadWeather)
  K_BadWeather : ExcC K c_BadWeather
  u_BadWeather : PySem.W.subIn K (.ref c_BadWeather) (.ref c_KeptError) = some true
  q_BadAir : PySem.W.kitOne K (.ref c_BadAir) (.ref c_BadAir) = some true
  q_BadDegrees : PySem.W.kitOne K (.ref c_BadDegrees) (.ref c_BadDegrees) = some true
  q_BadSetting : PySem.W.kitOne K (.ref c_BadSetting) (.ref c_BadSetting) = some true
  q_BadWeather : PySem.W.kitOne K (.ref c_BadWeather) (.ref c_BadWeather) = some true
  a_init : Addr
  d_init : FuncData
  F_init : Fun K "__init__" "BadWeather.__init__" s_init a_init d_init
  i_BadWeather : PySem.W.findIn K (.ref c_BadWeather) "__init__" = some (some (.ref a_init))
  ti_BadWeather : PySem.W.typeIn K (.ref a_init) = some (.type "function")
  O_BadWeather : OexC K c_BadWeather
  X_BadWeather : XfC K c_BadWeather
  n_BadWeather : PySem.W.findIn K (.ref c_BadWeather) "at" = some none
  tO : PySem.Tok
  g_OUT : mg "OUT" = some (.str "out" tO)
  z_type : mg "type" = none
  z_int : mg "int" = none
  z_str : mg "str" = none
  z_bool : mg "bool" = none
  z_tuple : mg "tuple" = none
  z_list : mg "list" = none
  z_len : mg "len" = none
  z_all : mg "all" = none
  z_set : mg "set" = none
  z_range : mg "range" = none
  z_isinstance : mg "isinstance" = none
  z_abs : mg "abs" = none
  z_min : mg "min" = none
  z_max : mg "max" = none
  z_sorted : mg "sorted" = none
  z_sum : mg "sum" = none
  z_zip : mg "zip" = none
  z_enumerate : mg "enumerate" = none
  z_reversed : mg "reversed" = none
  z_dict : mg "dict" = none
theorem bo_type : bootBuiltins "type" = some (.type "type") := by decide +kernel
theorem bo_int : bootBuiltins "int" = some (.type "int") := by decide +kernel
theorem bo_str : bootBuiltins "str" = some (.type "str") := by decide +kernel
theorem bo_bool : bootBuiltins "bool" = some (.type "bool") := by decide +kernel
theorem bo_tuple : bootBuiltins "tuple" = some (.type "tuple") := by decide +kernel
theorem bo_list : bootBuiltins "list" = some (.type "list") := by decide +kernel
theorem bo_set : bootBuiltins "set" = some (.type "set") := by decide +kernel
theorem bo_range : bootBuiltins "range" = some (.type "range") := by decide +kernel
theorem bo_dict : bootBuiltins "dict" = some (.type "dict") := by decide +kernel
theorem bo_zip : bootBuiltins "zip" = some (.type "zip") := by decide +kernel
theorem bo_enumerate : bootBuiltins "enumerate" = some (.type "enumerate") := by decide +kernel
theorem bo_reversed : bootBuiltins "reversed" = some (.type "reversed") := by decide +kernel
theorem bo_len : bootBuiltins "len" = some (.builtin "len") := by decide +kernel
theorem bo_all : bootBuiltins "all" = some (.builtin "all") := by decide +kernel
theorem bo_isinstance : bootBuiltins "isinstance" = some (.builtin "isinstance") := by decide +kernel
theorem bo_abs : bootBuiltins "abs" = some (.builtin "abs") := by decide +kernel
theorem bo_min : bootBuiltins "min" = some (.builtin "min") := by decide +kernel
theorem bo_max : bootBuiltins "max" = some (.builtin "max") := by decide +kernel
theorem bo_sorted : bootBuiltins "sorted" = some (.builtin "sorted") := by decide +kernel
theorem bo_sum : bootBuiltins "sum" = some (.builtin "sum") := by decide +kernel
variable {K : PySem.W.Frag} {mg : Str → Option Value}
theorem b_is_between (T : Txt K mg) : Binds K T.d_is_between ["value", "low", "high"] [] := T.F_is_between.binds (ps := ["value", "low", "high"]) fun _ _ _ _ _ _ us hl => match us, hl with | [_, _, _], _ => rfl
theorem b_is_tuple (T : Txt K mg) : Binds K T.d_is_tuple ["value", "least", "most"] [] := T.F_is_tuple.binds (ps := ["value", "least", "most"]) fun _ _ _ _ _ _ us hl => match us, hl with | [_, _, _], _ => rfl
theorem b_is_among (T : Txt K mg) : Binds K T.d_is_among ["value", "names"] [] := T.F_is_among.binds (ps := ["value", "names"]) fun _ _ _ _ _ _ us hl => match us, hl with | [_, _], _ => rfl
theorem b_is_ascending (T : Txt K mg) : Binds K T.d_is_ascending ["row"] [] := T.F_is_ascending.binds (ps := ["row"]) fun _ _ _ _ _ _ us hl => match us, hl with | [_], _ => rfl
theorem b_are_unlike (T : Txt K mg) : Binds K T.d_are_unlike ["row"] [] := T.F_are_unlike.binds (ps := ["row"]) fun _ _ _ _ _ _ us hl => match us, hl with | [_], _ => rfl
theorem b_are_wholes (T : Txt K mg) : Binds K T.d_are_wholes ["row", "low", "high"] [] := T.F_are_wholes.binds (ps := ["row", "low", "high"]) fun _ _ _ _ _ _ us hl => match us, hl with | [_, _, _], _ => rfl
theorem b_is_name (T : Txt K mg) : Binds K T.d_is_name ["value"] [] := T.F_is_name.binds (ps := ["value"]) fun _ _ _ _ _ _ us hl => match us, hl with | [_], _ => rfl
theorem b_is_room (T : Txt K mg) : Binds K T.d_is_room ["value"] [] := T.F_is_room.binds (ps := ["value"]) fun _ _ _ _ _ _ us hl => match us, hl with | [_], _ => rfl
theorem b_are_rooms (T : Txt K mg) : Binds K T.d_are_rooms ["value"] [] := T.F_are_rooms.binds (ps := ["value"]) fun _ _ _ _ _ _ us hl => match us, hl with | [_], _ => rfl
theorem b_is_leak (T : Txt K mg) : Binds K T.d_is_leak ["value", "names", "whole"] [] := T.F_is_leak.binds (ps := ["value", "names", "whole"]) fun _ _ _ _ _ _ us hl => match us, hl with | [_, _, _], _ => rfl
theorem b_are_leaks (T : Txt K mg) : Binds K T.d_are_leaks ["value", "names", "whole"] [] := T.F_are_leaks.binds (ps := ["value", "names", "whole"]) fun _ _ _ _ _ _ us hl => match us, hl with | [_, _, _], _ => rfl
theorem b_is_heater (T : Txt K mg) : Binds K T.d_is_heater ["value", "names"] [] := T.F_is_heater.binds (ps := ["value", "names"]) fun _ _ _ _ _ _ us hl => match us, hl with | [_, _], _ => rfl
theorem b_are_heaters (T : Txt K mg) : Binds K T.d_are_heaters ["value", "names"] [] := T.F_are_heaters.binds (ps := ["value", "names"]) fun _ _ _ _ _ _ us hl => match us, hl with | [_, _], _ => rfl
theorem b_is_weather (T : Txt K mg) : Binds K T.d_is_weather ["value"] [] := T.F_is_weather.binds (ps := ["value"]) fun _ _ _ _ _ _ us hl => match us, hl with | [_], _ => rfl
theorem b_is_air (T : Txt K mg) : Binds K T.d_is_air ["value"] [] := T.F_is_air.binds (ps := ["value"]) fun _ _ _ _ _ _ us hl => match us, hl with | [_], _ => rfl
theorem b_are_named (T : Txt K mg) : Binds K T.d_are_named ["value", "names"] [] := T.F_are_named.binds (ps := ["value", "names"]) fun _ _ _ _ _ _ us hl => match us, hl with | [_, _], _ => rfl
theorem b_is_setting_of (T : Txt K mg) : Binds K T.d_is_setting_of ["air", "value"] [] := T.F_is_setting_of.binds (ps := ["air", "value"]) fun _ _ _ _ _ _ us hl => match us, hl with | [_, _], _ => rfl
theorem b_check_air (T : Txt K mg) : Binds K T.d_check_air ["air"] [] := T.F_check_air.binds (ps := ["air"]) fun _ _ _ _ _ _ us hl => match us, hl with | [_], _ => rfl
theorem b_is_setting (T : Txt K mg) : Binds K T.d_is_setting ["air", "value"] [] := T.F_is_setting.binds (ps := ["air", "value"]) fun _ _ _ _ _ _ us hl => match us, hl with | [_, _], _ => rfl
theorem b_check_degrees (T : Txt K mg) : Binds K T.d_check_degrees ["air", "degrees"] [] := T.F_check_degrees.binds (ps := ["air", "degrees"]) fun _ _ _ _ _ _ us hl => match us, hl with | [_, _], _ => rfl
theorem b_next_degrees (T : Txt K mg) : Binds K T.d_next_degrees ["air", "degrees", "weather", "setting"] [] := T.F_next_degrees.binds (ps := ["air", "degrees", "weather", "setting"]) fun _ _ _ _ _ _ us hl => match us, hl with | [_, _, _, _], _ => rfl
theorem b_stepped_degrees (T : Txt K mg) : Binds K T.d_stepped_degrees ["air", "degrees", "weather", "setting"] [] := T.F_stepped_degrees.binds (ps := ["air", "degrees", "weather", "setting"]) fun _ _ _ _ _ _ us hl => match us, hl with | [_, _, _, _], _ => rfl
theorem b_law_begun (T : Txt K mg) : Binds K T.d_law_begun ["script"] [] := T.F_law_begun.binds (ps := ["script"]) fun _ _ _ _ _ _ us hl => match us, hl with | [_], _ => rfl
theorem b_law_mixed (T : Txt K mg) : Binds K T.d_law_mixed ["state"] [] := T.F_law_mixed.binds (ps := ["state"]) fun _ _ _ _ _ _ us hl => match us, hl with | [_], _ => rfl
theorem b_law_draw (T : Txt K mg) : Binds K T.d_law_draw ["state", "room"] [] := T.F_law_draw.binds (ps := ["state", "room"]) fun _ _ _ _ _ _ us hl => match us, hl with | [_, _], _ => rfl
theorem b_law_pick (T : Txt K mg) : Binds K T.d_law_pick ["state", "some"] [] := T.F_law_pick.binds (ps := ["state", "some"]) fun _ _ _ _ _ _ us hl => match us, hl with | [_, _], _ => rfl
theorem b_law_shuffled (T : Txt K mg) : Binds K T.d_law_shuffled ["state", "some"] [] := T.F_law_shuffled.binds (ps := ["state", "some"]) fun _ _ _ _ _ _ us hl => match us, hl with | [_, _], _ => rfl
theorem b_law_some (T : Txt K mg) : Binds K T.d_law_some ["state", "items", "odds"] [] := T.F_law_some.binds (ps := ["state", "items", "odds"]) fun _ _ _ _ _ _ us hl => match us, hl with | [_, _, _], _ => rfl
theorem b_law_caught (T : Txt K mg) : Binds K T.d_law_caught ["task"] [] := T.F_law_caught.binds (ps := ["task"]) fun _ _ _ _ _ _ us hl => match us, hl with | [_], _ => rfl
theorem b_law_whole_number (T : Txt K mg) : Binds K T.d_law_whole_number ["value"] [] := T.F_law_whole_number.binds (ps := ["value"]) fun _ _ _ _ _ _ us hl => match us, hl with | [_], _ => rfl
theorem b_law_tells (T : Txt K mg) : Binds K T.d_law_tells ["value", "due"] [] := T.F_law_tells.binds (ps := ["value", "due"]) fun _ _ _ _ _ _ us hl => match us, hl with | [_, _], _ => rfl
theorem b_law_any (T : Txt K mg) : Binds K T.d_law_any ["state"] [] := T.F_law_any.binds (ps := ["state"]) fun _ _ _ _ _ _ us hl => match us, hl with | [_], _ => rfl
theorem b_law_spoilt (T : Txt K mg) : Binds K T.d_law_spoilt ["state", "thing"] [] := T.F_law_spoilt.binds (ps := ["state", "thing"]) fun _ _ _ _ _ _ us hl => match us, hl with | [_, _], _ => rfl
theorem b_law_leaks (T : Txt K mg) : Binds K T.d_law_leaks ["state", "rooms", "whole"] [] := T.F_law_leaks.binds (ps := ["state", "rooms", "whole"]) fun _ _ _ _ _ _ us hl => match us, hl with | [_, _, _], _ => rfl
theorem b_law_even_gain (T : Txt K mg) : Binds K T.d_law_even_gain ["state", "air"] [] := T.F_law_even_gain.binds (ps := ["state", "air"]) fun _ _ _ _ _ _ us hl => match us, hl with | [_, _], _ => rfl
theorem b_law_air (T : Txt K mg) : Binds K T.d_law_air ["state", "most_rooms", "wide"] [] := T.F_law_air.binds (ps := ["state", "most_rooms", "wide"]) fun _ _ _ _ _ _ us hl => match us, hl with | [_, _, _], _ => rfl
theorem b_law_heater_names (T : Txt K mg) : Binds K T.d_law_heater_names ["air"] [] := T.F_law_heater_names.binds (ps := ["air"]) fun _ _ _ _ _ _ us hl => match us, hl with | [_], _ => rfl
theorem b_law_door_names (T : Txt K mg) : Binds K T.d_law_door_names ["air"] [] := T.F_law_door_names.binds (ps := ["air"]) fun _ _ _ _ _ _ us hl => match us, hl with | [_], _ => rfl
theorem b_law_setting (T : Txt K mg) : Binds K T.d_law_setting ["state", "air"] [] := T.F_law_setting.binds (ps := ["state", "air"]) fun _ _ _ _ _ _ us hl => match us, hl with | [_, _], _ => rfl
theorem b_law_later (T : Txt K mg) : Binds K T.d_law_later ["air", "now", "sky", "setting"] [] := T.F_law_later.binds (ps := ["air", "now", "sky", "setting"]) fun _ _ _ _ _ _ us hl => match us, hl with | [_, _, _, _], _ => rfl
theorem b_law_is_name (T : Txt K mg) : Binds K T.d_law_is_name ["value"] [] := T.F_law_is_name.binds (ps := ["value"]) fun _ _ _ _ _ _ us hl => match us, hl with | [_], _ => rfl
theorem b_law_between (T : Txt K mg) : Binds K T.d_law_between ["value", "low", "high"] [] := T.F_law_between.binds (ps := ["value", "low", "high"]) fun _ _ _ _ _ _ us hl => match us, hl with | [_, _, _], _ => rfl
theorem b_law_is_tuple (T : Txt K mg) : Binds K T.d_law_is_tuple ["value", "least", "most"] [] := T.F_law_is_tuple.binds (ps := ["value", "least", "most"]) fun _ _ _ _ _ _ us hl => match us, hl with | [_, _, _], _ => rfl
theorem b_law_good_rooms (T : Txt K mg) : Binds K T.d_law_good_rooms ["value"] [] := T.F_law_good_rooms.binds (ps := ["value"]) fun _ _ _ _ _ _ us hl => match us, hl with | [_], _ => rfl
theorem b_law_good_leaks (T : Txt K mg) : Binds K T.d_law_good_leaks ["rooms", "whole", "value"] [] := T.F_law_good_leaks.binds (ps := ["rooms", "whole", "value"]) fun _ _ _ _ _ _ us hl => match us, hl with | [_, _, _], _ => rfl
theorem b_law_good_heaters (T : Txt K mg) : Binds K T.d_law_good_heaters ["rooms", "value"] [] := T.F_law_good_heaters.binds (ps := ["rooms", "value"]) fun _ _ _ _ _ _ us hl => match us, hl with | [_, _], _ => rfl
theorem b_law_good_air (T : Txt K mg) : Binds K T.d_law_good_air ["value"] [] := T.F_law_good_air.binds (ps := ["value"]) fun _ _ _ _ _ _ us hl => match us, hl with | [_], _ => rfl
theorem b_law_good_names (T : Txt K mg) : Binds K T.d_law_good_names ["some", "value"] [] := T.F_law_good_names.binds (ps := ["some", "value"]) fun _ _ _ _ _ _ us hl => match us, hl with | [_, _], _ => rfl
theorem b_law_good_setting (T : Txt K mg) : Binds K T.d_law_good_setting ["air", "value"] [] := T.F_law_good_setting.binds (ps := ["air", "value"]) fun _ _ _ _ _ _ us hl => match us, hl with | [_, _], _ => rfl
theorem b_law_ask_errors (T : Txt K mg) : Binds K T.d_law_ask_errors ["state", "air", "now", "sky", "setting"] [] := T.F_law_ask_errors.binds (ps := ["state", "air", "now", "sky", "setting"]) fun _ _ _ _ _ _ us hl => match us, hl with | [_, _, _, _, _], _ => rfl
theorem b_law (T : Txt K mg) : Binds K T.d_law ["script"] [] := T.F_law.binds (ps := ["script"]) fun _ _ _ _ _ _ us hl => match us, hl with | [_], _ => rfl
end Kx

set_option Elab.async false
set_option linter.all false
set_option maxRecDepth 100000
set_option maxHeartbeats 1000000
namespace Kx
open PySem PySem.Spec PyProof.Rows L2 Evl
/-! ## promises of defs that only read -/
abbrev OkF := List V → Hp → V → Prop
def spX (ok : OkF) : Sp := fun vs H Q _ => ∃ z, ok vs H z ∧ ∀ H', Ex H H' → Q z H'
def Stb (ok : OkF) : Prop := ∀ (vs : List V) (H H' : Hp) (z : V), Ex H H' → ok vs H z → ok vs H' z
theorem spv {ok : OkF} (st : Stb ok) {vs : List V} {H : Hp} {z : V} (h : ok vs H z) : SpV (spX ok) vs H z := fun _ e Q q E => ⟨z, st _ _ _ _ e h, fun H2 e2 => q H2 e2⟩
/-- type(e) is T -/
abbrev tTyIs (K : PySem.W.Frag) (te : TE) (T : String) : TE := tOp (fun x y H Q => ∃ a b, x = V.ty a ∧ y = V.ty b ∧ Q (.bl (decide (a = b))) H) (tCB (rTyp K) (tCons te tNil)) (tC (.ty T))
abbrev tTyNo (K : PySem.W.Frag) (te : TE) (T : String) : TE := tOp rNT (tCB (rTyp K) (tCons te tNil)) (tC (.ty T))
section
variable {X : Cx} {e : Expr} {te : TE} {n : Str} {N : String} {p1 p2 p3 pos : Pos}
theorem pe_tyIs (hz : X.mg "type" = none) (hn : X.mg n = none) (hb : bootBuiltins n = some (.type N)) (he : PE X e te) (g1 : Gl X "type" := by rfl) (g2 : Gl X n := by rfl)
    (na : starEach [e] X.env = (false, eval e X.env) :: starEach [] X.env := by rfl) (nm : n ≠ "__name__" := by decide) (nd : (n == ("__debug__" : Str)) = false := by decide) :
    PE X (.Compare (.Call (.Name "type" p1) [e] [] p2) [.Is] [.Name n p3] pos) (tTyIs X.K te N) :=
  pe_cmpR op_isTyB (pe_callTy call_type1 g1 hz bo_type (pa_cons he pa_nil na) (he := na)) (pe_bltn g2 hn hb rfl nm nd) (nomark _)
theorem pe_tyNo (hz : X.mg "type" = none) (hn : X.mg n = none) (hb : bootBuiltins n = some (.type N)) (he : PE X e te) (g1 : Gl X "type" := by rfl) (g2 : Gl X n := by rfl)
    (na : starEach [e] X.env = (false, eval e X.env) :: starEach [] X.env := by rfl) (nm : n ≠ "__name__" := by decide) (nd : (n == ("__debug__" : Str)) = false := by decide) :
    PE X (.Compare (.Call (.Name "type" p1) [e] [] p2) [.IsNot] [.Name n p3] pos) (tTyNo X.K te N) :=
  pe_cmpR op_notTyB (pe_callTy call_type1 g1 hz bo_type (pa_cons he pa_nil na) (he := na)) (pe_bltn g2 hn hb rfl nm nd) (nomark _)
theorem pt_tyIs (hz : X.mg "type" = none) (hn : X.mg n = none) (hb : bootBuiltins n = some (.type N)) (he : PE X e te) (g1 : Gl X "type" := by rfl) (g2 : Gl X n := by rfl)
    (na : starEach [e] X.env = (false, eval e X.env) :: starEach [] X.env := by rfl) (nm : n ≠ "__name__" := by decide) (nd : (n == ("__debug__" : Str)) = false := by decide) :
    PT X (.Compare (.Call (.Name "type" p1) [e] [] p2) [.Is] [.Name n p3] pos) (tTest (tTyIs X.K te N)) :=
  pt_cmpR op_isTyB (pe_callTy call_type1 g1 hz bo_type (pa_cons he pa_nil na) (he := na)) (pe_bltn g2 hn hb rfl nm nd) (nomark _)
theorem pt_tyNo (hz : X.mg "type" = none) (hn : X.mg n = none) (hb : bootBuiltins n = some (.type N)) (he : PE X e te) (g1 : Gl X "type" := by rfl) (g2 : Gl X n := by rfl)
    (na : starEach [e] X.env = (false, eval e X.env) :: starEach [] X.env := by rfl) (nm : n ≠ "__name__" := by decide) (nd : (n == ("__debug__" : Str)) = false := by decide) :
    PT X (.Compare (.Call (.Name "type" p1) [e] [] p2) [.IsNot] [.Name n p3] pos) (tTest (tTyNo X.K te N)) :=
  pt_cmpR op_notTyB (pe_callTy call_type1 g1 hz bo_type (pa_cons he pa_nil na) (he := na)) (pe_bltn g2 hn hb rfl nm nd) (nomark _)
end
section
variable {K : PySem.W.Frag} {σ : L2.St} {H : Hp} {te : TE} {v : V} {d : D} {T : String}
theorem ev_tyIs (h : Ev te σ H v) (q : Rep H v d) : Ev (tTyIs K te T) σ H (.bl (decide (d.ty = T))) := ev_op (ev_type h q) ev_c rv_isTy
theorem ev_tyNo (h : Ev te σ H v) (q : Rep H v d) : Ev (tTyNo K te T) σ H (.bl (!decide (d.ty = T))) := ev_op (ev_type h q) ev_c rv_notTy
end
theorem ty_int : ∀ {d : D}, d.ty = "int" → ∃ i, d = .int i
  | .int i, _ => ⟨i, rfl⟩
  | .non, h | .bl _, h | .str _, h | .tup _, h | .lst _, h | .dic, h => by simp [D.ty] at h
theorem ty_tup : ∀ {d : D}, d.ty = "tuple" → ∃ ds, d = .tup ds
  | .tup ds, _ => ⟨ds, rfl⟩
  | .non, h | .bl _, h | .str _, h | .int _, h | .lst _, h | .dic, h => by simp [D.ty] at h
theorem ty_str : ∀ {d : D}, d.ty = "str" → ∃ s, d = .str s
  | .str s, _ => ⟨s, rfl⟩
  | .non, h | .bl _, h | .tup _, h | .int _, h | .lst _, h | .dic, h => by simp [D.ty] at h
theorem Rep.tupD {H : Hp} {v : V} {ds : List D} (r : Rep H v (.tup ds)) : ∃ a vs, v = .ref a ∧ TupS H a vs ∧ Reps H vs ds := by
  cases r with
  | tup h s => exact ⟨_, _, rfl, h, s⟩
theorem Rep.lstD {H : Hp} {v : V} {ds : List D} (r : Rep H v (.lst ds)) : ∃ a vs, v = .ref a ∧ H a = some (.lst vs) ∧ Reps H vs ds := by
  cases r with
  | lst h s => exact ⟨_, _, rfl, h, s⟩
theorem Rep.strD {H : Hp} {v : V} {s : Str} (r : Rep H v (.str s)) : v = .str s := by
  cases r
  rfl
theorem Rep.intD {H : Hp} {v : V} {i : Int} (r : Rep H v (.int i)) : v = .int i := by
  cases r
  rfl
/-! ## mirrors -/
def isBetw (d : D) (lo hi : Int) : Bool := match d with
  | .int i => decide (lo ≤ i) && decide (i ≤ hi)
  | _ => false
def isTup (d : D) (lo hi : Int) : Bool := match d with
  | .tup ds => decide (lo ≤ (ds.length : Int)) && decide ((ds.length : Int) ≤ hi)
  | _ => false
def isAmong (d : D) (ns : List Str) : Bool := match d with
  | .str s => ns.contains s
  | _ => false
def okBetw : OkF := fun vs H z => ∃ v d lo hi, vs = [v, .int lo, .int hi] ∧ Rep H v d ∧ z = .bl (isBetw d lo hi)
def okTup : OkF := fun vs H z => ∃ v d lo hi, vs = [v, .int lo, .int hi] ∧ Rep H v d ∧ z = .bl (isTup d lo hi)
theorem stb_betw : Stb okBetw := fun _ _ _ _ e ⟨v, d, lo, hi, h1, h2, h3⟩ => ⟨v, d, lo, hi, h1, h2.up e, h3⟩
theorem stb_tup : Stb okTup := fun _ _ _ _ e ⟨v, d, lo, hi, h1, h2, h3⟩ => ⟨v, d, lo, hi, h1, h2.up e, h3⟩
section
variable {P : Program} {w : World} {K : PySem.W.Frag} {mg : Str → Option Value} {base : Heap} (T : Txt K mg)
theorem ok_is_between : FnOk P w K mg base CX0 1 T.a_is_between T.d_is_between ["value", "low", "high"] (spX okBetw) := by
  refine T.F_is_between.ok sc_is_between (fun vs H Q E h => ?_) (fun cdv A outer s H vs Q E hr h => ?_)
  · obtain ⟨z, ⟨v, d, lo, hi, rfl, _⟩, _⟩ := h
    rfl
  · obtain ⟨z, ⟨v, d, lo, hi, rfl, hv, rfl⟩, q⟩ := h
    refine ⟨_, pss_one (ps_ret (pe_and (pe_tyIs T.z_type T.z_int bo_int (pv 0)) (pe_one (pe_chain op_le op_le (pv 1) (pv 0) (pv 2))))), ?_⟩
    refine s_ret (v := .bl (isBetw d lo hi)) ?_ q
    refine ev_is (ev_andV (b := isBetw d lo hi) (ev_tyIs (ev_var rfl) hv) fun ht => ?_) ?_
    · obtain ⟨i, rfl⟩ := ty_int (of_decide_eq_true ht)
      cases hv
      exact ev_chain (ev_var rfl) (ev_var rfl) rv_I0 (fun _ => ev_var rfl) (fun _ => rv_I0)
    · cases d <;> first | rfl | (simp [D.ty, isBetw])
theorem ok_is_tuple : FnOk P w K mg base CX0 1 T.a_is_tuple T.d_is_tuple ["value", "least", "most"] (spX okTup) := by
  refine T.F_is_tuple.ok sc_is_tuple (fun vs H Q E h => ?_) (fun cdv A outer s H vs Q E hr h => ?_)
  · obtain ⟨z, ⟨v, d, lo, hi, rfl, _⟩, _⟩ := h
    rfl
  · obtain ⟨z, ⟨v, d, lo, hi, rfl, hv, rfl⟩, q⟩ := h
    refine ⟨_, pss_one (ps_ret (pe_and (pe_tyIs T.z_type T.z_tuple bo_tuple (pv 0)) (pe_one (pe_chain op_le op_le (pv 1) (pe_callB call_len_seq (by rfl) T.z_len bo_len (pa_cons (pv 0) pa_nil)) (pv 2))))), ?_⟩
    refine s_ret (v := .bl (isTup d lo hi)) ?_ q
    refine ev_is (ev_andV (b := isTup d lo hi) (ev_tyIs (ev_var rfl) hv) fun ht => ?_) ?_
    · obtain ⟨ds, rfl⟩ := ty_tup (of_decide_eq_true ht)
      obtain ⟨a, vs, rfl, ha, hs⟩ := hv.tupD
      refine ev_chain (ev_var rfl) (ev_cb (ea_cons (ev_var rfl) ea_nil) fun H1 e Q k => ⟨a, vs, rfl, .inr (ha.up e).sq, by rw [hs.length]; exact k H1 (Ex.refl _)⟩) rv_I0 (fun _ => ev_var rfl) (fun _ => rv_I0)
    · cases d <;> first | rfl | (simp [D.ty, isTup])
end
end Kx

set_option Elab.async false
set_option linter.all false
set_option maxRecDepth 100000
set_option maxHeartbeats 3200000
namespace Kx
open PySem PySem.Spec PyProof.Rows L2
/-! ## set(v), v a list or a tuple: one rule, whatever the loop promises -/
/-- the object of a set that holds nothing yet -/
def set0 (w : World) : Obj := { cls := .type "set", dict := none, data := .set #[] 0 (.fresh 0 0 (!w.params.followText "set-order")) }
section
variable {P : Program} {w : World} {A : Around} {E : Value → Shared → Prop} {s : Shared}
/-- s, and behind its objects an empty set -/
abbrev born (w : World) (s : Shared) : Shared := { s with heap := s.heap.push (set0 w) }
/-- the wish for a call of set's own beginning: None, and then Q of the set -/
abbrev Filled (S : Addr) (Q E : Value → Shared → Prop) : Result → Shared → Prop := wants (fun r u => r = .none ∧ Q (.ref S) u) E
theorem set_by {v : Value} {Q : Value → Shared → Prop}
    (fill : codeAny (model P w) A.in1 (.call (.builtin "set.__init__") ⟨[.ref s.heap.objs.size, v], []⟩) (Filled s.heap.objs.size Q E) (born w s)) :
    wpAny (model P w) A (call (.type "set") [v]) Q E s := by
  have mk : codeAny (model P w) A.in1 (.call (.builtin "set.__new__") ⟨[.type "set", v], []⟩) (wants (fun y u => y = .ref s.heap.objs.size ∧ u = born w s) E) s :=
    code_set_led1 v ⟨rfl, rfl⟩
  have isS : (born w s).TypeIs (.ref s.heap.objs.size) "set" := ⟨set0 w, Heap.get?_push_size _ rfl, rfl⟩
  have T := F.called_set
  have t1 := T.notType
  have t2 := T.canCreate
  have t3 := T.made
  have t4 := T.sub
  have t5 := F.typeCall_set_1 v
  have t6 := T.init.lookup
  have t7 := T.init.bind (.ref s.heap.objs.size)
  have ⟨top, rest, t8⟩ := T.mro
  apply wpAny_call
  apply codeAny_of_tree
  show wpAny _ A.in1 (callAny (.type "set") ⟨[v], []⟩) _ _ s
  apply wpAny_pure
  refine And.intro (Code.quiet_builtin _ (by decide +kernel)) (codeAny_builtin F.entry_type_call ?_)
  rw [show A.under (.builtin "type.__call__" ⟨[.type "set", v], []⟩) = A.in1 from Around.under_plain (weight_type_call_type "set" [v] []) rfl]
  repeat (any_goals (first | assumption | wp_step))
  refine codeAny_mono mk fun r u hr => ?_
  match r, hr with
  | .error e, hr => exact hr
  | .ok (.ret y), hr =>
    obtain ⟨e1, e2⟩ := hr
    subst e1 e2
    repeat (any_goals (first | assumption | wp_step))
    refine codeAny_mono fill fun r2 u2 h2 => ?_
    match r2, h2 with
    | .error e, h2 => exact h2
    | .ok (.ret z), h2 =>
      obtain ⟨e3, q⟩ := h2
      subst e3
      repeat (any_goals (first | assumption | wp_step))
  | .ok (.next), hr => exact hr.elim
/-- what an iterator over the items of a list or of a tuple T at l does: its steps -/
structure Steps (P : Program) (w : World) (A : Around) (s : Shared) (T : String) (l : Addr) (items : Array Value) : Prop where
  typ : ∀ h : Heap, (∀ b o, s.heap.get? b = some o → h.get? b = some o) → ∃ o, h.get? l = some o ∧ o.cls = .type T
  noS : isSubtype (.type T) (.type "set") = pure false
  noF : isSubtype (.type T) (.type "frozenset") = pure false
  noD : (Value.type T == Value.type "dict") = false
  ite : ∀ (B : Around) (u : Shared) (Q : Value → Shared → Prop) (E : Value → Shared → Prop), (∀ b o, s.heap.get? b = some o → u.heap.get? b = some o) → s.heap.objs.size < u.heap.objs.size →
    (∀ (o : Obj) (St : Nat → Shared → Prop), (∀ C : Around, C.handled = A.handled → WalksS P w C u.heap.objs.size [u.heap.objs.size, l] [u.heap.objs.size] (fun a b => b = a) items.size (fun i v => items[i]? = some v) St) →
      St 0 { u with heap := u.heap.push o } → Q (.ref u.heap.objs.size) { u with heap := u.heap.push o }) → wpAny (model P w) B (pyIter (.ref l)) Q E u
theorem steps_list {l : Addr} {items : Array Value} (hh : A.handled = none) (hl : s.heap.IsList l items) : Steps P w A s "list" l items where
  typ := fun h k => let ⟨o, ho, hc, _⟩ := hl; ⟨o, k _ _ ho, hc⟩
  noS := F.sub_list_set
  noF := F.sub_list_frozenset
  noD := by decide
  ite := fun B u Q E k hz q => wpAny_pyIter_list (hl.at fun o e => k _ _ e) (by
    have hlt : l < u.heap.objs.size := let ⟨o, ho, _⟩ := hl; Nat.lt_trans (Heap.lt_size ho) hz
    exact q _ _ (fun C hC => (Walks.list (hC.trans hh) _ l (Nat.ne_of_lt hlt) items).toS) ⟨⟨_, Heap.get?_push_size _ rfl, rfl, rfl⟩, (hl.at fun o e => k _ _ e).push _⟩)
theorem steps_tuple {l : Addr} {items : Array Value} (hh : A.handled = none) (hl : s.heap.IsTuple l items) : Steps P w A s "tuple" l items where
  typ := fun h k => let ⟨o, ho, hc, _⟩ := hl; ⟨o, k _ _ ho, hc⟩
  noS := F.sub_tuple_set
  noF := F.sub_tuple_frozenset
  noD := by decide
  ite := fun B u Q E k hz q => wpAny_pyIter_tuple (hl.at fun o e => k _ _ e) (by
    have hlt : l < u.heap.objs.size := let ⟨o, ho, _⟩ := hl; Nat.lt_trans (Heap.lt_size ho) hz
    exact q _ _ (fun C hC => (Walks.tuple (hC.trans hh) _ l (Nat.ne_of_lt hlt) items).toS) ⟨⟨_, Heap.get?_push_size _ rfl, rfl, rfl⟩, (hl.at fun o e => k _ _ e).push _⟩)
/-- set(l) of a list or a tuple at l, by any promise of the loop that fills it -/
theorem set_seq {T : String} {l : Addr} {items : Array Value} {Q : Value → Shared → Prop} (Pp : Heap → Prop) (hh : A.handled = none) (hl : l < s.heap.objs.size) (I : Steps P w A s T l items)
    (loop : ∀ (A1 : Around) (It : Addr) (deep : A1.units ≤ A.units + 9) (G : Array GenState → Array GenState → Prop) (St : Nat → Shared → Prop) (u0 : Shared) (R : Result → Shared → Prop),
      WalksS P w A1.in1 It [It, l] [It] G items.size (fun i v => items[i]? = some v) St → s.heap.objs.size ∉ [It, l] → St 0 u0 → u0.heap.get? s.heap.objs.size = some (set0 w) → (∀ b o, s.heap.get? b = some o → b ≠ It ∧ u0.heap.get? b = some o) →
      (∀ u1, Moved [s.heap.objs.size, It] G u0 u1 → Pp u1.heap → R (.ok (.ret .none)) u1) → codeAny (model P w) A1 (.builtin "set.update.loop" ⟨[.ref s.heap.objs.size, .ref It], []⟩) R u0)
    (h : ∀ (h' : Heap) (tk : Nat), Pp h' → (∀ b o, s.heap.get? b = some o → h'.get? b = some o) → Q (.ref s.heap.objs.size) { s with heap := h', toks := tk }) :
    wpAny (model P w) A (call (.type "set") [.ref l]) Q E s := by
  have old : ∀ b o, s.heap.get? b = some o → (born w s).heap.get? b = some o := fun b o e => Heap.get?_push_of_some _ e
  have isS : (born w s).heap.get? s.heap.objs.size = some (set0 w) := Heap.get?_push_size _ rfl
  have big : (born w s).heap.objs.size = s.heap.objs.size + 1 := Heap.size_push ..
  have ⟨⟨cl, dd, da, sl⟩, at_l, cl_l⟩ := I.typ _ old
  dsimp only at cl_l
  subst cl_l
  have n1 := I.noS
  have n2 := I.noF
  have n3 := I.noD
  refine set_by (codeAny_call_builtin F.called_set.init.plain F.entry_set_init (check_set_init_1 ⟨_, isS, rfl⟩ ?_))
  obtain ⟨hp, gn, dr, tk, os⟩ := s
  unfold Builtin.«set.__init__» Builtin.Frozenset.updateFrom noKeywords
  generalize ep : pyIter = pit
  wp_walk
  subst ep
  refine I.ite _ (born w ⟨hp, gn, dr, tk, os⟩) _ _ old (by rw [big]; exact Nat.lt_succ_self _) fun o St W st0 => wpAny_bind (wpAny_runValue ?_)
  have nS : hp.objs.size ∉ [(born w ⟨hp, gn, dr, tk, os⟩).heap.objs.size, l] := fun z => by
    rw [big] at z
    rcases List.mem_cons.mp z with z | z
    · exact absurd z (Nat.ne_of_lt (Nat.lt_succ_self _))
    · exact absurd (List.mem_singleton.mp z) (Nat.ne_of_gt hl)
  refine loop _ _ (by simp only [Around.in1_units]; omega) _ St _ _ (W _ (by simp)) nS st0 (Heap.get?_push_of_some _ isS) (fun b ob e => ⟨fun z => ?_, Heap.get?_push_of_some _ (old b ob e)⟩) fun ⟨h1, g1, d1, t1, o1⟩ mv pp => ?_
  · have lt : b < hp.objs.size := Heap.lt_size e
    rw [z, big] at lt
    exact absurd lt (Nat.not_lt.mpr (Nat.le_succ _))
  obtain rfl : g1 = gn := mv.gens
  obtain rfl : d1 = dr := mv.drawn
  obtain rfl : o1 = os := mv.os
  refine wpAny_pure (wpAny_pure ⟨rfl, h h1 t1 pp fun b ob e => mv.heap b ob (fun z => ?_) (Heap.get?_push_of_some _ (old b ob e))⟩)
  have lt : b < hp.objs.size := Heap.lt_size e
  rcases List.mem_cons.mp z with z | z
  · exact absurd z (Nat.ne_of_lt lt)
  · rw [List.mem_singleton.mp z, big] at lt
    exact absurd lt (Nat.not_lt.mpr (Nat.le_succ _))
/-- set(l), l a list of these items -/
theorem call_set_list {l : Addr} {items : Array Value} {Q : Value → Shared → Prop} (Pp : Heap → Prop) (hh : A.handled = none) (hl : s.heap.IsList l items)
    (loop : ∀ (A1 : Around) (It : Addr) (deep : A1.units ≤ A.units + 9) (G : Array GenState → Array GenState → Prop) (St : Nat → Shared → Prop) (u0 : Shared) (R : Result → Shared → Prop),
      WalksS P w A1.in1 It [It, l] [It] G items.size (fun i v => items[i]? = some v) St → s.heap.objs.size ∉ [It, l] → St 0 u0 → u0.heap.get? s.heap.objs.size = some (set0 w) → (∀ b o, s.heap.get? b = some o → b ≠ It ∧ u0.heap.get? b = some o) →
      (∀ u1, Moved [s.heap.objs.size, It] G u0 u1 → Pp u1.heap → R (.ok (.ret .none)) u1) → codeAny (model P w) A1 (.builtin "set.update.loop" ⟨[.ref s.heap.objs.size, .ref It], []⟩) R u0)
    (h : ∀ (h' : Heap) (tk : Nat), Pp h' → (∀ b o, s.heap.get? b = some o → h'.get? b = some o) → Q (.ref s.heap.objs.size) { s with heap := h', toks := tk }) :
    wpAny (model P w) A (call (.type "set") [.ref l]) Q E s := set_seq Pp hh (let ⟨_, ho, _⟩ := hl; Heap.lt_size ho) (steps_list hh hl) loop h
/-- set(l), l a tuple of these items -/
theorem call_set_tuple {l : Addr} {items : Array Value} {Q : Value → Shared → Prop} (Pp : Heap → Prop) (hh : A.handled = none) (hl : s.heap.IsTuple l items)
    (loop : ∀ (A1 : Around) (It : Addr) (deep : A1.units ≤ A.units + 9) (G : Array GenState → Array GenState → Prop) (St : Nat → Shared → Prop) (u0 : Shared) (R : Result → Shared → Prop),
      WalksS P w A1.in1 It [It, l] [It] G items.size (fun i v => items[i]? = some v) St → s.heap.objs.size ∉ [It, l] → St 0 u0 → u0.heap.get? s.heap.objs.size = some (set0 w) → (∀ b o, s.heap.get? b = some o → b ≠ It ∧ u0.heap.get? b = some o) →
      (∀ u1, Moved [s.heap.objs.size, It] G u0 u1 → Pp u1.heap → R (.ok (.ret .none)) u1) → codeAny (model P w) A1 (.builtin "set.update.loop" ⟨[.ref s.heap.objs.size, .ref It], []⟩) R u0)
    (h : ∀ (h' : Heap) (tk : Nat), Pp h' → (∀ b o, s.heap.get? b = some o → h'.get? b = some o) → Q (.ref s.heap.objs.size) { s with heap := h', toks := tk }) :
    wpAny (model P w) A (call (.type "set") [.ref l]) Q E s := set_seq Pp hh (let ⟨_, ho, _⟩ := hl; Heap.lt_size ho) (steps_tuple hh hl) loop h
/-! ### the loop: a turn, and all turns -/
variable {R : Result → Shared → Prop} {S It : Addr} {u : Shared}
/-- one turn: the next item is put in, then the loop again; with no item left it is over -/
theorem loop_enter (h : wpAny (model P w) A.in1 (pyNext (.ref It)) (fun o t => match o with
      | none => R (.ok (.ret .none)) t
      | some x => wpAny (model P w) A.in1 (setAdd S x) (fun _ t2 => codeAny (model P w) A (.builtin "set.update.loop" ⟨[.ref S, .ref It], []⟩) R t2) (fun e t2 => R (.error e) t2) t) (fun e t => R (.error e) t) u) :
    codeAny (model P w) A (.builtin "set.update.loop" ⟨[.ref S, .ref It], []⟩) R u := by
  apply codeAny_builtin F.entry_set_update_loop
  rw [show A.under (.builtin "set.update.loop" ⟨[.ref S, .ref It], []⟩) = A.in1 from Around.under_plainId F.plain_set_update_loop _]
  apply wpAny_bind
  apply wpAny_mono h (fun o t ht => ?_) fun _ _ z => z
  match o, ht with
  | none, ht => exact wpAny_pure ht
  | some x, ht => exact wpAny_bind (wpAny_holding (wpAny_mono ht (fun _ t2 h2 => wpAny_pure (And.intro (plainId_quiet F.plain_set_update_loop _) h2)) fun _ _ z => z))
/-- all turns: J i, what is known of the set when i items are in -/
theorem loop_by {fp wr : List Addr} {G : Array GenState → Array GenState → Prop} {n : Nat} {Pv : Nat → Value → Prop} {St : Nat → Shared → Prop} (W : WalksS P w A.in1 It fp wr G n Pv St) (off : S ∉ fp) (J : Nat → Heap → Prop)
    (see : ∀ i h h', J i h → (∀ b o, b ∉ wr → h.get? b = some o → h'.get? b = some o) → J i h')
    (put : ∀ (i : Nat) (v : Value) (t : Shared) (Q : Bool → Shared → Prop) (E : Value → Shared → Prop), i < n → Pv i v → J i t.heap → (∀ h' tk b, t.toks ≤ tk → Heap.SameBut S t.heap h' → J (i + 1) h' → Q b { t with heap := h', toks := tk }) → wpAny (model P w) A.in1 (setAdd S v) Q E t) :
    ∀ (left i : Nat) (u : Shared), left + i = n → St i u → J i u.heap → (∀ t, Moved (S :: wr) G u t → J n t.heap → R (.ok (.ret .none)) t) → codeAny (model P w) A (.builtin "set.update.loop" ⟨[.ref S, .ref It], []⟩) R u := by
  have wide : ∀ b ∈ wr, b ∈ S :: wr := fun b hb => List.mem_cons_of_mem S hb
  have apart : S ∉ wr := fun z => off (W.sub S z)
  intro left
  induction left with
  | zero =>
    intro i u sum st j fin
    have e : i = n := (Nat.zero_add i).symm.trans sum
    subst e
    exact loop_enter (W.done u _ _ st fun t mv => fin t (mv.mono wide) (see i _ _ j mv.heap))
  | succ left more =>
    intro i u sum st j fin
    have lt : i < n := by omega
    refine loop_enter (W.item i u _ _ lt st fun v t pv st1 mv => ?_)
    refine put i v t _ _ lt pv (see i _ _ j mv.heap) fun h' tk b le same j1 => ?_
    have else_ : ∀ c o, c ∉ S :: wr → t.heap.get? c = some o → h'.get? c = some o := fun c o out z => (same.2 c fun q => out (q ▸ List.mem_cons_self)).trans z
    refine more (i + 1) _ (by omega) (W.frame (i + 1) t h' tk st1 le fun c cin o z => (same.2 c fun q => off (q ▸ cin)).trans z) j1 fun t2 mv2 j2 => ?_
    exact fin t2 (Moved.trans W.gtrans ((mv.mono wide).then_heap le fun c o out z => else_ c o out z) mv2) j2
end
end Kx

set_option Elab.async false
set_option linter.all false
set_option maxRecDepth 100000
set_option maxHeartbeats 1000000
namespace Kx
open PySem PySem.Spec PyProof.Rows L2 Evl
/-! ## len(set(xs)), xs texts -/
def fstep (σ : List Str) (x : Str) : List Str := if σ.any (fun y => decide (y = x)) then σ else σ ++ [x]
def fm (xs : List Str) : List Str := xs.foldl fstep []
def tLenSetS (K : PySem.W.Frag) (ta : TE) : TE := fun σ H Q => ta σ H fun x H1 => ∃ (l : Addr) (xs : List Str), x = .ref l ∧ (SqL K H1 l (sv xs) ∨ SqT K H1 l (sv xs)) ∧ xs.length ≤ 1000 ∧ Q (.int ((fm xs).length : Nat)) H1
theorem fm_mem (xs : List Str) : ∀ (σ : List Str), (∀ y, y ∈ xs.foldl fstep σ ↔ y ∈ σ ∨ y ∈ xs) := by
  induction xs with
  | nil => intro σ y; simp
  | cons x r ih =>
    intro σ y
    rw [List.foldl_cons, ih]
    unfold fstep
    split
    · rename_i h
      obtain ⟨z, hz, e⟩ := List.any_eq_true.mp h
      have e := of_decide_eq_true e
      subst e
      constructor
      · rintro (h | h)
        · exact .inl h
        · exact .inr (List.mem_cons_of_mem _ h)
      · rintro (h | h)
        · exact .inl h
        · rcases List.mem_cons.mp h with h | h
          · subst h; exact .inl hz
          · exact .inr h
    · simp [or_assoc]
theorem fm_len (xs : List Str) : ∀ (σ : List Str), (xs.foldl fstep σ).length ≤ σ.length + xs.length ∧ ((xs.foldl fstep σ).length = σ.length + xs.length ↔ (xs.Nodup ∧ ∀ x ∈ xs, x ∉ σ)) := by
  induction xs with
  | nil => intro σ; simp
  | cons x r ih =>
    intro σ
    rw [List.foldl_cons]
    obtain ⟨h1, h2⟩ := ih (fstep σ x)
    by_cases hx : x ∈ σ
    · have e : fstep σ x = σ := if_pos (List.any_eq_true.mpr ⟨x, hx, decide_eq_true rfl⟩)
      rw [e] at h1 h2 ⊢
      refine ⟨by rw [List.length_cons]; omega, fun h => ?_, fun h => absurd hx (h.2 x List.mem_cons_self)⟩
      rw [List.length_cons] at h
      omega
    · have e : fstep σ x = σ ++ [x] := if_neg fun h => by
        obtain ⟨z, hz, e⟩ := List.any_eq_true.mp h
        have e := of_decide_eq_true e
        subst e
        exact hx hz
      rw [e] at h1 h2 ⊢
      rw [List.length_append, List.length_singleton] at h1 h2
      rw [List.length_cons]
      refine ⟨by omega, ?_⟩
      rw [show σ.length + (r.length + 1) = σ.length + 1 + r.length by omega, h2, List.nodup_cons]
      constructor
      · rintro ⟨a, b⟩
        refine ⟨⟨fun hm => b x hm (by simp), a⟩, fun y hy => ?_⟩
        rcases List.mem_cons.mp hy with rfl | hy
        · exact hx
        · exact fun hs => b y hy (by simp [hs])
      · rintro ⟨⟨a, b⟩, c⟩
        refine ⟨b, fun y hy hs => ?_⟩
        rcases List.mem_append.mp hs with hs | hs
        · exact c y (List.mem_cons_of_mem _ hy) hs
        · rw [List.mem_singleton] at hs
          subst hs
          exact a hy
theorem fm_nodup (xs : List Str) : (fm xs).length = xs.length ↔ xs.Nodup := by
  have h := (fm_len xs []).2
  rw [List.length_nil, Nat.zero_add] at h
  exact h.trans ⟨fun a => a.1, fun a => ⟨a, fun _ _ => by simp⟩⟩
theorem fm_le (xs : List Str) : (fm xs).length ≤ xs.length := by
  have h := (fm_len xs []).1
  rw [List.length_nil, Nat.zero_add] at h
  exact h
theorem fm_next {xs : List Str} {i : Nat} (h : i < xs.length) : fm (xs.take (i + 1)) = fstep (fm (xs.take i)) (xs.getD i Str.empty) := by
  unfold fm
  rw [List.take_add_one, List.getElem?_eq_getElem h, List.foldl_append, List.getD, List.getElem?_eq_getElem h]
  rfl
theorem any_eqv (ys : List Str) (k : Str) : ys.any (fun y => decide (y = k)) = ys.any (· == k) := by
  congr 1
theorem strsOf : ∀ {xs : List Str} {us : List Value}, Vals (sv xs) us → StrsAre us xs
  | [], _, .nil => .nil
  | x :: r, _, .cons h t => by
    obtain ⟨k, rfl⟩ := h
    exact .cons x k (strsOf t)
section
variable {P : Program} {w : World} {A : Around} {E : Value → Shared → Prop}
/-- the set at S holds just the first i of xs, each once -/
def Held (P : Program) (w : World) (S : Addr) (xs : List Str) (i : Nat) (h : Heap) : Prop := h.SetOf (PySem.strKind P w) S (fun k => (fm (xs.take i)).any (· == k)) (fm (xs.take i)).length
theorem Held.at {S : Addr} {xs : List Str} {i : Nat} {h h' : Heap} (x : Held P w S xs i h) (k : ∀ o, h.get? S = some o → h'.get? S = some o) : Held P w S xs i h' := match x with
  | ⟨o, es, ep, tb, ho, more⟩ => ⟨o, es, ep, tb, k o ho, more⟩
/-- the next one is put in -/
theorem Held.put {S : Addr} {xs : List Str} {i : Nat} {v : Value} {u : Shared} {Q : Bool → Shared → Prop} (few : xs.length + 1 < scanBound) (lt : i < xs.length) (hv : ∃ t, v = .str (xs.getD i Str.empty) t) (x : Held P w S xs i u.heap)
    (q : ∀ h' tk b, u.toks ≤ tk → Heap.SameBut S u.heap h' → Held P w S xs (i + 1) h' → Q b { u with heap := h', toks := tk }) : wpAny (model P w) A (setAdd S v) Q E u := by
  obtain ⟨t, rfl⟩ := hv
  have le := fm_le (xs.take i)
  rw [List.length_take] at le
  unfold setAdd
  refine wpAny_holding (wpAny_bind ((PySem.strKind P w).pyHash (strKind_is _ _ (xs.getD i Str.empty) t) ?_))
  refine wpAny_setAddHashed_of (knd := PySem.strKind P w) (s := { u with toks := u.toks + 1 }) (strKind_is _ _ _ _) rfl x (by omega) fun h' same y => q h' _ _ (Nat.le_succ _) same ?_
  unfold Held
  rw [fm_next lt, fstep]
  by_cases m : (fm (xs.take i)).any (fun z => decide (z = xs.getD i Str.empty)) = true
  · rw [if_pos m]
    rw [any_eqv] at m
    rw [m] at y
    refine SetOf_congr y (fun k => ?_) rfl
    by_cases e : k = xs.getD i Str.empty
    · rw [e, m, Bool.true_or]
    · rw [decide_eq_false e, Bool.or_false]
  · rw [if_neg m]
    rw [any_eqv] at m
    rw [Bool.not_eq_true] at m
    rw [m] at y
    refine SetOf_congr y (fun k => ?_) (by rw [if_neg Bool.false_ne_true, List.length_append]; rfl)
    rw [List.any_append]
    refine congrArg _ ?_
    show decide (k = xs.getD i Str.empty) = ((xs.getD i Str.empty == k) || false)
    rw [Bool.or_false, Bool.eq_iff_iff, decide_eq_true_iff, beq_iff_eq]
    exact eq_comm
end
/-- an empty set, filled by the loop over these texts, holds them all -/
theorem texts_in {P : Program} {w : World} {its : List Value} {xs : List Str} {S l It : Addr} {A1 : Around} {G : Array GenState → Array GenState → Prop} {St : Nat → Shared → Prop} {u0 : Shared} {R : Result → Shared → Prop} (rv : Vals (sv xs) its) (few : xs.length ≤ 1000)
    (W : WalksS P w A1.in1 It [It, l] [It] G its.toArray.size (fun i v => its.toArray[i]? = some v) St) (off : S ∉ [It, l]) (st : St 0 u0) (none_yet : u0.heap.get? S = some (set0 w))
    (fin : ∀ u1, Moved [S, It] G u0 u1 → Held P w S xs xs.length u1.heap → R (.ok (.ret .none)) u1) : codeAny (model P w) A1 (.builtin "set.update.loop" ⟨[.ref S, .ref It], []⟩) R u0 := by
  have size : its.toArray.size = xs.length := by rw [List.size_toArray, ← rv.length]; exact List.length_map _
  have room : xs.length + 1 < scanBound := by unfold scanBound; omega
  refine loop_by W off (Held P w S xs) (fun i h h' x k => x.at fun o z => k S o (fun m => off (List.mem_singleton.mp m ▸ List.mem_cons_self)) z) (fun i v t Q E lt pv x q => x.put room (size ▸ lt) ?_ q) its.toArray.size 0 u0 (Nat.add_zero _) st ?_ (size.symm ▸ fin)
  · exact SS.strs_at (strsOf rv) i v (by simpa using pv)
  · exact SetOf_congr ((PyProof.Rows.setObjOf_fresh (knd := PySem.strKind P w) _).setOf none_yet (by omega)) (fun _ => rfl) rfl
theorem pe_lenSetS {X : Cx} {a : Expr} {ta : TE} {p p2 q pos : Pos} (hc : X.calm = true) (hm : X.mg "len" = none) (hm2 : X.mg "set" = none) (ha : PE X a ta) (hg : Gl X "len" := by rfl) (hg2 : Gl X "set" := by rfl)
    (na : starEach [a] X.env = (false, eval a X.env) :: starEach [] X.env := by rfl) : PE X (.Call (.Name "len" p) [.Call (.Name "set" p2) [a] [] q] [] pos) (tLenSetS X.K ta) where
  run := fun pins s σ H Q I h => by
    have inner : wpAny (model X.prog X.w) X.A (eval (.Call (.Name "set" p2) [a] [] q) X.env) (fun v s2 => wpAny (model X.prog X.w) X.A (call (.builtin "len") [v]) (EP X pins σ Q) X.xe s2) X.xe s := by
      refine Call_ (ld_blt I hg2 hm2 PyProof.Rows.boot_set (PyProof.Rows.callWith_type1 (PyProof.Rows.args_cons (thn (ha.run pins s σ H _ I h) fun v s1 got => PyProof.Rows.args_nil ?_) na) na rfl))
      obtain ⟨x, H1, J, rx, l, xs, rfl, seq, few, want⟩ := got
      cases rx
      have full : ∀ (h' : Heap) (tk : Nat), Held X.prog X.w s1.heap.objs.size xs xs.length h' → (∀ b o, s1.heap.get? b = some o → h'.get? b = some o) → wpAny (model X.prog X.w) X.A (call (.builtin "len") [.ref s1.heap.objs.size]) (EP X pins σ Q) X.xe { s1 with heap := h', toks := tk } := by
        rintro h' tk ⟨o, es, ep, tb, ho, exact_, data, _, _, below, fits, count⟩ kept
        rw [List.take_length] at count
        have J2 : Inv X pins σ H1 { s1 with heap := h', toks := tk } := J.kept kept
        have le := fm_le xs
        exact call_len_set ho exact_ data fits (by omega) ⟨.int ((fm xs).length : Nat), H1, J2.tok _, ⟨_, by rw [count]⟩, want⟩
      match seq with
      | .inl sl => exact match J.list sl with
        | ⟨its, rv, pl, _⟩ => call_set_list (P := X.prog) (w := X.w) (s := s1) _ (J.ok.hd hc) pl.isList (fun A1 It _ G St u0 R W off st n _ fin => texts_in rv few W off st n fin) full
      | .inr st => exact match J.tuple st with
        | ⟨its, rv, pl, _⟩ => call_set_tuple (P := X.prog) (w := X.w) (s := s1) _ (J.ok.hd hc) pl (fun A1 It _ G St u0 R W off st n _ fin => texts_in rv few W off st n fin) full
    exact Call_ (ld_blt I hg hm PySem.boot_len (PyProof.Rows.callWith_builtin1 (PyProof.Rows.args_cons (wpAny_mono inner (fun _ _ z => PyProof.Rows.args_nil z) fun _ _ z => z) rfl) rfl rfl))
theorem ev_lenSetS {K : PySem.W.Frag} {σ : L2.St} {H : Hp} {ta : TE} {l : Addr} {xs : List Str} (h : Ev ta σ H (.ref l)) (hx : SqL K H l (sv xs) ∨ SqT K H l (sv xs)) (hz : xs.length ≤ 1000) :
    Ev (tLenSetS K ta) σ H (.int ((fm xs).length : Nat)) := fun H1 e Q q => h H1 e _ fun H2 e2 =>
  ⟨l, xs, rfl, hx.elim (fun z => .inl (ex_l (e.trans e2) z)) (fun z => .inr (ex_t (e.trans e2) z)), hz, q H2 e2⟩
end Kx

set_option Elab.async false
set_option linter.all false
set_option maxRecDepth 100000
set_option maxHeartbeats 1000000
namespace Kx
open PySem PySem.Spec PyProof.Rows L2 Evl
/-! ## more of evaluation -/
section
variable {K : PySem.W.Frag} {σ : L2.St} {H : Hp} {ta tb te tl : TE} {v : V}
/-- [te for sign in a text] -/
theorem el_lcS {i : Nat} {s : Str} {ys : List V} (h : Ev tl σ H (.str s)) (hl : ys.length = s.cps.size) (hz : s.cps.size < 100000)
    (hy : ∀ (j : Nat) (c : Nat) (y : V), s.cps[j]? = some c → ys[j]? = some y → Ev te ((σ.set i none).set i (some (.str ⟨#[c]⟩))) H y) : EvL (tLc (iStr tl) (gName i) tYes te [i]) σ H ys := fun H1 e Q q =>
  h H1 e _ fun H2 e2 => ⟨s, rfl, fun D hD => ⟨fun j m H' => m = ys.length - j ∧ j ≤ ys.length ∧ Ex H2 H' ∧ H' D = some (.lst (ys.take j)), ⟨ys.length, by simp, Nat.zero_le _, Ex.new hD, upd_same⟩, fun j m H' p => by
    obtain ⟨rfl, hj, x1, x2⟩ := p
    by_cases hlt : j < ys.length
    · refine .inr ⟨by show j < s.cps.size; omega, fun H'' => Ex H2 H'' ∧ H'' D = some (.lst (ys.take (j + 1))), fun H'' p => ⟨ys.length - (j + 1), by omega, rfl, hlt, p⟩, fun x H'' y => ?_⟩
      obtain ⟨rfl, c, hc, rfl⟩ := y
      refine ⟨by show (((σ.set i none).set i (some (.str ⟨#[c]⟩))).set i none) = (σ.set i none); rw [List.set_set, List.set_set], ?_⟩
      have gy : ys[j]? = some ys[j] := List.getElem?_eq_getElem hlt
      refine hy j c _ hc gy H'' ((e.trans e2).trans x1) _ fun H3 e3 => ⟨ys.take j, e3 _ _ x2, ?_, (x1.trans e3).mut hD, ?_⟩
      · rw [List.length_take]
        exact sz_lt (Nat.lt_of_le_of_lt (Nat.min_le_right _ _) (by omega))
      · rw [upd_same, List.take_add_one, gy]
        rfl
    · refine .inl ⟨by show s.cps.size ≤ j; omega, q D H' (fresh_back e2 hD) (e2.trans x1) (by rw [x2, List.take_of_length_le (by omega)])⟩⟩⟩
theorem rv_leS {a b : Str} : RV (fun x y H Q => ∃ i j, x = V.str i ∧ y = V.str j ∧ Q (.bl (!decide (j.cps.toList < i.cps.toList))) H) (.str a) (.str b) H (.bl (!decide (b.cps.toList < a.cps.toList))) :=
  fun H1 e Q k => ⟨a, b, rfl, rfl, k H1 (Ex.refl _)⟩
def amg (s : Str) (ns : List Str) : Bool := ns.any fun y => y == s
theorem amg_iff {s : Str} {ns : List Str} : amg s ns = true ↔ s ∈ ns := by
  unfold amg
  rw [List.any_eq_true]
  exact ⟨fun ⟨y, hy, e⟩ => (eq_of_beq e) ▸ hy, fun h => ⟨s, h, beq_self_eq_true s⟩⟩
theorem inV_sv (s : Str) (ns : List Str) : inV (.str s) (sv ns) = amg s ns := by
  unfold inV sv amg
  rw [List.any_map]
  rfl
theorem flat_sv (ns : List Str) : (sv ns).all flatV = true := by
  unfold sv
  rw [List.all_map, List.all_eq_true]
  exact fun _ _ => rfl
/-- the address holds these texts, as a list or as a tuple -/
def Txs (H : Hp) (a : Addr) (ns : List Str) : Prop := H a = some (.lst (sv ns)) ∨ Rd H a (.tup (sv ns))
theorem Txs.up {H H' : Hp} {a : Addr} {ns : List Str} (h : Txs H a ns) (e : Ex H H') : Txs H' a ns := h.elim (fun z => .inl (e _ _ z)) (fun z => .inr (ex_rd e z))
theorem Txs.sq {H : Hp} {a : Addr} {ns : List Str} (h : Txs H a ns) : SqL K H a (sv ns) ∨ SqT K H a (sv ns) := h.elim (fun z => .inl (.of z)) (fun z => .inr (.inl z))
theorem _root_.Kx.TupS.rd {a : Addr} {vs : List V} (h : TupS H a vs) : Rd H a (.tup vs) := let ⟨o, _, h2⟩ := h; .inr ⟨o, h2⟩
theorem rv_inTx {a : Addr} {s : Str} {ns : List Str} (h : Txs H a ns) : RV (rIn K false) (.str s) (.ref a) H (.bl (amg s ns)) := fun H1 e Q q =>
  ⟨a, sv ns, rfl, (h.up e).sq, rfl, flat_sv ns, by rw [inV_sv]; exact q H1 (Ex.refl _)⟩
theorem rv_niTx {a : Addr} {s : Str} {ns : List Str} (h : Txs H a ns) : RV (rIn K true) (.str s) (.ref a) H (.bl (!amg s ns)) := fun H1 e Q q =>
  ⟨a, sv ns, rfl, (h.up e).sq, rfl, flat_sv ns, by rw [inV_sv]; exact q H1 (Ex.refl _)⟩
theorem ev_lenT {a : Addr} {xs : List V} (h : Ev ta σ H (.ref a)) (hx : H a = some (.lst xs) ∨ Rd H a (.tup xs)) : Ev (tCB (rLenS K) (tCons ta tNil)) σ H (.int (xs.length : Int)) :=
  ev_cb (ea_cons h ea_nil) fun H1 e Q q => ⟨a, xs, rfl, hx.elim (fun z => .inl (.of (e _ _ z))) (fun z => .inr (.inl (ex_rd e z))), q H1 (Ex.refl _)⟩
theorem ev_lenS {s : Str} (h : Ev ta σ H (.str s)) (hz : s.length ≤ 100000) : Ev (tCB (fun xs H Q => ∃ x n, xs = [x] ∧ LenV K x H n ∧ Q (.int n) H) (tCons ta tNil)) σ H (.int (s.length : Int)) :=
  ev_cb (ea_cons h ea_nil) fun H1 e Q q => ⟨.str s, s.length, rfl, ⟨sz_of hz, rfl⟩, q H1 (Ex.refl _)⟩
end
/-! ## mirrors -/
def lowc (c : Nat) : Bool := decide (97 ≤ c) && decide (c ≤ 122)
def nmS (s : Str) : Bool := (decide (1 ≤ s.length) && decide (s.length ≤ 8)) && !decide (s = "any") && s.cps.toList.all lowc
def D.nm : D → Bool
  | .str s => nmS s
  | _ => false
def amD (d : D) (ns : List Str) : Bool := match d with
  | .str s => amg s ns
  | _ => false
def okUnlike : OkF := fun vs H z => ∃ a xs, vs = [.ref a] ∧ Txs H a xs ∧ xs.length ≤ 1000 ∧ z = .bl (decide xs.Nodup)
def okRow : OkF := fun vs H z => ∃ v d, vs = [v] ∧ Rep H v d ∧ z = .bl (decide (d.ty = "list") || decide (d.ty = "tuple"))
def okAmong : OkF := fun vs H z => ∃ v d a ns, vs = [v, .ref a] ∧ Rep H v d ∧ Txs H a ns ∧ z = .bl (amD d ns)
def szD : D → Nat
  | .str s => s.length
  | _ => 0
def okName : OkF := fun vs H z => ∃ v d, vs = [v] ∧ Rep H v d ∧ szD d ≤ 1000 ∧ z = .bl d.nm
theorem stb_unlike : Stb okUnlike := fun _ _ _ _ e ⟨a, xs, h1, h2, h3, h4⟩ => ⟨a, xs, h1, h2.up e, h3, h4⟩
theorem stb_row : Stb okRow := fun _ _ _ _ e ⟨v, d, h1, h2, h3⟩ => ⟨v, d, h1, h2.up e, h3⟩
theorem stb_among : Stb okAmong := fun _ _ _ _ e ⟨v, d, a, ns, h1, h2, h3, h4⟩ => ⟨v, d, a, ns, h1, h2.up e, h3.up e, h4⟩
theorem stb_name : Stb okName := fun _ _ _ _ e ⟨v, d, h1, h2, h3, h4⟩ => ⟨v, d, h1, h2.up e, h3, h4⟩
theorem sign_lo (c : Nat) : (!decide (([c] : List Nat) < [97])) = decide (97 ≤ c) := by
  have h : (([c] : List Nat) < [97]) ↔ c < 97 := by simp [List.cons_lt_cons_iff]
  rw [decide_eq_decide.mpr h]
  by_cases q : c < 97
  · rw [decide_eq_true q, decide_eq_false (by omega)]; rfl
  · rw [decide_eq_false q, decide_eq_true (by omega)]; rfl
theorem sign_hi (c : Nat) : (!decide (([122] : List Nat) < [c])) = decide (c ≤ 122) := by
  have h : (([122] : List Nat) < [c]) ↔ 122 < c := by simp [List.cons_lt_cons_iff]
  rw [decide_eq_decide.mpr h]
  by_cases q : 122 < c
  · rw [decide_eq_true q, decide_eq_false (by omega)]; rfl
  · rw [decide_eq_false q, decide_eq_true (by omega)]; rfl
section
variable {P : Program} {w : World} {K : PySem.W.Frag} {mg : Str → Option Value} {base : Heap} (T : Txt K mg)
theorem ok_is_among : FnOk P w K mg base CX0 1 T.a_is_among T.d_is_among ["value", "names"] (spX okAmong) := by
  refine T.F_is_among.ok sc_is_among (fun vs H Q E h => ?_) (fun cdv A outer s H vs Q E hr h => ?_)
  · obtain ⟨z, ⟨v, d, a, ns, rfl, _⟩, _⟩ := h
    rfl
  · obtain ⟨z, ⟨v, d, a, ns, rfl, hv, ha, rfl⟩, q⟩ := h
    refine ⟨_, pss_one (ps_ret (pe_and (pe_tyIs T.z_type T.z_str bo_str (pv 0)) (pe_one (pe_cmpR op_in_seq (pv 0) (pv 1) (by rfl))))), ?_⟩
    refine s_ret (v := .bl (amD d ns)) ?_ q
    refine ev_is (ev_andV (b := amD d ns) (ev_tyIs (ev_var rfl) hv) fun ht => ?_) ?_
    · obtain ⟨x, rfl⟩ := ty_str (of_decide_eq_true ht)
      obtain rfl := hv.strD
      exact ev_op (ev_var rfl) (ev_var rfl) (rv_inTx ha)
    · cases d <;> first | rfl | (simp [D.ty, amD])
theorem ok_are_unlike : FnOk P w K mg base CX0 1 T.a_are_unlike T.d_are_unlike ["row"] (spX okUnlike) := by
  refine T.F_are_unlike.ok sc_are_unlike (fun vs H Q E h => ?_) (fun cdv A outer s H vs Q E hr h => ?_)
  · obtain ⟨z, ⟨a, xs, rfl, _⟩, _⟩ := h
    rfl
  · obtain ⟨z, ⟨a, xs, rfl, ha, hz, rfl⟩, q⟩ := h
    refine ⟨_, pss_one (ps_ret (pe_cmpR op_eq (pe_lenSetS rfl T.z_len T.z_set (pv 0)) (pe_callB call_len_seq (by rfl) T.z_len bo_len (pa_cons (pv 0) pa_nil)) (nomark _))), ?_⟩
    refine s_ret (v := .bl (decide xs.Nodup)) ?_ q
    refine ev_is (ev_op (ev_lenSetS (ev_var rfl) ha.sq hz) (ev_lenT (ev_var rfl) ha) (rv_eq rfl)) ?_
    rw [show (sv xs).length = xs.length from List.length_map _]
    have e : (V.int ((fm xs).length : Nat) = V.int (xs.length : Nat)) ↔ xs.Nodup := by
      rw [← fm_nodup]
      exact ⟨fun h => by have h2 := V.int.inj h; omega, fun h => by rw [h]⟩
    rw [decide_eq_decide.mpr e]
theorem ok_is_name : FnOk P w K mg base CX0 1 T.a_is_name T.d_is_name ["value"] (spX okName) := by
  refine T.F_is_name.ok sc_is_name (fun vs H Q E h => ?_) (fun cdv A outer s H vs Q E hr h => ?_)
  · obtain ⟨z, ⟨v, d, rfl, _⟩, _⟩ := h
    rfl
  · obtain ⟨z, ⟨v, d, rfl, hv, hz, rfl⟩, q⟩ := h
    refine ⟨_, pss_cons (ps_if (PW.pt (pw_or (pt_tyNo T.z_type T.z_str bo_str (pv 0)) (pw_or (pt_not (pt_chain op_le op_le pe_int (pe_callB call_len (by rfl) T.z_len bo_len (pa_cons (pv 0) pa_nil)) pe_int))
        (pw_or1 (pt_cmpR op_eq (pv 0) pe_str (nomark _)))))) (pss_one (ps_ret pe_bl)) pss_nil)
      (pss_one (ps_ret (pe_callB (cr_all rfl) (by rfl) T.z_all bo_all (pa_cons (pe_lc (own := [("sign", 1)]) (g := gName 1) (tt := tYes) (by rfl) sc_is_name.nd (pi_str (pv 0)) (blkOk_by (N := ["value", "sign"]) (sc := defScope s_is_name) (by decide +kernel))
        (fun _ _ _ _ _ => pg_name (i := 1) sc_is_name.nd rfl (.inl rfl)) (fun _ _ _ _ _ => pts_nil) (fun _ _ _ _ _ => pe_chain op_le_str op_le_str pe_str (pv 1) pe_str)) pa_nil)))), ?_⟩
    by_cases ht : d.ty = "str"
    · obtain ⟨x, rfl⟩ := ty_str ht
      obtain rfl := hv.strD
      have hz : x.length ≤ 1000 := hz
      refine s_if (b := !(decide (1 ≤ x.length) && decide (x.length ≤ 8)) || decide (x = "any")) ?_ (fun hb H1 e => ?_) (fun hb H1 e => ?_)
      · refine et_is (et_or (et_test (ev_tyNo (ev_var rfl) hv)) fun _ => et_or (et_not (et_test (ev_chain ev_c (ev_lenS (ev_var rfl) (by omega)) rv_I0 (fun _ => ev_c) (fun _ => rv_I0)))) fun _ => et_test (ev_op (ev_var rfl) ev_c (rv_eq rfl))) ?_
        have e1 : decide (V.str x = V.str "any") = decide (x = "any") := decide_eq_decide.mpr ⟨V.str.inj, fun h => h ▸ rfl⟩
        rw [e1]
        have e2 : ∀ n : Nat, decide ((n : Int) ≤ (x.length : Int)) = decide (n ≤ x.length) := fun n => decide_eq_decide.mpr (by omega)
        have e3 : ∀ n : Nat, decide ((x.length : Int) ≤ (n : Int)) = decide (x.length ≤ n) := fun n => decide_eq_decide.mpr (by omega)
        simp only [D.ty, decide_true, Bool.not_true, Bool.false_or]
        have a1 := e2 1
        have a2 := e3 8
        rw [show ((1 : Nat) : Int) = 1 from rfl] at a1
        rw [show ((8 : Nat) : Int) = 8 from rfl] at a2
        rw [a1, a2]
      · refine s_ret (v := .bl false) ev_c fun H2 e2 => ?_
        have z : nmS x = false := by
          unfold nmS
          cases h1 : decide (1 ≤ x.length) <;> cases h2 : decide (x.length ≤ 8) <;> cases h3 : decide (x = "any") <;> simp_all
        have q2 := q H2 (e.trans e2)
        rw [show (D.str x).nm = nmS x from rfl, z] at q2
        exact q2
      · refine s_ret (v := .bl (nmS x)) (ev_is (ev_all (bs := x.cps.toList.map lowc) (el_lcS (s := x) (ev_var rfl) (by simp) (Nat.lt_of_le_of_lt hz (by decide)) fun j c y hc hy => ?_)) ?_) fun H2 e2 => q H2 (e.trans e2)
        · have ey : y = .bl (lowc c) := by
            rw [List.getElem?_map, List.getElem?_map, Array.getElem?_toList, hc] at hy
            exact (Option.some.inj hy).symm
          subst ey
          refine ev_is (ev_chain ev_c (ev_var rfl) rv_leS (fun _ => ev_c) (fun _ => rv_leS)) ?_
          show V.bl ((!decide (([c] : List Nat) < [97])) && (!decide (([122] : List Nat) < [c]))) = _
          rw [sign_lo, sign_hi]
          rfl
        · rw [List.all_map]
          unfold nmS
          cases h1 : decide (1 ≤ x.length) <;> cases h2 : decide (x.length ≤ 8) <;> cases h3 : decide (x = "any") <;> simp_all
    · refine s_if (b := true) ?_ (fun hb H1 e => ?_) (fun hb => by cases hb)
      · refine et_is (et_or (b := false) (et_test (ev_tyNo (ev_var rfl) hv)) fun hh => ?_) ?_
        · rw [decide_eq_false ht] at hh
          cases hh
        · rw [decide_eq_false ht]
          rfl
      · refine s_ret (v := .bl false) ev_c fun H2 e2 => ?_
        have z : d.nm = false := by cases d <;> first | rfl | exact absurd rfl ht
        have q2 := q H2 (e.trans e2)
        rw [z] at q2
        exact q2
end
end Kx

set_option Elab.async false
set_option linter.all false
set_option maxRecDepth 100000
set_option maxHeartbeats 1000000
namespace Kx
open PySem PySem.Spec PyProof.Rows PySem.SeqAt L2 Evl
open MeetsSeq MeetsSeq2 MeetsSeq3 SeqRoads2
/-! ## == and != of a dict beside a text, a number -/
section
variable {A : Around} {s : Shared}
/-- a dict's object -/
def DictAt (s : Shared) (a : Addr) : Prop := ∃ o es ep, s.heap.get? a = some o ∧ o.cls = .type "dict" ∧ o.data = .dict es ep
theorem dict_eq_no (l : Addr) (es : Array DictEntry) (ep : Nat) (dd : Option Addr) (sl : Array (Option Value)) (b : Str) (u : Tok) :
    Meets (Builtin.«dict.__eq__» ⟨[.ref l, .str b u], []⟩) (fun _ R s => s.heap.get? l = some ⟨.type "dict", dd, .dict es ep, sl⟩ ∧ R (.ok (.ret .notImplemented)) s) :=
  .of_wp fun prog w A R s h => by
    obtain ⟨hp, g, d, tk, os⟩ := s
    obtain ⟨hl, h⟩ := h
    have f1 := PySem.F.sub_str_dict
    wp_walk using wpAny_loadPart' hl
    exact ⟨_, rfl, h⟩
theorem dict_eq_noI (l : Addr) (es : Array DictEntry) (ep : Nat) (dd : Option Addr) (sl : Array (Option Value)) (b : Int) (u : Tok) :
    Meets (Builtin.«dict.__eq__» ⟨[.ref l, .int b u], []⟩) (fun _ R s => s.heap.get? l = some ⟨.type "dict", dd, .dict es ep, sl⟩ ∧ R (.ok (.ret .notImplemented)) s) :=
  .of_wp fun prog w A R s h => by
    obtain ⟨hp, g, d, tk, os⟩ := s
    obtain ⟨hl, h⟩ := h
    have f1 := PySem.F.sub_int_dict
    wp_walk using wpAny_loadPart' hl
    exact ⟨_, rfl, h⟩
theorem dict_ne_no (l : Addr) (es : Array DictEntry) (ep : Nat) (dd : Option Addr) (sl : Array (Option Value)) (b : Str) (u : Tok) :
    Meets (Builtin.«dict.__ne__» ⟨[.ref l, .str b u], []⟩) (fun _ R s => s.heap.get? l = some ⟨.type "dict", dd, .dict es ep, sl⟩ ∧ R (.ok (.ret .notImplemented)) s) :=
  .of_wp fun prog w A R s h => by
    obtain ⟨hp, g, d, tk, os⟩ := s
    obtain ⟨hl, h⟩ := h
    have f1 := PySem.F.sub_str_dict
    wp_walk using wpAny_loadPart' hl
    exact ⟨_, rfl, h⟩
theorem str_eq_no (b : Str) (u : Tok) (l : Addr) (o : Obj) :
    Meets (Builtin.«str.__eq__» ⟨[.str b u, .ref l], []⟩) (fun _ R s => s.heap.get? l = some o ∧ (∃ es ep, o.data = .dict es ep) ∧ R (.ok (.ret .notImplemented)) s) :=
  .of_wp fun prog w A R s h => by
    obtain ⟨hp, g, d, tk, os⟩ := s
    obtain ⟨hl, ⟨es, ep, e⟩, h⟩ := h
    obtain ⟨c, dd, dt, sl⟩ := o
    dsimp only at e
    subst e
    wp_walk using wpAny_loadPart' hl, wpAny_load hl
    exact ⟨_, rfl, h⟩
theorem str_ne_no (b : Str) (u : Tok) (l : Addr) (o : Obj) :
    Meets (Builtin.«str.__ne__» ⟨[.str b u, .ref l], []⟩) (fun _ R s => s.heap.get? l = some o ∧ (∃ es ep, o.data = .dict es ep) ∧ R (.ok (.ret .notImplemented)) s) :=
  .of_wp fun prog w A R s h => by
    obtain ⟨hp, g, d, tk, os⟩ := s
    obtain ⟨hl, ⟨es, ep, e⟩, h⟩ := h
    obtain ⟨c, dd, dt, sl⟩ := o
    dsimp only at e
    subst e
    wp_walk using wpAny_loadPart' hl, wpAny_load hl
    exact ⟨_, rfl, h⟩
theorem int_eq_no (b : Int) (u : Tok) (l : Addr) (o : Obj) :
    Meets (Builtin.«int.__eq__» ⟨[.int b u, .ref l], []⟩) (fun _ R s => s.heap.get? l = some o ∧ (∃ es ep, o.data = .dict es ep) ∧ R (.ok (.ret .notImplemented)) s) :=
  .of_wp fun prog w A R s h => by
    obtain ⟨hp, g, d, tk, os⟩ := s
    obtain ⟨hl, ⟨es, ep, e⟩, h⟩ := h
    obtain ⟨c, dd, dt, sl⟩ := o
    dsimp only at e
    subst e
    wp_walk using wpAny_loadPart' hl, wpAny_load hl
    exact ⟨_, rfl, h⟩
theorem ne_dict_str {l : Addr} (b : Str) (u : Tok) (hl : DictAt s l) (hu : A.units < cLine) : RcNeAt A s (.ref l) (.str b u) true := fun prog w E Q h => by
  obtain ⟨⟨c, dd, dt, sl⟩, es, ep, ho, hc, hd⟩ := hl
  dsimp only at hc hd
  subst hc hd
  refine rc_ne_decline_or (k := false) ⟨_, ho, rfl⟩ (typeIs_str s b u) (by decide) PySem.F.sub_str_dict PySem.F.slot_dict_ne PySem.F.slot_str_ne_refl ?_ ?_ ?_ (.inr hu) h
  · exact fun _ hq => call_meets PySem.F.slot_dict_ne ⟨_, ho, rfl⟩ PySem.F.entry_dict_ne (PySem.F.args_dict_ne_2 _ _) (dict_ne_no l es ep dd sl b u) ⟨ho, hq⟩
  · exact fun _ hq => call_meets PySem.F.slot_str_ne_refl (typeIs_str s b u) PySem.F.entry_str_ne (PySem.F.args_str_ne_2 _ _) (str_ne_no b u l _) ⟨ho, ⟨es, ep, rfl⟩, hq⟩
  · exact fun _ hq => wpAny_of_eq (rfl : isSame (.ref l) (.str b u) = pure false) hq
theorem eq_str_dict {l : Addr} (b : Str) (u : Tok) (hl : DictAt s l) (hu : A.units < cLine) : EqAt A s (.str b u) (.ref l) false := fun prog w E Q h => by
  obtain ⟨⟨c, dd, dt, sl⟩, es, ep, ho, hc, hd⟩ := hl
  dsimp only at hc hd
  subst hc hd
  unfold eqBool
  refine wpAny_holding (wpAny_ite_split (fun hab => absurd (eq_of_beq hab) nofun) fun _ => wpAny_bind ?_)
  refine rc_eq_decline_or (k := false) (typeIs_str s b u) ⟨_, ho, rfl⟩ (by decide) PySem.F.sub_dict_str PySem.F.slot_str_eq PySem.F.slot_dict_eq_refl ?_ ?_ ?_ (.inr hu) (wpAny_truthy_bool h)
  · exact fun _ hq => call_meets PySem.F.slot_str_eq (typeIs_str s b u) PySem.F.entry_str_eq (PySem.F.args_str_eq_2 _ _) (str_eq_no b u l _) ⟨ho, ⟨es, ep, rfl⟩, hq⟩
  · exact fun _ hq => call_meets PySem.F.slot_dict_eq_refl ⟨_, ho, rfl⟩ PySem.F.entry_dict_eq (PySem.F.args_dict_eq_2 _ _) (dict_eq_no l es ep dd sl b u) ⟨ho, hq⟩
  · exact fun _ hq => wpAny_of_eq (rfl : isSame (.str b u) (.ref l) = pure false) hq
theorem eq_int_dict {l : Addr} (b : Int) (u : Tok) (hl : DictAt s l) (hu : A.units < cLine) : EqAt A s (.int b u) (.ref l) false := fun prog w E Q h => by
  obtain ⟨⟨c, dd, dt, sl⟩, es, ep, ho, hc, hd⟩ := hl
  dsimp only at hc hd
  subst hc hd
  unfold eqBool
  refine wpAny_holding (wpAny_ite_split (fun hab => absurd (eq_of_beq hab) nofun) fun _ => wpAny_bind ?_)
  refine rc_eq_decline_or (k := false) (typeIs_int s b u) ⟨_, ho, rfl⟩ (by decide) PySem.F.sub_dict_int PySem.F.slot_int_eq PySem.F.slot_dict_eq_refl ?_ ?_ ?_ (.inr hu) (wpAny_truthy_bool h)
  · exact fun _ hq => call_meets PySem.F.slot_int_eq (typeIs_int s b u) PySem.F.entry_int_eq (PySem.F.args_int_eq_2 _ _) (int_eq_no b u l _) ⟨ho, ⟨es, ep, rfl⟩, hq⟩
  · exact fun _ hq => call_meets PySem.F.slot_dict_eq_refl ⟨_, ho, rfl⟩ PySem.F.entry_dict_eq (PySem.F.args_dict_eq_2 _ _) (dict_eq_noI l es ep dd sl b u) ⟨ho, hq⟩
  · exact fun _ hq => wpAny_of_eq (rfl : isSame (.int b u) (.ref l) = pure false) hq
end
/-! ## a text beside any datum -/
def D.isS (d : D) (s : Str) : Bool := match d with
  | .str t => t == s
  | _ => false
section
variable {X : Cx}
theorem dict_of {pins : List (Addr × Obj)} {σ : L2.St} {H : Hp} {s : Shared} {a : Addr} (I : Inv X pins σ H s) (h : H a = some (.dK [])) : DictAt s a := by
  obtain ⟨_, _, vs, _, o, es, ep, h1, h2, h3, _⟩ := (show ObjOk X.prog X.w H s.heap a (.dK []) from I.hok a _ h)
  exact ⟨o, es, ep, h1, h2.1, h3⟩
def rNeS : R2 := fun x y H Q => ∃ d t, Rep H x d ∧ y = .str t ∧ Q (.bl (!d.isS t)) H
theorem op_neS (hu : X.A.units < cLine) : OpR X (compareOp .NotEq) rNeS := by
  intro pins s σ H x y v u Q I rx ry h
  obtain ⟨d, t, hd, rfl, q⟩ := h
  obtain ⟨k, rfl⟩ := ry
  have fin : EP X pins σ Q (.bool (!d.isS t)) s := ⟨.bl _, H, I, rfl, q⟩
  cases hd with
  | non => cases rx; exact RcNeAt.none_str t k X.prog X.w _ _ fin
  | bl b => cases rx; exact RcNeAt.bool_str b t k X.prog X.w _ _ fin
  | int i => obtain ⟨j, rfl⟩ := rx; exact RcNeAt.int_str i j t k X.prog X.w _ _ fin
  | str z => obtain ⟨j, rfl⟩ := rx; exact RcNeAt.str_str z j t k X.prog X.w _ _ fin
  | @tup a vs ds ha hs =>
    cases rx
    obtain ⟨its, rv, tp, _⟩ := I.tuple ha.sq
    exact RcNeAt.tuple_str t k tp hu X.prog X.w _ _ fin
  | @lst a vs ds ha hs =>
    cases rx
    obtain ⟨its, rv, tp, _⟩ := I.list (.of ha)
    exact RcNeAt.list_str t k tp.isList hu X.prog X.w _ _ fin
  | dic ha => cases rx; exact ne_dict_str t k (dict_of I ha) hu X.prog X.w _ _ fin
end
theorem rv_neS {H : Hp} {x : V} {d : D} {t : Str} (r : Rep H x d) : RV rNeS x (.str t) H (.bl (!d.isS t)) := fun H1 e Q q => ⟨d, t, r.up e, rfl, q H1 (Ex.refl _)⟩
end Kx

set_option Elab.async false
set_option linter.all false
set_option maxRecDepth 100000
set_option maxHeartbeats 1000000
namespace Kx
open PySem PySem.Spec PyProof.Rows L2 Evl
/-! ## sizes -/
mutual
def D.Sz : D → Prop
  | .str s => s.length ≤ 1000
  | .tup ds => ds.length ≤ 1000 ∧ Szs ds
  | .lst ds => ds.length ≤ 1000 ∧ Szs ds
  | _ => True
def Szs : List D → Prop
  | [] => True
  | d :: r => d.Sz ∧ Szs r
end
theorem szD_of {d : D} (h : d.Sz) : szD d ≤ 1000 := by
  cases d <;> first | exact Nat.zero_le _ | (unfold D.Sz at h; exact h)
theorem Szs.get : ∀ {ds : List D} {j : Nat} {d : D}, Szs ds → ds[j]? = some d → d.Sz
  | [], _, _, _, h => by simp at h
  | x :: r, 0, d, h, e => by
    have := Option.some.inj e
    subst this
    unfold Szs at h
    exact h.1
  | x :: r, j + 1, d, h, e => by
    unfold Szs at h
    exact Szs.get (j := j) h.2 e
theorem Szs.mem {ds : List D} {d : D} (h : Szs ds) (m : d ∈ ds) : d.Sz := by
  obtain ⟨j, hj⟩ := List.mem_iff_getElem?.mp m
  exact h.get hj
theorem D.Sz.tup {ds : List D} (h : (D.tup ds).Sz) : ds.length ≤ 1000 ∧ Szs ds := by
  unfold D.Sz at h
  exact h
theorem not_t {b : Bool} (h : (!b) = true) : b = false := by cases b <;> first | rfl | cases h
theorem not_f {b : Bool} (h : (!b) = false) : b = true := by cases b <;> first | rfl | cases h
section
variable {K : PySem.W.Frag} {σ : L2.St} {H : Hp} {ta tb te tl : TE} {v x z : V}
theorem ev_sp {ok : OkF} (st : Stb ok) {ta : TA} {vs : List V} {E : XK} (h : EvA ta σ H vs) (k : ok vs H z) : Ev (tCall (spX ok) [] E ta) σ H z :=
  ev_call h (by rw [List.append_nil]; exact spv st k)
theorem s_ifX {D : Ends} {t : TT} {tu u : TS} {b : Bool} (h : EvT t σ H b) (h1 : b = true → ∀ H1, Ex H H1 → tu { D with nx := u D } σ H1) (h2 : b = false → ∀ H1, Ex H H1 → u D σ H1) : tSeq (tIfS t tu tNext) u D σ H := s_if h h1 h2
/-- a call whose last argument is a new tuple, a new list -/
theorem ev_spU {ok : OkF} {xs : List V} {E : XK} (ha : Ev ta σ H x) (hb : EvU tb σ H xs) (k : ∀ p H1, H1 p = some (.tup xs) → Ex H H1 → ok [x, .ref p] H1 z) : Ev (tCall (spX ok) [] E (tCons ta (tCons tb tNil))) σ H z :=
  fun H1 e Q q => ha H1 e _ fun H2 e2 => hb H2 (e.trans e2) _ fun p H3 _ e3 hp => ⟨z, k p H3 hp ((e.trans e2).trans e3), fun H4 e4 => q H4 ((e2.trans e3).trans e4)⟩
theorem ev_spL {ok : OkF} {xs : List V} {E : XK} (hb : EvL tb σ H xs) (k : ∀ p H1, H1 p = some (.lst xs) → Ex H H1 → ok [.ref p] H1 z) : Ev (tCall (spX ok) [] E (tCons tb tNil)) σ H z :=
  fun H1 e Q q => hb H1 e _ fun p H3 _ e3 hp => ⟨z, k p H3 hp (e.trans e3), fun H4 e4 => q H4 (e3.trans e4)⟩
theorem ev_ixT {a : Addr} {vs : List V} {j : Nat} (h : Ev ta σ H (.ref a)) (ha : TupS H a vs) (hj : vs[j]? = some v) : Ev (tOp (rIxT K) ta (tC (.int (j : Int)))) σ H v :=
  ev_op h ev_c (rv_ixT ha.sq (atI_nat hj))
/-- all([f(item) for item in a tuple]) -/
theorem ev_allT {i : Nat} {a : Addr} {vs : List V} {ds : List D} {f : D → Bool} (h : Ev tl σ H (.ref a)) (ha : TupS H a vs) (hs : Reps H vs ds) (hz : ds.length ≤ 1000)
    (hf : ∀ (j : Nat) (v : V) (d : D), ds[j]? = some d → Rep H v d → Ev te ((σ.set i none).set i (some v)) H (.bl (f d))) :
    Ev (tCB (rAll K) (tCons (tLc (iTup K tl) (gName i) tYes te [i]) tNil)) σ H (.bl (ds.all f)) := by
  refine ev_is (ev_all (bs := ds.map f) (el_lcT h ha.sq (by rw [List.length_map, List.length_map, hs.length]) (by rw [hs.length]; omega) fun j x y hx hy => ?_)) (by rw [List.all_map]; rfl)
  obtain ⟨d, hd, r⟩ := hs.get hx
  rw [List.getElem?_map, List.getElem?_map, hd] at hy
  have ey : y = .bl (f d) := (Option.some.inj hy).symm
  subst ey
  exact hf j x d hd r
end
/-! ## mirrors -/
def D.txt : D → Str
  | .str s => s
  | _ => Str.empty
def D.fst : D → D
  | .tup (x :: _) => x
  | _ => .non
def D.nms (d : D) (lo hi : Int) : Bool := match d with
  | .tup ds => (decide (lo ≤ (ds.length : Int)) && decide ((ds.length : Int) ≤ hi)) && (ds.all D.nm && decide ((ds.map D.txt).Nodup))
  | _ => false
def leafs : List Str := ["leaf", "gate"]
def D.dr (as : List Str) (d : D) : Bool := match d with
  | .tup [n, a, b, s] => (n.nm && (amD a as && amD b as)) && (!decide (a.txt = b.txt) && amD s leafs)
  | _ => false
def D.drs (as : List Str) (d : D) : Bool := match d with
  | .tup ds => (decide ((1 : Int) ≤ (ds.length : Int)) && decide ((ds.length : Int) ≤ 6)) && (ds.all (D.dr as) && decide ((ds.map fun x => x.fst.txt).Nodup))
  | _ => false
def D.rt (ns ks : List Str) (d : D) : Bool := match d with
  | .tup [k, n, s] => amD k ks && (amD n ns && isBetw s 0 1)
  | _ => false
theorem nms_tup (ds : List D) (lo hi : Int) : D.nms (.tup ds) lo hi = (isTup (.tup ds) lo hi && (ds.all D.nm && decide ((ds.map D.txt).Nodup))) := rfl
theorem dr_4 (as : List Str) (n a b s : D) : D.dr as (.tup [n, a, b, s]) = ((n.nm && (amD a as && amD b as)) && (!decide (a.txt = b.txt) && amD s leafs)) := rfl
theorem nm_str : ∀ {d : D}, d.nm = true → d = .str d.txt
  | .str s, _ => rfl
  | .non, h | .bl _, h | .tup _, h | .int _, h | .lst _, h | .dic, h => by simp [D.nm] at h
theorem am_str : ∀ {d : D} {ns : List Str}, amD d ns = true → d = .str d.txt ∧ d.txt ∈ ns
  | .str s, ns, h => ⟨rfl, amg_iff.mp h⟩
  | .non, _, h | .bl _, _, h | .tup _, _, h | .int _, _, h | .lst _, _, h | .dic, _, h => by simp [amD] at h
theorem all_nm {ds : List D} (h : ds.all D.nm = true) : ds = (ds.map D.txt).map D.str := by
  rw [List.map_map]
  have : ∀ d ∈ ds, (D.str ∘ D.txt) d = d := fun d hd => (nm_str (List.all_eq_true.mp h d hd)).symm
  exact (List.map_id ds).symm.trans (List.map_congr_left fun d hd => (this d hd).symm)
def okNames : OkF := fun vs H z => ∃ v d lo hi, vs = [v, .int lo, .int hi] ∧ Rep H v d ∧ d.Sz ∧ z = .bl (d.nms lo hi)
def okDoor : OkF := fun vs H z => ∃ v d a as, vs = [v, .ref a] ∧ Rep H v d ∧ d.Sz ∧ Txs H a as ∧ z = .bl (d.dr as)
theorem stb_names : Stb okNames := fun _ _ _ _ e ⟨v, d, lo, hi, h1, h2, h3⟩ => ⟨v, d, lo, hi, h1, h2.up e, h3⟩
theorem stb_door : Stb okDoor := fun _ _ _ _ e ⟨v, d, a, as, h1, h2, h3, h4, h5⟩ => ⟨v, d, a, as, h1, h2.up e, h3, h4.up e, h5⟩
section
variable {P : Program} {w : World} {K : PySem.W.Frag} {mg : Str → Option Value} {base : Heap} (T : Txt K mg)
end
end Kx

set_option Elab.async false
set_option linter.all false
set_option maxRecDepth 100000
set_option maxHeartbeats 1000000
namespace Kx
open PySem PySem.Spec PyProof.Rows L2 Evl
section
variable {K : PySem.W.Frag} {σ : L2.St} {H : Hp} {ta tb te tl : TE} {v x z : V}
/-- [te for i in range(n)] -/
theorem el_lcR {i : Nat} {ra : TA} {n : Int} {ys : List V} (h : EvA ra σ H [.int n]) (hl : ys.length = n.toNat) (hz : n ≤ 10000) (hz0 : -10000 ≤ n)
    (hy : ∀ (j : Nat) (y : V), ys[j]? = some y → Ev te ((σ.set i none).set i (some (.int (0 + (j : Int))))) H y) : EvL (tLc (iRng1 ra) (gName i) tYes te [i]) σ H ys := fun H1 e Q q =>
  h H1 e _ fun H2 e2 => ⟨n, rfl, by omega, by omega, fun D hD =>
    lc_range (lo := 0) (n := n.toNat) (fun j H' => Ex H2 H' ∧ H' D = some (.lst (ys.take j))) ⟨Ex.new hD, upd_same⟩
      (fun j H' hj p => ⟨by show (((σ.set i none).set i (some (.int (0 + (j : Int))))).set i none) = (σ.set i none); rw [List.set_set, List.set_set], by
        have hlt2 : j < ys.length := by omega
        have gy : ys[j]? = some ys[j] := List.getElem?_eq_getElem hlt2
        refine hy j _ gy H' ((e.trans e2).trans p.1) _ fun H3 e3 => ⟨ys.take j, e3 _ _ p.2, ?_, (p.1.trans e3).mut hD, ?_⟩
        · rw [List.length_take]
          exact sz_lt (Nat.lt_of_le_of_lt (Nat.min_le_right _ _) (by omega))
        · rw [upd_same, List.take_add_one, gy]
          rfl⟩)
      (fun H' p => q D H' (fresh_back e2 hD) (e2.trans p.1) (by rw [p.2, List.take_of_length_le (by omega)]))⟩
theorem ev_ixL {a : Addr} {vs : List V} {j : Nat} {k : Int} (h : Ev ta σ H (.ref a)) (hk : Ev tb σ H (.int k)) (ha : H a = some (.lst vs)) (e : k = (j : Int)) (hj : vs[j]? = some v) : Ev (tOp (rIxL K) ta tb) σ H v :=
  ev_op h hk (rv_ixL (.of ha) (by rw [e]; exact atI_nat hj))
end
/-! ## rows of numbers -/
def itup (t : List Int) : D := .tup (t.map D.int)
theorem reps_ints {H : Hp} : ∀ {t : List Int} {vs : List V}, Reps H vs (t.map D.int) → vs = t.map V.int
  | [], _, .nil => rfl
  | i :: r, _, .cons h t => by
    cases h
    rw [reps_ints t]
    rfl
theorem reps_of_ints {H : Hp} : ∀ t : List Int, Reps H (t.map V.int) (t.map D.int)
  | [] => .nil
  | i :: r => .cons (.int i) (reps_of_ints r)
theorem itup_at {H : Hp} {v : V} {t : List Int} (r : Rep H v (itup t)) : ∃ a, v = .ref a ∧ TupS H a (t.map V.int) := by
  obtain ⟨a, vs, h1, h2, h3⟩ := r.tupD
  rw [reps_ints h3] at h2
  exact ⟨a, h1, h2⟩
def ascB (ts : List (List Int)) : List Bool := (List.range (ts.length - 1)).map fun j => HT.lexLt (ts.getD j []) (ts.getD (j + 1) [])
def ascT (ts : List (List Int)) : Bool := (ascB ts).all id
def okAsc : OkF := fun vs H z => ∃ a us ts, vs = [.ref a] ∧ H a = some (.lst us) ∧ Reps H us (ts.map itup) ∧ ts.length ≤ 1000 ∧ z = .bl (ascT ts)
theorem stb_asc : Stb okAsc := fun _ _ _ _ e ⟨a, us, ts, h1, h2, h3, h4, h5⟩ => ⟨a, us, ts, h1, e _ _ h2, h3.up e, h4, h5⟩
def okDoors : OkF := fun vs H z => ∃ v d a as, vs = [v, .ref a] ∧ Rep H v d ∧ d.Sz ∧ Txs H a as ∧ z = .bl (d.drs as)
def okRight : OkF := fun vs H z => ∃ v d a ns b ks, vs = [v, .ref a, .ref b] ∧ Rep H v d ∧ Txs H a ns ∧ Txs H b ks ∧ z = .bl (d.rt ns ks)
theorem stb_doors : Stb okDoors := fun _ _ _ _ e ⟨v, d, a, as, h1, h2, h3, h4, h5⟩ => ⟨v, d, a, as, h1, h2.up e, h3, h4.up e, h5⟩
theorem stb_right : Stb okRight := fun _ _ _ _ e ⟨v, d, a, ns, b, ks, h1, h2, h3, h4, h5⟩ => ⟨v, d, a, ns, b, ks, h1, h2.up e, h3.up e, h4.up e, h5⟩
theorem drs_tup (as : List Str) (ds : List D) : D.drs as (.tup ds) = (isTup (.tup ds) 1 6 && (ds.all (D.dr as) && decide ((ds.map fun x => x.fst.txt).Nodup))) := rfl
theorem dr_shape {as : List Str} : ∀ {d : D}, d.dr as = true → ∃ n a b s, d = .tup [.str n, .str a, .str b, .str s] ∧ nmS n = true ∧ a ∈ as ∧ b ∈ as ∧ a ≠ b ∧ s ∈ leafs
  | .tup [n, a, b, s], h => by
    rw [dr_4] at h
    simp only [Bool.and_eq_true] at h
    obtain ⟨⟨h1, h2, h3⟩, h4, h5⟩ := h
    obtain ⟨ea, ma⟩ := am_str h2
    obtain ⟨eb, mb⟩ := am_str h3
    obtain ⟨es, ms⟩ := am_str h5
    have en := nm_str h1
    refine ⟨n.txt, a.txt, b.txt, s.txt, by rw [← ea, ← eb, ← es, ← en], ?_, ma, mb, ?_, ms⟩
    · rw [en] at h1
      exact h1
    · intro q
      rw [decide_eq_true q] at h4
      cases h4
  | .tup [], h | .tup [_], h | .tup [_, _], h | .tup [_, _, _], h | .tup (_ :: _ :: _ :: _ :: _ :: _), h => by simp [D.dr] at h
  | .non, h | .bl _, h | .str _, h | .int _, h | .lst _, h | .dic, h => by simp [D.dr] at h
section
variable {P : Program} {w : World} {K : PySem.W.Frag} {mg : Str → Option Value} {base : Heap} (T : Txt K mg)
theorem ok_is_ascending : FnOk P w K mg base CX0 1 T.a_is_ascending T.d_is_ascending ["row"] (spX okAsc) := by
  refine T.F_is_ascending.ok sc_is_ascending (fun vs H Q E h => ?_) (fun cdv A outer s H vs Q E hr h => ?_)
  · obtain ⟨z, ⟨a, us, ts, rfl, _⟩, _⟩ := h
    rfl
  · obtain ⟨z, ⟨a, us, ts, rfl, ha, hs, hz, rfl⟩, q⟩ := h
    refine ⟨_, pss_one (ps_ret (pe_callB (cr_all rfl) (by rfl) T.z_all bo_all (pa_cons (pe_lc (own := [("at", 1)]) (g := gName 1) (tt := tYes) (by rfl) sc_is_ascending.nd
        (pi_range1 (by rfl) T.z_range (pa_cons (pe_op op_sub (pe_callB call_len_seq (by rfl) T.z_len bo_len (pa_cons (pv 0) pa_nil)) pe_int) pa_nil)) (blkOk_by (N := ["row", "at"]) (sc := defScope s_is_ascending) (by decide +kernel))
        (fun _ _ _ _ _ => pg_name (i := 1) sc_is_ascending.nd rfl (.inl rfl)) (fun _ _ _ _ _ => pts_nil)
        (fun _ _ _ _ _ => pe_cmpR (r := rLtT K) (op_ltT hr.units0) (pe_ix (r := rIxL K) ix_list (pv 0) (pv 1) (fun _ _ => rfl)) (pe_ix (r := rIxL K) ix_list (pv 0) (pe_op op_add (pv 1) pe_int) (fun _ _ => rfl)) (nomark _))) pa_nil))), ?_⟩
    have hl : us.length = ts.length := by rw [hs.length, List.length_map]
    refine s_ret (v := .bl (ascT ts)) (ev_all (bs := ascB ts) (el_lcR (n := (us.length : Int) - 1) (ea_cons (ev_op (ev_lenT (ev_var rfl) (.inl ha)) ev_c rv_I0) ea_nil) ?_ (by omega) (by omega) fun j y hy => ?_)) q
    · unfold ascB
      rw [List.length_map, List.length_map, List.length_range]
      omega
    · have hj : j < ts.length - 1 := by
        have := (List.getElem?_eq_some_iff.mp hy).1
        unfold ascB at this
        rw [List.length_map, List.length_map, List.length_range] at this
        exact this
      have ey : y = .bl (HT.lexLt (ts.getD j []) (ts.getD (j + 1) [])) := by
        unfold ascB at hy
        rw [List.getElem?_map, List.getElem?_map, List.getElem?_range hj] at hy
        exact (Option.some.inj hy).symm
      subst ey
      have at_ : ∀ k, k < ts.length → ∃ p, us[k]? = some (.ref p) ∧ TupS H p ((ts.getD k []).map V.int) := fun k hk => by
        have e1 : (ts.map itup)[k]? = some (itup (ts.getD k [])) := by
          rw [List.getElem?_map, List.getElem?_eq_getElem hk, List.getD_eq_getElem?_getD, List.getElem?_eq_getElem hk]
          rfl
        obtain ⟨v, hv, r⟩ := hs.getD e1
        obtain ⟨p, rfl, hp⟩ := itup_at r
        exact ⟨p, hv, hp⟩
      obtain ⟨p, hp1, hp2⟩ := at_ j (by omega)
      obtain ⟨r, hr1, hr2⟩ := at_ (j + 1) (by omega)
      refine ev_op (ev_ixL (j := j) (ev_var rfl) (ev_var rfl) ha (by omega) hp1) (ev_ixL (j := j + 1) (k := 0 + (j : Int) + 1) (ev_var rfl) (ev_op (ev_var rfl) ev_c rv_I0) ha (by omega) hr1) ?_
      exact fun H1 e Q k => ⟨p, r, _, _, rfl, rfl, (hp2.up e).sq, (hr2.up e).sq, k H1 (Ex.refl _)⟩
end
end Kx

set_option Elab.async false
set_option linter.all false
set_option maxRecDepth 100000
set_option maxHeartbeats 1000000
namespace Kx
open PySem PySem.Spec PyProof.Rows L2 Evl
/-! ## tuples whose object is known -/
/-- a new tuple, its object known -/
def newT (xs : List V) (H : Hp) (Q : VK) : Prop := ∀ (p : Addr) (o : Obj), H p = none → o.dict = none → Q (.ref p) (upd H p (.frz o (.tup xs)))
section
variable {X : Cx}
theorem laid_T {pins : List (Addr × Obj)} {σ : L2.St} {H : Hp} {s : Shared} {xs : List V} {us : List Value} {Q : VK} {h' : Heap} {t' : Nat} (I : Inv X pins σ H { s with heap := h' }) (r : Vals xs us) (hz : xs.length ≤ sizeLine) (q : newT xs H Q) :
    EP X pins σ Q (.ref h'.objs.size) { s with heap := h'.push { cls := .type "tuple", data := .seq us.toArray }, toks := t' } := by
  have hg : (h'.push { cls := .type "tuple", data := .seq us.toArray }).get? h'.objs.size = some { cls := .type "tuple", data := .seq us.toArray } := Heap.get?_push_size _ rfl
  exact ⟨.ref h'.objs.size, _, I.laid (t' := t') (o := .frz { cls := .type "tuple", data := .seq us.toArray } (.tup xs)) (fun b ob e => Heap.get?_push_of_some _ e) (Nat.le_refl _) ⟨hg, hz, us, r, ⟨_, hg, rfl, _, rfl⟩⟩, rfl, q _ _ (I.hok.fresh (Nat.le_refl _)) rfl⟩
def tTupF (t : TA) : TE := fun σ H Q => t σ H fun xs H1 => xs.length ≤ sizeLine ∧ newT xs H1 Q
theorem pe_tupF {es : List Expr} {t : TA} {k : Nat} {pos : Pos} (h : PA X es t) : PE X (.Tuple es k pos) (tTupF t) := by
  refine ⟨fun pins s σ H Q I hq => wpAny_Tuple_spliced (thn (h.run pos pins s σ H _ I hq) fun us s1 hh => ?_)⟩
  obtain ⟨xs, H1, I1, r, z, q⟩ := hh
  refine ⟨by rw [← r.length]; exact z, ?_⟩
  exact laid_T (s := s1) (h' := s1.heap) (t' := s1.toks) I1 r z q
def rTupOf (K : PySem.W.Frag) : List V → Hp → VK → Prop := fun xs H Q => ∃ p ys, xs = [.ref p] ∧ SqL K H p ys ∧ newT ys H Q
theorem call_tupF : CallR X (.type "tuple") (rTupOf X.K) := by
  intro pins s σ H xs us Q I r h
  obtain ⟨p, ys, rfl, hq, q⟩ := h
  obtain ⟨u, rfl, rx⟩ := vals1 r
  cases rx
  obtain ⟨its, r', pl, hz⟩ := I.list hq
  have hlen := r'.length
  refine call_tuple_list pl.isList (fun h' kp => ?_) (by simp only [List.size_toArray] <;> omega)
  exact laid_T (s := s) (t' := s.toks) (I.kept (t' := s.toks) kp) r' hz q
def rCatF : R2 := fun x y H Q => ∃ a b xs ys, x = .ref a ∧ y = .ref b ∧ TupS H a xs ∧ TupS H b ys ∧ xs.length + ys.length ≤ sizeLine ∧
  (xs = [] → Q (.ref b) H) ∧ (xs ≠ [] → ys = [] → Q (.ref a) H) ∧ (xs ≠ [] → ys ≠ [] → newT (xs ++ ys) H Q)
theorem op_catF : OpR X (binaryOp .Add) rCatF := by
  intro pins s σ H x y v u Q I rx ry h
  obtain ⟨a, b, xs, ys, rfl, rfl, ha, hb, hz, q0, q1, q2⟩ := h
  cases rx
  cases ry
  obtain ⟨its, r1, p1, _⟩ := I.tuple ha.sq
  obtain ⟨its2, r2, p2, _⟩ := I.tuple hb.sq
  by_cases hx : xs = []
  · subst hx
    cases r1
    exact cat_tup0 p1 p2 ⟨.ref b, H, I, rfl, q0 rfl⟩
  · refine HT.cat_tup p1 p2 (fun z => hx (r1.nil_iff.mp z)) (fun z => ⟨.ref a, H, I, rfl, q1 hx (r2.nil_iff.mp z)⟩) (fun z => ?_) (by rw [← r1.length, ← r2.length]; exact hz)
    exact laid_T (s := s) (h' := s.heap) (t' := s.toks) I (r1.append r2) (by rw [List.length_append]; exact hz) (q2 hx fun w => z (r2.nil_iff.mpr w))
def rSlF : V → Option Int → Option Int → Hp → VK → Prop := fun x lo hi H Q => ∃ a xs, x = .ref a ∧ TupS H a xs ∧
  (HT.sIx xs.length 0 lo = 0 ∧ HT.sIx xs.length xs.length hi = xs.length → Q (.ref a) H) ∧ (¬ (HT.sIx xs.length 0 lo = 0 ∧ HT.sIx xs.length xs.length hi = xs.length) → newT (cutV xs lo hi) H Q)
theorem sl_tupF : SlR X rSlF := by
  intro pins s σ H x v vl vu lo hi sl Q I rx hs pl pu h
  obtain ⟨a, xs, rfl, hx, q1, q2⟩ := h
  cases rx
  obtain ⟨its, r, ht, hz⟩ := I.tuple hx.sq
  have hlen : its.toArray.size = xs.length := by rw [List.size_toArray]; exact r.length.symm
  refine ⟨"tuple", _, PyProof.Rows.slot_tuple_getitem.lookup, ht.typeIs, ?_⟩
  by_cases hw : HT.sIx xs.length 0 lo = 0 ∧ HT.sIx xs.length xs.length hi = xs.length
  · exact getItem_tuple_whole ht hs pl pu (by rw [hlen]; exact hw) ⟨.ref a, H, I, rfl, q1 hw⟩
  · refine HT.getItem_tuple_cut ht hs pl pu (by rw [hlen]; exact hw) ?_ (by rw [hlen]; exact hz)
    rw [hlen]
    exact laid_T (s := s) (h' := s.heap) (t' := s.toks) I ((r.drop (HT.sIx xs.length 0 lo)).take (HT.sIx xs.length xs.length hi - HT.sIx xs.length 0 lo)) (Nat.le_trans (cutV_length xs lo hi) hz) (q2 hw)
/-- t.index(x), t a tuple of texts -/
def tTix (to : TE) (t : TA) : TE := fun σ H Q => to σ H fun x H1 => ∃ a ys, x = .ref a ∧ TupS H1 a (sv ys) ∧ t σ H1 fun vs H2 => TupS H2 a (sv ys) ∧ ∃ z j, vs = [.str z] ∧ ys[j]? = some z ∧ (∀ m, m < j → ys[m]? ≠ some z) ∧ Q (.int (j : Nat)) H2
theorem pe_tix {o e : Expr} {to : TE} {t : TA} {apos cpos : Pos} (ho : PE X o to) (ha : PA X [e] t)
    (hbase : attributeBase o "index" X.env (eval o X.env) = eval o X.env := by rfl)
    (hfew : ((backTo cpos (starEach [e] X.env)).all (fun x => !x.1) && (backToKw cpos (keywordEach [] X.env)).all (fun x => x.1.isSome)
      && decide ([e].length + ([] : List Keyword).length + (if ([] : List Keyword).isEmpty then 0 else 1) < 30)) = true := by rfl)
    (hline : (apos.endLine == cpos.line) = true := by rfl) (hs : starEach [e] X.env = (false, eval e X.env) :: starEach [] X.env := by rfl) (hplain : (backTo cpos (starEach [] X.env)).any (·.1) = false := by rfl) :
    PE X (.Call (.Attribute o "index" apos) [e] [] cpos) (tTix to t) := by
  refine ⟨fun pins s σ H Q I h => wpAny_Call_method_late hbase hfew hline rfl (thn (ho.run pins s σ H _ I h) fun v s1 hh => ?_)⟩
  obtain ⟨x, H1, I1, r1, a, ys, rfl, ht, q1⟩ := hh
  cases r1
  obtain ⟨ob, hd, hb⟩ := id ht
  obtain ⟨hg, _⟩ := (show ObjOk X.prog X.w H1 s1.heap a (.frz ob (.tup (sv ys))) from I1.hok a _ hb)
  obtain ⟨its, _, pl, _⟩ := I1.tuple ht.sq
  refine ⟨"tuple", "tuple.index", PySem.F.plainAttrs_tuple, PySem.F.slot_tuple_index, PySem.F.type_tuple_index, pl.typeIs, fun b eb => ?_, ?_⟩
  · cases eb
    exact ⟨ob, hg, hd⟩
  · have hA := ha.run cpos pins s1 σ H1 _ I1 q1
    rw [hs] at hA ⊢
    refine Calls.callWith_builtin (by show (false || (backTo cpos (starEach [] X.env)).any (·.1)) = false; rw [hplain] <;> rfl) (Calls.evalArgs_plain (thn hA fun us s2 hh => ?_))
    obtain ⟨vs, H2, I2, r2, ht2, z, j, rfl, hj, hno, q⟩ := hh
    exact mt_tup_index pins s2 σ H2 (.ref a) [.str z] (.ref a) us Q I2 rfl r2 ⟨a, ys, z, j, rfl, rfl, ht2.sq, hj, hno, q⟩
end
/-! ## what an expression stands for -/
section
variable {K : PySem.W.Frag} {σ : L2.St} {H H' : Hp} {ta tb te tl : TE} {v x z : V}
/-- te gives a value that stands for d -/
def EvR (te : TE) (σ : L2.St) (H : Hp) (d : D) : Prop := ∀ H1, Ex H H1 → ∀ Q : VK, (∀ v H2, Ex H1 H2 → Rep H2 v d → Q v H2) → te σ H1 Q
def EvAR (ta : TA) (σ : L2.St) (H : Hp) (ds : List D) : Prop := ∀ H1, Ex H H1 → ∀ Q : List V → Hp → Prop, (∀ vs H2, Ex H1 H2 → Reps H2 vs ds → Q vs H2) → ta σ H1 Q
theorem EvR.mono {d : D} (e : Ex H H') (h : EvR te σ H d) : EvR te σ H' d := fun H1 e1 Q q => h H1 (e.trans e1) Q q
theorem er_of {d : D} (h : Ev te σ H v) (r : Rep H v d) : EvR te σ H d := fun H1 e Q q => h H1 e _ fun H2 e2 => q v H2 e2 (r.up (e.trans e2))
theorem ear_nil : EvAR tNil σ H [] := fun H1 _ _ q => q [] H1 (Ex.refl _) .nil
theorem ear_cons {tr : TA} {d : D} {ds : List D} (h : EvR te σ H d) (hr : EvAR tr σ H ds) : EvAR (tCons te tr) σ H (d :: ds) := fun H1 e Q q =>
  h H1 e _ fun v H2 e2 r => hr H2 (e.trans e2) _ fun vs H3 e3 rs => q (v :: vs) H3 (e2.trans e3) (.cons (r.up e3) rs)
theorem newT_rep {xs : List V} {ds : List D} {Q : VK} (r : Reps H xs ds) (q : ∀ v H2, Ex H H2 → Rep H2 v (.tup ds) → Q v H2) : newT xs H Q := fun p o hp ho =>
  q (.ref p) _ (Ex.new hp) (.tup ⟨o, ho, upd_same⟩ (r.up (Ex.new hp)))
theorem er_tup {ta : TA} {ds : List D} (h : EvAR ta σ H ds) (hz : ds.length ≤ 100000) : EvR (tTupF ta) σ H (.tup ds) := fun H1 e Q q =>
  h H1 e _ fun vs H2 e2 rs => ⟨by rw [rs.length]; exact sz_of hz, newT_rep rs fun v H3 e3 r => q v H3 (e2.trans e3) r⟩
theorem er_if {t : TT} {b : Bool} {d : D} (h : EvT t σ H b) (h1 : b = true → EvR ta σ H d) (h2 : b = false → EvR tb σ H d) : EvR (tIf t ta tb) σ H d := fun H1 e Q q => h H1 e _ fun H2 e2 => by
  cases b with
  | true => exact h1 rfl H2 (e.trans e2) Q fun v H3 e3 r => q v H3 (e2.trans e3) r
  | false => exact h2 rfl H2 (e.trans e2) Q fun v H3 e3 r => q v H3 (e2.trans e3) r
/-- t + u by what they stand for -/
theorem er_cat {ds es : List D} (ha : EvR ta σ H (.tup ds)) (hb : EvR tb σ H (.tup es)) (hz : ds.length + es.length ≤ 100000) : EvR (tOp rCatF ta tb) σ H (.tup (ds ++ es)) := fun H1 e Q q =>
  ha H1 e _ fun v H2 e2 r => hb H2 (e.trans e2) _ fun u H3 e3 r2 => by
    obtain ⟨a, xs, rfl, h1, s1⟩ := (r.up e3).tupD
    obtain ⟨b, ys, rfl, h2, s2⟩ := r2.tupD
    refine ⟨a, b, xs, ys, rfl, rfl, h1, h2, by rw [s1.length, s2.length]; exact sz_of hz, fun e0 => ?_, fun _ e0 => ?_, fun _ _ => newT_rep (s1.append s2) fun v H4 e4 r => q v H4 ((e2.trans e3).trans e4) r⟩
    · subst e0
      cases s1
      exact q _ H3 (e2.trans e3) (.tup h2 s2)
    · subst e0
      cases s2
      rw [List.append_nil] at q
      exact q _ H3 (e2.trans e3) (.tup h1 s1)
end
end Kx

set_option Elab.async false
set_option linter.all false
set_option maxRecDepth 100000
set_option maxHeartbeats 1000000
namespace Kx
open PySem PySem.Spec PyProof.Rows L2 Evl
/-! ## data without lists and dicts stay whatever lists do -/
mutual
def D.imm : D → Bool
  | .tup ds => imms ds
  | .lst _ => false
  | .dic => false
  | _ => true
def imms : List D → Bool
  | [] => true
  | d :: r => d.imm && imms r
end
theorem imms_iff : ∀ {ds : List D}, imms ds = true ↔ ∀ d ∈ ds, d.imm = true
  | [] => ⟨fun _ d h => by simp at h, fun _ => rfl⟩
  | x :: r => by
    unfold imms
    rw [Bool.and_eq_true, imms_iff (ds := r)]
    constructor
    · rintro ⟨a, b⟩ d hd
      rcases List.mem_cons.mp hd with rfl | hd
      · exact a
      · exact b d hd
    · intro h
      exact ⟨h x List.mem_cons_self, fun d hd => h d (List.mem_cons_of_mem _ hd)⟩
def Tp (H H' : Hp) : Prop := ∀ a o xs, H a = some (.frz o (.tup xs)) → H' a = some (.frz o (.tup xs))
theorem TupS.tp {H H' : Hp} {a : Addr} {vs : List V} (h : TupS H a vs) (e : Tp H H') : TupS H' a vs := let ⟨o, h1, h2⟩ := h; ⟨o, h1, e _ _ _ h2⟩
mutual
theorem Rep.monoT {H H' : Hp} (e : Tp H H') : ∀ (d : D) (v : V), d.imm = true → Rep H v d → Rep H' v d
  | _, _, _, .non => .non
  | _, _, _, .bl b => .bl b
  | _, _, _, .int i => .int i
  | _, _, _, .str s => .str s
  | .tup ds, _, h, .tup t r => .tup (t.tp e) (Reps.monoT e ds _ (by unfold D.imm at h; exact h) r)
  | .lst ds, _, h, .lst t r => absurd h (by unfold D.imm; exact Bool.false_ne_true)
  | .dic, _, h, .dic t => absurd h (by unfold D.imm; exact Bool.false_ne_true)
theorem Reps.monoT {H H' : Hp} (e : Tp H H') : ∀ (ds : List D) (vs : List V), imms ds = true → Reps H vs ds → Reps H' vs ds
  | [], _, _, .nil => .nil
  | d :: ds, _, h, .cons r t => by
    unfold imms at h
    rw [Bool.and_eq_true] at h
    exact .cons (Rep.monoT e d _ h.1 r) (Reps.monoT e ds _ h.2 t)
end
theorem Ex.tp {H H' : Hp} (e : Ex H H') : Tp H H' := fun a o xs h => e _ _ h
theorem Tp.trans {H H1 H2 : Hp} (a : Tp H H1) (b : Tp H1 H2) : Tp H H2 := fun c o xs h => b c o xs (a c o xs h)
theorem Tp.lst {H : Hp} {p : Addr} {xs ys : List V} (h : H p = some (.lst xs)) : Tp H (upd H p (.lst ys)) := fun a o zs e => by
  rw [upd_ne (ne_of e h (fun z => by cases z))]
  exact e
theorem imm_itup (t : List Int) : (itup t).imm = true := by
  unfold itup D.imm
  refine imms_iff.mpr fun d hd => ?_
  obtain ⟨i, _, rfl⟩ := List.mem_map.mp hd
  rfl
section
variable {K : PySem.W.Frag} {σ : L2.St} {H H' : Hp} {ta tb te tl : TE} {v x z : V}
/-- te gives a new list of what stands for ds -/
def EvLR (te : TE) (σ : L2.St) (H : Hp) (ds : List D) : Prop := ∀ H1, Ex H H1 → ∀ Q : VK, (∀ p us H2, H1 p = none → Ex H1 H2 → H2 p = some (.lst us) → Reps H2 us ds → Q (.ref p) H2) → te σ H1 Q
theorem wipe_of {σ σ2 : L2.St} {ws : List Nat} (h : σ2 = wipe σ ws) : wipe σ2 ws = wipe (wipe σ ws) ws := by rw [h]
/-- [te for g in a tuple], of what stands for data without lists -/
theorem el_lcTR {g : TG} {ws : List Nat} {a : Addr} {xs : List V} {ds : List D} (h : Ev tl σ H (.ref a)) (hx : SqT K H a xs) (hl : ds.length = xs.length) (hz : xs.length < 100000) (him : imms ds = true)
    (hy : ∀ (j : Nat) (x : V) (d : D), xs[j]? = some x → ds[j]? = some d → ∀ H1, Ex H H1 → ∀ Q' : L2.St → Hp → Prop, (∀ σ2, wipe σ2 ws = wipe σ ws → EvR te σ2 H1 d → Q' σ2 H1) → g x (wipe σ ws) H1 Q') : EvLR (tLc (iTup K tl) g tYes te ws) σ H ds := fun H1 e Q q =>
  h H1 e _ fun H2 e2 => ⟨a, rfl, ⟨xs, ex_t (e.trans e2) hx⟩, fun C hC =>
    lc_tup (xs := xs) (fun j H' => Ex H2 H' ∧ ∃ us, H' C = some (.lst us) ∧ Reps H' us (ds.take j)) ⟨Ex.new hC, [], upd_same, .nil⟩ (fun j H' _ p => ex_t ((e.trans e2).trans p.1) hx)
      (fun j x H' hj p => by
        have hlt : j < ds.length := by have := (List.getElem?_eq_some_iff.mp hj).1; omega
        have gd : ds[j]? = some ds[j] := List.getElem?_eq_getElem hlt
        have hg := hy j x _ hj gd H' ((e.trans e2).trans p.1)
        obtain ⟨p1, us, p2, p3⟩ := p
        refine hg _ fun σ2 w1 w3 => ⟨w1, ?_⟩
        show te σ2 H' _
        refine w3 H' (Ex.refl _) _ fun v H4 e4 r => ⟨us, e4 _ _ p2, ?_, (p1.trans e4).mut hC, us ++ [v], upd_same, ?_⟩
        · have := p3.length
          rw [List.length_take] at this
          exact sz_lt (by omega)
        · rw [List.take_add_one, gd]
          have t : Tp H4 (upd H4 C (.lst (us ++ [v]))) := Tp.lst (e4 _ _ p2)
          have i1 : imms (ds.take j) = true := imms_iff.mpr fun d hd => imms_iff.mp him d (List.mem_of_mem_take hd)
          exact ((p3.up e4).monoT t _ _ i1).append (.cons (r.monoT t _ _ (imms_iff.mp him _ (List.getElem_mem hlt))) .nil))
      (fun H' p => by
        obtain ⟨p1, us, p2, p3⟩ := p
        rw [List.take_of_length_le (by omega)] at p3
        exact q C us H' (fresh_back e2 hC) (e2.trans p1) p2 p3)⟩
end
/-! ## rights -/
def rkey (ns ks : List Str) (d : D) : List Int := match d with
  | .tup [.str k, .str n, .int s] => [(ks.idxOf k : Int), (ns.idxOf n : Int), s]
  | _ => []
def D.rts (ns ks : List Str) (d : D) : Bool := match d with
  | .tup ds => ds.all (D.rt ns ks) && ascT (ds.map (rkey ns ks))
  | _ => false
theorem rts_tup (ns ks : List Str) (ds : List D) : D.rts ns ks (.tup ds) = (ds.all (D.rt ns ks) && ascT (ds.map (rkey ns ks))) := rfl
theorem rt_3 (ns ks : List Str) (k n s : D) : D.rt ns ks (.tup [k, n, s]) = (amD k ks && (amD n ns && isBetw s 0 1)) := rfl
theorem rt_shape {ns ks : List Str} : ∀ {d : D}, d.rt ns ks = true → ∃ k n s, d = .tup [.str k, .str n, .int s] ∧ k ∈ ks ∧ n ∈ ns ∧ 0 ≤ s ∧ s ≤ 1
  | .tup [k, n, s], h => by
    rw [rt_3] at h
    simp only [Bool.and_eq_true] at h
    obtain ⟨h1, h2, h3⟩ := h
    obtain ⟨ek, mk⟩ := am_str h1
    obtain ⟨en, mn⟩ := am_str h2
    cases s with
    | int i =>
      unfold isBetw at h3
      rw [Bool.and_eq_true] at h3
      exact ⟨k.txt, n.txt, i, by rw [← ek, ← en], mk, mn, of_decide_eq_true h3.1, of_decide_eq_true h3.2⟩
    | _ => simp [isBetw] at h3
  | .tup [], h | .tup [_], h | .tup [_, _], h | .tup (_ :: _ :: _ :: _ :: _), h => by simp [D.rt] at h
  | .non, h | .bl _, h | .str _, h | .int _, h | .lst _, h | .dic, h => by simp [D.rt] at h
theorem idx_at {xs : List Str} {x : Str} (h : x ∈ xs) : xs[xs.idxOf x]? = some x ∧ ∀ m, m < xs.idxOf x → xs[m]? ≠ some x := by
  constructor
  · rw [List.getElem?_eq_getElem (List.idxOf_lt_length_of_mem h)]
    exact congrArg some (List.getElem_idxOf _)
  · intro m hm e
    obtain ⟨hl, e2⟩ := List.getElem?_eq_some_iff.mp e
    have h3 := List.not_of_lt_findIdx (p := (· == x)) hm
    exact absurd (beq_iff_eq.mpr e2) (by first | exact h3 | (rw [h3]; exact Bool.false_ne_true))
theorem s_asgLX {σ : L2.St} {H : Hp} {te : TE} {D : Ends} {u : TS} {i : Nat} {xs : List V} (h : EvL te σ H xs) (k : ∀ p H1, H p = none → Ex H H1 → H1 p = some (.lst xs) → u D (σ.set i (some (.ref p))) H1) : tSeq (tAsg te (gName i)) u D σ H := s_asgL h k
theorem ev_spLR {σ : L2.St} {H : Hp} {tb : TE} {z : V} {ok : OkF} {ds : List D} {E : XK} (hb : EvLR tb σ H ds) (k : ∀ p us H1, H1 p = some (.lst us) → Reps H1 us ds → Ex H H1 → ok [.ref p] H1 z) : Ev (tCall (spX ok) [] E (tCons tb tNil)) σ H z :=
  fun H1 e Q q => hb H1 e _ fun p us H3 _ e3 hp hr => ⟨z, k p us H3 hp hr (e.trans e3), fun H4 e4 => q H4 (e3.trans e4)⟩
theorem ev_tix {K : PySem.W.Frag} {σ : L2.St} {H : Hp} {ta te : TE} {a : Addr} {ys : List Str} {x : Str} (h : Ev ta σ H (.ref a)) (ha : TupS H a (sv ys)) (hx : Ev te σ H (.str x)) (hm : x ∈ ys) : Ev (tTix ta (tCons te tNil)) σ H (.int (ys.idxOf x : Nat)) := fun H1 e Q q =>
  h H1 e _ fun H2 e2 => ⟨a, ys, rfl, ha.up (e.trans e2), hx H2 (e.trans e2) _ fun H3 e3 => ⟨ha.up ((e.trans e2).trans e3), x, _, rfl, (idx_at hm).1, (idx_at hm).2, q H3 (e2.trans e3)⟩⟩
theorem ev_lix {K : PySem.W.Frag} {σ : L2.St} {H : Hp} {ta te : TE} {a : Addr} {ys : List Str} {x : Str} (h : Ev ta σ H (.ref a)) (ha : H a = some (.lst (sv ys))) (hx : Ev te σ H (.str x)) (hm : x ∈ ys) : Ev (tBM K "list" (rIndex K) ta (tCons te tNil)) σ H (.int (ys.idxOf x : Nat)) := fun H1 e Q q =>
  h H1 e _ fun H2 e2 => ⟨.inl ⟨rfl, _, .of ((e.trans e2) _ _ ha)⟩, hx H2 (e.trans e2) _ fun H3 e3 => ⟨a, sv ys, .str x, ys.idxOf x, .str x, rfl, rfl, .of (((e.trans e2).trans e3) _ _ ha), rfl, flat_sv ys,
    by unfold sv; rw [List.getElem?_map, (idx_at hm).1]; rfl, beq_self_eq_true x, fun m z hl hz => by
      unfold sv at hz
      rw [List.getElem?_map] at hz
      cases e4 : ys[m]? with
      | none => rw [e4] at hz; cases hz
      | some y =>
        rw [e4] at hz
        have ez : z = .str y := (Option.some.inj hz).symm
        subst ez
        show (y == x) = false
        refine beq_eq_false_iff_ne.mpr fun e5 => ?_
        subst e5
        exact (idx_at hm).2 m hl e4, q H3 (e2.trans e3)⟩⟩
def okRights : OkF := fun vs H z => ∃ v d b ds ns c ks, vs = [v, .ref b, .ref c] ∧ Rep H v d ∧ d.Sz ∧ Rep H (.ref b) (.tup ds) ∧ ds.length ≤ 1000 ∧ ds.map D.fst = ns.map D.str ∧ (∀ x ∈ ds, ∃ y r, x = .tup (y :: r)) ∧ TupS H c (sv ks) ∧ z = .bl (d.rts ns ks)
theorem stb_rights : Stb okRights := fun _ _ _ _ e ⟨v, d, b, ds, ns, c, ks, h1, h2, h3, h4, h5, h6, h7, h8, h9⟩ => ⟨v, d, b, ds, ns, c, ks, h1, h2.up e, h3, h4.up e, h5, h6, h7, h8.up e, h9⟩
section
variable {P : Program} {w : World} {K : PySem.W.Frag} {mg : Str → Option Value} {base : Heap} (T : Txt K mg)
end
end Kx

set_option Elab.async false
set_option linter.all false
set_option maxRecDepth 100000
set_option maxHeartbeats 1000000
namespace Kx
open PySem PySem.Spec PyProof.Rows L2 Evl
def cutX {α : Type} (xs : List α) (lo hi : Option Int) : List α := (xs.drop (HT.sIx xs.length 0 lo)).take (HT.sIx xs.length xs.length hi - HT.sIx xs.length 0 lo)
theorem Reps.cut {H : Hp} {vs : List V} {ds : List D} (r : Reps H vs ds) (lo hi : Option Int) : Reps H (cutV vs lo hi) (cutX ds lo hi) := by
  unfold cutV cutX
  rw [r.length]
  exact (r.drop _).take _
section
variable {K : PySem.W.Frag} {σ : L2.St} {H H' : Hp} {ta tb te tl : TE} {v x z : V}
theorem er_slice {tlo thi : TO} {ds : List D} {lo hi : Option Int} (h : EvR te σ H (.tup ds)) (h1 : EvO tlo σ H lo) (h2 : EvO thi σ H hi) : EvR (tSl rSlF te tlo thi) σ H (.tup (cutX ds lo hi)) := fun H1 e Q q =>
  h H1 e _ fun v H2 e2 r => h1 H2 (e.trans e2) _ fun H3 e3 => h2 H3 ((e.trans e2).trans e3) _ fun H4 e4 => by
    obtain ⟨a, vs, rfl, ha, hs⟩ := (r.up (e3.trans e4)).tupD
    have E := (e2.trans e3).trans e4
    refine ⟨a, vs, rfl, ha, fun hw => ?_, fun _ => newT_rep (hs.cut lo hi) fun v H5 e5 r5 => q v H5 (E.trans e5) r5⟩
    have ew : cutX ds lo hi = ds := by
      unfold cutX
      rw [← hs.length, hw.1, hw.2, List.drop_zero, Nat.sub_zero, hs.length, List.take_length]
    rw [ew] at q
    exact q _ H4 E (.tup ha hs)
theorem s_unp {D0 : Ends} {gs : TGs} {u : TS} {n : Nat} {ds : List D} (h : EvR te σ H (.tup ds)) (hn : ds.length = n) (k : ∀ vs H1, Ex H H1 → Reps H1 vs ds → gs vs σ H1 (fun σ2 H2 => u D0 σ2 H2)) : tSeq (tAsg te (gTup K n gs)) u D0 σ H :=
  h H (Ex.refl H) _ fun v H1 e r => by
    obtain ⟨a, vs, rfl, ha, hs⟩ := r.tupD
    exact ⟨a, vs, rfl, ha.sq, by rw [hs.length, hn], k vs H1 e hs⟩
end
theorem cut1 {α : Type} (xs : List α) : cutX xs (some 1) none = xs.drop 1 := by
  unfold cutX
  rw [show HT.sIx xs.length 0 (some 1) = min 1 xs.length from HT.sIx_nat xs.length 0 1, HT.sIx_none]
  cases xs with
  | nil => rfl
  | cons x r =>
    rw [show min 1 (x :: r).length = 1 by rw [List.length_cons]; omega]
    show List.take ((x :: r).length - 1) r = r
    rw [List.length_cons, Nat.add_sub_cancel]
    exact List.take_length
def D.txts : D → List Str
  | .tup ds => ds.map D.txt
  | _ => []
def D.fsts : D → List Str
  | .tup ds => ds.map fun x => x.fst.txt
  | _ => []
def D.bld : D → Bool
  | .tup [t, a, ds, ks, rs] => t.isS "building" && ((a.nms 2 6 && ds.drs a.txts) && (ks.nms 1 3 && rs.rts ds.fsts ks.txts))
  | _ => false
theorem bld_5 (t a ds ks rs : D) : D.bld (.tup [t, a, ds, ks, rs]) = (t.isS "building" && ((a.nms 2 6 && ds.drs a.txts) && (ks.nms 1 3 && rs.rts ds.fsts ks.txts))) := rfl
theorem nms_shape {d : D} {lo hi : Int} (h : d.nms lo hi = true) : d = .tup (d.txts.map D.str) ∧ lo ≤ (d.txts.length : Int) ∧ (d.txts.length : Int) ≤ hi ∧ d.txts.Nodup ∧ ∀ s ∈ d.txts, nmS s = true := by
  cases d with
  | tup ds =>
    rw [nms_tup] at h
    simp only [Bool.and_eq_true] at h
    obtain ⟨h1, h2, h3⟩ := h
    unfold isTup at h1
    rw [Bool.and_eq_true] at h1
    have e : ds = (ds.map D.txt).map D.str := all_nm h2
    refine ⟨congrArg D.tup e, ?_, ?_, of_decide_eq_true h3, fun s hs => ?_⟩
    · show lo ≤ ((ds.map D.txt).length : Int)
      rw [List.length_map]
      exact of_decide_eq_true h1.1
    · show ((ds.map D.txt).length : Int) ≤ hi
      rw [List.length_map]
      exact of_decide_eq_true h1.2
    · obtain ⟨d, hd, rfl⟩ := List.mem_map.mp hs
      have h4 := List.all_eq_true.mp h2 d hd
      rw [nm_str h4] at h4
      exact h4
  | _ => cases h
theorem Rep.txs {H : Hp} {v : V} {ss : List Str} (r : Rep H v (.tup (ss.map D.str))) : ∃ a, v = .ref a ∧ TupS H a (sv ss) := by
  obtain ⟨a, vs, h1, h2, h3⟩ := r.tupD
  rw [strs_of_reps h3] at h2
  exact ⟨a, h1, h2⟩
theorem drs_shape {as : List Str} {d : D} (h : d.drs as = true) : ∃ ds, d = .tup ds ∧ 1 ≤ ds.length ∧ ds.length ≤ 6 ∧ ds.all (D.dr as) = true ∧ d.fsts.Nodup := by
  cases d with
  | tup ds =>
    rw [drs_tup] at h
    simp only [Bool.and_eq_true] at h
    obtain ⟨h1, h2, h3⟩ := h
    unfold isTup at h1
    rw [Bool.and_eq_true] at h1
    have a1 := of_decide_eq_true h1.1
    have a2 := of_decide_eq_true h1.2
    exact ⟨ds, rfl, by omega, by omega, h2, of_decide_eq_true h3⟩
  | _ => cases h
theorem Rep.size {d0 d1 d2 d3 d4 : D} (h : (D.tup [d0, d1, d2, d3, d4]).Sz) : d0.Sz ∧ d1.Sz ∧ d2.Sz ∧ d3.Sz ∧ d4.Sz :=
  ⟨h.tup.2.get (j := 0) rfl, h.tup.2.get (j := 1) rfl, h.tup.2.get (j := 2) rfl, h.tup.2.get (j := 3) rfl, h.tup.2.get (j := 4) rfl⟩
def okBld : OkF := fun vs H z => ∃ v d, vs = [v] ∧ Rep H v d ∧ d.Sz ∧ z = .bl d.bld
theorem stb_bld : Stb okBld := fun _ _ _ _ e ⟨v, d, h1, h2, h3⟩ => ⟨v, d, h1, h2.up e, h3⟩
section
variable {P : Program} {w : World} {K : PySem.W.Frag} {mg : Str → Option Value} {base : Heap} (T : Txt K mg)
end
end Kx

set_option Elab.async false
set_option linter.all false
set_option maxRecDepth 100000
set_option maxHeartbeats 1000000
namespace Kx
open PySem PySem.Spec PyProof.Rows L2 Evl
/-! ## an exception that is kept -/
/-- at a stands an exception object of the class cls -/
def ExR (cls : Value) (a : Addr) : HO := .ext fun h => ∃ (oe : Obj) (vs : Array Value), h.get? a = some oe ∧ Zc cls none oe ∧ oe.data = .fields vs
section
variable {X : Cx} {pins : List (Addr × Obj)} {σ : L2.St} {H : Hp} {s : Shared}
/-- what was pinned is tracked from now on -/
theorem track {cls : Value} {a : Addr} {oe : Obj} {vs : Array Value} (I : Inv X pins σ H s) (hg : s.heap.get? a = some oe) (hz : Zc cls none oe) (hd : oe.data = .fields vs) (hn : H a = none) (n0 : X.s_0.heap.get? a = none)
    (nL : a ≠ X.env.locals) (np : ∀ p ∈ X.pn ++ pins, p.1 ≠ a) : Inv X pins σ (upd H a (ExR cls a)) s := by
  have old : ∀ b o, X.s_0.heap.get? b = some o → b ≠ a := fun b o e q => by rw [q, n0] at e; cases e
  have ne : ∀ b u, H b = some u → b ≠ a := fun b u e q => by rw [q, hn] at e; cases e
  have at_ : ∀ b u, H b = some u → upd H a (ExR cls a) b = some u := fun b u e => (upd_ne (ne b u e)).trans e
  refine ⟨I.ok, I.os, I.bare, ⟨I.base.keep, I.base.slot, ?_, I.base.there, ?_, ?_, ?_⟩, I.loc, I.cell, (upd_ne nL.symm).trans I.free, ?_, ?_, ?_, I.len⟩
  · intro b o e n hx
    exact (upd_ne (old b o e)).trans (I.base.free b o e n hx)
  · intro b xs e
    exact at_ _ _ (I.base.tups b xs e)
  · intro b o u e
    exact at_ _ _ (I.base.frzs b o u e)
  · intro b ps e
    obtain ⟨m, q⟩ := I.base.tbls b ps e
    exact ⟨m, at_ _ _ q⟩
  · intro x c e
    refine (upd_ne fun q => ?_).trans (I.freeC x c e)
    obtain ⟨w, o, ho, hc⟩ := I.cell x c e
    rw [q, hg] at ho
    cases ho
    rw [hd] at hc
    cases hc
  · intro p hp
    obtain ⟨h1, h2, h3⟩ := I.pin p hp
    exact ⟨h1, (upd_ne (np p hp)).trans h2, h3⟩
  · intro b u e
    by_cases hb : b = a
    · subst hb
      rw [upd_same] at e
      cases e
      exact ⟨⟨oe, vs, hg, hz, hd⟩, ⟨oe, hg⟩, fun h1 h2 k st => let ⟨o, w, k1, k2, k3⟩ := k; ⟨o, w, st o k1, k2, k3⟩⟩
    · rw [upd_ne hb] at e
      exact (I.hok b u e).stay (fun _ _ _ q => q) (fun _ q => at_ _ _ q) fun _ _ q => at_ _ _ q
end
/-- the wish of «except c as n» whose suite keeps what it got -/
def wKeep (K : PySem.W.Frag) (c : Value) (i n : Nat) (ts : Addr → TS) (D : Ends) : WX := fun cls d σ H => PySem.W.exmOne K cls c = some true ∧ d = none ∧
  ∀ a, H a = none → σ.length = n → ts a { nx := fun σ' H' => H' a = none → D.nx (σ'.set i none) (upd H' a (ExR cls a)), rt := fun _ _ => False } (σ.set i (some (.ref a))) H
section
variable {X : Cx} {x n : Str} {c : Value} {i : Nat} {body suite : List Stmt} {b₀ : Stmt} {np pos pos' : Pos} {tb : WX → TS} {ts : Addr → TS}
/-- a stands apart from what was there at the entry, from the frames and from what is pinned -/
structure Off (X : Cx) (pins : List (Addr × Obj)) (a : Addr) : Prop where
  loc : a ≠ X.env.locals
  out : a ∉ X.fs
  new : X.s_0.heap.get? a = none
  pin : ∀ p ∈ X.pn ++ pins, p.1 ≠ a
/-- an object with fields that the heap B, in which the body began to fall, did not have -/
theorem Off.of {pins : List (Addr × Obj)} {σ : L2.St} {H : Hp} {s : Shared} {a : Addr} {B h : Heap} {o : Obj} {vs : Array Value} (J : Inv X pins σ H s) (st : X.stack = X.env :: X.outer) (fr : X.env.frame = some X.env.locals) (ex : X.ex = [])
    (ff : h.FunFrames B (X.env :: X.outer)) (at_a : h.get? a = some o) (da : o.data = .fields vs) (gone : B.get? a = none) (kept : ∀ b u, s.heap.get? b = some u → b ∉ frs X.stack → B.get? b = some u) : Off X pins a := by
  have far : a ∉ frs (X.env :: X.outer) := fun m => match ff.mem m with
    | ⟨_, u, eu, no⟩ => no vs (by rw [at_a] at eu; cases eu; exact da)
  have none_s : s.heap.get? a = none := Option.eq_none_iff_forall_ne_some.mpr fun u eu => by
    have := kept a u eu (st ▸ far)
    rw [gone] at this
    cases this
  exact {
    loc := fun z => far (List.mem_filterMap.mpr ⟨X.env, List.mem_cons_self, fr.trans (congrArg some z.symm)⟩)
    out := fun m => far (match List.mem_filterMap.mp m with | ⟨e, he, q⟩ => List.mem_filterMap.mpr ⟨e, List.mem_cons_of_mem _ he, q⟩)
    new := Option.eq_none_iff_forall_ne_some.mpr fun u eu => match J.base.there a u eu (by rw [ex]; exact fun z => nomatch z) with
      | ⟨u', q⟩ => by rw [none_s] at q; cases q
    pin := fun p hp z => by
      have := (J.pin p hp).1
      rw [z, none_s] at this
      cases this }
/-- the suite is through: its name goes, its object is tracked from here on -/
theorem suite_kept {pins : List (Addr × Obj)} {D : Ends} {a : Addr} {oe : Obj} {vs : Array Value} {f : Flow} {s : Shared} (off : Off X pins a) (ok : X.Ok) (z : Zc c none oe) (d : oe.data = .fields vs) (hN : X.N.Nodup) (hi : X.N[i]? = some n) (hln : X.env.kindOf n = some .local)
    (h : SP (X.suite a ((a, oe) :: (X.pn ++ pins))) [] { nx := fun σ' H' => H' a = none → D.nx (σ'.set i none) (upd H' a (ExR c a)), rt := fun _ _ => False } f s) :
    match f with
    | .next => wpAny (model X.prog X.w) X.A (do bindName X.env n .none; unbindBehindTheSuite X.env n pos) (fun _ s' => SP X pins D .next s') X.xe s
    | _ => False := by
  cases f with
  | next =>
    obtain ⟨σ1, H1, I1, q1⟩ := h
    have hp := I1.pin (a, oe) (List.mem_append_left _ List.mem_cons_self)
    exact gone_ok (track (I1.unsuite ok) hp.1 z d hp.2.1 off.new off.loc off.pin) hN hi hln fun s2 I2 => ⟨_, _, I2, q1 hp.2.1⟩
  | ret u => exact match h with | ⟨_, _, _, _, _, q⟩ => q
  | brk => exact match h with | ⟨_, _, _, q⟩ => q
  | cont => exact match h with | ⟨_, _, _, q⟩ => q
theorem ps_try_keep (hs : X.stack = X.env :: X.outer) (hf : X.env.frame = some X.env.locals) (hex : X.ex = []) (hN : X.N.Nodup) (hi : X.N[i]? = some n) (hln : X.env.kindOf n = some .local) (hc : Names X x c)
    (hb : ∀ (W : WX) (pn : List (Addr × Obj)) (xe : Value → Shared → Prop), Takes (X.tr pn xe) W → PSs (X.tr pn xe) body (tb W))
    (hsu : ∀ (a : Addr) (oe : Obj) (pn : List (Addr × Obj)), PSs (X.suite a ((a, oe) :: pn)) (b₀ :: suite) (ts a)) :
    PS X (.Try body [.ExceptHandler (some (.Name x np)) (some n) (b₀ :: suite) pos'] [] [] pos) (fun D σ H => tb (wKeep X.K c i X.N.length ts D) D σ H) := by
  refine ⟨fun pins s σ H D I h => ?_⟩
  have frames : X.A.frames = some (X.env :: X.outer) := hs ▸ I.ok.frames
  refine wpAny_Try_except (wpAny_mono ((hb (wKeep X.K c i X.N.length ts D) (X.pn ++ pins) _ fun u t fall => ?_).run [] s σ H D (I.toTry _) h) (fun f t ft => ?_) fun _ _ x => x)
  · obtain ⟨a, B, t0, p1, τ, G, cls, d, rfl, J0, kept, slots, sky, na, os, bare, found, rfl, go⟩ := fall
    have J := J0.ofTry (X := X) I.ok
    show wpAny (model X.prog X.w) X.A (noteFrame (.ref a) X.env) _ _ _
    refine Sky.land (B := B) Zc.steady frames hf (hs ▸ sky) fun h1 fly up1 => ?_
    obtain ⟨o1, v1, at1, z1, d1⟩ := fly.there
    have off : Off X pins a := Off.of J hs hf hex fly.2.2.1 at1 d1 fly.2.1 kept
    have J1 : Inv X pins τ G { t with heap := h1 } := J.landed kept fly.1 (slots.trans up1) os bare
    have I1 := J1.suite at1 d1 na off.loc off.out
    refine wpAny_handleBy_cons (codeAny_handlers_test ?_) fun z => nomatch z
    have hit := PySem.W.exm_one (M := model X.prog X.w) J1.kIn (fun A Q E u k q => wpAny_typeOf_ref (k _ _ at1) (z1.1.symm ▸ q)) found
    have look : ∀ {Q E : Value → Shared → Prop}, Q c { t with heap := h1 } → wpAny (model X.prog X.w) (X.A.mark (some (.ref a))) (eval (.Name x np) X.env) Q E { t with heap := h1 } := fun {Q E} q => match hc with
      | ⟨g, nd, .inl m⟩ => ld_glob (X := X.suite a ((a, o1) :: (X.pn ++ pins))) I1 g m q nd
      | ⟨g, nd, .inr ⟨m, bt, nn⟩⟩ => ld_blt (X := X.suite a ((a, o1) :: (X.pn ++ pins))) I1 g m bt q nn nd
    refine look (hit.here (codeAny_handlers_suite_as (HandSPX.lands_againZ fly fun h2 fly2 up2 => ?_)))
    obtain ⟨o2, v2, at2, z2, d2⟩ := fly2.there
    have I2 := (J.landed (s' := { t with heap := h2 }) kept fly2.1 ((slots.trans up1).trans up2) os bare).suite at2 d2 na off.loc off.out
    refine store_ok (X := X.suite a ((a, o2) :: (X.pn ++ pins))) (v := .ref a) I2 hN hi (.inl hln) rfl (fun t3 I3 => ?_) (.inr hln)
    refine wpAny_mono ((hsu a o2 (X.pn ++ pins)).run [] t3 _ G _ I3 (go a na J.len)) (fun f t4 e4 => ?_) fun _ _ z => z.elim
    have e5 := fun p => suite_kept (c := cls) (pos := p) off I.ok z2 d2 hN hi hln e4
    cases f with
    | next => exact e5 _
    | _ => exact (e5 pos).elim
  · cases f with
    | next => exact match ft with | ⟨_, _, J, q⟩ => wpAny_execs_nil ⟨_, _, J.ofTry I.ok, q⟩
    | ret u => exact match ft with | ⟨_, _, _, J, r, q⟩ => ⟨_, _, _, J.ofTry I.ok, r, q⟩
    | _ => exact match ft with | ⟨_, _, J, q⟩ => ⟨_, _, J.ofTry I.ok, q⟩
end
end Kx

set_option Elab.async false
set_option linter.all false
set_option maxRecDepth 100000
set_option maxHeartbeats 1000000
namespace Kx
open PySem PySem.Spec PyProof.Rows L2 Evl
/-! ## what a building is -/
structure IsB (d : D) (as : List Str) (es : List D) (ks : List Str) (rs : List D) : Prop where
  eq : d = .tup [.str "building", .tup (as.map D.str), .tup es, .tup (ks.map D.str), .tup rs]
  a2 : 2 ≤ as.length
  a6 : as.length ≤ 6
  an : as.Nodup
  av : ∀ s ∈ as, nmS s = true
  e1 : 1 ≤ es.length
  e6 : es.length ≤ 6
  ed : ∀ x ∈ es, D.dr as x = true
  en : (es.map fun x => x.fst.txt).Nodup
  k1 : 1 ≤ ks.length
  k3 : ks.length ≤ 3
  kn : ks.Nodup
  kv : ∀ s ∈ ks, nmS s = true
  rd : rs.all (D.rt (es.map fun x => x.fst.txt) ks) = true
  ra : ascT (rs.map (rkey (es.map fun x => x.fst.txt) ks)) = true
theorem isS_eq {d : D} {t : Str} (h : d.isS t = true) : d = .str t := by
  cases d with
  | str s => exact congrArg D.str (eq_of_beq h)
  | _ => cases h
theorem bld_is {d : D} (h : d.bld = true) : ∃ as es ks rs, IsB d as es ks rs := by
  cases d with
  | tup ds =>
    match ds, h with
    | [t, a, dd, k, r], h =>
      rw [bld_5] at h
      simp only [Bool.and_eq_true] at h
      obtain ⟨h1, ⟨h2, h3⟩, h4, h5⟩ := h
      have n1 := nms_shape h2
      have n2 := nms_shape h4
      obtain ⟨es, rfl, e1, e6, ed, en⟩ := drs_shape h3
      cases r with
      | tup rs =>
        rw [rts_tup, Bool.and_eq_true] at h5
        refine ⟨a.txts, es, k.txts, rs, ?_, by omega, by omega, n1.2.2.2.1, n1.2.2.2.2, e1, e6, fun x hx => List.all_eq_true.mp ed x hx, en, by omega, by omega, n2.2.2.2.1, n2.2.2.2.2, h5.1, h5.2⟩
        rw [← n1.1, ← n2.1, isS_eq h1]
      | _ => cases h5
    | [], h | [_], h | [_, _], h | [_, _, _], h | [_, _, _, _], h | _ :: _ :: _ :: _ :: _ :: _ :: _, h => cases h
  | _ => cases h
def D.dn : D → List Str
  | .tup [_, _, .tup es, _, _] => es.map fun x => x.fst.txt
  | _ => []
def D.item (d : D) (j : Nat) : D := match d with
  | .tup ds => ds.getD j .non
  | _ => .non
def D.areaAt (d : D) (n : Str) (s : Int) : Str := (((d.item 2).item (d.dn.idxOf n)).item (1 + s).toNat).txt
def D.areas (d : D) : List Str := (d.item 1).txts
theorem IsB.dn {d : D} {as : List Str} {es : List D} {ks : List Str} {rs : List D} (h : IsB d as es ks rs) : d.dn = es.map fun x => x.fst.txt := by rw [h.eq]; rfl
theorem IsB.areas {d : D} {as : List Str} {es : List D} {ks : List Str} {rs : List D} (h : IsB d as es ks rs) : d.areas = as := by
  rw [h.eq]
  show (as.map D.str).map D.txt = as
  rw [List.map_map]
  exact (List.map_congr_left fun _ _ => rfl).trans (List.map_id as)
/-! ## defs that may raise -/
inductive Out where
  | ret (z : V)
  | exc (C : Addr)
abbrev OkO := List V → Hp → Out → Prop
def outOk (o : Out) (H : Hp) (Q : VK) (E : XK) : Prop := match o with
  | .ret z => Q z H
  | .exc C => E (.ref C) none H
def spO (ok : OkO) : Sp := fun vs H Q E => ∃ o, ok vs H o ∧ ∀ H', Ex H H' → outOk o H' Q E
section
variable {K : PySem.W.Frag} {σ : L2.St} {H H' : Hp} {ta tb te tl : TE} {v x z : V}
def EvP (te : TE) (σ : L2.St) (H : Hp) (xs : List V) : Prop := ∀ H1, Ex H H1 → ∀ Q : VK, (∀ p H2, Ex H1 H2 → TupS H2 p xs → Q (.ref p) H2) → te σ H1 Q
theorem ep_tupOf {xs : List V} (h : EvL te σ H xs) : EvP (tCB (rTupOf K) (tCons te tNil)) σ H xs := fun H1 e Q q =>
  h H1 e _ fun p H2 _ e2 hp => ⟨p, xs, rfl, .of hp, fun r o hr ho => q r _ (e2.trans (Ex.new hr)) ⟨o, ho, upd_same⟩⟩
theorem ev_tixP {ys : List Str} {y : Str} (h : EvP ta σ H (sv ys)) (hx : Ev te σ H (.str y)) (hm : y ∈ ys) : Ev (tTix ta (tCons te tNil)) σ H (.int (ys.idxOf y : Nat)) := fun H1 e Q q =>
  h H1 e _ fun p H2 e2 hp => ⟨p, ys, rfl, hp, hx H2 (e.trans e2) _ fun H3 e3 => ⟨hp.up e3, y, _, rfl, (idx_at hm).1, (idx_at hm).2, q H3 (e2.trans e3)⟩⟩
theorem ev_ixTi {a : Addr} {vs : List V} {j : Nat} {k : Int} (h : Ev ta σ H (.ref a)) (hk : Ev tb σ H (.int k)) (ha : TupS H a vs) (e : k = (j : Int)) (hj : vs[j]? = some v) : Ev (tOp (rIxT K) ta tb) σ H v :=
  ev_op h hk (rv_ixT ha.sq (by rw [e]; exact atI_nat hj))
end
def spDN : Sp := fun vs H Q _ => ∃ v d, vs = [v] ∧ Rep H v d ∧ d.bld = true ∧ ∀ p H', Ex H H' → TupS H' p (sv d.dn) → Q (.ref p) H'
def okSide : OkF := fun vs H z => ∃ v d n s, vs = [v, .str n, .int s] ∧ Rep H v d ∧ d.bld = true ∧ n ∈ d.dn ∧ (s = 0 ∨ s = 1) ∧ z = .str (d.areaAt n s)
theorem stb_side : Stb okSide := fun _ _ _ _ e ⟨v, d, n, s, h1, h2, h3⟩ => ⟨v, d, n, s, h1, h2.up e, h3⟩
section
variable {P : Program} {w : World} {K : PySem.W.Frag} {mg : Str → Option Value} {base : Heap} (T : Txt K mg)
/-- the third part of a building, its doors -/
theorem door_at {d : D} {as : List Str} {es : List D} {ks : List Str} {rs : List D} {H : Hp} {v : V} (B : IsB d as es ks rs) (hv : Rep H v d) :
    ∃ a vs b ws, v = .ref a ∧ TupS H a vs ∧ vs[2]? = some (.ref b) ∧ TupS H b ws ∧ Reps H ws es := by
  rw [B.eq] at hv
  obtain ⟨a, vs, rfl, ha, hs⟩ := hv.tupD
  cases hs with
  | cons r0 hs => cases hs with
    | cons r1 hs => cases hs with
      | cons r2 hs =>
        obtain ⟨b, ws, rfl, hb, hbs⟩ := r2.tupD
        exact ⟨a, _, b, ws, rfl, ha, rfl, hb, hbs⟩
theorem ep_dn {σ : L2.St} {H : Hp} {ta : TE} {v : V} {d : D} {E : XK} (h : Ev ta σ H v) (r : Rep H v d) (hb : d.bld = true) : EvP (tCall spDN [] E (tCons ta tNil)) σ H (sv d.dn) := fun H1 e Q q =>
  h H1 e _ fun H2 e2 => ⟨v, d, rfl, r.up (e.trans e2), hb, fun p H3 e3 hp => q p H3 (e2.trans e3) hp⟩
/-! ## the errors -/
def okCB (C : Addr) : OkO := fun vs H o => ∃ v d, vs = [v] ∧ Rep H v d ∧ d.Sz ∧ o = if d.bld = true then .ret .non else .exc C
def okCD (C : Addr) : OkO := fun vs H o => ∃ v d x e, vs = [v, x] ∧ Rep H v d ∧ d.bld = true ∧ Rep H x e ∧ o = if amD e d.dn = true then .ret .non else .exc C
end
end Kx

set_option Elab.async false
set_option linter.all false
set_option maxRecDepth 100000
set_option maxHeartbeats 1000000
namespace Kx
open PySem PySem.Spec PyProof.Rows L2 Evl
section
variable {K : PySem.W.Frag} {σ : L2.St} {H H' : Hp} {ta tb te tl : TE} {v x z : V}
theorem ev_spP {ok : OkF} {xs : List V} {E : XK} (ha : Ev ta σ H x) (hb : EvP tb σ H xs) (k : ∀ p H1, TupS H1 p xs → Ex H H1 → ok [x, .ref p] H1 z) : Ev (tCall (spX ok) [] E (tCons ta (tCons tb tNil))) σ H z :=
  fun H1 e Q q => ha H1 e _ fun H2 e2 => hb H2 (e.trans e2) _ fun p H3 e3 hp => ⟨z, k p H3 hp ((e.trans e2).trans e3), fun H4 e4 => q H4 ((e2.trans e3).trans e4)⟩
/-- a call as a statement of a def that may raise -/
theorem s_callO {ok : OkO} {o : Out} {D : Ends} {E : XK} {u : TS} {ta : TA} {vs : List V} (h : EvA ta σ H vs) (hk : ∀ H1, Ex H H1 → ok vs H1 o) (k : ∀ H2, Ex H H2 → outOk o H2 (fun _ H' => u D σ H') E) : tSeq (tDrop (tCall (spO ok) [] E ta)) u D σ H :=
  h H (Ex.refl H) _ fun H1 e => by
    rw [List.append_nil]
    exact ⟨o, hk H1 e, fun H2 e2 => k H2 (e.trans e2)⟩
end
def okAt (cB cD cS : Addr) : OkO := fun vs H o => ∃ v d x e y f, vs = [v, x, y] ∧ Rep H v d ∧ d.Sz ∧ Rep H x e ∧ Rep H y f ∧
  o = if d.bld = true then (if amD e d.dn = true then (match f with | .int s => (if isBetw (.int s) 0 1 = true then .ret (.str (d.areaAt e.txt s)) else .exc cS) | _ => .exc cS) else .exc cD) else .exc cB
def okCS (C : Addr) : OkO := fun vs H o => ∃ y f, vs = [y] ∧ Rep H y f ∧ o = if isBetw f 0 1 = true then .ret .non else .exc C
section
variable {P : Program} {w : World} {K : PySem.W.Frag} {mg : Str → Option Value} {base : Heap} (T : Txt K mg)
end
end Kx

set_option Elab.async false
set_option linter.all false
set_option maxRecDepth 100000
set_option maxHeartbeats 1000000
namespace Kx
open PySem PySem.Spec PyProof.Rows L2 Evl
section
variable {K : PySem.W.Frag} {σ : L2.St} {H H' : Hp} {ta tb te tl : TE} {v x z : V}
/-- [x for x in a tuple if t] -/
theorem el_lcTif {i : Nat} {tt : TT} {a : Addr} {xs : List V} {p : V → Bool} (h : Ev tl σ H (.ref a)) (hx : SqT K H a xs) (hz : xs.length < 100000)
    (ht : ∀ (j : Nat) (x : V), xs[j]? = some x → EvT tt ((σ.set i none).set i (some x)) H (p x)) (he : ∀ (j : Nat) (x : V), xs[j]? = some x → Ev te ((σ.set i none).set i (some x)) H x) : EvL (tLc (iTup K tl) (gName i) tt te [i]) σ H (xs.filter p) := fun H1 e Q q =>
  h H1 e _ fun H2 e2 => ⟨a, rfl, ⟨xs, ex_t (e.trans e2) hx⟩, fun D hD =>
    lc_tup (xs := xs) (fun j H' => Ex H2 H' ∧ H' D = some (.lst ((xs.take j).filter p))) ⟨Ex.new hD, upd_same⟩ (fun j H' _ p => ex_t ((e.trans e2).trans p.1) hx)
      (fun j x H' hj pv => ⟨by show (((σ.set i none).set i (some x)).set i none) = (σ.set i none); rw [List.set_set, List.set_set], by
        refine ht j x hj H' ((e.trans e2).trans pv.1) _ fun H3 e3 => ?_
        have step : (xs.take (j + 1)).filter p = (xs.take j).filter p ++ (if p x = true then [x] else []) := by
          rw [List.take_add_one, hj, List.filter_append]
          show _ ++ List.filter p [x] = _
          by_cases hp : p x = true
          · rw [if_pos hp, List.filter_cons_of_pos hp, List.filter_nil]
          · rw [if_neg hp, List.filter_cons_of_neg hp, List.filter_nil]
        by_cases hp : p x = true
        · rw [if_pos hp]
          rw [if_pos hp] at step
          refine he j x hj H3 (((e.trans e2).trans pv.1).trans e3) _ fun H4 e4 => ⟨(xs.take j).filter p, e4 _ _ (e3 _ _ pv.2), ?_, ((pv.1.trans e3).trans e4).mut hD, ?_⟩
          · refine sz_lt (Nat.lt_of_le_of_lt (List.length_filter_le _ _) ?_)
            rw [List.length_take]
            exact Nat.lt_of_le_of_lt (Nat.min_le_right _ _) hz
          · rw [upd_same, step]
        · rw [if_neg hp]
          rw [if_neg hp, List.append_nil] at step
          exact ⟨pv.1.trans e3, by rw [step]; exact e3 _ _ pv.2⟩⟩)
      (fun H' pv => q D H' (fresh_back e2 hD) (e2.trans pv.1) (by rw [pv.2, List.take_of_length_le (Nat.le_refl _)]))⟩
theorem s_asgX {D0 : Ends} {u : TS} {i : Nat} (h : Ev te σ H v) (k : ∀ H1, Ex H H1 → u D0 (σ.set i (some v)) H1) : tSeq (tAsg te (gName i)) u D0 σ H := s_asg h k
end
/-- a part of a building, by its place -/
def okItem (j : Nat) : OkF := fun vs H z => ∃ a us, vs = [.ref a] ∧ TupS H a us ∧ us[j]? = some z
theorem stb_item (j : Nat) : Stb (okItem j) := fun _ _ _ _ e ⟨a, us, h1, h2, h3⟩ => ⟨a, us, h1, h2.up e, h3⟩
def okCF : OkF := fun vs H z => ∃ v d f, vs = [v, .ref f] ∧ Rep H v d ∧ d.bld = true ∧ H f = some (.lst []) ∧ z = .non
theorem stb_cf : Stb okCF := fun _ _ _ _ e ⟨v, d, f, h1, h2, h3, h4, h5⟩ => ⟨v, d, f, h1, h2.up e, h3, e _ _ h4, h5⟩
def spNil : Sp := fun vs H Q _ => ∃ v d f w, vs = [v, .ref f, w] ∧ Rep H v d ∧ d.bld = true ∧ H f = some (.lst []) ∧ ∀ p H', H p = none → Ex H H' → H' p = some (.lst []) → Q (.ref p) H'
def spReach : Sp := fun vs H Q _ => ∃ v d f s, vs = [v, .ref f, .str s] ∧ Rep H v d ∧ d.bld = true ∧ H f = some (.lst []) ∧ ∀ p H', H p = none → Ex H H' → H' p = some (.lst (sv (d.areas.filter fun y => amg y [s]))) → Q (.ref p) H'
section
variable {P : Program} {w : World} {K : PySem.W.Frag} {mg : Str → Option Value} {base : Heap} (T : Txt K mg)
end
end Kx

set_option Elab.async false
set_option linter.all false
set_option maxRecDepth 100000
set_option maxHeartbeats 1000000
namespace Kx
open PySem PySem.Spec PyProof.Rows L2 Evl
/-! ## rows of texts as data of the library -/
theorem strOk_nm {s : Str} (h : nmS s = true) : PyData.strOk s = true := by
  unfold nmS at h
  rw [Bool.and_eq_true] at h
  unfold PyData.strOk
  rw [← Array.all_toList]
  refine List.all_eq_true.mpr fun c hc => ?_
  have h2 := List.all_eq_true.mp h.2 c hc
  unfold lowc at h2
  rw [Bool.and_eq_true] at h2
  have h3 := of_decide_eq_true h2.2
  exact decide_eq_true (by omega)
def pyT (t : List Str) : PyData := .tuple (t.map PyData.str)
theorem pyT_lay : ∀ t : List Str, (∀ s ∈ t, PyData.strOk s = true) → PyData.canLayAll0 (t.map PyData.str) = true
  | [], _ => by simp [PyData.canLayAll0]
  | s :: r, h => by simp [PyData.canLayAll0, PyData.canLay0, pyT_lay r fun x hx => h x (List.mem_cons_of_mem _ hx), h s List.mem_cons_self]
theorem pyT_dep : ∀ t : List Str, PyData.depthAll (t.map PyData.str) ≤ 1
  | [] => by simp [PyData.depthAll]
  | s :: r => by
    have h := pyT_dep r
    simp only [List.map_cons, PyData.depthAll, PyData.depth]
    omega
theorem pyT_shaped (t : List Str) (hs : ∀ s ∈ t, PyData.strOk s = true) : SeqAt.shaped (pyT t) = true := by
  have h := pyT_dep t
  show ((pyT t).canLay0 && decide ((pyT t).depth ≤ 64)) = true
  rw [Bool.and_eq_true]
  unfold pyT
  exact ⟨by simp only [PyData.canLay0]; exact pyT_lay t hs, decide_eq_true (by simp only [PyData.depth]; omega)⟩
theorem pyTs_lay : ∀ ts : List (List Str), (∀ t ∈ ts, ∀ s ∈ t, PyData.strOk s = true) → PyData.canLayAll0 (ts.map pyT) = true
  | [], _ => by simp [PyData.canLayAll0]
  | t :: r, hs => by
    have h := pyT_lay t (hs t List.mem_cons_self)
    simp [PyData.canLayAll0, pyTs_lay r fun x hx => hs x (List.mem_cons_of_mem _ hx), pyT, PyData.canLay0, h]
theorem pyTs_dep : ∀ ts : List (List Str), PyData.depthAll (ts.map pyT) ≤ 2
  | [] => by simp [PyData.depthAll]
  | t :: r => by
    have h1 := pyTs_dep r
    have h2 := pyT_dep t
    simp only [List.map_cons, PyData.depthAll, pyT, PyData.depth]
    omega
theorem pyTs_shaped (ts : List (List Str)) (hs : ∀ t ∈ ts, ∀ s ∈ t, PyData.strOk s = true) : SeqAt.shaped (.list (ts.map pyT)) = true := by
  have h1 := pyTs_dep ts
  show (PyData.canLay0 (.list (ts.map pyT)) && decide (PyData.depth (.list (ts.map pyT)) ≤ 64)) = true
  rw [Bool.and_eq_true]
  exact ⟨by simp only [PyData.canLay0]; exact pyTs_lay ts hs, decide_eq_true (by simp only [PyData.depth]; omega)⟩
def dT (t : List Str) : D := .tup (t.map D.str)
theorem dp_strs {K : PySem.W.Frag} {H : Hp} : ∀ t : List Str, DpAll K H (sv t) (t.map PyData.str)
  | [] => .nil
  | s :: r => .cons (.str s) (dp_strs r)
theorem dp_T {K : PySem.W.Frag} {H : Hp} {v : V} {t : List Str} (r : Rep H v (dT t)) : Dp K H v (pyT t) := by
  obtain ⟨a, rfl, ha⟩ := r.txs
  exact .tup ha.sq (dp_strs t)
theorem dp_Ts {K : PySem.W.Frag} {H : Hp} : ∀ {ts : List (List Str)} {vs : List V}, Reps H vs (ts.map dT) → DpAll K H vs (ts.map pyT)
  | [], _, .nil => .nil
  | t :: r, _, .cons h k => .cons (dp_T h) (dp_Ts k)
def spAny : Sp := fun vs H Q E => ∃ v d f, vs = [v, .ref f] ∧ Rep H v d ∧ d.bld = true ∧ H f = some (.lst []) ∧ ∀ z H', Ex H H' → Q z H'
def okJo (C : Addr) (vs : List V) (H : Hp) (Q : VK) (E : XK) : Prop := ∃ v d f, vs = [v, .ref f] ∧ Rep H v d ∧ d.Sz ∧ H f = some (.lst []) ∧ (d.bld = true → ∀ z H', Ex H H' → Q z H') ∧ (d.bld = false → ∀ H', Ex H H' → E (.ref C) none H')
section
variable {P : Program} {w : World} {K : PySem.W.Frag} {mg : Str → Option Value} {base : Heap} (T : Txt K mg)
end
end Kx

set_option Elab.async false
set_option linter.all false
set_option maxRecDepth 100000
set_option maxHeartbeats 1000000
namespace Kx
open PySem PySem.Spec PyProof.Rows L2 Evl
/-! ## the state that draws are taken from -/
def kG : Key := Sum.inr "great"
def kC : Key := Sum.inr "cells"
def kR : Key := Sum.inr "rest"
def kT : Key := Sum.inr "turn"
theorem nGR : (kG = kR) = False := eq_false (by unfold kG kR; decide +kernel)
theorem nGC : (kG = kC) = False := eq_false (by unfold kG kC; decide +kernel)
theorem nGT : (kG = kT) = False := eq_false (by unfold kG kT; decide +kernel)
theorem nCR : (kC = kR) = False := eq_false (by unfold kC kR; decide +kernel)
theorem nCT : (kC = kT) = False := eq_false (by unfold kC kT; decide +kernel)
theorem nRT : (kR = kT) = False := eq_false (by unfold kR kT; decide +kernel)
theorem nTR : (kT = kR) = False := eq_false (by unfold kR kT; decide +kernel)
def stK (sg sc : Addr) (r t : Int) : List (Key × V) := [(kG, .ref sg), (kC, .ref sc), (kR, .int r), (kT, .int t)]
theorem stG (sg sc : Addr) (r t : Int) : valV (stK sg sc r t) kG = some (.ref sg) := by simp [valV, stK]
theorem stC (sg sc : Addr) (r t : Int) : valV (stK sg sc r t) kC = some (.ref sc) := by simp [valV, stK, List.find?, nGC]
theorem stR (sg sc : Addr) (r t : Int) : valV (stK sg sc r t) kR = some (.int r) := by simp [valV, stK, List.find?, nGR, nCR]
theorem stT (sg sc : Addr) (r t : Int) : valV (stK sg sc r t) kT = some (.int t) := by simp [valV, stK, List.find?, nGT, nCT, nRT]
theorem putT (sg sc : Addr) (r t t' : Int) : putK (stK sg sc r t) kT (.int t') = stK sg sc r t' := by simp [putK, stK, nGT, nCT, nRT]
theorem putR (sg sc : Addr) (r t r' : Int) : putK (stK sg sc r t) kR (.int r') = stK sg sc r' t := by simp [putK, stK, nGR, nCR, nTR]
def iv (ns : List Int) : List V := ns.map V.int
/-- the state at sd: its list of great numbers at sg; at least b draws are left -/
structure StW (H : Hp) (sd sg sc : Addr) (gs cs : List Int) (r t : Int) : Prop where
  d : H sd = some (.dK (stK sg sc r t))
  g : H sg = some (.lst (iv gs))
  c : H sc = some (.lst (iv cs))
  ne : sc ≠ sg
theorem StW.sdg {H : Hp} {sd sg sc : Addr} {gs cs : List Int} {r t : Int} (s : StW H sd sg sc gs cs r t) : sd ≠ sg := ne_of s.d s.g (fun z => by cases z)
theorem StW.sdc {H : Hp} {sd sg sc : Addr} {gs cs : List Int} {r t : Int} (s : StW H sd sg sc gs cs r t) : sd ≠ sc := ne_of s.d s.c (fun z => by cases z)
def Sta (H : Hp) (sd sg sc : Addr) (b : Nat) : Prop := ∃ gs cs r t, StW H sd sg sc gs cs r t ∧ 0 ≤ t ∧ t + (b : Int) ≤ 2 ^ 40
/-- all but the state is as it was -/
def ExS (sd sg : Addr) (H H' : Hp) : Prop := ∀ a o, H a = some o → a ≠ sd → a ≠ sg → H' a = some o
theorem ExS.refl {sd sg : Addr} (H : Hp) : ExS sd sg H H := fun _ _ h _ _ => h
theorem ExS.trans {sd sg : Addr} {H H1 H2 : Hp} (a : ExS sd sg H H1) (b : ExS sd sg H1 H2) : ExS sd sg H H2 := fun c o h n m => b c o (a c o h n m) n m
theorem ExS.of {sd sg : Addr} {H H' : Hp} (e : Ex H H') : ExS sd sg H H' := fun a o h _ _ => e a o h
theorem Sta.up {H H' : Hp} {sd sg sc : Addr} {b : Nat} (s : Sta H sd sg sc b) (e : Ex H H') : Sta H' sd sg sc b :=
  let ⟨gs, cs, r, t, w, h1, h2⟩ := s; ⟨gs, cs, r, t, ⟨e _ _ w.d, e _ _ w.g, e _ _ w.c, w.ne⟩, h1, h2⟩
theorem Sta.less {H : Hp} {sd sg sc : Addr} {b c : Nat} (s : Sta H sd sg sc b) (h : c ≤ b) : Sta H sd sg sc c :=
  let ⟨gs, cs, r, t, w, h1, h2⟩ := s; ⟨gs, cs, r, t, w, h1, by omega⟩
theorem Sta.upd {H : Hp} {sd sg sc : Addr} {b : Nat} {C : Addr} {o : HO} (s : Sta H sd sg sc b) (n1 : C ≠ sd) (n2 : C ≠ sg) (n3 : C ≠ sc) : Sta (upd H C o) sd sg sc b :=
  let ⟨gs, cs, r, t, w, h1, h2⟩ := s; ⟨gs, cs, r, t, ⟨(upd_ne n1.symm).trans w.d, (upd_ne n2.symm).trans w.g, (upd_ne n3.symm).trans w.c, w.ne⟩, h1, h2⟩
theorem Sta.off {H : Hp} {sd sg sc : Addr} {b : Nat} {C : Addr} (s : Sta H sd sg sc b) (h : H C = none) : C ≠ sd ∧ C ≠ sg ∧ C ≠ sc :=
  let ⟨gs, cs, r, t, w, h1, h2⟩ := s; ⟨(ne_of_none w.d h).symm, (ne_of_none w.g h).symm, (ne_of_none w.c h).symm⟩
/-- what is neither the state's dict nor its list -/
def hid (H : Hp) (sd sg : Addr) : Hp := fun a => if a = sd ∨ a = sg then none else H a
theorem hid_ex {H : Hp} {sd sg : Addr} : Ex (hid H sd sg) H := fun a o h => by
  unfold hid at h
  split at h
  · cases h
  · exact h
theorem hid_mono {H H' : Hp} {sd sg : Addr} (e : ExS sd sg H H') : Ex (hid H sd sg) (hid H' sd sg) := fun a o h => by
  unfold hid at h ⊢
  split at h
  · cases h
  · rename_i n
    rw [if_neg n]
    exact e a o h (fun z => n (.inl z)) (fun z => n (.inr z))
section
variable {K : PySem.W.Frag} {σ : L2.St} {H : Hp} {ta tb te tl td ty : TE} {v : V}
theorem ev_dget {a : Addr} {k : Str} {kvs : List (Key × V)} (h : Ev td σ H (.ref a)) (hk : Ev ty σ H (.str k)) (hd : H a = some (.dK kvs)) (hv : valV kvs (Sum.inr k) = some v) : Ev (tDGet td ty) σ H v := fun H1 e Q q =>
  h H1 e _ fun H2 e2 => hk H2 (e.trans e2) _ fun H3 e3 => ⟨a, v, rfl, by rw [← hv]; exact DGet.k (k := Sum.inr k) (((e.trans e2).trans e3) _ _ hd), q H3 (e2.trans e3)⟩
theorem ev_int1 {i : Int} (h : Ev te σ H (.int i)) : Ev (tCB (fun xs H Q => (∃ i, xs = [.int i] ∧ Q (.int i) H) ∨ ∃ k, xs = [.bl k] ∧ Q (.int (if k then 1 else 0)) H) (tCons te tNil)) σ H (.int i) :=
  ev_cb (ea_cons h ea_nil) fun H1 e Q q => .inl ⟨i, rfl, q H1 (Ex.refl _)⟩
end
def spMixed : Sp := fun vs H Q _ => ∃ sd sg sc b, vs = [.ref sd] ∧ Sta H sd sg sc (b + 1) ∧ ∀ z H', Sta H' sd sg sc b → ExS sd sg H H' → Q (.int z) H'
def spDraw : Sp := fun vs H Q _ => ∃ sd sg sc b m, vs = [.ref sd, .int m] ∧ 0 < m ∧ m < 1000000 ∧ Sta H sd sg sc (b + 1) ∧ ∀ z H', 0 ≤ z → z < m → Sta H' sd sg sc b → ExS sd sg H H' → Q (.int z) H'
def primes : List Int := [2147483629, 2147483647, 2147483563, 2147483587]
theorem prime_ok {p : Int} (h : p ∈ primes) : 0 < p ∧ p < 2147483648 := by
  unfold primes at h
  simp only [List.mem_cons, List.not_mem_nil, or_false] at h
  rcases h with rfl | rfl | rfl | rfl <;> decide
section
variable {P : Program} {w : World} {K : PySem.W.Frag} {mg : Str → Option Value} {base : Heap} (T : Txt K mg)
theorem ok_mixed : FnOk P w K mg base CX0 1 T.a_law_mixed T.d_law_mixed ["state"] spMixed := by
  refine T.F_law_mixed.ok sc_law_mixed (fun vs H Q E h => ?_) (fun cdv A outer s H vs Q E hr h => ?_)
  · obtain ⟨sd, sg, sc, b, rfl, _⟩ := h
    rfl
  · obtain ⟨sd, sg, sc, b, rfl, ⟨gs, cs, r, t, W, h1, h2⟩, q⟩ := h
    have hu : (A.deeper (envOfC "_law_mixed" (defScope s_law_mixed) s.heap.objs.size T.a_law_mixed cdv)).units + 1 < cLine := hu_of hr
    refine ⟨_, pss_cons (ps_par (i := 1) (j := 2) rfl sc_law_mixed.nd rfl rfl (by decide) rfl rfl (pa_cons (pe_op op_add (pe_dget hu (pv 0) pe_str (fun _ _ => rfl)) pe_int) (pa_cons pe_int pa_nil)) (by rfl))
      (pss_cons (ps_dput hu (pv 0) pe_str (pv 1) rfl)
      (pss_cons (ps_for PassesOwn.never rfl (pi_list (pe_lst (pa_cons pe_int (pa_cons pe_int (pa_cons pe_int (pa_cons pe_int pa_nil)))))) (pg_name (i := 3) sc_law_mixed.nd rfl (.inl rfl))
        (pss_cons (ps_set (i := 4) sc_law_mixed.nd rfl (.inl rfl) (pe_op op_add (pe_op op_mul pe_int (pv 1)) (pe_op op_fdiv (pv 3) pe_int)))
        (pss_cons (ps_for PassesOwn.never rfl (pi_list (pe_dget hu (pv 0) pe_str (fun _ _ => rfl))) (pg_name (i := 5) sc_law_mixed.nd rfl (.inl rfl))
          (pss_one (ps_set (i := 4) sc_law_mixed.nd rfl (.inl rfl) (pe_op op_mod (pe_callTy call_int1 (by rfl) T.z_int bo_int (pa_cons (pe_op op_add (pe_op op_add (pe_op op_mul (pv 4) pe_int) (pv 5)) (pv 1)) pa_nil)) (pv 3)))))
        (pss_one (ps_set (i := 2) sc_law_mixed.nd rfl (.inl rfl) (pe_op op_add (pe_op op_mul (pv 2) pe_int) (pe_op op_mod (pe_callTy call_int1 (by rfl) T.z_int bo_int (pa_cons (pe_op op_pow (pv 4) pe_int) pa_nil)) (pv 3))))))))
      (pss_one (ps_ret (pv 2))))), ?_⟩
    refine ⟨.ref sd, rfl, sd, .int t, rfl, by rw [← stT sg sc r t]; exact DGet.k (k := kT) W.d, t, 1, rfl, rfl, .int (t + 1), .int 0, rfl, ?_⟩
    refine ⟨.int (t + 1), rfl, .ref sd, rfl, sd, _, rfl, DPut.k (k := kT) W.d (by show 4 < sizeLine; rw [sizeLine_eq]; decide), ?_⟩
    rw [putT]
    refine ⟨by show 4 ≤ sizeLine; rw [sizeLine_eq]; decide, fun p np => ⟨p, rfl, ⟨_, .of upd_same⟩, ?_⟩⟩
    -- the heap of the loops
    have W2 : StW (upd (upd H sd (.dK (stK sg sc r (t + 1)))) p (.lst (iv primes))) sd sg sc gs cs r (t + 1) := by
      have nsd : sd ≠ p := fun z => by rw [← z, upd_same] at np; cases np
      have hg : upd H sd (.dK (stK sg sc r (t + 1))) sg = some (.lst (iv gs)) := (upd_ne W.sdg.symm).trans W.g
      have hc : upd H sd (.dK (stK sg sc r (t + 1))) sc = some (.lst (iv cs)) := (upd_ne W.sdc.symm).trans W.c
      exact ⟨(upd_ne nsd).trans upd_same, (upd_ne (ne_of_none hg np)).trans hg, (upd_ne (ne_of_none hc np)).trans hc, W.ne⟩
    have hp2 : (upd (upd H sd (.dK (stK sg sc r (t + 1)))) p (.lst (iv primes))) p = some (.lst (iv primes)) := upd_same
    have X2 : ExS sd sg H (upd (upd H sd (.dK (stK sg sc r (t + 1)))) p (.lst (iv primes))) := fun a o h n m => by
      have h1 : upd H sd (.dK (stK sg sc r (t + 1))) a = some o := (upd_ne n).trans h
      exact (upd_ne (ne_of_none h1 np)).trans h1
    rw [show ([V.int 2147483629, V.int 2147483647, V.int 2147483563, V.int 2147483587] : List V) = iv primes from rfl]
    generalize upd (upd H sd (.dK (stK sg sc r (t + 1)))) p (.lst (iv primes)) = H2 at W2 hp2 X2
    refine for_list (xs := iv primes) (fun i σ' H' => Ex H2 H' ∧ ∃ f y3 y4 y5, σ' = [some (.ref sd), some (.int (t + 1)), some (.int f), y3, y4, y5]) ⟨Ex.refl _, 0, none, none, none, rfl⟩ (fun i σ' H' _ h => .of (h.1 _ _ hp2)) (fun i x σ' H' hx h => ?_) (fun σ' H' h => ?_)
    · obtain ⟨e2, f, y3, y4, y5, rfl⟩ := h
      obtain ⟨pr, hpr, rfl⟩ : ∃ pr ∈ primes, x = .int pr := by
        obtain ⟨pr, h1, h2⟩ := List.mem_map.mp (List.mem_of_getElem? hx)
        exact ⟨pr, h1, h2.symm⟩
      obtain ⟨p1, p2⟩ := prime_ok hpr
      -- blend = 69621 * turn + prime // 41
      refine s_asgX (v := .int (69621 * (t + 1) + pr / 41)) (ev_op (ev_op ev_c (ev_var rfl) (rv_I (.inl ⟨by decide, by decide⟩))) (ev_op (ev_var rfl) ev_c (rv_I ⟨by decide, by decide⟩)) rv_I0) fun H3 e3 => ?_
      have E3 := e2.trans e3
      -- for cell in state['cells']
      refine q_forL (xs := iv cs) (ev_dget (k := "cells") (ev_var rfl) ev_c (E3 _ _ W2.d) (stC _ _ _ _)) (.of (E3 _ _ W2.c)) (fun j σ4 H4 => Ex H2 H4 ∧ ∃ bl y5, σ4 = [some (.ref sd), some (.int (t + 1)), some (.int f), some (.int pr), some (.int bl), y5] ∧ bl.natAbs < 2 ^ 64)
        (fun H4 e4 => ⟨E3.trans e4, _, y5, rfl, ?_⟩) (fun j σ4 H4 _ h4 => .of (h4.1 _ _ W2.c)) (fun j x σ4 H4 hx4 h4 => ?_) (fun σ4 H4 h4 => ?_)
      · have : 0 ≤ pr / 41 := Int.ediv_nonneg (by omega) (by decide)
        have : pr / 41 < 2147483648 := Int.lt_of_le_of_lt (Int.ediv_le_self _ (by omega)) p2
        omega
      · obtain ⟨e4, bl, y5, rfl, hb⟩ := h4
        obtain ⟨c, _, rfl⟩ : ∃ c ∈ cs, x = .int c := by
          obtain ⟨c, h1, h2⟩ := List.mem_map.mp (List.mem_of_getElem? hx4)
          exact ⟨c, h1, h2.symm⟩
        refine s_asg (v := .int ((bl * 48271 + c + (t + 1)) % pr)) (ev_op (ev_int1 (ev_op (ev_op (ev_op (ev_var rfl) ev_c (rv_I (.inr ⟨by decide, by decide⟩))) (ev_var rfl) rv_I0) (ev_var rfl) rv_I0)) (ev_var rfl) (rv_I p1)) fun H5 e5 => ⟨e4.trans e5, _, _, rfl, ?_⟩
        have h1 := Int.emod_nonneg (bl * 48271 + c + (t + 1)) (show pr ≠ 0 by omega)
        have h2 := Int.emod_lt_of_pos (bl * 48271 + c + (t + 1)) p1
        omega
      · obtain ⟨e4, bl, y5, rfl, hb⟩ := h4
        exact s_asg (v := .int (f * 2147483659 + bl ^ (5 : Int).toNat % pr)) (ev_op (ev_op (ev_var rfl) ev_c (rv_I (.inr ⟨by decide, by decide⟩))) (ev_op (ev_int1 (ev_op (ev_var rfl) ev_c (rv_I ⟨by decide, by decide, hb⟩))) (ev_var rfl) (rv_I p1)) rv_I0) fun H5 e5 => ⟨e4.trans e5, _, _, _, _, rfl⟩
    · obtain ⟨e2, f, y3, y4, y5, rfl⟩ := h
      exact ⟨.int f, rfl, q f H' (Sta.up ⟨gs, cs, r, t + 1, W2, by omega, by omega⟩ e2) (X2.trans (.of e2))⟩
end
end Kx

set_option Elab.async false
set_option linter.all false
set_option maxRecDepth 100000
set_option maxHeartbeats 1000000
namespace Kx
open PySem PySem.Spec PyProof.Rows L2 Evl
theorem dp_iv {K : PySem.W.Frag} {H : Hp} : ∀ ns : List Int, DpAll K H (iv ns) (ns.map PyData.int)
  | [] => .nil
  | i :: r => .cons (.int i) (dp_iv r)
theorem ivL_lay : ∀ ns : List Int, PyData.canLayAll0 (ns.map PyData.int) = true
  | [] => by simp [PyData.canLayAll0]
  | i :: r => by simp [PyData.canLayAll0, PyData.canLay0, ivL_lay r]
theorem ivL_dep : ∀ ns : List Int, PyData.depthAll (ns.map PyData.int) ≤ 1
  | [] => by simp [PyData.depthAll]
  | i :: r => by
    have h := ivL_dep r
    simp only [List.map_cons, PyData.depthAll, PyData.depth]
    omega
theorem iv_shaped (ns : List Int) : SeqAt.shaped (.list (ns.map PyData.int)) = true := by
  have h := ivL_dep ns
  show (PyData.canLay0 (.list (ns.map PyData.int)) && decide (PyData.depth (.list (ns.map PyData.int)) ≤ 64)) = true
  rw [Bool.and_eq_true]
  exact ⟨by simp only [PyData.canLay0]; exact ivL_lay ns, decide_eq_true (by simp only [PyData.depth]; omega)⟩
theorem eqv_nil : PyData.eqv (.list []) (.list []) = true := by simp [PyData.eqv, PyData.eqvAll]
theorem eqv_cons (d : PyData) (ds : List PyData) : PyData.eqv (.list (d :: ds)) (.list []) = false := by simp [PyData.eqv, PyData.eqvAll]
/-- what the state is behind the first statement of a draw -/
def Mid (H : Hp) (sd sg sc : Addr) (b : Nat) (H1 : Hp) : Prop := ExS sd sg H H1 ∧ Sta H1 sd sg sc b
section
variable {P : Program} {w : World} {K : PySem.W.Frag} {mg : Str → Option Value} {base : Heap} (T : Txt K mg)
theorem ok_draw : FnOk P w K mg base CX0 2 T.a_law_draw T.d_law_draw ["state", "room"] spDraw := by
  refine T.F_law_draw.ok sc_law_draw (fun vs H Q E h => ?_) (fun cdv A outer s H vs Q E hr h => ?_)
  · obtain ⟨sd, sg, sc, b, m, rfl, _⟩ := h
    rfl
  · obtain ⟨sd, sg, sc, b, m, rfl, m0, m1, hS, q⟩ := h
    have hu : (A.deeper (envOfC "_law_draw" (defScope s_law_draw) s.heap.objs.size T.a_law_draw cdv)).units + 1 < cLine := hu_of hr
    have hu4 : (A.deeper (envOfC "_law_draw" (defScope s_law_draw) s.heap.objs.size T.a_law_draw cdv)).units + 64 < cLine := by have := hr.un; omega
    refine ⟨_, pss_cons (ps_if (pt_cmpR op_eq (pe_dget hu (pv 0) pe_str (fun _ _ => rfl)) pe_int (nomark _))
        (pss_one (ps_dput hu (pv 0) pe_str (pe_ifExp (pt_cmpR (op_neD hu4) (pe_dget hu (pv 0) pe_str (fun _ _ => rfl)) (pe_lst pa_nil) (nomark _))
          (pe_bm PySem.F.plainAttrs_list PySem.F.slot_list_pop PySem.F.type_list_pop mt_popAt (pe_dget hu (pv 0) pe_str (fun _ _ => rfl)) (pa_cons pe_int pa_nil))
          (pe_call (ok_mixed T) hr (by rfl) T.g_law_mixed T.F_law_mixed.kp (b_law_mixed T) .nil pass0 (pa_cons (pv 0) pa_nil))) rfl)) pss_nil)
      (pss_cons (ps_set (i := 2) sc_law_draw.nd rfl (.inl rfl) (pe_op op_mod (pe_callTy call_int1 (by rfl) T.z_int bo_int (pa_cons (pe_dget hu (pv 0) pe_str (fun _ _ => rfl)) pa_nil)) (pv 1)))
      (pss_cons (ps_dput hu (pv 0) pe_str (pe_op op_fdiv (pe_dget hu (pv 0) pe_str (fun _ _ => rfl)) (pv 1)) rfl)
      (pss_one (ps_ret (pv 2))))), ?_⟩
    obtain ⟨gs, cs, r, t, W, h1, h2⟩ := hS
    -- behind the first statement
    have fin : ∀ H1, Mid H sd sg sc b H1 → tSeq (tAsg (tOp (rI (fun _ j => 0 < j) fun i j => .int (i % j)) (tCB (fun xs H Q => (∃ i, xs = [.int i] ∧ Q (.int i) H) ∨ ∃ k, xs = [.bl k] ∧ Q (.int (if k then 1 else 0)) H) (tCons (tDGet (tVar 0) (tC (.str "rest"))) tNil)) (tVar 1)) (gName 2))
        (tSeq (sDPut (tVar 0) (tC (.str "rest")) (tOp (rI CDiv fun i j => .int (i / j)) (tDGet (tVar 0) (tC (.str "rest"))) (tVar 1))) (tRet (tVar 2))) { nx := fun _ H' => Q .non H', rt := Q } [some (.ref sd), some (.int m), none] H1 := fun H1 hm => by
      obtain ⟨e1, gs, cs, r, t, W, h1, h2⟩ := hm
      refine s_asgX (v := .int (r % m)) (ev_op (ev_int1 (ev_dget (k := "rest") (ev_var rfl) ev_c W.d (stR _ _ _ _))) (ev_var rfl) (rv_I m0)) fun H2 e2 => ?_
      refine (ev_op (r := rI CDiv fun i j => .int (i / j)) (z := .int (r / m)) (ev_dget (k := "rest") (ev_var rfl) ev_c (e2 _ _ W.d) (stR _ _ _ _)) (ev_var rfl) (rv_I ⟨m0, by omega⟩) : Ev _ [some (.ref sd), some (.int m), some (.int (r % m))] H2 _) H2 (Ex.refl _) _ fun H3 e3 => ?_
      have E3 := e2.trans e3
      refine ⟨.ref sd, rfl, sd, _, rfl, DPut.k (k := kR) (E3 _ _ W.d) (by show 4 < sizeLine; rw [sizeLine_eq]; decide), ?_⟩
      rw [putR]
      refine ⟨.int (r % m), rfl, q _ _ (Int.emod_nonneg _ (by omega)) (Int.emod_lt_of_pos _ m0) ⟨gs, cs, r / m, t, ⟨upd_same, ?_, ?_, W.ne⟩, h1, h2⟩ fun a o ha n1 n2 => ?_⟩
      · rw [upd_ne W.sdg.symm]
        exact E3 _ _ W.g
      · rw [upd_ne W.sdc.symm]
        exact E3 _ _ W.c
      · rw [upd_ne n1]
        exact E3 _ _ (e1 _ _ ha n1 n2)
    refine et_test (ev_op (ev_dget (k := "rest") (ev_var rfl) ev_c W.d (stR _ _ _ _)) ev_c (rv_eq rfl)) H (Ex.refl H) _ fun H1 e1 => ?_
    refine ite2 (fun _ => ?_) (fun _ => ?_)
    · -- rest is 0
      have W1 : StW H1 sd sg sc gs cs r t := ⟨e1 _ _ W.d, e1 _ _ W.g, e1 _ _ W.c, W.ne⟩
      refine ev_dget (k := "great") (ev_var rfl) ev_c W1.d (stG _ _ _ _) H1 (Ex.refl _) _ fun H2 e2 => ⟨Nat.zero_le _, fun p np => ?_⟩
      have E2 : Ex H1 (upd H2 p (.lst [])) := e2.trans (Ex.new np)
      have W2 : StW (upd H2 p (.lst [])) sd sg sc gs cs r t := ⟨E2 _ _ W1.d, E2 _ _ W1.g, E2 _ _ W1.c, W.ne⟩
      refine ⟨.list (gs.map PyData.int), .list [], .lst (.of W2.g) (dp_iv gs), .lst (.of upd_same) .nil, iv_shaped gs, iv_shaped [], _, rfl, ?_⟩
      generalize upd H2 p (.lst []) = H3 at E2 W2
      cases gs with
      | nil =>
        rw [show PyData.eqv (.list (([] : List Int).map PyData.int)) (.list []) = true from eqv_nil]
        refine iteF ?_
        refine ⟨.ref sd, rfl, sd, sg, sc, b, rfl, ⟨[], cs, r, t, W2, h1, h2⟩, fun z H4 hS4 e4 => ?_⟩
        obtain ⟨gs', cs', r', t', W4, k1, k2⟩ := hS4
        refine ⟨.ref sd, rfl, sd, _, rfl, DPut.k (k := kR) W4.d (by show 4 < sizeLine; rw [sizeLine_eq]; decide), ?_⟩
        rw [putR]
        refine fin _ ⟨fun a o ha n1 n2 => ?_, gs', cs', z, t', ⟨upd_same, ?_, ?_, W4.ne⟩, k1, k2⟩
        · rw [upd_ne n1]
          exact e4 _ _ ((e1.trans E2) _ _ ha) n1 n2
        · rw [upd_ne W4.sdg.symm]
          exact W4.g
        · rw [upd_ne W4.sdc.symm]
          exact W4.c
      | cons g gr =>
        rw [show PyData.eqv (.list ((g :: gr).map PyData.int)) (.list []) = false from eqv_cons _ _]
        refine iteT ?_
        refine ev_dget (k := "great") (ev_var rfl) ev_c W2.d (stG _ _ _ _) H3 (Ex.refl _) _ fun H4 e4 => ?_
        have W4 : StW H4 sd sg sc (g :: gr) cs r t := ⟨e4 _ _ W2.d, e4 _ _ W2.g, e4 _ _ W2.c, W.ne⟩
        refine ⟨.inl ⟨rfl, _, .of W4.g⟩, sg, iv (g :: gr), 0, 0, .int g, rfl, rfl, W4.g, by decide, by decide, ?_, rfl, ?_⟩
        · unfold iv
          rw [List.length_map, List.length_cons]
          simp [seqIndex?]
        · have hd : upd H4 sg (.lst ((iv (g :: gr)).eraseIdx 0)) sd = some (.dK (stK sg sc r t)) := (upd_ne W4.sdg).trans W4.d
          refine ⟨.ref sd, rfl, sd, _, rfl, DPut.k (k := kR) hd (by show 4 < sizeLine; rw [sizeLine_eq]; decide), ?_⟩
          rw [putR]
          refine fin _ ⟨fun a o ha n1 n2 => ?_, gr, cs, g, t, ⟨upd_same, ?_, ?_, W4.ne⟩, h1, by omega⟩
          · rw [upd_ne n1, upd_ne n2]
            exact ((e1.trans E2).trans e4) _ _ ha
          · rw [upd_ne W4.sdg.symm]
            exact upd_same
          · rw [upd_ne W4.sdc.symm, upd_ne W4.ne]
            exact W4.c
    · exact fin H1 ⟨.of e1, gs, cs, r, t, ⟨e1 _ _ W.d, e1 _ _ W.g, e1 _ _ W.c, W.ne⟩, h1, by omega⟩
end
end Kx

set_option Elab.async false
set_option linter.all false
set_option maxRecDepth 100000
set_option maxHeartbeats 1000000
namespace Kx
open PySem PySem.Spec PyProof.Rows L2 Evl
/-! ## texts -/
def tx (cs : List Nat) : Str := ⟨cs.toArray⟩
theorem tx_len (cs : List Nat) : (tx cs).length = cs.length := by simp [tx, Str.length]
theorem tx_codes (cs : List Nat) : (tx cs).cps.toList = cs := by simp [tx]
theorem joinL_nil : ∀ cs : List Nat, TL.joinL [] (cs.map fun c => [c]) = cs
  | [] => rfl
  | [c] => rfl
  | c :: d :: r => by
    show [c] ++ ([] ++ TL.joinL [] ((d :: r).map fun c => [c])) = c :: d :: r
    rw [joinL_nil (d :: r)]
    rfl
theorem join_signs (cs : List Nat) : Txt.join (tx []) (cs.map fun c => tx [c]) = tx cs := by
  have e := TL.tl_join (tx []) (cs.map fun c => tx [c])
  rw [List.map_map] at e
  have e2 : TL.joinL (TL.tl (tx [])) (cs.map (TL.tl ∘ fun c => tx [c])) = cs := joinL_nil cs
  rw [e2] at e
  rw [TL.join_eq]
  exact TL.ext_tl (e.trans (tx_codes cs).symm)
theorem sum_ones : ∀ cs : List Nat, (cs.map fun _ => 1).sum = cs.length
  | [] => rfl
  | c :: r => by
    rw [List.map_cons, List.sum_cons, sum_ones r, List.length_cons]
    omega
def abc : Str := "abcdefghijklmnopqrstuvwxyz"
theorem abc_codes : abc.cps.toList = (List.range 26).map (· + 97) := by unfold abc; decide +kernel
theorem abc_len : abc.length = 26 := by
  have h := congrArg List.length abc_codes
  simpa [Str.length] using h
theorem abc_lowc {c : Nat} : c ∈ abc.cps.toList ↔ lowc c = true := by
  rw [abc_codes]
  unfold lowc
  simp only [List.mem_map, List.mem_range, Bool.and_eq_true, decide_eq_true_eq]
  constructor
  · rintro ⟨a, h, rfl⟩
    omega
  · rintro ⟨h1, h2⟩
    exact ⟨c - 97, by omega, by omega⟩
def spPickL : Sp := fun vs H Q _ => ∃ (sd sg sc : Addr) (b : Nat) (l : Addr) (xs : List V), vs = [.ref sd, .ref l] ∧ H l = some (.lst xs) ∧ l ≠ sd ∧ l ≠ sg ∧ 0 < xs.length ∧ xs.length ≤ 1000 ∧ Sta H sd sg sc (b + 1) ∧ ∀ (j : Nat) (x : V) (H' : Hp), xs[j]? = some x → Sta H' sd sg sc b → ExS sd sg H H' → Q x H'
def spPickS : Sp := fun vs H Q _ => ∃ (sd sg sc : Addr) (b : Nat) (z : Str), vs = [.ref sd, .str z] ∧ 0 < z.length ∧ z.length ≤ 1000 ∧ Sta H sd sg sc (b + 1) ∧ ∀ (c : Nat) (H' : Hp), c ∈ z.cps.toList → Sta H' sd sg sc b → ExS sd sg H H' → Q (.str (tx [c])) H'
def okTells : OkF := fun vs H z => ∃ a b, vs = [.bl a, .bl b] ∧ z = .bl (decide (a = b))
theorem stb_tells : Stb okTells := fun _ _ _ _ _ h => h
def spLetters : Sp := fun vs H Q _ => ∃ (sd sg sc : Addr) (b m : Nat), vs = [.ref sd, .int (m : Nat)] ∧ m ≤ 20 ∧ Sta H sd sg sc (b + m) ∧ ∀ (cs : List Nat) (H' : Hp), cs.length = m → (∀ c ∈ cs, lowc c = true) → Sta H' sd sg sc b → ExS sd sg H H' → Q (.str (tx cs)) H'
section
variable {P : Program} {w : World} {K : PySem.W.Frag} {mg : Str → Option Value} {base : Heap} (T : Txt K mg)
theorem ok_pickL : FnOk P w K mg base CX0 3 T.a_law_pick T.d_law_pick ["state", "some"] spPickL := by
  refine T.F_law_pick.ok sc_law_pick (fun vs H Q E h => ?_) (fun cdv A outer s H vs Q E hr h => ?_)
  · obtain ⟨sd, sg, sc, b, l, xs, rfl, _⟩ := h
    rfl
  · obtain ⟨sd, sg, sc, b, l, xs, rfl, hl, n1, n2, h0, h1, hS, q⟩ := h
    refine ⟨_, pss_one (ps_ret (pe_ix ix_list (pv 1) (pe_call (ok_draw T) hr (by rfl) T.g_law_draw T.F_law_draw.kp (b_law_draw T) .nil pass0 (pa_cons (pv 0) (pa_cons (pe_callB call_len_seq (by rfl) T.z_len bo_len (pa_cons (pv 1) pa_nil)) pa_nil))) (fun _ _ => rfl))), ?_⟩
    refine ⟨.ref l, rfl, .ref sd, rfl, .ref l, rfl, l, xs, rfl, .inl (.of hl), sd, sg, sc, b, xs.length, rfl, by omega, by omega, hS, fun z H' z0 z1 hS' e' => ?_⟩
    obtain ⟨k, rfl⟩ : ∃ k : Nat, z = (k : Int) := ⟨z.toNat, by omega⟩
    have hj : k < xs.length := by omega
    exact ⟨l, xs, (k : Int), xs[k], rfl, rfl, .of (e' _ _ hl n1 n2), atI_nat (by simp [List.getElem?_eq_getElem hj]), q k _ H' (List.getElem?_eq_getElem hj) hS' e'⟩
theorem ok_pickS : FnOk P w K mg base CX0 3 T.a_law_pick T.d_law_pick ["state", "some"] spPickS := by
  refine T.F_law_pick.ok sc_law_pick (fun vs H Q E h => ?_) (fun cdv A outer s H vs Q E hr h => ?_)
  · obtain ⟨sd, sg, sc, b, z, rfl, _⟩ := h
    rfl
  · obtain ⟨sd, sg, sc, b, y, rfl, h0, h1, hS, q⟩ := h
    refine ⟨_, pss_one (ps_ret (pe_ix ix_str (pv 1) (pe_call (ok_draw T) hr (by rfl) T.g_law_draw T.F_law_draw.kp (b_law_draw T) .nil pass0 (pa_cons (pv 0) (pa_cons (pe_callB call_len (by rfl) T.z_len bo_len (pa_cons (pv 1) pa_nil)) pa_nil))) (fun _ _ => rfl))), ?_⟩
    refine ⟨.str y, rfl, .ref sd, rfl, .str y, rfl, .str y, y.length, rfl, ⟨sz_of (by omega), rfl⟩, sd, sg, sc, b, y.length, rfl, by omega, by omega, hS, fun z H' z0 z1 hS' e' => ?_⟩
    obtain ⟨k, rfl⟩ : ∃ k : Nat, z = (k : Int) := ⟨z.toNat, by omega⟩
    have hj : k < y.cps.toList.length := by
      have : y.cps.toList.length = y.length := by simp [Str.length]
      omega
    exact ⟨y, (k : Int), y.cps.toList[k], rfl, rfl, sz_of (by omega), atI_nat (by simp [List.getElem?_eq_getElem hj]), q _ H' (List.getElem_mem hj) hS' e'⟩
theorem ok_tells : FnOk P w K mg base CX0 1 T.a_law_tells T.d_law_tells ["value", "due"] (spX okTells) := by
  refine T.F_law_tells.ok sc_law_tells (fun vs H Q E h => ?_) (fun cdv A outer s H vs Q E hr h => ?_)
  · obtain ⟨z, ⟨a, b, rfl, _⟩, _⟩ := h
    rfl
  · obtain ⟨z, ⟨a, b, rfl, rfl⟩, q⟩ := h
    refine ⟨_, pss_one (ps_ret (pe_ifExp (pt_truth (pv 1) (by intro _; rfl)) (pe_cmpR op_is_bl (pv 0) pe_bl (nomark _)) (pe_cmpR op_is_bl (pv 0) pe_bl (nomark _)))), ?_⟩
    refine ⟨.bl b, rfl, b, rfl, ?_⟩
    cases b with
    | true => exact iteT ⟨.bl a, rfl, a, true, rfl, rfl, q H (Ex.refl _)⟩
    | false => exact iteF ⟨.bl a, rfl, a, false, rfl, rfl, q H (Ex.refl _)⟩
end
end Kx

set_option Elab.async false
set_option linter.all false
set_option maxRecDepth 100000
set_option maxHeartbeats 1000000
namespace Kx
open PySem PySem.Spec PyProof.Rows L2 Evl
theorem tx_cat (a b : List Nat) : tx a ++ tx b = tx (a ++ b) := by
  refine TL.ext_tl ?_
  show (tx a ++ tx b).cps.toList = (tx (a ++ b)).cps.toList
  rw [tx_codes]
  show ((tx a).cps ++ (tx b).cps).toList = a ++ b
  rw [Array.toList_append]
  rfl
theorem tx_of (s : Str) : tx s.cps.toList = s := rfl
theorem nm_tx {cs : List Nat} : nmS (tx cs) = (((decide (1 ≤ cs.length) && decide (cs.length ≤ 8)) && !decide (tx cs = "any")) && cs.all lowc) := by
  unfold nmS
  rw [tx_len, tx_codes]
theorem pigeon : ∀ (n : Nat) (L : List Nat), (∀ i, i < n → i ∈ L) → n ≤ L.length
  | 0, _, _ => Nat.zero_le _
  | n + 1, L, h => by
    have h1 := h n (Nat.lt_succ_self n)
    have h2 := pigeon n (L.erase n) fun i hi => (List.mem_erase_of_ne (by omega)).mpr (h i (by omega))
    rw [List.length_erase_of_mem h1] at h2
    have := List.length_pos_of_mem h1
    omega
/-- one of the letters makes a name that is not among these -/
theorem some_new (hd : List Nat) (used : List Str) (h : used.length < 26) : ∃ c, 97 ≤ c ∧ c ≤ 122 ∧ tx (hd ++ [c]) ∉ used := by
  apply Classical.byContradiction
  intro no
  have h1 : ∀ i, i < 26 → i ∈ used.map fun s => (s.cps.toList.getLast?.getD 0) - 97 := fun i hi => by
    apply Classical.byContradiction
    intro nm
    refine no ⟨i + 97, by omega, by omega, fun hm => nm ?_⟩
    refine List.mem_map.mpr ⟨_, hm, ?_⟩
    rw [tx_codes, List.getLast?_append]
    simp
  have := pigeon 26 _ h1
  rw [List.length_map] at this
  omega
def cand (cs : List Nat) : List Str := tx cs :: abc.cps.toList.map fun c => tx (cs.take 7 ++ [c])
theorem cand_nm {cs : List Nat} (h1 : 1 ≤ cs.length) (h8 : cs.length ≤ 8) (hl : ∀ c ∈ cs, lowc c = true) {s : Str} (hs : s ∈ cand cs) (na : s ≠ "any") : nmS s = true := by
  have go : ∀ ds : List Nat, 1 ≤ ds.length → ds.length ≤ 8 → (∀ c ∈ ds, lowc c = true) → tx ds ≠ "any" → nmS (tx ds) = true := fun ds a b c d => by
    rw [nm_tx, decide_eq_true (by omega), decide_eq_true (by omega), decide_eq_false d]
    exact List.all_eq_true.mpr c
  unfold cand at hs
  rcases List.mem_cons.mp hs with rfl | hs
  · exact go cs h1 h8 hl na
  · obtain ⟨c, hc, rfl⟩ := List.mem_map.mp hs
    refine go _ (by simp) (by simp; omega) (fun d hd => ?_) na
    rcases List.mem_append.mp hd with hd | hd
    · exact hl d (List.mem_of_mem_take hd)
    · rw [List.mem_singleton.mp hd]
      exact abc_lowc.mp hc
theorem cand_new (cs : List Nat) {used : List Str} (h : used.length ≤ 20) : ∃ s ∈ cand cs, s ∉ used ∧ s ≠ "any" := by
  obtain ⟨c, h1, h2, h3⟩ := some_new (cs.take 7) ("any" :: used) (by rw [List.length_cons]; omega)
  refine ⟨_, List.mem_cons_of_mem _ (List.mem_map.mpr ⟨c, abc_lowc.mpr (by unfold lowc; rw [decide_eq_true h1, decide_eq_true h2]; rfl), rfl⟩), fun hm => h3 (List.mem_cons_of_mem _ hm), fun e => h3 ?_⟩
  rw [e]
  exact List.mem_cons_self
theorem cut7 (cs : List Nat) : cutS (tx cs) none (some 7) = tx (cs.take 7) := by
  refine TL.ext_tl ?_
  show (((tx cs).cps.toList.drop 0).take (HT.sIx (tx cs).length (tx cs).length (some ((7 : Nat) : Int)) - 0)) = (tx (cs.take 7)).cps.toList
  rw [HT.sIx_nat, tx_codes, tx_codes, tx_len, List.drop_zero, Nat.sub_zero, List.take_eq_take_iff]
  omega
section
variable {K : PySem.W.Frag} {σ : L2.St} {H : Hp} {ta tb te tl : TE} {v : V}
theorem q_asgW {D : Ends} {u : TS} {i : Nat} (h : te σ H fun x H1 => u D (σ.set i (some x)) H1) : tSeq (tAsg te (gName i)) u D σ H := h
theorem el_cat {xs ys : List V} (ha : EvL ta σ H xs) (hb : EvL tb σ H ys) (hz : xs.length + ys.length ≤ 100000) : EvL (tOp rCat ta tb) σ H (xs ++ ys) := fun H1 e Q q =>
  ha H1 e _ fun p H2 n2 e2 h2 => hb H2 (e.trans e2) _ fun p3 H3 n3 e3 h3 => ⟨p, p3, xs, ys, rfl, rfl, e3 _ _ h2, h3, sz_of hz, fun r hr => q r _ (fresh_back (e2.trans e3) hr) ((e2.trans e3).trans (Ex.new hr)) upd_same⟩
end
theorem given_head {n : Nat} {f : Nat → Bool} {v : Nat → V} (h : ∃ i, i < n ∧ f i = true) : ∃ i, i < n ∧ f i = true ∧ (Evl.given n f v)[0]? = some (v i) := by
  obtain ⟨i, hi, hf⟩ := h
  have hm : i ∈ (List.range n).filter f := List.mem_filter.mpr ⟨List.mem_range.mpr hi, hf⟩
  unfold Evl.given
  cases e : (List.range n).filter f with
  | nil =>
    rw [e] at hm
    cases hm
  | cons j r =>
    have hj : j ∈ (List.range n).filter f := e ▸ List.mem_cons_self
    obtain ⟨h1, h2⟩ := List.mem_filter.mp hj
    exact ⟨j, List.mem_range.mp h1, h2, rfl⟩
def spNew : Sp := fun vs H Q _ => ∃ (sd sg sc : Addr) (b : Nat) (l : Addr) (ns : List Str), vs = [.ref sd, .ref l] ∧ H l = some (.lst (sv ns)) ∧ ns.length ≤ 20 ∧ l ≠ sd ∧ l ≠ sg ∧ Sta H sd sg sc (b + 9) ∧ ∀ (s : Str) (H' : Hp), nmS s = true → s ∉ ns → Sta H' sd sg sc b → ExS sd sg H H' → Q (.str s) H'
def spNames : Sp := fun vs H Q _ => ∃ (sd sg sc : Addr) (b m : Nat), vs = [.ref sd, .int (m : Nat)] ∧ m ≤ 20 ∧ Sta H sd sg sc (b + 9 * m) ∧ ∀ (p : Addr) (ns : List Str) (H' : Hp), ns.length = m → (∀ s ∈ ns, nmS s = true) → ns.Nodup → H p = none → H' p = some (.lst (sv ns)) → p ≠ sd → p ≠ sg → Sta H' sd sg sc b → ExS sd sg H H' → Q (.ref p) H'
section
variable {P : Program} {w : World} {K : PySem.W.Frag} {mg : Str → Option Value} {base : Heap} (T : Txt K mg)
end
end Kx

set_option Elab.async false
set_option linter.all false
set_option maxRecDepth 100000
set_option maxHeartbeats 1000000
namespace Kx
open PySem PySem.Spec PyProof.Rows L2 Evl
section
variable {P : Program} {w : World} {K : PySem.W.Frag} {mg : Str → Option Value} {base : Heap} (T : Txt K mg)
end
end Kx

set_option Elab.async false
set_option linter.all false
set_option maxRecDepth 100000
set_option maxHeartbeats 1000000
namespace Kx
open PySem PySem.Spec PyProof.Rows L2 Evl
/-! ## rights in their order -/
def spot (nd a c s : Nat) : Nat := (a * nd + c) * 2 + s
theorem spot_lex {nd a c s a' c' s' : Nat} (hc : c < nd) (hc' : c' < nd) (hs : s < 2) (hs' : s' < 2) :
    HT.lexLt [(a : Int), (c : Int), (s : Int)] [(a' : Int), (c' : Int), (s' : Int)] = decide (spot nd a c s < spot nd a' c' s') := by
  rw [HT.lexLt_cons, HT.lexLt_cons, HT.lexLt_cons, HT.lexLt_nil_nil]
  unfold spot
  rcases Nat.lt_trichotomy a a' with h | h | h
  · have h1 : a * nd + nd ≤ a' * nd := by
      rw [← Nat.succ_mul]
      exact Nat.mul_le_mul_right nd h
    rw [if_neg (by omega), decide_eq_true (by omega), decide_eq_true (by omega)]
  · subst h
    rw [if_pos rfl]
    rcases Nat.lt_trichotomy c c' with h | h | h
    · rw [if_neg (by omega), decide_eq_true (by omega), decide_eq_true (by omega)]
    · subst h
      rw [if_pos rfl]
      by_cases q : (s : Int) = (s' : Int)
      · rw [if_pos q, decide_eq_false (by omega)]
      · rw [if_neg q, decide_eq_decide]
        omega
    · rw [if_neg (by omega), decide_eq_false (by omega), decide_eq_false (by omega)]
  · have h1 : a' * nd + nd ≤ a * nd := by
      rw [← Nat.succ_mul]
      exact Nat.mul_le_mul_right nd h
    rw [if_neg (by omega), decide_eq_false (by omega), decide_eq_false (by omega)]
theorem ascT_iff {ts : List (List Int)} : ascT ts = true ↔ ∀ j, j + 1 < ts.length → HT.lexLt (ts.getD j []) (ts.getD (j + 1) []) = true := by
  unfold ascT ascB
  rw [List.all_eq_true]
  constructor
  · intro h j hj
    exact h _ (List.mem_map.mpr ⟨j, List.mem_range.mpr (by omega), rfl⟩)
  · intro h b hb
    obtain ⟨j, hj, rfl⟩ := List.mem_map.mp hb
    have := List.mem_range.mp hj
    exact h j (by omega)
abbrev Tri := Nat × Nat × Nat
def Tri.spot (nd : Nat) (t : Tri) : Nat := Kx.spot nd t.1 t.2.1 t.2.2
def Tri.ok (nk nd : Nat) (t : Tri) : Prop := t.1 < nk ∧ t.2.1 < nd ∧ t.2.2 < 2
def Tri.d (ks ns : List Str) (t : Tri) : D := .tup [.str (ks.getD t.1 ""), .str (ns.getD t.2.1 ""), .int (t.2.2 : Nat)]
theorem idx_getD {ks : List Str} (nd : ks.Nodup) {a : Nat} (h : a < ks.length) : ks.idxOf (ks.getD a "") = a := by
  have e : ks.getD a "" = ks[a] := by simp [List.getD, List.getElem?_eq_getElem h]
  rw [e]
  exact nd.idxOf_getElem a h
theorem mem_getD {ks : List Str} {a : Nat} (h : a < ks.length) : ks.getD a "" ∈ ks := by
  have e : ks.getD a "" = ks[a] := by simp [List.getD, List.getElem?_eq_getElem h]
  rw [e]
  exact List.getElem_mem h
theorem tri_key {ks ns : List Str} (h1 : ks.Nodup) (h2 : ns.Nodup) {t : Tri} (h : t.ok ks.length ns.length) : rkey ns ks (t.d ks ns) = [(t.1 : Int), (t.2.1 : Int), (t.2.2 : Int)] := by
  show [((ks.idxOf _ : Nat) : Int), ((ns.idxOf _ : Nat) : Int), _] = _
  rw [idx_getD h1 h.1, idx_getD h2 h.2.1]
theorem tri_rt {ks ns : List Str} {t : Tri} (h : t.ok ks.length ns.length) : (t.d ks ns).rt ns ks = true := by
  show D.rt ns ks (.tup [_, _, _]) = true
  rw [rt_3]
  have h3 := h.2.2
  show (amg _ ks && (amg _ ns && isBetw (.int (t.2.2 : Nat)) 0 1)) = true
  rw [amg_iff.mpr (mem_getD h.1), amg_iff.mpr (mem_getD h.2.1)]
  show isBetw (.int ((t.2.2 : Nat) : Int)) 0 1 = true
  unfold isBetw
  simp
  omega
/-- rising spots make rights -/
theorem tri_rts {ks ns : List Str} (h1 : ks.Nodup) (h2 : ns.Nodup) {ts : List Tri} (h : ∀ t ∈ ts, t.ok ks.length ns.length) (hp : ts.Pairwise fun x y => x.spot ns.length < y.spot ns.length) : D.rts ns ks (.tup (ts.map (Tri.d ks ns))) = true := by
  rw [rts_tup, Bool.and_eq_true]
  refine ⟨List.all_eq_true.mpr fun d hd => ?_, ascT_iff.mpr fun j hj => ?_⟩
  · obtain ⟨t, ht, rfl⟩ := List.mem_map.mp hd
    exact tri_rt (h t ht)
  · rw [List.length_map, List.length_map] at hj
    have hj0 : j < ts.length := by omega
    have e : ∀ i (hi : i < ts.length), ((ts.map (Tri.d ks ns)).map (rkey ns ks)).getD i [] = [(ts[i].1 : Int), (ts[i].2.1 : Int), (ts[i].2.2 : Int)] := fun i hi => by
      rw [← tri_key h1 h2 (h _ (List.getElem_mem hi))]
      simp [List.getD, List.getElem?_eq_getElem hi]
    have a := h _ (List.getElem_mem hj0)
    have b := h _ (List.getElem_mem hj)
    rw [e j hj0, e (j + 1) hj, spot_lex a.2.1 b.2.1 a.2.2 b.2.2]
    exact decide_eq_true (List.pairwise_iff_getElem.mp hp j (j + 1) hj0 hj (by omega))
end Kx

set_option Elab.async false
set_option linter.all false
set_option maxRecDepth 100000
set_option maxHeartbeats 1000000
namespace Kx
open PySem PySem.Spec PyProof.Rows L2 Evl
theorem mod_ne {a w L : Int} (h0 : 0 ≤ a) (h1 : a < L) (h2 : 0 ≤ w) (h3 : w < L - 1) (e : (a + 1 + w) % L = a) : False := by
  by_cases h : a + 1 + w < L
  · rw [Int.emod_eq_of_lt (by omega) h] at e
    omega
  · rw [show a + 1 + w = (a + 1 + w - L) + L * 1 by omega, Int.add_mul_emod_self_left, Int.emod_eq_of_lt (by omega) (by omega)] at e
    omega
theorem vs2 {sd : Addr} {i j : Int} (h : i = j) : [V.ref sd, V.int i] ++ [] = [V.ref sd, V.int j] := by rw [h]; rfl
theorem Sta.tp {H H' : Hp} {sd sg sc : Addr} {b : Nat} (s : Sta H sd sg sc b) (e : ExS sd sg H H') : Tp H H' := fun a o xs h =>
  let ⟨gs, cs, r, t, w, h1, h2⟩ := s; e a _ h (ne_of h w.d (fun z => by cases z)) (ne_of h w.g (fun z => by cases z))
theorem dr_imm {as : List Str} {d : D} (h : d.dr as = true) : d.imm = true := by
  obtain ⟨n, a, b, s, rfl, _⟩ := dr_shape h
  rfl
theorem nm_len {s : Str} (h : nmS s = true) : s.length ≤ 8 := by
  unfold nmS at h
  simp only [Bool.and_eq_true] at h
  exact of_decide_eq_true h.1.1.2
theorem leaf_len {s : Str} (h : s ∈ leafs) : s.length ≤ 4 := by
  unfold leafs at h
  rcases List.mem_cons.mp h with rfl | h
  · decide
  · rw [List.mem_singleton.mp h]
    decide
theorem szs_of : ∀ {ds : List D}, (∀ d ∈ ds, d.Sz) → Szs ds
  | [], _ => by unfold Szs; trivial
  | d :: r, h => by unfold Szs; exact ⟨h d List.mem_cons_self, szs_of fun x hx => h x (List.mem_cons_of_mem _ hx)⟩
theorem sz_tup {ds : List D} (h : ds.length ≤ 1000) (h2 : ∀ d ∈ ds, d.Sz) : (D.tup ds).Sz := by unfold D.Sz; exact ⟨h, szs_of h2⟩
theorem sz_str {s : Str} (h : s.length ≤ 1000) : (D.str s).Sz := by unfold D.Sz; exact h
/-- what stands for a building is small and has no lists in it -/
theorem IsB.small {d : D} {as : List Str} {es : List D} {ks : List Str} {rs : List D} (h : IsB d as es ks rs) (hr : rs.length ≤ 1000) : d.imm = true ∧ d.Sz := by
  have ims : ∀ ns : List Str, imms (ns.map D.str) = true := fun ns => imms_iff.mpr fun d hd => by
    obtain ⟨s, _, rfl⟩ := List.mem_map.mp hd
    rfl
  have rsh : ∀ r ∈ rs, ∃ k n s, r = .tup [.str k, .str n, .int s] ∧ k.length ≤ 8 ∧ n.length ≤ 8 := fun r hr => by
    obtain ⟨k, n, s, e, hk, hn, _⟩ := rt_shape (List.all_eq_true.mp h.rd r hr)
    refine ⟨k, n, s, e, nm_len (h.kv k hk), ?_⟩
    obtain ⟨x, hx, rfl⟩ := List.mem_map.mp hn
    obtain ⟨m, a, b, t, rfl, hm, _⟩ := dr_shape (h.ed x hx)
    exact nm_len hm
  have esh : ∀ e ∈ es, e.Sz := fun e he => by
    obtain ⟨m, a, b, t, rfl, hm, ha, hb, _, ht⟩ := dr_shape (h.ed e he)
    have := nm_len hm
    have := nm_len (h.av a ha)
    have := nm_len (h.av b hb)
    have := leaf_len ht
    refine sz_tup (by simp) fun d hd => ?_
    simp only [List.mem_cons, List.not_mem_nil, or_false] at hd
    rcases hd with rfl | rfl | rfl | rfl <;> exact sz_str (by omega)
  have a6 := h.a6
  have e6 := h.e6
  have k3 := h.k3
  rw [h.eq]
  constructor
  · show imms _ = true
    refine imms_iff.mpr fun d hd => ?_
    simp only [List.mem_cons, List.not_mem_nil, or_false] at hd
    rcases hd with rfl | rfl | rfl | rfl | rfl
    · rfl
    · exact ims as
    · exact imms_iff.mpr fun x hx => dr_imm (h.ed x hx)
    · exact ims ks
    · refine imms_iff.mpr fun x hx => ?_
      obtain ⟨k, n, s, rfl, _⟩ := rsh x hx
      rfl
  · refine sz_tup (by simp) fun d hd => ?_
    simp only [List.mem_cons, List.not_mem_nil, or_false] at hd
    rcases hd with rfl | rfl | rfl | rfl | rfl
    · exact sz_str (by decide)
    · refine sz_tup (by rw [List.length_map]; omega) fun x hx => ?_
      obtain ⟨s, hs, rfl⟩ := List.mem_map.mp hx
      have := nm_len (h.av s hs)
      exact sz_str (by omega)
    · exact sz_tup (by omega) esh
    · refine sz_tup (by rw [List.length_map]; omega) fun x hx => ?_
      obtain ⟨s, hs, rfl⟩ := List.mem_map.mp hx
      have := nm_len (h.kv s hs)
      exact sz_str (by omega)
    · refine sz_tup hr fun x hx => ?_
      obtain ⟨k, n, s, rfl, h1, h2⟩ := rsh x hx
      refine sz_tup (by simp) fun d hd => ?_
      simp only [List.mem_cons, List.not_mem_nil, or_false] at hd
      rcases hd with rfl | rfl | rfl
      · exact sz_str (by omega)
      · exact sz_str (by omega)
      · unfold D.Sz; trivial
def spHouse : Sp := fun vs H Q _ => ∃ (sd sg sc : Addr) (b : Nat), vs = [.ref sd] ∧ Sta H sd sg sc (b + 400) ∧ ∀ (v : V) (d : D) (H' : Hp), Rep H' v d → d.bld = true → d.imm = true → d.Sz → (∃ as es ks rs, IsB d as es ks rs ∧ rs.length ≤ 36) → Sta H' sd sg sc b → ExS sd sg H H' → Q v H'
section
variable {P : Program} {w : World} {K : PySem.W.Frag} {mg : Str → Option Value} {base : Heap} (T : Txt K mg)
end
end Kx

set_option Elab.async false
set_option linter.all false
set_option maxRecDepth 100000
set_option maxHeartbeats 1000000
namespace Kx
open PySem PySem.Spec PyProof.Rows L2 Evl
/-! ## isinstance -/
abbrev tIsi (K : PySem.W.Frag) (te : TE) (T : String) : TE := tCB (rIsi K) (tCons te (tCons (tC (.ty T)) tNil))
section
variable {X : Cx} {e : Expr} {te : TE} {n : Str} {N : String} {p1 p2 p3 : Pos}
theorem pe_isi (hz : X.mg "isinstance" = none) (hn : X.mg n = none) (hb : bootBuiltins n = some (.type N)) (he : PE X e te) (g1 : Gl X "isinstance" := by rfl) (g2 : Gl X n := by rfl)
    (na : starEach [e, .Name n p3] X.env = (false, eval e X.env) :: starEach [.Name n p3] X.env := by rfl) (nm : n ≠ "__name__" := by decide) (nd : (n == ("__debug__" : Str)) = false := by decide) :
    PE X (.Call (.Name "isinstance" p1) [e, .Name n p3] [] p2) (tIsi X.K te N) :=
  pe_callB call_isi g1 hz bo_isinstance (pa_cons he (pa_cons (pe_bltn g2 hn hb rfl nm nd) pa_nil) na) (he := na)
end
theorem Rep.tyX {K : PySem.W.Frag} {H : Hp} {v : V} {d : D} (r : Rep H v d) : TyX K H v (.type d.ty) := by
  cases r with
  | non => exact .base .non
  | bl b => exact .base (.bl b)
  | int i => exact .base (.int i)
  | str s => exact .base (.str s)
  | tup h _ =>
    obtain ⟨o, _, h2⟩ := h
    exact .fTuple h2
  | lst h _ => exact .base (.lst h)
  | dic h => exact .base (.dK h)
def isi (d : D) (T : String) : Bool := decide (d.ty = T) || (decide (d.ty = "bool") && decide (T = "int"))
theorem kit_all : ∀ t ∈ ["NoneType", "bool", "int", "str", "tuple", "list", "dict"], ∀ T ∈ ["str", "tuple", "bool", "int"], kitB t T = some (decide (t = T) || (decide (t = "bool") && decide (T = "int"))) := by decide +kernel
theorem isi_kit {K : PySem.W.Frag} (d : D) {T : String} (hT : T ∈ ["str", "tuple", "bool", "int"]) : PySem.W.kitOne K (.type d.ty) (.type T) = some (isi d T) :=
  kit_ty (kit_all d.ty (by cases d <;> simp [D.ty]) T hT)
section
variable {K : PySem.W.Frag} {σ : L2.St} {H : Hp} {ta tb te tl : TE} {tt : TT} {v x z : V} {d : D}
theorem ev_isi {T : String} (h : Ev te σ H v) (r : Rep H v d) (hT : T ∈ ["str", "tuple", "bool", "int"] := by decide) : Ev (tIsi K te T) σ H (.bl (isi d T)) := fun H1 e Q q =>
  h H1 e _ fun H2 e2 => ⟨v, .ty T, .type d.ty, .type T, isi d T, rfl, .ty T, (r.up (e.trans e2)).tyX, isi_kit d hT, q H2 e2⟩
/-- test and element of a comprehension, for the items that «it» tells -/
structure Each (tt : TT) (te : TE) (σ : L2.St) (j : Nat) (vs : List Nat) (H : Hp) (n : Nat) (it : Nat → V → Prop) (f : Nat → Bool) (w : Nat → V) : Prop where
  few : n ≤ 40000
  back : ∀ x, wipe ((wipe σ vs).set j (some x)) vs = wipe σ vs
  ask : ∀ i x H1, Ex H H1 → it i x → EvT tt ((wipe σ vs).set j (some x)) H1 (f i)
  val : ∀ i x H1, Ex H H1 → it i x → f i = true → Ev te ((wipe σ vs).set j (some x)) H1 (w i)
/-- what the i-th turn has to show -/
def Turned (tt : TT) (te : TE) (σ2 : L2.St) (Dl : Addr) (H H' : Hp) (i : Nat) (f : Nat → Bool) (w : Nat → V) : Prop :=
  tt σ2 H' fun b H3 => if b = true then te σ2 H3 fun y H4 => ∃ acc, H4 Dl = some (.lst acc) ∧ acc.length < sizeLine ∧ Cw H f w Dl (i + 1) (upd H4 Dl (.lst (acc ++ [y]))) else Cw H f w Dl (i + 1) H3
theorem Each.step {j n : Nat} {vs : List Nat} {it : Nat → V → Prop} {f : Nat → Bool} {w : Nat → V} (E : Each tt te σ j vs H n it f w) {i : Nat} {H0 H' : Hp} {Dl : Addr} (e : Ex H H0) (lt : i < n) (m : it i x) (c : Cw H0 f w Dl i H') :
    wipe ((wipe σ vs).set j (some x)) vs = wipe σ vs ∧ Turned tt te ((wipe σ vs).set j (some x)) Dl H0 H' i f w := by
  have few : i < 50000 := by
    have := E.few
    omega
  exact ⟨E.back x, cw_turn c few (E.ask i x H0 e m) (E.val i x H0 e m)⟩
theorem el_each_tup {a : Addr} {xs : List V} {j : Nat} {vs : List Nat} {f : Nat → Bool} {w : Nat → V} (h : Ev tl σ H (.ref a)) (hx : SqT K H a xs) (E : Each tt te σ j vs H xs.length (fun i x => xs[i]? = some x) f w) : EvL (tLc (iTup K tl) (gName j) tt te vs) σ H (given xs.length f w) := by
  intro H0 e Q q
  refine h H0 e _ fun H1 e1 => ⟨a, rfl, ⟨xs, ex_t (e.trans e1) hx⟩, fun Dl hD => ?_⟩
  refine lc_tup (xs := xs) (Cw H1 f w Dl) ?start ?there ?turn ?fin
  case start => exact ⟨hD, Ex.new hD, upd_same⟩
  case there => exact fun i H' _ c => ex_t ((e.trans e1).trans c.2.1) hx
  case turn => exact fun i x H' m c => E.step (e.trans e1) (List.getElem?_eq_some_iff.mp m).1 m c
  case fin => exact fun H' c => q Dl H' (fresh_back e1 c.1) (e1.trans c.2.1) c.2.2
theorem el_each_str {s : Str} {j : Nat} {vs : List Nat} {f : Nat → Bool} {w : Nat → V} (h : Ev tl σ H (.str s)) (E : Each tt te σ j vs H s.cps.size (fun i x => ∃ c, s.cps[i]? = some c ∧ x = .str ⟨#[c]⟩) f w) : EvL (tLc (iStr tl) (gName j) tt te vs) σ H (given s.cps.size f w) := by
  intro H0 e Q q
  refine h H0 e _ fun H1 e1 => ⟨s, rfl, fun Dl hD => ⟨fun i m H' => m + i = s.cps.size ∧ Cw H1 f w Dl i H', ⟨s.cps.size, rfl, hD, Ex.new hD, upd_same⟩, ?_⟩⟩
  rintro i m H' ⟨sum, c⟩
  match m with
  | 0 =>
    obtain rfl : i = s.cps.size := by omega
    exact .inl ⟨Nat.le_refl _, q Dl H' (fresh_back e1 c.1) (e1.trans c.2.1) c.2.2⟩
  | m + 1 =>
    have lt : i < s.cps.size := by omega
    refine .inr ⟨lt, fun H2 => Cw H1 f w Dl (i + 1) H2, fun H2 c2 => ⟨m, Nat.lt_succ_self m, by omega, c2⟩, fun x H2 y => ?_⟩
    obtain ⟨rfl, k, hk, rfl⟩ := y
    exact E.step (e.trans e1) lt ⟨k, hk, rfl⟩ c
/-- the same, test and element told one by one -/
theorem el_lcTg {a : Addr} {xs : List V} {j : Nat} {vs : List Nat} (f : Nat → Bool) (w : Nat → V) (h : Ev tl σ H (.ref a)) (hx : SqT K H a xs) (few : xs.length ≤ 40000) (back : ∀ x, wipe ((wipe σ vs).set j (some x)) vs = wipe σ vs)
    (ask : ∀ i x H1, Ex H H1 → xs[i]? = some x → EvT tt ((wipe σ vs).set j (some x)) H1 (f i)) (val : ∀ i x H1, Ex H H1 → xs[i]? = some x → f i = true → Ev te ((wipe σ vs).set j (some x)) H1 (w i)) :
    EvL (tLc (iTup K tl) (gName j) tt te vs) σ H (given xs.length f w) := el_each_tup h hx ⟨few, back, ask, val⟩
theorem el_lcSg {s : Str} {j : Nat} {vs : List Nat} (f : Nat → Bool) (w : Nat → V) (h : Ev tl σ H (.str s)) (few : s.cps.size ≤ 40000) (back : ∀ x, wipe ((wipe σ vs).set j (some x)) vs = wipe σ vs)
    (ask : ∀ i c H1, Ex H H1 → s.cps[i]? = some c → EvT tt ((wipe σ vs).set j (some (.str ⟨#[c]⟩))) H1 (f i)) (val : ∀ i c H1, Ex H H1 → s.cps[i]? = some c → f i = true → Ev te ((wipe σ vs).set j (some (.str ⟨#[c]⟩))) H1 (w i)) :
    EvL (tLc (iStr tl) (gName j) tt te vs) σ H (given s.cps.size f w) := el_each_str h ⟨few, back, fun i x H1 e ⟨c, m, z⟩ => by subst z; exact ask i c H1 e m, fun i x H1 e ⟨c, m, z⟩ => by subst z; exact val i c H1 e m⟩
theorem given_iv (n : Nat) (f : Nat → Bool) (w : Nat → Int) : given n f (fun i => .int (w i)) = iv (((List.range n).filter f).map w) := by
  unfold given iv
  rw [List.map_map]
  rfl
theorem eqv_iv (ns : List Int) : PyData.eqv (.list (ns.map PyData.int)) (.list []) = ns.isEmpty := by
  cases ns with
  | nil => exact eqv_nil
  | cons a r => exact eqv_cons _ _
theorem given_empty (n : Nat) (f : Nat → Bool) (w : Nat → Int) : (((List.range n).filter f).map w).isEmpty = (List.range n).all fun i => !f i := by
  rw [Bool.eq_iff_iff, List.isEmpty_iff, List.map_eq_nil_iff, List.filter_eq_nil_iff, List.all_eq_true]
  constructor
  · intro h i hi
    rw [Bool.eq_false_iff.mpr (h i hi)]
    rfl
  · intro h i hi e
    have := h i hi
    rw [e] at this
    cases this
theorem rv_eqNil {p q : Addr} {ns : List Int} (h : H p = some (.lst (iv ns))) (hq : H q = some (.lst [])) : RV (rEqD K) (.ref p) (.ref q) H (.bl ns.isEmpty) := fun H1 e Q k =>
  ⟨.list (ns.map .int), .list [], .lst (.of (e _ _ h)) (dp_iv ns), .lst (.of (e _ _ hq)) .nil, iv_shaped ns, iv_shaped [], by rw [eqv_iv]; exact k H1 (Ex.refl _)⟩
theorem rv_neNil {p q : Addr} {ns : List Int} (h : H p = some (.lst (iv ns))) (hq : H q = some (.lst [])) : RV (rNeD K) (.ref p) (.ref q) H (.bl (!ns.isEmpty)) := fun H1 e Q k =>
  ⟨.list (ns.map .int), .list [], .lst (.of (e _ _ h)) (dp_iv ns), .lst (.of (e _ _ hq)) .nil, iv_shaped ns, iv_shaped [], by rw [eqv_iv]; exact k H1 (Ex.refl _)⟩
theorem ev_eqNil {n : Nat} {f : Nat → Bool} {w : Nat → Int} (h : EvL ta σ H (given n f fun i => .int (w i))) : Ev (tOp (rEqD K) ta (tLst tNil)) σ H (.bl ((List.range n).all fun i => !f i)) := by
  rw [given_iv] at h
  rw [← given_empty n f w]
  exact ev_opLL h (el_lst ea_nil (by decide)) fun p q H1 h1 h2 _ => rv_eqNil h1 h2
theorem ev_neNil {n : Nat} {f : Nat → Bool} {w : Nat → Int} (h : EvL ta σ H (given n f fun i => .int (w i))) : Ev (tOp (rNeD K) ta (tLst tNil)) σ H (.bl (!((List.range n).all fun i => !f i))) := by
  rw [given_iv] at h
  rw [← given_empty n f w]
  exact ev_opLL h (el_lst ea_nil (by decide)) fun p q H1 h1 h2 _ => rv_neNil h1 h2
end
theorem nm_key (x : Str) : nmS x = (!(decide ((x.length : Int) < 1) || (decide ((8 : Int) < (x.length : Int)) || decide (V.str x = V.str "any"))) && x.cps.toList.all lowc) := by
  unfold nmS
  rw [show decide ((x.length : Int) < 1) = !decide (1 ≤ x.length) from by rw [← decide_not, decide_eq_decide]; omega, show decide ((8 : Int) < (x.length : Int)) = !decide (x.length ≤ 8) from by rw [← decide_not, decide_eq_decide]; omega,
    show decide (V.str x = V.str "any") = decide (x = "any") from decide_eq_decide.mpr ⟨fun h => V.str.inj h, fun h => by rw [h]⟩]
  generalize decide (1 ≤ x.length) = a
  generalize decide (x.length ≤ 8) = b
  generalize decide (x = "any") = c
  cases a <;> cases b <;> cases c <;> rfl
theorem all_abc (x : Str) : ((List.range x.cps.size).all fun i => !(match x.cps[i]? with | some c => !decide (c ∈ abc.cps.toList) | none => false)) = x.cps.toList.all lowc := by
  rw [Bool.eq_iff_iff, List.all_eq_true, List.all_eq_true]
  constructor
  · intro h c hc
    obtain ⟨i, hi⟩ := List.getElem?_of_mem hc
    have hi2 : x.cps[i]? = some c := by
      rw [← Array.getElem?_toList]
      exact hi
    have := h i (List.mem_range.mpr (Array.getElem?_eq_some_iff.mp hi2).1)
    rw [hi2] at this
    have h2 : (!!decide (c ∈ abc.cps.toList)) = true := this
    rw [Bool.not_not] at h2
    exact abc_lowc.mp (of_decide_eq_true h2)
  · intro h i hi
    have hi := List.mem_range.mp hi
    have hg : x.cps[i]? = some x.cps[i] := Array.getElem?_eq_getElem hi
    rw [hg]
    have hm := abc_lowc.mpr (h x.cps[i] (Array.getElem_mem_toList hi))
    show (!!decide (x.cps[i] ∈ abc.cps.toList)) = true
    rw [decide_eq_true hm]
    rfl
theorem isi_no {d : D} {T : String} (h : d.ty ≠ T) (hT : T ≠ "int" := by decide) : isi d T = false := by
  unfold isi
  rw [decide_eq_false h, decide_eq_false hT]
  cases decide (d.ty = "bool") <;> rfl
section
variable {P : Program} {w : World} {K : PySem.W.Frag} {mg : Str → Option Value} {base : Heap} (T : Txt K mg)
end
end Kx

set_option Elab.async false
set_option linter.all false
set_option maxRecDepth 100000
set_option maxHeartbeats 1000000
namespace Kx
open PySem PySem.Spec PyProof.Rows L2 Evl
theorem nodup_take : ∀ (ts : List Str), decide ts.Nodup = (List.range ts.length).all fun i => !amg (ts.getD i "") (ts.take i) := fun ts => by
  rw [Bool.eq_iff_iff, decide_eq_true_iff, List.all_eq_true, List.nodup_iff_pairwise_ne, List.pairwise_iff_getElem]
  constructor
  · intro h i hi
    have hi := List.mem_range.mp hi
    have : amg (ts.getD i "") (ts.take i) = false := Bool.eq_false_iff.mpr fun e => by
      obtain ⟨j, hj⟩ := List.getElem?_of_mem (amg_iff.mp e)
      have hji : j < i := by
        have := (List.getElem?_eq_some_iff.mp hj).1
        rw [List.length_take] at this
        omega
      rw [List.getElem?_take_of_lt hji, List.getElem?_eq_getElem (by omega : j < ts.length)] at hj
      have e2 : ts.getD i "" = ts[i] := by simp [List.getD, List.getElem?_eq_getElem hi]
      exact h j i (by omega) hi hji ((Option.some.inj hj).trans e2)
    rw [this]
    rfl
  · intro h j i hj hi hji e
    have := h i (List.mem_range.mpr hi)
    have e2 : ts.getD i "" = ts[i] := by simp [List.getD, List.getElem?_eq_getElem hi]
    have hm : amg (ts.getD i "") (ts.take i) = true := by
      refine amg_iff.mpr (List.mem_iff_getElem?.mpr ⟨j, ?_⟩)
      rw [List.getElem?_take_of_lt hji, List.getElem?_eq_getElem hj, e2, e]
    rw [hm] at this
    cases this
theorem cut_take {α : Type} (xs : List α) {i : Nat} (h : i ≤ xs.length) : cutX xs none (some (i : Int)) = xs.take i := by
  unfold cutX
  rw [HT.sIx_nat, HT.sIx_none, List.drop_zero, Nat.sub_zero, Nat.min_eq_left h]
theorem all_range {f : D → Bool} (ds : List D) {n : Nat} (hn : n = ds.length) : ((List.range n).all fun i => !(!f (ds.getD i .non))) = ds.all f := by
  subst hn
  rw [Bool.eq_iff_iff, List.all_eq_true, List.all_eq_true]
  constructor
  · intro h d hd
    obtain ⟨i, hi⟩ := List.getElem?_of_mem hd
    have := h i (List.mem_range.mpr (List.getElem?_eq_some_iff.mp hi).1)
    rw [Bool.not_not] at this
    simpa [List.getD, hi] using this
  · intro h i hi
    have hi := List.mem_range.mp hi
    rw [Bool.not_not]
    have := h ds[i] (List.getElem_mem hi)
    simpa [List.getD, List.getElem?_eq_getElem hi] using this
section
variable {P : Program} {w : World} {K : PySem.W.Frag} {mg : Str → Option Value} {base : Heap} (T : Txt K mg)
end
end Kx

set_option Elab.async false
set_option linter.all false
set_option maxRecDepth 100000
set_option maxHeartbeats 1000000
namespace Kx
open PySem PySem.Spec PyProof.Rows L2 Evl
theorem firsts {H : Hp} : ∀ {vs : List V} {ds : List D}, Reps H vs ds → (∀ d ∈ ds, ∃ x r, d = .tup (x :: r)) → ∃ ys : List V, Reps H ys (ds.map D.fst) ∧ ys.length = vs.length ∧ ∀ (j : Nat) (x y : V), vs[j]? = some x → ys[j]? = some y → ∃ c us, x = .ref c ∧ TupS H c us ∧ us[0]? = some y
  | _, _, .nil, _ => ⟨[], .nil, rfl, fun j x y h => by simp at h⟩
  | v :: vs, d :: ds, .cons r t, h => by
    obtain ⟨ys, h1, h2, h3⟩ := firsts t fun d hd => h d (List.mem_cons_of_mem _ hd)
    obtain ⟨x, rr, rfl⟩ := h d List.mem_cons_self
    obtain ⟨c, us, rfl, hc, hcs⟩ := r.tupD
    cases hcs with
    | @cons y us _ _ q0 qs =>
      refine ⟨y :: ys, .cons q0 h1, by rw [List.length_cons, List.length_cons, h2], fun j x y' hx hy => ?_⟩
      cases j with
      | zero =>
        obtain rfl := Option.some.inj hx
        obtain rfl := Option.some.inj hy
        exact ⟨c, _, rfl, hc, rfl⟩
      | succ j => exact h3 j x y' hx hy
def is4 : D → Bool
  | .tup [_, _, _, _] => true
  | _ => false
theorem is4_is : ∀ {d : D}, is4 d = true → ∃ n a b s, d = .tup [n, a, b, s]
  | .tup [n, a, b, s], _ => ⟨n, a, b, s, rfl⟩
  | .tup [], h | .tup [_], h | .tup [_, _], h | .tup [_, _, _], h | .tup (_ :: _ :: _ :: _ :: _ :: _), h => by simp [is4] at h
  | .non, h | .bl _, h | .str _, h | .int _, h | .lst _, h | .dic, h => by simp [is4] at h
theorem is4_tup (ds : List D) : is4 (.tup ds) = decide ((ds.length : Int) = 4) := by
  match ds with
  | [] | [_] | [_, _] | [_, _, _] => rfl
  | [_, _, _, _] => rfl
  | _ :: _ :: _ :: _ :: _ :: r =>
    show false = decide _
    rw [decide_eq_false]
    simp only [List.length_cons]
    omega
theorem dr_is4 {as : List Str} {d : D} (h : d.dr as = true) : is4 d = true := by
  obtain ⟨n, a, b, s, rfl, _⟩ := dr_shape h
  rfl
def okDoorsL : OkF := fun vs H z => ∃ v d a as, vs = [.ref a, v] ∧ Rep H v d ∧ d.Sz ∧ TupS H a (sv as) ∧ (∀ s ∈ as, nmS s = true) ∧ z = .bl (d.drs as)
theorem stb_doorsL : Stb okDoorsL := fun _ _ _ _ e ⟨v, d, a, as, h1, h2, h3, h4, h5, h6⟩ => ⟨v, d, a, as, h1, h2.up e, h3, h4.up e, h5, h6⟩
section
variable {P : Program} {w : World} {K : PySem.W.Frag} {mg : Str → Option Value} {base : Heap} (T : Txt K mg)
end
end Kx

set_option Elab.async false
set_option linter.all false
set_option maxRecDepth 100000
set_option maxHeartbeats 1000000
namespace Kx
open PySem PySem.Spec PyProof.Rows PySem.SeqAt L2 Evl
def D.isI (d : D) (i : Int) : Bool := match d with
  | .int j => i == j
  | _ => false
def D.isB : D → Bool
  | .bl _ => true
  | _ => false
abbrev T3 := Str × Str × Int
def eq3 (t : T3) (d0 d1 d2 : D) : Bool := d0.isS t.1 && (d1.isS t.2.1 && d2.isI t.2.2)
/-- these values are tuples (text, text, number) -/
inductive Tris (H : Hp) : List V → List T3 → Prop
  | nil : Tris H [] []
  | cons {c : Addr} {k n : Str} {i : Int} {vs : List V} {ts : List T3} : TupS H c [.str k, .str n, .int i] → Tris H vs ts → Tris H (.ref c :: vs) ((k, n, i) :: ts)
theorem Tris.up {H H' : Hp} (e : Ex H H') : ∀ {vs : List V} {ts : List T3}, Tris H vs ts → Tris H' vs ts
  | _, _, .nil => .nil
  | _, _, .cons h t => .cons (h.up e) (t.up e)
theorem Tris.append {H : Hp} : ∀ {vs ws : List V} {ts us : List T3}, Tris H vs ts → Tris H ws us → Tris H (vs ++ ws) (ts ++ us)
  | _, _, _, _, .nil, s => s
  | _, _, _, _, .cons h t, s => .cons h (t.append s)
theorem Tris.length {H : Hp} : ∀ {vs : List V} {ts : List T3}, Tris H vs ts → vs.length = ts.length
  | _, _, .nil => rfl
  | _, _, .cons _ t => by rw [List.length_cons, List.length_cons, t.length]
section
variable {X : Cx} {pins : List (Addr × Obj)} {σ : L2.St} {H : Hp} {s : Shared} {A : Around}
theorem eq_strD (I : Inv X pins σ H s) (hu : A.units < cLine) {x : V} {d : D} {u : Value} (r : Rep H x d) (rx : RelV x u) (k : Str) (t : Tok) : EqAt A s (.str k t) u (d.isS k) := by
  cases r with
  | non => cases rx; exact .str_none k t
  | bl b => cases rx; exact .str_bool k t b
  | int i => obtain ⟨j, rfl⟩ := rx; exact .str_int k t i j
  | str z =>
    obtain ⟨j, rfl⟩ := rx
    have h := EqAt.str_str (A := A) (s := s) k t z j
    rw [show D.isS (.str z) k = (k == z) from Bool.eq_iff_iff.mpr ⟨fun h => by rw [eq_of_beq h]; exact beq_self_eq_true _, fun h => by rw [eq_of_beq h]; exact beq_self_eq_true _⟩]
    exact h
  | tup ha _ => cases rx; obtain ⟨its, rv, tp, _⟩ := I.tuple ha.sq; exact .str_tuple k t tp hu
  | lst ha _ => cases rx; obtain ⟨its, rv, tp, _⟩ := I.list (.of ha); exact .str_list k t tp.isList hu
  | dic ha => cases rx; exact eq_str_dict k t (dict_of I ha) hu
theorem eq_intD (I : Inv X pins σ H s) (hu : A.units < cLine) {x : V} {d : D} {u : Value} (r : Rep H x d) (rx : RelV x u) (hb : d.isB = false) (i : Int) (t : Tok) : EqAt A s (.int i t) u (d.isI i) := by
  cases r with
  | non => cases rx; exact .int_none i t
  | bl b => cases hb
  | int j => obtain ⟨j2, rfl⟩ := rx; exact .int_int i t j j2
  | str z => obtain ⟨j, rfl⟩ := rx; exact .int_str i t z j
  | tup ha _ => cases rx; obtain ⟨its, rv, tp, _⟩ := I.tuple ha.sq; exact .int_tuple i t tp hu
  | lst ha _ => cases rx; obtain ⟨its, rv, tp, _⟩ := I.list (.of ha); exact .int_list i t tp.isList hu
  | dic ha => cases rx; exact eq_int_dict i t (dict_of I ha) hu
theorem eq_same (l : Addr) : EqAt A s (.ref l) (.ref l) true := fun prog w E Q hq => by
  unfold eqBool
  exact wpAny_holding (wpAny_ite_split (fun _ => wpAny_bind (wpAny_rule (wpAny_pure hq))) (fun h => absurd (beq_self_eq_true _) h))
/-- a tuple of three beside one -/
theorem eq_tri (I : Inv X pins σ H s) (hu : A.units + 1 < cLine) {c b : Addr} {k n : Str} {i : Int} {x0 x1 x2 : V} {d0 d1 d2 : D} (hc : TupS H c [.str k, .str n, .int i]) (hb : TupS H b [x0, x1, x2]) (r0 : Rep H x0 d0) (r1 : Rep H x1 d1) (r2 : Rep H x2 d2) (nb : d2.isB = false) :
    EqAt A s (.ref c) (.ref b) (eq3 (k, n, i) d0 d1 d2) := by
  by_cases hcb : c = b
  · subst hcb
    obtain ⟨o, _, h1⟩ := hc
    obtain ⟨o2, _, h2⟩ := hb
    rw [h1] at h2
    have e := Option.some.inj h2
    injection e with _ e
    injection e with e
    injection e with e0 e
    injection e with e1 e
    injection e with e2 e
    subst e0 e1 e2
    obtain rfl : d0 = .str k := by cases r0; rfl
    obtain rfl : d1 = .str n := by cases r1; rfl
    obtain rfl : d2 = .int i := by cases r2; rfl
    have : eq3 (k, n, i) (.str k) (.str n) (.int i) = true := by
      unfold eq3 D.isS D.isI
      simp
    rw [this]
    exact eq_same c
  · obtain ⟨its, rv, tp, _⟩ := I.tuple hc.sq
    obtain ⟨its2, rv2, tp2, _⟩ := I.tuple hb.sq
    cases rv with
    | @cons _ ua _ _ qa rv => cases rv with
      | @cons _ ub _ _ qb rv => cases rv with
        | @cons _ uc _ _ qc rv =>
          cases rv
          cases rv2 with
          | @cons _ va _ _ pa rv2 => cases rv2 with
            | @cons _ vb _ _ pb rv2 => cases rv2 with
              | @cons _ vc _ _ pc rv2 =>
                cases rv2
                obtain ⟨ta, rfl⟩ := qa
                obtain ⟨tb, rfl⟩ := qb
                obtain ⟨tc, rfl⟩ := qc
                have hA : A.in1.units < cLine := hu
                have R := RcAt.tuples (A := A) (s := s) (l := c) (b := b) (items := #[.str k ta, .str n tb, .int i tc]) (items2 := #[va, vb, vc]) (e := fun j => match j with | 0 => d0.isS k | 1 => d1.isS n | _ => d2.isI i) tp tp2 (by omega) (fun j h1 h2 => by
                  match j, h1, h2 with
                  | 0, _, _ => exact eq_strD I hA r0 pa k ta
                  | 1, _, _ => exact eq_strD I hA r1 pb n tb
                  | 2, _, _ => exact eq_intD I hA r2 pc nb i tc
                  | m + 3, h1, _ => exact absurd h1 (by simp))
                have e : ((List.range (min (#[Value.str k ta, .str n tb, .int i tc] : Array Value).size (#[va, vb, vc] : Array Value).size)).all (fun j => match j with | 0 => d0.isS k | 1 => d1.isS n | _ => d2.isI i) && (#[Value.str k ta, .str n tb, .int i tc] : Array Value).size == (#[va, vb, vc] : Array Value).size) = eq3 (k, n, i) d0 d1 d2 := by
                  show ((d0.isS k && (d1.isS n && (d2.isI i && true))) && true) = (d0.isS k && (d1.isS n && d2.isI i))
                  rw [Bool.and_true, Bool.and_true]
                rw [e] at R
                exact EqAt.of_refs hcb R
end
/-- x not in a list of tuples (text, text, number), x a tuple of three whose last part is no truth -/
def rNi3 : R2 := fun x y H Q => ∃ (b : Addr) (x0 x1 x2 : V) (d0 d1 d2 : D) (l : Addr) (vs : List V) (ts : List T3), x = .ref b ∧ TupS H b [x0, x1, x2] ∧ Rep H x0 d0 ∧ Rep H x1 d1 ∧ Rep H x2 d2 ∧ d2.isB = false ∧ y = .ref l ∧ H l = some (.lst vs) ∧ Tris H vs ts ∧ Q (.bl (!ts.any fun t => eq3 t d0 d1 d2)) H
def eqU3 (H : Hp) (d0 d1 d2 : D) (w : Value) : Bool := match w with
  | .ref c => (match H c with
    | some (.frz _ (.tup [.str k, .str n, .int i])) => eq3 (k, n, i) d0 d1 d2
    | _ => false)
  | _ => false
theorem any_u3 {H : Hp} {d0 d1 d2 : D} : ∀ {vs : List V} {ts : List T3} {its : List Value}, Tris H vs ts → Vals vs its → its.any (eqU3 H d0 d1 d2) = ts.any fun t => eq3 t d0 d1 d2
  | _, _, _, .nil, .nil => rfl
  | _, _, _, .cons (c := c) (k := k) (n := n) (i := i) h t, .cons r rv => by
    rw [List.any_cons, List.any_cons, any_u3 t rv]
    cases r
    obtain ⟨o, _, h2⟩ := h
    have : eqU3 H d0 d1 d2 (.ref c) = eq3 (k, n, i) d0 d1 d2 := by
      show (match H c with | some (.frz _ (.tup [.str k, .str n, .int i])) => eq3 (k, n, i) d0 d1 d2 | _ => false) = _
      rw [h2]
    rw [this]
theorem mem_u3 {X : Cx} {pins : List (Addr × Obj)} {σ : L2.St} {H : Hp} {s : Shared} {A : Around} (I : Inv X pins σ H s) (hu : A.units + 1 < cLine) {b : Addr} {x0 x1 x2 : V} {d0 d1 d2 : D} (hb : TupS H b [x0, x1, x2]) (r0 : Rep H x0 d0) (r1 : Rep H x1 d1) (r2 : Rep H x2 d2) (nb : d2.isB = false) :
    ∀ {vs : List V} {ts : List T3} {its : List Value}, Tris H vs ts → Vals vs its → ∀ w ∈ its, EqAt A s w (.ref b) (eqU3 H d0 d1 d2 w)
  | _, _, _, .nil, .nil => fun w hw => by cases hw
  | _, _, _, .cons (c := c) (k := k) (n := n) (i := i) h t, .cons r rv => fun w hw => by
    rcases List.mem_cons.mp hw with rfl | hw
    · cases r
      obtain ⟨o, _, h2⟩ := id h
      have : eqU3 H d0 d1 d2 (.ref c) = eq3 (k, n, i) d0 d1 d2 := by
        show (match H c with | some (.frz _ (.tup [.str k, .str n, .int i])) => eq3 (k, n, i) d0 d1 d2 | _ => false) = _
        rw [h2]
      rw [this]
      exact eq_tri I hu h hb r0 r1 r2 nb
    · exact mem_u3 I hu hb r0 r1 r2 nb t rv w hw
theorem op_ni3 {X : Cx} (hu : X.A.units + 64 < cLine) : OpR X (compareOp .NotIn) rNi3 := by
  intro pins s σ H x y v u Q I rx ry h
  obtain ⟨b, x0, x1, x2, d0, d1, d2, l, vs, ts, rfl, hb, r0, r1, r2, nb, rfl, hl, ht, q⟩ := h
  cases rx
  cases ry
  obtain ⟨its, r, pl, hz⟩ := I.list (.of hl)
  refine SeqAt.notIn_listAt (eqU3 H d0 d1 d2) pl.isList (fun w hw => mem_u3 I (by show X.A.units + 1 + 1 < cLine; omega) hb r0 r1 r2 nb ht r w (by simpa using hw)) ⟨.bl _, H, I, rfl, ?_⟩
  rw [show its.toArray.any (eqU3 H d0 d1 d2) = its.any (eqU3 H d0 d1 d2) by simp, any_u3 ht r]
  exact q
end Kx

set_option Elab.async false
set_option linter.all false
set_option maxRecDepth 100000
set_option maxHeartbeats 1000000
namespace Kx
open PySem PySem.Spec PyProof.Rows L2 Evl
/-! ## set(xs) of whole numbers, of texts -/
theorem few_below : ∀ (B : Nat) (l : List Int), l.Nodup → (∀ k ∈ l, 0 ≤ k ∧ k < (B : Int)) → l.length ≤ B
  | 0, l, _, h => by
    cases l with
    | nil => exact Nat.le_refl _
    | cons a r =>
      have := h a List.mem_cons_self
      omega
  | B + 1, l, nd, h => by
    have h2 := few_below B (l.erase (B : Int)) (nd.erase _) fun k hk => by
      have h3 := h k (List.mem_of_mem_erase hk)
      have h4 : k ≠ (B : Int) := fun e => by
        rw [e] at hk
        exact nd.not_mem_erase hk
      omega
    have h5 : l.length ≤ (l.erase (B : Int)).length + 1 := by
      rw [List.length_erase]
      split <;> omega
    omega
section
variable {X : Cx}
/-- set(l), l a list of whole numbers: one that sorted can read -/
def rSetI (K : PySem.W.Frag) (w : World) : List V → Hp → VK → Prop := fun xs H Q => ∃ (l : Addr) (ns : List Int), xs = [.ref l] ∧ SqL K H l (ns.map V.int) ∧ ns.length ≤ 1000 ∧ ∀ a c, H a = none → (∀ B : Nat, (∀ k ∈ ns, 0 ≤ k ∧ k < (B : Int)) → c ≤ B) → Q (.ref a) (upd H a (SetO w a (fun j => decide (j ∈ ns)) c))
theorem call_setI (hc : X.calm = true) : CallR X (.type "set") (rSetI X.K X.w) := by
  intro pins s σ H xs us Q I r h
  obtain ⟨l, ns, rfl, hl, hz, q⟩ := h
  rw [Vals.ref1 r]
  obtain ⟨its, rv, pl, hlen⟩ := I.list hl
  have hit : IntsAre its ns := rv.ints
  have hsz : its.toArray.size = ns.length := by rw [List.size_toArray, ← rv.length, List.length_map]
  refine call_set_list (P := X.prog) (w := X.w) (s := s) (items := its.toArray) (fun h' => ∃ c, c ≤ ns.length ∧ SetR X.w h' s.heap.objs.size (fun j => decide (j ∈ ns)) c) (I.ok.hd hc) pl.isList (fun A1 It _ G St u0 R W hSf st ho _ hR => ?_) fun h' tk hp hk => ?_
  · refine set_update_ints W s.heap.objs.size hSf ns hsz (by unfold scanBound; omega) (fun i v hv => ?_) (its.toArray.size - 0) 0 u0 rfl (Nat.zero_le _) st ⟨0, Nat.le_refl 0, setR_new_at ho⟩ fun s' c hm hc2 hS => hR s' hm ⟨c, by omega, hS⟩
    have hi : i < ns.length := by rw [← hsz]; exact (Array.getElem?_eq_some_iff.mp hv).1
    obtain ⟨t, e⟩ := PyProof.Rows.IntsAre.int_at hit i v (by rw [← Array.getElem?_toList] at hv; simpa using hv)
    refine ⟨ns[i], t, List.getElem?_eq_getElem hi, ?_⟩
    rw [e, List.getD_eq_getElem?_getD, List.getElem?_eq_getElem hi] <;> rfl
  · obtain ⟨c, hc2, R⟩ := hp
    have hn : H s.heap.objs.size = none := I.hok.fresh (Nat.le_refl _)
    refine ⟨.ref _, _, I.laid (t' := tk) (fun b o e => hk b o e) (Nat.le_refl _) (setO_new R), rfl, q _ c hn fun B hB => ?_⟩
    obtain ⟨o, es, ep, t, _, _, _, _, nd, hm, _, _, hes, _⟩ := R
    have := few_below B (es.toList.map keyOf) nd fun k hk2 => hB k (of_decide_eq_true ((hm k).mpr hk2))
    rw [List.length_map, Array.length_toList] at this
    omega
end
end Kx

set_option Elab.async false
set_option linter.all false
set_option maxRecDepth 100000
set_option maxHeartbeats 1000000
namespace Kx
open PySem PySem.Spec PyProof.Rows L2 Evl
/-! ## all rights that can be, and rising places -/
def evAt (ks ns : List Str) (p : Nat) : T3 := (ks.getD (p / 2 / ns.length) "", ns.getD (p / 2 % ns.length) "", ((p % 2 : Nat) : Int))
def evs (ks ns : List Str) (n : Nat) : List T3 := (List.range n).map (evAt ks ns)
theorem evs_two {ks ns : List Str} {i j : Nat} (hj : j < ns.length) : evs ks ns ((i * ns.length + (j + 1)) * 2) = evs ks ns ((i * ns.length + j) * 2) ++ [(ks.getD i "", ns.getD j "", 0), (ks.getD i "", ns.getD j "", 1)] := by
  have e : (i * ns.length + (j + 1)) * 2 = (i * ns.length + j) * 2 + 1 + 1 := by omega
  have d1 : (i * ns.length + j) * 2 / 2 = i * ns.length + j := by omega
  have d2 : ((i * ns.length + j) * 2 + 1) / 2 = i * ns.length + j := by omega
  have d3 : (i * ns.length + j) / ns.length = i := by
    rw [Nat.mul_comm, Nat.mul_add_div (by omega), Nat.div_eq_of_lt hj, Nat.add_zero]
  have d4 : (i * ns.length + j) % ns.length = j := by
    rw [Nat.mul_comm, Nat.mul_add_mod, Nat.mod_eq_of_lt hj]
  have d5 : (i * ns.length + j) * 2 % 2 = 0 := by omega
  have d6 : ((i * ns.length + j) * 2 + 1) % 2 = 1 := by omega
  unfold evs
  rw [e, List.range_succ, List.range_succ, List.append_assoc, List.map_append]
  congr 1
  show [evAt ks ns ((i * ns.length + j) * 2), evAt ks ns ((i * ns.length + j) * 2 + 1)] = _
  unfold evAt
  rw [d1, d2, d3, d4, d5, d6]
  rfl
theorem spot_back {nd a c s : Nat} (hc : c < nd) (hs : s < 2) : spot nd a c s / 2 / nd = a ∧ spot nd a c s / 2 % nd = c ∧ spot nd a c s % 2 = s := by
  unfold spot
  have d1 : ((a * nd + c) * 2 + s) / 2 = a * nd + c := by omega
  have d2 : ((a * nd + c) * 2 + s) % 2 = s := by omega
  rw [d1, d2]
  refine ⟨?_, ?_, rfl⟩
  · rw [Nat.mul_comm, Nat.mul_add_div (by omega), Nat.div_eq_of_lt hc, Nat.add_zero]
  · rw [Nat.mul_comm, Nat.mul_add_mod, Nat.mod_eq_of_lt hc]
theorem spot_lt {nk nd a c s : Nat} (ha : a < nk) (hc : c < nd) (hs : s < 2) : spot nd a c s < nk * nd * 2 := by
  have h1 : a * nd + nd ≤ nk * nd := by
    rw [← Nat.succ_mul]
    exact Nat.mul_le_mul_right nd ha
  unfold spot
  omega
theorem getD_idx {ks : List Str} {k : Str} (h : k ∈ ks) : ks.getD (ks.idxOf k) "" = k := by
  have hl := List.idxOf_lt_length_of_mem h
  rw [List.getD, List.getElem?_eq_getElem hl]
  exact List.getElem_idxOf hl
theorem idx_lt {ks : List Str} {k : Str} (h : k ∈ ks) : ks.idxOf k < ks.length := List.idxOf_lt_length_of_mem h
/-- the place of a right among all -/
def spotOf (ks ns : List Str) (k n : Str) (s : Int) : Nat := spot ns.length (ks.idxOf k) (ns.idxOf n) s.toNat
theorem evs_at {ks ns : List Str} {k n : Str} {s : Int} (hk : k ∈ ks) (hn : n ∈ ns) (h0 : 0 ≤ s) (h1 : s ≤ 1) : (evs ks ns (ks.length * ns.length * 2))[spotOf ks ns k n s]? = some (k, n, s) := by
  have hs : s.toNat < 2 := by omega
  have hl := spot_lt (idx_lt hk) (idx_lt hn) hs
  obtain ⟨b1, b2, b3⟩ := spot_back (a := ks.idxOf k) (idx_lt hn) hs
  unfold evs spotOf
  rw [List.getElem?_map, List.getElem?_range hl]
  show some (evAt ks ns _) = _
  unfold evAt
  rw [b1, b2, b3, getD_idx hk, getD_idx hn]
  congr 3
  omega
theorem evs_mem {ks ns : List Str} {t : T3} (h : t ∈ evs ks ns (ks.length * ns.length * 2)) : t.1 ∈ ks ∧ t.2.1 ∈ ns ∧ 0 ≤ t.2.2 ∧ t.2.2 ≤ 1 := by
  obtain ⟨p, hp, rfl⟩ := List.mem_map.mp h
  have hp := List.mem_range.mp hp
  have h0 : 0 < ns.length := by
    rcases Nat.eq_zero_or_pos ns.length with e | e
    · rw [e] at hp
      omega
    · exact e
  refine ⟨mem_getD ?_, mem_getD (Nat.mod_lt _ h0), ?_, ?_⟩
  · rw [Nat.div_lt_iff_lt_mul h0]
    omega
  · show (0 : Int) ≤ ((p % 2 : Nat) : Int)
    omega
  · show ((p % 2 : Nat) : Int) ≤ 1
    omega
/-- in all rights just if it is one -/
theorem evs_any {ks ns : List Str} {d0 d1 d2 : D} (hb : d2.isB = false) : ((evs ks ns (ks.length * ns.length * 2)).any fun t => eq3 t d0 d1 d2) = D.rt ns ks (.tup [d0, d1, d2]) := by
  rw [rt_3, Bool.eq_iff_iff, List.any_eq_true]
  constructor
  · rintro ⟨t, ht, he⟩
    obtain ⟨h1, h2, h3, h4⟩ := evs_mem ht
    unfold eq3 at he
    simp only [Bool.and_eq_true] at he
    obtain ⟨e0, e1, e2⟩ := he
    obtain rfl := isS_eq e0
    obtain rfl := isS_eq e1
    have e2 : d2 = .int t.2.2 := by
      cases d2 with
      | int j => exact congrArg D.int (eq_of_beq e2).symm
      | _ => cases e2
    subst e2
    show (amg t.1 ks && (amg t.2.1 ns && isBetw (.int t.2.2) 0 1)) = true
    rw [amg_iff.mpr h1, amg_iff.mpr h2]
    show isBetw (.int t.2.2) 0 1 = true
    unfold isBetw
    simp
    omega
  · intro h
    simp only [Bool.and_eq_true] at h
    obtain ⟨h0, h1, h2⟩ := h
    obtain ⟨x0, m0⟩ := am_str h0
    obtain ⟨x1, m1⟩ := am_str h1
    cases d2 with
    | int s =>
      have h3 : 0 ≤ s ∧ s ≤ 1 := by
        unfold isBetw at h2
        simpa using h2
      refine ⟨(d0.txt, d1.txt, s), List.mem_of_getElem? (evs_at m0 m1 h3.1 h3.2), ?_⟩
      rw [x0, x1]
      show ((d0.txt == d0.txt) && ((d1.txt == d1.txt) && (s == s))) = true
      simp
    | _ => cases h2
theorem rise_iff {l : List Nat} : (∀ j, j + 1 < l.length → l.getD j 0 < l.getD (j + 1) 0) ↔ l.Pairwise (· < ·) := by
  rw [List.pairwise_iff_getElem]
  constructor
  · intro h
    have key : ∀ m j (hj : j + m + 1 < l.length), l.getD j 0 < l.getD (j + m + 1) 0 := fun m => by
      induction m with
      | zero => exact fun j hj => h j hj
      | succ m ih => exact fun j hj => Nat.lt_trans (ih j (by omega)) (h (j + m + 1) hj)
    intro i j hi hj hij
    obtain ⟨m, rfl⟩ : ∃ m, j = i + m + 1 := ⟨j - i - 1, by omega⟩
    have := key m i hj
    rwa [List.getD, List.getD, List.getElem?_eq_getElem hi, List.getElem?_eq_getElem hj] at this
  · intro h j hj
    have := h j (j + 1) (by omega) hj (by omega)
    rwa [List.getD, List.getD, List.getElem?_eq_getElem (by omega : j < l.length), List.getElem?_eq_getElem hj]
theorem sorted_uniq : ∀ (a b : List Int), a.Pairwise (· < ·) → b.Pairwise (· < ·) → (∀ x, x ∈ a ↔ x ∈ b) → a = b
  | [], [], _, _, _ => rfl
  | [], y :: b, _, _, h => by
    have := (h y).mpr List.mem_cons_self
    cases this
  | x :: a, [], _, _, h => by
    have := (h x).mp List.mem_cons_self
    cases this
  | x :: a, y :: b, ha, hb, h => by
    obtain ⟨ha1, ha2⟩ := List.pairwise_cons.mp ha
    obtain ⟨hb1, hb2⟩ := List.pairwise_cons.mp hb
    have e : x = y := by
      rcases List.mem_cons.mp ((h x).mp List.mem_cons_self) with e | e
      · exact e
      · rcases List.mem_cons.mp ((h y).mpr List.mem_cons_self) with e2 | e2
        · exact e2.symm
        · have := hb1 x e
          have := ha1 y e2
          omega
    subst e
    rw [sorted_uniq a b ha2 hb2 fun z => ?_]
    constructor
    · intro hz
      rcases List.mem_cons.mp ((h z).mp (List.mem_cons_of_mem _ hz)) with e | e
      · have := ha1 z hz
        omega
      · exact e
    · intro hz
      rcases List.mem_cons.mp ((h z).mpr (List.mem_cons_of_mem _ hz)) with e | e
      · have := hb1 z hz
        omega
      · exact e
theorem bdec {α : Type} [BEq α] [LawfulBEq α] [DecidableEq α] (a b : α) : (a == b) = decide (a = b) := by
  rw [Bool.eq_iff_iff, beq_iff_eq, decide_eq_true_iff]
def p3 (t : T3) : PyData := .tuple [.str t.1, .str t.2.1, .int t.2.2]
theorem eqvL_ints : ∀ (a b : List Int), PyData.eqvAll (a.map PyData.int) (b.map PyData.int) = decide (a = b)
  | [], [] => by simp [PyData.eqvAll]
  | [], y :: b => by simp [PyData.eqvAll]
  | x :: a, [] => by simp [PyData.eqvAll]
  | x :: a, y :: b => by simp [PyData.eqvAll, PyData.eqv, eqvL_ints a b, bdec]
theorem eqv_ints (a b : List Int) : PyData.eqv (.list (a.map PyData.int)) (.list (b.map PyData.int)) = decide (a = b) := by
  rw [← eqvL_ints a b]
  simp [PyData.eqv]
theorem eqv_p3 (t u : T3) : PyData.eqv (p3 t) (p3 u) = decide (t = u) := by
  obtain ⟨a, b, c⟩ := t
  obtain ⟨a', b', c'⟩ := u
  simp [p3, PyData.eqv, PyData.eqvAll, bdec]
theorem p3s_lay : ∀ ts : List T3, (∀ t ∈ ts, PyData.strOk t.1 = true ∧ PyData.strOk t.2.1 = true) → PyData.canLayAll0 (ts.map p3) = true
  | [], _ => by simp [PyData.canLayAll0]
  | t :: r, h => by
    obtain ⟨h1, h2⟩ := h t List.mem_cons_self
    simp [PyData.canLayAll0, PyData.canLay0, p3, h1, h2, p3s_lay r fun x hx => h x (List.mem_cons_of_mem _ hx)]
theorem p3s_dep : ∀ ts : List T3, PyData.depthAll (ts.map p3) ≤ 2
  | [] => by simp [PyData.depthAll]
  | t :: r => by
    have h := p3s_dep r
    simp only [List.map_cons, PyData.depthAll, PyData.depth, p3]
    omega
theorem p3s_shaped (ts : List T3) (h : ∀ t ∈ ts, PyData.strOk t.1 = true ∧ PyData.strOk t.2.1 = true) : SeqAt.shaped (.list (ts.map p3)) = true := by
  have h1 := p3s_dep ts
  show (PyData.canLay0 (.list (ts.map p3)) && decide (PyData.depth (.list (ts.map p3)) ≤ 64)) = true
  rw [Bool.and_eq_true]
  exact ⟨by simp only [PyData.canLay0]; exact p3s_lay ts h, decide_eq_true (by simp only [PyData.depth]; omega)⟩
theorem p3_shaped (t : T3) (h : PyData.strOk t.1 = true ∧ PyData.strOk t.2.1 = true) : SeqAt.shaped (p3 t) = true := by
  show (PyData.canLay0 (p3 t) && decide (PyData.depth (p3 t) ≤ 64)) = true
  rw [Bool.and_eq_true]
  refine ⟨by simp [p3, PyData.canLay0, PyData.canLayAll0, h.1, h.2], decide_eq_true ?_⟩
  simp only [p3, PyData.depth, PyData.depthAll]
  omega
theorem tris_dp {K : PySem.W.Frag} {H : Hp} : ∀ {vs : List V} {ts : List T3}, Tris H vs ts → DpAll K H vs (ts.map p3)
  | _, _, .nil => .nil
  | _, _, .cons h t => .cons (.tup h.sq (.cons (.str _) (.cons (.str _) (.cons (.int _) .nil)))) (tris_dp t)
end Kx

set_option Elab.async false
set_option linter.all false
set_option maxRecDepth 100000
set_option maxHeartbeats 1000000
namespace Kx
open PySem PySem.Spec PyProof.Rows L2 Evl
theorem Tris.tp {H H' : Hp} (e : Tp H H') : ∀ {vs : List V} {ts : List T3}, Tris H vs ts → Tris H' vs ts
  | _, _, .nil => .nil
  | _, _, .cons h t => .cons (h.tp e) (t.tp e)
theorem evs_own {ks ns : List Str} (h1 : ks.Nodup) (h2 : ns.Nodup) {m : Nat} {k n : Str} {s : Int} (h : (evs ks ns (ks.length * ns.length * 2))[m]? = some (k, n, s)) : m = spotOf ks ns k n s := by
  have hm : m < ks.length * ns.length * 2 := by
    have := (List.getElem?_eq_some_iff.mp h).1
    unfold evs at this
    rwa [List.length_map, List.length_range] at this
  have h0 : 0 < ns.length := by
    rcases Nat.eq_zero_or_pos ns.length with e | e
    · rw [e] at hm
      omega
    · exact e
  unfold evs at h
  rw [List.getElem?_map, List.getElem?_range hm] at h
  have e : evAt ks ns m = (k, n, s) := Option.some.inj h
  unfold evAt at e
  injection e with e0 e
  injection e with e1 e2
  have a1 : m / 2 / ns.length < ks.length := by
    rw [Nat.div_lt_iff_lt_mul h0]
    omega
  unfold spotOf spot
  rw [← e0, ← e1, ← e2, idx_getD h1 a1, idx_getD h2 (Nat.mod_lt _ h0), Int.toNat_natCast]
  have := Nat.div_add_mod (m / 2) ns.length
  rw [Nat.mul_comm] at this
  omega
theorem bld_no {ds : List D} (h : ds.length ≠ 5) : D.bld (.tup ds) = false := by
  match ds, h with
  | [], _ | [_], _ | [_, _], _ | [_, _, _], _ | [_, _, _, _], _ => rfl
  | [_, _, _, _, _], h => exact absurd rfl h
  | _ :: _ :: _ :: _ :: _ :: _ :: _, _ => rfl
/-- the places of rights that are none too many -/
def D.spot3 (ks ns : List Str) (d : D) : Nat := match d with
  | .tup [.str k, .str n, .int s] => spotOf ks ns k n s
  | _ => 0
theorem lex_spot {ks ns : List Str} {d e : D} (hd : D.rt ns ks d = true) (he : D.rt ns ks e = true) : HT.lexLt (rkey ns ks d) (rkey ns ks e) = decide (d.spot3 ks ns < e.spot3 ks ns) := by
  obtain ⟨k, n, s, rfl, mk, mn, s0, s1⟩ := rt_shape hd
  obtain ⟨k', n', s', rfl, mk', mn', s0', s1'⟩ := rt_shape he
  obtain ⟨x, rfl⟩ : ∃ x : Nat, s = (x : Int) := ⟨s.toNat, by omega⟩
  obtain ⟨y, rfl⟩ : ∃ y : Nat, s' = (y : Int) := ⟨s'.toNat, by omega⟩
  exact spot_lex (idx_lt mn) (idx_lt mn') (by omega) (by omega)
theorem asc_rise {ks ns : List Str} {rs : List D} (h : ∀ d ∈ rs, D.rt ns ks d = true) : ascT (rs.map (rkey ns ks)) = true ↔ (rs.map fun d => (d.spot3 ks ns : Int)).Pairwise (· < ·) := by
  have e : ∀ j (hj : j < rs.length), (rs.map (rkey ns ks)).getD j [] = rkey ns ks rs[j] := fun j hj => by simp [List.getD, List.getElem?_eq_getElem hj]
  have e2 : ∀ j (hj : j < rs.length), (rs.map (D.spot3 ks ns)).getD j 0 = rs[j].spot3 ks ns := fun j hj => by simp [List.getD, List.getElem?_eq_getElem hj]
  have e3 : (rs.map fun d => (d.spot3 ks ns : Int)).Pairwise (· < ·) ↔ (rs.map (D.spot3 ks ns)).Pairwise (· < ·) := by
    rw [List.pairwise_map, List.pairwise_map]
    constructor
    · exact fun z => z.imp fun hh => by omega
    · exact fun z => z.imp fun hh => by omega
  rw [e3, ← rise_iff, ascT_iff, List.length_map, List.length_map]
  constructor
  · intro g j hj
    have := g j hj
    rw [e j (by omega), e (j + 1) hj, lex_spot (h _ (List.getElem_mem _)) (h _ (List.getElem_mem _))] at this
    rw [e2 j (by omega), e2 (j + 1) hj]
    exact of_decide_eq_true this
  · intro g j hj
    have := g j hj
    rw [e2 j (by omega), e2 (j + 1) hj] at this
    rw [e j (by omega), e (j + 1) hj, lex_spot (h _ (List.getElem_mem _)) (h _ (List.getElem_mem _))]
    exact decide_eq_true this
section
variable {P : Program} {w : World} {K : PySem.W.Frag} {mg : Str → Option Value} {base : Heap} (T : Txt K mg)
end
end Kx

set_option Elab.async false
set_option linter.all false
set_option maxRecDepth 100000
set_option maxHeartbeats 1000000
namespace Kx
open PySem PySem.Spec PyProof.Rows L2 Evl
/-! ## sizes and depths of what is bent -/
mutual
def D.Zs (m : Nat) : D → Prop
  | .str s => s.length ≤ m
  | .tup ds => ds.length ≤ m ∧ Zss m ds
  | .lst ds => ds.length ≤ m ∧ Zss m ds
  | _ => True
def Zss (m : Nat) : List D → Prop
  | [] => True
  | d :: r => d.Zs m ∧ Zss m r
end
theorem zss_iff {m : Nat} : ∀ {ds : List D}, Zss m ds ↔ ∀ d ∈ ds, d.Zs m
  | [] => ⟨fun _ d h => by simp at h, fun _ => by unfold Zss; trivial⟩
  | x :: r => by
    unfold Zss
    rw [zss_iff (ds := r)]
    exact ⟨fun ⟨a, b⟩ d hd => (List.mem_cons.mp hd).elim (fun e => e ▸ a) (b d), fun h => ⟨h x List.mem_cons_self, fun d hd => h d (List.mem_cons_of_mem _ hd)⟩⟩
mutual
theorem zs_up {m n : Nat} (h : m ≤ n) : ∀ d : D, d.Zs m → d.Zs n
  | .str s, z => by unfold D.Zs at z ⊢; omega
  | .tup ds, z => by
    unfold D.Zs at z ⊢
    exact ⟨by omega, zss_up h ds z.2⟩
  | .lst ds, z => by
    unfold D.Zs at z ⊢
    exact ⟨by omega, zss_up h ds z.2⟩
  | .non, _ | .bl _, _ | .int _, _ | .dic, _ => by unfold D.Zs; trivial
theorem zss_up {m n : Nat} (h : m ≤ n) : ∀ ds : List D, Zss m ds → Zss n ds
  | [], _ => by unfold Zss; trivial
  | d :: r, z => by
    unfold Zss at z ⊢
    exact ⟨zs_up h d z.1, zss_up h r z.2⟩
end
mutual
theorem zs_sz {m : Nat} (h : m ≤ 1000) : ∀ d : D, d.Zs m → d.Sz
  | .str s, z => by unfold D.Zs at z; unfold D.Sz; omega
  | .tup ds, z => by
    unfold D.Zs at z
    unfold D.Sz
    exact ⟨by omega, zss_sz h ds z.2⟩
  | .lst ds, z => by
    unfold D.Zs at z
    unfold D.Sz
    exact ⟨by omega, zss_sz h ds z.2⟩
  | .non, _ | .bl _, _ | .int _, _ | .dic, _ => by unfold D.Sz; trivial
theorem zss_sz {m : Nat} (h : m ≤ 1000) : ∀ ds : List D, Zss m ds → Szs ds
  | [], _ => by unfold Szs; trivial
  | d :: r, z => by
    unfold Zss at z
    unfold Szs
    exact ⟨zs_sz h d z.1, zss_sz h r z.2⟩
end
/-- tuples in tuples, at most n deep -/
def D.dp : Nat → D → Prop
  | 0, d => d.ty ≠ "tuple"
  | n + 1, d => ∀ ds, d = .tup ds → ∀ x ∈ ds, D.dp n x
theorem dp_leaf {d : D} (h : d.ty ≠ "tuple") : ∀ n, D.dp n d
  | 0 => h
  | n + 1 => fun ds e => absurd (by rw [e]; rfl) h
theorem dp_up : ∀ {n : Nat} {d : D}, D.dp n d → D.dp (n + 1) d
  | 0, d, h => dp_leaf h 1
  | n + 1, d, h => fun ds e x hx => dp_up (h ds e x hx)
/-! ## a heap without the state -/
structure Ap (H : Hp) (sd sg : Addr) : Prop where
  d : ∃ o, H sd = some o
  g : ∃ o, H sg = some o
theorem Sta.ap {H : Hp} {sd sg sc : Addr} {b : Nat} (s : Sta H sd sg sc b) : Ap H sd sg := let ⟨_, _, _, _, w, _, _⟩ := s; ⟨⟨_, w.d⟩, ⟨_, w.g⟩⟩
theorem Ap.up {H H' : Hp} {sd sg : Addr} (a : Ap H sd sg) (e : Ex H H') : Ap H' sd sg := let ⟨o, h⟩ := a.d; let ⟨u, g⟩ := a.g; ⟨⟨o, e _ _ h⟩, ⟨u, e _ _ g⟩⟩
theorem Ap.ne {H : Hp} {sd sg p : Addr} (a : Ap H sd sg) (h : H p = none) : p ≠ sd ∧ p ≠ sg := by
  obtain ⟨⟨o, h1⟩, ⟨u, h2⟩⟩ := a
  exact ⟨fun e => (by rw [e, h1] at h; cases h), fun e => (by rw [e, h2] at h; cases h)⟩
theorem hid_at {H : Hp} {sd sg p : Addr} {o : HO} (h : H p = some o) (n1 : p ≠ sd) (n2 : p ≠ sg) : hid H sd sg p = some o := by
  unfold hid
  rw [if_neg fun z => z.elim n1 n2]
  exact h
theorem hid_none {H : Hp} {sd sg p : Addr} (h : H p = none) : hid H sd sg p = none := by
  unfold hid
  split
  · rfl
  · exact h
/-- what te gives stands for d, apart from the state -/
def EvH (te : TE) (σ : L2.St) (H : Hp) (sd sg : Addr) (d : D) : Prop := ∀ H1, Ex H H1 → ∀ Q : VK, (∀ v H2, Ex H1 H2 → Rep (hid H2 sd sg) v d → Q v H2) → te σ H1 Q
section
variable {K : PySem.W.Frag} {σ : L2.St} {H H' : Hp} {sd sg : Addr} {ta tb te : TE} {v : V} {d : D} {ds es : List D}
theorem rep_ex (r : Rep (hid H sd sg) v d) (e : Ex H H') : Rep (hid H' sd sg) v d := r.up (hid_mono (.of e))
theorem reps_ex {vs : List V} (r : Reps (hid H sd sg) vs ds) (e : Ex H H') : Reps (hid H' sd sg) vs ds := r.up (hid_mono (.of e))
theorem hid_ev (h : Ev te σ H v) (r : Rep (hid H sd sg) v d) : EvH te σ H sd sg d := fun H1 e Q q => h H1 e _ fun H2 e2 => q v H2 e2 (rep_ex r (e.trans e2))
/-- a new tuple -/
theorem newT_hid {xs : List V} {Q : VK} (ap : Ap H sd sg) (r : Reps (hid H sd sg) xs ds) (q : ∀ v H2, Ex H H2 → Rep (hid H2 sd sg) v (.tup ds) → Q v H2) : newT xs H Q := fun p o hp ho => by
  obtain ⟨n1, n2⟩ := ap.ne hp
  exact q (.ref p) _ (Ex.new hp) (.tup ⟨o, ho, hid_at upd_same n1 n2⟩ (reps_ex r (Ex.new hp)))
theorem eh_slice {tlo thi : TO} {lo hi : Option Int} (ap : Ap H sd sg) (h : EvH te σ H sd sg (.tup ds)) (h1 : EvO tlo σ H lo) (h2 : EvO thi σ H hi) : EvH (tSl rSlF te tlo thi) σ H sd sg (.tup (cutX ds lo hi)) := fun H1 e Q q =>
  h H1 e _ fun v H2 e2 r => h1 H2 (e.trans e2) _ fun H3 e3 => h2 H3 ((e.trans e2).trans e3) _ fun H4 e4 => by
    obtain ⟨a, vs, rfl, ha, hs⟩ := (rep_ex r (e3.trans e4)).tupD
    have E := (e2.trans e3).trans e4
    refine ⟨a, vs, rfl, ha.up hid_ex, fun hw => ?_, fun _ => newT_hid (ap.up (e.trans E)) (hs.cut lo hi) fun v H5 e5 r5 => q v H5 (E.trans e5) r5⟩
    have ew : cutX ds lo hi = ds := by
      unfold cutX
      rw [← hs.length, hw.1, hw.2, List.drop_zero, Nat.sub_zero, hs.length, List.take_length]
    rw [ew] at q
    exact q _ H4 E (.tup ha hs)
/-- x + y, both at hand -/
theorem cat_hid {v u : V} {Q : VK} (ap : Ap H sd sg) (r1 : Rep (hid H sd sg) v (.tup ds)) (r2 : Rep (hid H sd sg) u (.tup es)) (hz : ds.length + es.length ≤ 100000) (q : ∀ z H2, Ex H H2 → Rep (hid H2 sd sg) z (.tup (ds ++ es)) → Q z H2) : rCatF v u H Q := by
  obtain ⟨a, xs, rfl, h1, s1⟩ := r1.tupD
  obtain ⟨b, ys, rfl, h2, s2⟩ := r2.tupD
  refine ⟨a, b, xs, ys, rfl, rfl, h1.up hid_ex, h2.up hid_ex, by rw [s1.length, s2.length]; exact sz_of hz, fun e0 => ?_, fun _ e0 => ?_, fun _ _ => newT_hid ap (s1.append s2) q⟩
  · subst e0
    cases s1
    exact q _ H (Ex.refl _) (.tup h2 s2)
  · subst e0
    cases s2
    rw [List.append_nil] at q
    exact q _ H (Ex.refl _) (.tup h1 s1)
theorem eh_cat (ap : Ap H sd sg) (ha : EvH ta σ H sd sg (.tup ds)) (hb : EvH tb σ H sd sg (.tup es)) (hz : ds.length + es.length ≤ 100000) : EvH (tOp rCatF ta tb) σ H sd sg (.tup (ds ++ es)) := fun H1 e Q q =>
  ha H1 e _ fun v H2 e2 r => hb H2 (e.trans e2) _ fun u H3 e3 r2 => cat_hid (ap.up ((e.trans e2).trans e3)) (rep_ex r e3) r2 hz fun z H4 e4 r4 => q z H4 ((e2.trans e3).trans e4) r4
theorem eh_one (ap : Ap H sd sg) (ha : EvH ta σ H sd sg d) : EvH (tTupF (tCons ta tNil)) σ H sd sg (.tup [d]) := fun H1 e Q q =>
  ha H1 e _ fun v H2 e2 r => ⟨by show 1 ≤ sizeLine; rw [sizeLine_eq]; decide, newT_hid (ap.up (e.trans e2)) (.cons r .nil) fun z H3 e3 r3 => q z H3 (e2.trans e3) r3⟩
theorem eh_two {d2 : D} (ap : Ap H sd sg) (ha : EvH ta σ H sd sg d) (hb : EvH tb σ H sd sg d2) : EvH (tTupF (tCons ta (tCons tb tNil))) σ H sd sg (.tup [d, d2]) := fun H1 e Q q =>
  ha H1 e _ fun v H2 e2 r => hb H2 (e.trans e2) _ fun u H3 e3 r2 => ⟨by show 2 ≤ sizeLine; rw [sizeLine_eq]; decide, newT_hid (ap.up ((e.trans e2).trans e3)) (.cons (rep_ex r e3) (.cons r2 .nil)) fun z H4 e4 r4 => q z H4 ((e2.trans e3).trans e4) r4⟩
theorem eh_ix {a : Addr} {vs : List V} {j : Nat} {k : Int} (h : Ev ta σ H (.ref a)) (hk : Ev tb σ H (.int k)) (ha : TupS (hid H sd sg) a vs) (hs : Reps (hid H sd sg) vs ds) (e : k = (j : Int)) (hj : ds[j]? = some d) : EvH (tOp (rIxT K) ta tb) σ H sd sg d := by
  obtain ⟨v, hv, r⟩ := hs.getD hj
  exact hid_ev (ev_ixTi h hk (ha.up hid_ex) e hv) r
end
theorem cut_drop {α : Type} (xs : List α) {i : Nat} (h : i ≤ xs.length) : cutX xs (some (i : Int)) none = xs.drop i := by
  unfold cutX
  rw [HT.sIx_nat, HT.sIx_none, Nat.min_eq_left h]
  exact List.take_of_length_le (by rw [List.length_drop]; exact Nat.le_refl _)
def spBent (n : Nat) : Sp := fun vs H Q _ => ∃ (sd sg sc : Addr) (b m : Nat) (v : V) (d : D), vs = [.ref sd, v] ∧ Rep (hid H sd sg) v d ∧ D.dp n d ∧ 17 ≤ m ∧ m ≤ 1000 ∧ d.Zs m ∧ Sta H sd sg sc (b + 3 * (n + 1)) ∧ ∀ (v' : V) (d' : D) (H' : Hp), Rep (hid H' sd sg) v' d' → D.dp (n + 1) d' → d'.Zs (3 * m + 3) → Sta H' sd sg sc b → ExS sd sg H H' → Q v' H'
section
variable {P : Program} {w : World} {K : PySem.W.Frag} {mg : Str → Option Value} {base : Heap} (T : Txt K mg)
end
end Kx

set_option Elab.async false
set_option linter.all false
set_option maxRecDepth 100000
set_option maxHeartbeats 1000000
namespace Kx
open PySem PySem.Spec PyProof.Rows L2 Evl
def ab (i : Int) : Int := if i < 0 then -i else i
def spBegun (K : PySem.W.Frag) : Sp := fun vs H Q _ => ∃ (l : Addr) (cells : List Int), vs = [.ref l] ∧ SqL K H l (iv cells) ∧ cells.length ≤ 1000 ∧ ∀ (sd sg sc : Addr) (gs : List Int) (H' : Hp), StW H' sd sg sc gs (cells.map ab) 0 0 → Ex H H' → H sd = none → H sg = none → Q (.ref sd) H'
theorem pair_go {k : V} {tv : TE} {r : List (TE × TE)} {σ : L2.St} {H : Hp} {Q : List (V × V) → Hp → Prop} (h : tv σ H fun y H2 => tPairs r σ H2 fun ps H3 => Q ((k, y) :: ps) H3) : tPairs ((tC k, tv) :: r) σ H Q := h
section
variable {P : Program} {w : World} {K : PySem.W.Frag} {mg : Str → Option Value} {base : Heap} (T : Txt K mg)
theorem ok_begun : FnOk P w K mg base CX0 1 T.a_law_begun T.d_law_begun ["script"] (spBegun K) := by
  refine T.F_law_begun.ok sc_law_begun (fun vs H Q E h => ?_) (fun cdv A outer s H vs Q E hr h => ?_)
  · obtain ⟨l, cells, rfl, _⟩ := h
    rfl
  · obtain ⟨l, cells, rfl, hl, hz, q⟩ := h
    have nd := sc_law_begun.nd
    refine ⟨_, pss_cons (ps_setLc (i := 1) (own := [("cell", 2)]) (g := gName 2) (by rfl) nd rfl rfl (by rfl) (pi_list (pv 0)) (blkOk_by (N := ["script", "great", "cell"]) (sc := defScope s_law_begun) (by decide +kernel))
        (fun _ _ _ _ _ => pg_name (i := 2) nd rfl (.inl rfl)) (fun _ _ _ _ _ => pts_one (pt_cmpR op_ge (pe_callB call_abs (by rfl) T.z_abs bo_abs (pa_cons (pv 2) pa_nil)) (pe_op op_pow pe_int pe_int) (by rfl)))
        (fun _ _ _ _ _ => pe_op op_sub (pe_callB call_abs (by rfl) T.z_abs bo_abs (pa_cons (pv 2) pa_nil)) (pe_op op_pow pe_int pe_int)))
      (pss_one (ps_ret (pe_disp (pps_cons pe_str (pv 1) (pps_cons pe_str (pe_lc (own := [("cell", 2)]) (g := gName 2) (tt := tYes) (by rfl) nd (pi_list (pv 0)) (blkOk_by (N := ["script", "great", "cell"]) (sc := defScope s_law_begun) (by decide +kernel))
        (fun _ _ _ _ _ => pg_name (i := 2) nd rfl (.inl rfl)) (fun _ _ _ _ _ => pts_nil) (fun _ _ _ _ _ => pe_callB call_abs (by rfl) T.z_abs bo_abs (pa_cons (pv 2) pa_nil))) (pps_cons pe_str pe_int (pps_cons pe_str pe_int pps_nil)))) (by decide +kernel) rfl (by simp) (by simp)))), ?_⟩
    have il : (iv cells).length = cells.length := List.length_map _
    have at_ : ∀ {i : Nat} {x : V}, (iv cells)[i]? = some x → x = .int (cells.getD i 0) := fun {i x} h => by
      unfold iv at h
      rw [List.getElem?_map] at h
      cases e : cells[i]? with
      | none =>
        rw [e] at h
        cases h
      | some c =>
        rw [e] at h
        rw [List.getD, e]
        exact (Option.some.inj h).symm
    have ev_ab : ∀ {σ : L2.St} {H : Hp} {i : Int}, σ[2]? = some (some (.int i)) → Ev (tCB (fun xs H Q => ∃ i, xs = [V.int i] ∧ Q (.int (if i < 0 then -i else i)) H) (tCons (tVar 2) tNil)) σ H (.int (ab i)) := fun {σ H i} h =>
      ev_cb (ea_cons (ev_var h) ea_nil) fun H1 e Q q => ⟨i, rfl, q H1 (Ex.refl _)⟩
    have ev_p : ∀ {σ : L2.St} {H : Hp}, Ev (tOp (rI CPow fun i j => .int (i ^ j.toNat)) (tC (.int 10)) (tC (.int 18))) σ H (.int ((10 : Int) ^ (18 : Int).toNat)) := fun {σ H} => ev_op ev_c ev_c (rv_I ⟨by decide, by decide, by decide⟩)
    have L1 := Evl.el_lcL (K := K) (σ := [some (.ref l), none, none]) (H := H) (tl := tVar 0) (j := 2) (vs := [2]) (xs := iv cells)
      (t := tTest (tOp (rI0 fun i j => .bl (decide (j ≤ i))) (tCB (fun xs H Q => ∃ i, xs = [V.int i] ∧ Q (.int (if i < 0 then -i else i)) H) (tCons (tVar 2) tNil)) (tOp (rI CPow fun i j => .int (i ^ j.toNat)) (tC (.int 10)) (tC (.int 18)))))
      (te := tOp (rI0 fun i j => .int (i - j)) (tCB (fun xs H Q => ∃ i, xs = [V.int i] ∧ Q (.int (if i < 0 then -i else i)) H) (tCons (tVar 2) tNil)) (tOp (rI CPow fun i j => .int (i ^ j.toNat)) (tC (.int 10)) (tC (.int 18))))
      (fun i => decide ((10 : Int) ^ (18 : Int).toNat ≤ ab (cells.getD i 0))) (fun i => .int (ab (cells.getD i 0) - (10 : Int) ^ (18 : Int).toNat)) (ev_var rfl) hl (by omega) (fun _ => rfl) (fun i x H1 e1 hx => by
        rw [at_ hx]
        exact et_test (ev_op (ev_ab rfl) ev_p rv_I0)) (fun i x H1 e1 hx _ => by
        rw [at_ hx]
        exact ev_op (ev_ab rfl) ev_p rv_I0)
    rw [given_iv] at L1
    refine q_asgL (σ := [some (.ref l), none, none]) L1 fun sg H1 nsg e1 h1 => fun sd nsd => ⟨.ref sg, rfl, ?_⟩
    have e2 : Ex H1 (upd H1 sd (.dK [])) := Ex.new nsd
    have h2 : (upd H1 sd (.dK [])) sd = some (.dK []) := upd_same
    generalize upd H1 sd (.dK []) = H2 at e2 h2
    have L2 : EvL (tLc (iList K (tVar 0)) (gName 2) tYes (tCB (fun xs H Q => ∃ i, xs = [V.int i] ∧ Q (.int (if i < 0 then -i else i)) H) (tCons (tVar 2) tNil)) [2]) [some (.ref l), some (.ref sg), none] H2 (iv (cells.map ab)) := el_lcL (K := K) (i := 2) (xs := iv cells) (ev_var rfl) (ex_l (e1.trans e2) hl) (by unfold iv; simp) (by omega) fun j x y hx hy => by
      rw [at_ hx]
      unfold iv at hx hy
      rw [List.getElem?_map, List.getElem?_map] at hy
      cases e : cells[j]? with
      | none =>
        rw [e] at hy
        cases hy
      | some c =>
        rw [e] at hy
        obtain rfl := Option.some.inj hy
        rw [List.getD, e]
        exact ev_ab rfl
    refine pair_go ?_
    refine L2 H2 (Ex.refl _) _ fun sc H3 nsc e3 h3 => ⟨e3 _ _ h2, stK sg sc 0 0, rfl, by show 4 ≤ 15; decide, ?_⟩
    · have em : mergeK [] (stK sg sc 0 0) = stK sg sc 0 0 := by
        simp [mergeK, putK, stK, nGR, nGC, nGT, nCR, nCT, nRT]
      rw [em]
      have n1 : sg ≠ sd := ne_of_none h1 nsd
      have n2 : sc ≠ sd := fun z => by
        rw [z] at nsc
        rw [h2] at nsc
        cases nsc
      have n3 : sc ≠ sg := fun z => by
        rw [z] at nsc
        have := e2 _ _ h1
        rw [nsc] at this
        cases this
      refine q sd sg sc _ _ ⟨upd_same, (upd_ne n1).trans (e3 _ _ (e2 _ _ h1)), (upd_ne n2).trans h3, n3⟩ (fun a o h => ?_) (fresh_back e1 nsd) nsg
      exact (upd_ne (ne_of_none h (fresh_back e1 nsd))).trans (((e1.trans e2).trans e3) _ _ h)
end
end Kx

set_option Elab.async false
set_option linter.all false
set_option maxRecDepth 100000
set_option maxHeartbeats 400000
namespace Kx
open PySem PySem.Spec PyProof.Rows L2 Evl
/-! ## chains of three, tuples of so many -/
def tChain3 (r1 r2 r3 : R2) (ta tb tc td : TE) : TE := fun σ H Q => ta σ H fun x H1 => tb σ H1 fun y H2 => r1 x y H2 fun z H3 => ∃ k, z = .bl k ∧
  (if k = true then tc σ H3 fun x2 H4 => r2 y x2 H4 fun z2 H5 => ∃ k2, z2 = .bl k2 ∧ (if k2 = true then td σ H5 fun x3 H6 => r3 x2 x3 H6 Q else Q (.bl false) H5) else Q (.bl false) H3)
section
variable {X : Cx} {a b c d : Expr} {pos : Pos} {ta tb tc td : TE}
theorem pe_chain3 {o1 o2 o3 : CmpOp} {r1 r2 r3 : R2} (h1 : OpR X (compareOp o1) r1) (h2 : OpR X (compareOp o2) r2) (h3 : OpR X (compareOp o3) r3) (ha : PE X a ta) (hb : PE X b tb) (hc : PE X c tc) (hd : PE X d td)
    (hm : lastMarks [o1, o2, o3] [b, c, d] = false := by with_unfolding_all rfl) : PE X (.Compare a [o1, o2, o3] [b, c, d] pos) (tChain3 r1 r2 r3 ta tb tc td) := by
  refine ⟨fun pins s σ H Q I h => ?_⟩
  refine Compare_chain (thn (ha.run pins s σ H _ I h) fun v s1 ⟨x, H1, I1, rx, q1⟩ => chain_link (thn (hb.run pins s1 σ H1 _ I1 q1) fun u s2 ⟨y, H2, I2, ry, q2⟩ =>
    thn (h1 pins s2 σ H2 x y v u _ I2 rx ry q2) fun _ s3 ⟨_, H3, I3, rz, k, e, q3⟩ => ?_)) hm
  subst e
  cases rz
  refine wpAny_truthy_bool ?_
  cases k with
  | false => exact ite_ff ⟨.bl false, H3, I3, rfl, q3⟩
  | true =>
    refine ite_tt (chain_link (thn (hc.run pins s3 σ H3 _ I3 q3) fun t s4 ⟨x2, H4, I4, r4, q4⟩ => thn (h2 pins s4 σ H4 y x2 u t _ I4 ry r4 q4) fun _ s5 ⟨_, H5, I5, rz5, k2, e5, q5⟩ => ?_))
    subst e5
    cases rz5
    refine wpAny_truthy_bool ?_
    cases k2 with
    | false => exact ite_ff ⟨.bl false, H5, I5, rfl, q5⟩
    | true => exact ite_tt (chain_last (thn (hd.run pins s5 σ H5 _ I5 q5) fun p s6 ⟨x3, H6, I6, r6, q6⟩ => h3 pins s6 σ H6 x2 x3 t p Q I6 r4 r6 q6))
end
section
variable {K : PySem.W.Frag} {σ : L2.St} {H : Hp} {ta tb tc td : TE}
theorem ev_chain3 {i j k l : Int} (ha : Ev ta σ H (.int i)) (hb : Ev tb σ H (.int j)) (hc : Ev tc σ H (.int k)) (hd : Ev td σ H (.int l)) {r1 r2 r3 : R2} {p q r : Bool} (h1 : RV r1 (.int i) (.int j) H (.bl p)) (h2 : RV r2 (.int j) (.int k) H (.bl q)) (h3 : RV r3 (.int k) (.int l) H (.bl r)) :
    Ev (tChain3 r1 r2 r3 ta tb tc td) σ H (.bl (p && (q && r))) := fun H1 e Q z => ha H1 e _ fun H2 e2 => hb H2 (e.trans e2) _ fun H3 e3 => h1 H3 ((e.trans e2).trans e3) _ fun H4 e4 => ⟨p, rfl, by
      have E := ((e.trans e2).trans e3).trans e4
      cases p with
      | false => exact z H4 ((e2.trans e3).trans e4)
      | true => exact hc H4 E _ fun H5 e5 => h2 H5 (E.trans e5) _ fun H6 e6 => ⟨q, rfl, by
          cases q with
          | false => exact z H6 ((((e2.trans e3).trans e4).trans e5).trans e6)
          | true => exact hd H6 ((E.trans e5).trans e6) _ fun H7 e7 => h3 H7 (((E.trans e5).trans e6).trans e7) _ fun H8 e8 => z H8 ((((((e2.trans e3).trans e4).trans e5).trans e6).trans e7).trans e8)⟩⟩
end
section
variable {K : PySem.W.Frag} {σ : L2.St} {H : Hp} {te : TE} {tr : TA} {z : V} {d : D} {vs : List V} {E : XK} {ok : OkF}
/-- a call whose first argument is something new -/
theorem ev_spR (h : EvR te σ H d) (hr : EvA tr σ H vs) (k : ∀ v H1, Ex H H1 → Rep H1 v d → ok (v :: vs) H1 z) : Ev (tCall (spX ok) [] E (tCons te tr)) σ H z := fun H1 e Q q => h H1 e _ fun v H2 e2 r => hr H2 (e.trans e2) _ fun H3 e3 => by
  show spX ok ((v :: vs) ++ []) H3 Q E
  rw [List.append_nil]
  exact ⟨z, k v H3 ((e.trans e2).trans e3) (r.up e3), fun H4 e4 => q H4 ((e2.trans e3).trans e4)⟩
end
theorem isTup_len {d : D} {lo hi : Int} (h : isTup d lo hi = true) : ∃ ds, d = .tup ds ∧ lo ≤ (ds.length : Int) ∧ (ds.length : Int) ≤ hi := by
  cases d with
  | tup ds =>
    unfold isTup at h
    obtain ⟨h1, h2⟩ := (Bool.and_eq_true _ _).mp h
    exact ⟨ds, rfl, of_decide_eq_true h1, of_decide_eq_true h2⟩
  | _ => exact absurd h (by unfold isTup; exact Bool.false_ne_true)
theorem tup2 {d : D} (h : isTup d 2 2 = true) : ∃ a b, d = .tup [a, b] := by
  obtain ⟨ds, rfl, h1, h2⟩ := isTup_len h
  match ds, (show ds.length = 2 by omega) with
  | [a, b], _ => exact ⟨a, b, rfl⟩
theorem tup3 {d : D} (h : isTup d 3 3 = true) : ∃ a b c, d = .tup [a, b, c] := by
  obtain ⟨ds, rfl, h1, h2⟩ := isTup_len h
  match ds, (show ds.length = 3 by omega) with
  | [a, b, c], _ => exact ⟨a, b, c, rfl⟩
theorem tup4 {d : D} (h : isTup d 4 4 = true) : ∃ a b c e, d = .tup [a, b, c, e] := by
  obtain ⟨ds, rfl, h1, h2⟩ := isTup_len h
  match ds, (show ds.length = 4 by omega) with
  | [a, b, c, e], _ => exact ⟨a, b, c, e, rfl⟩
theorem tup6 {d : D} (h : isTup d 6 6 = true) : ∃ a b c e f g, d = .tup [a, b, c, e, f, g] := by
  obtain ⟨ds, rfl, h1, h2⟩ := isTup_len h
  match ds, (show ds.length = 6 by omega) with
  | [a, b, c, e, f, g], _ => exact ⟨a, b, c, e, f, g, rfl⟩
theorem Rep.t3 {H : Hp} {v : V} {d0 d1 d2 : D} (r : Rep H v (.tup [d0, d1, d2])) : ∃ a v0 v1 v2, v = .ref a ∧ TupS H a [v0, v1, v2] ∧ Rep H v0 d0 ∧ Rep H v1 d1 ∧ Rep H v2 d2 := by
  obtain ⟨a, vs, rfl, ha, hs⟩ := r.tupD
  cases hs with
  | cons r0 hs => cases hs with
    | cons r1 hs => cases hs with
      | cons r2 hs =>
        cases hs
        exact ⟨a, _, _, _, rfl, ha, r0, r1, r2⟩
theorem Rep.t2 {H : Hp} {v : V} {d0 d1 : D} (r : Rep H v (.tup [d0, d1])) : ∃ a v0 v1, v = .ref a ∧ TupS H a [v0, v1] ∧ Rep H v0 d0 ∧ Rep H v1 d1 := by
  obtain ⟨a, vs, rfl, ha, hs⟩ := r.tupD
  cases hs with
  | cons r0 hs => cases hs with
    | cons r1 hs =>
      cases hs
      exact ⟨a, _, _, rfl, ha, r0, r1⟩
theorem Rep.t4 {H : Hp} {v : V} {d0 d1 d2 d3 : D} (r : Rep H v (.tup [d0, d1, d2, d3])) : ∃ a v0 v1 v2 v3, v = .ref a ∧ TupS H a [v0, v1, v2, v3] ∧ Rep H v0 d0 ∧ Rep H v1 d1 ∧ Rep H v2 d2 ∧ Rep H v3 d3 := by
  obtain ⟨a, vs, rfl, ha, hs⟩ := r.tupD
  cases hs with
  | cons r0 hs => cases hs with
    | cons r1 hs => cases hs with
      | cons r2 hs => cases hs with
        | cons r3 hs =>
          cases hs
          exact ⟨a, _, _, _, _, rfl, ha, r0, r1, r2, r3⟩
theorem Rep.t6 {H : Hp} {v : V} {d0 d1 d2 d3 d4 d5 : D} (r : Rep H v (.tup [d0, d1, d2, d3, d4, d5])) : ∃ a v0 v1 v2 v3 v4 v5, v = .ref a ∧ TupS H a [v0, v1, v2, v3, v4, v5] ∧ Rep H v0 d0 ∧ Rep H v1 d1 ∧ Rep H v2 d2 ∧ Rep H v3 d3 ∧ Rep H v4 d4 ∧ Rep H v5 d5 := by
  obtain ⟨a, vs, rfl, ha, hs⟩ := r.tupD
  cases hs with
  | cons r0 hs => cases hs with
    | cons r1 hs => cases hs with
      | cons r2 hs => cases hs with
        | cons r3 hs => cases hs with
          | cons r4 hs => cases hs with
            | cons r5 hs =>
              cases hs
              exact ⟨a, _, _, _, _, _, _, rfl, ha, r0, r1, r2, r3, r4, r5⟩
/-! ## wholes -/
def D.num : D → Int
  | .int i => i
  | _ => 0
theorem betw_int {d : D} {lo hi : Int} (h : isBetw d lo hi = true) : d = .int d.num ∧ lo ≤ d.num ∧ d.num ≤ hi := by
  cases d with
  | int i =>
    unfold isBetw at h
    obtain ⟨h1, h2⟩ := (Bool.and_eq_true _ _).mp h
    exact ⟨rfl, of_decide_eq_true h1, of_decide_eq_true h2⟩
  | _ => exact absurd h (by unfold isBetw; exact Bool.false_ne_true)
def okWholes : OkF := fun vs H z => ∃ v ds lo hi, vs = [v, .int lo, .int hi] ∧ Rep H v (.tup ds) ∧ ds.length ≤ 1000 ∧ z = .bl (ds.all fun d => isBetw d lo hi)
theorem stb_wholes : Stb okWholes := fun _ _ _ _ e ⟨v, ds, lo, hi, h1, h2, h3, h4⟩ => ⟨v, ds, lo, hi, h1, h2.up e, h3, h4⟩
def D.room : D → Bool
  | .tup [n, lo, hi, f] => (n.nm && !decide (n.txt = "out")) && ([lo, hi, f].all (fun d => isBetw d (-40) 40) && (decide (lo.num ≤ f.num) && (decide (f.num ≤ hi.num) && decide (hi.num ≤ lo.num + 8))))
  | _ => false
theorem room_4 (n lo hi f : D) : D.room (.tup [n, lo, hi, f]) = ((n.nm && !decide (n.txt = "out")) && ([lo, hi, f].all (fun d => isBetw d (-40) 40) && (decide (lo.num ≤ f.num) && (decide (f.num ≤ hi.num) && decide (hi.num ≤ lo.num + 8))))) := rfl
def okRoom : OkF := fun vs H z => ∃ v d, vs = [v] ∧ Rep H v d ∧ d.Sz ∧ z = .bl d.room
theorem stb_room : Stb okRoom := fun _ _ _ _ e ⟨v, d, h1, h2, h3, h4⟩ => ⟨v, d, h1, h2.up e, h3, h4⟩
def D.rooms : D → Bool
  | .tup ds => isTup (.tup ds) 1 3 && (ds.all D.room && decide ((ds.map fun x => x.fst.txt).Nodup))
  | _ => false
theorem rooms_tup (ds : List D) : D.rooms (.tup ds) = (isTup (.tup ds) 1 3 && (ds.all D.room && decide ((ds.map fun x => x.fst.txt).Nodup))) := rfl
def okRooms : OkF := fun vs H z => ∃ v d, vs = [v] ∧ Rep H v d ∧ d.Sz ∧ z = .bl d.rooms
theorem stb_rooms : Stb okRooms := fun _ _ _ _ e ⟨v, d, h1, h2, h3, h4⟩ => ⟨v, d, h1, h2.up e, h3, h4⟩
theorem rv_isN {H : Hp} {x : V} : RV (fun x y H Q => y = .non ∧ Q (.bl (decide (x = .non))) H) x .non H (.bl (decide (x = .non))) := fun H1 e Q q => ⟨rfl, q H1 (Ex.refl H1)⟩
theorem txt_eq (a b : Str) : decide (V.str a = V.str b) = decide (a = b) := decide_eq_decide.mpr ⟨V.str.inj, fun h => h ▸ rfl⟩
section
variable {P : Program} {w : World} {K : PySem.W.Frag} {mg : Str → Option Value} {base : Heap} (T : Txt K mg)
theorem ok_are_wholes : FnOk P w K mg base CX0 2 T.a_are_wholes T.d_are_wholes ["row", "low", "high"] (spX okWholes) := by
  refine T.F_are_wholes.ok sc_are_wholes (fun vs H Q E h => ?_) (fun cdv A outer s H vs Q E hr h => ?_)
  · obtain ⟨z, ⟨v, d, lo, hi, rfl, _⟩, _⟩ := h
    rfl
  · obtain ⟨z, ⟨v, ds, lo, hi, rfl, hv, hz, rfl⟩, q⟩ := h
    have nd := sc_are_wholes.nd
    refine ⟨_, (pss_one (ps_ret (pe_callB (cr_all rfl) (by rfl) T.z_all bo_all (pa_cons (pe_lc (own := [("item", 3)]) (g := gName 3) (tt := tYes) (by rfl) nd (pi_tup (pv 0)) (blkOk_by (N := ["row", "low", "high", "item"]) (sc := defScope s_are_wholes) (by decide +kernel)) (fun _ _ _ _ _ => (pg_name (i := 3) nd rfl (.inl rfl))) (fun _ _ _ _ _ => pts_nil) (fun _ _ _ _ _ => (pe_call (ok_is_between T) (hr.mono (by decide)) (by rfl) T.g_is_between T.F_is_between.kp (b_is_between T) .nil pass0 (pa_cons (pv 3) (pa_cons (pv 1) (pa_cons (pv 2) pa_nil)))))) pa_nil)))), ?_⟩
    obtain ⟨a, vs, rfl, ha, hs⟩ := hv.tupD
    exact s_ret (ev_allT (ev_var rfl) ha hs hz fun j x d hd r => ev_sp stb_betw (ea_cons (ev_var rfl) (ea_cons (ev_var rfl) (ea_cons (ev_var rfl) ea_nil))) ⟨x, d, lo, hi, rfl, r, rfl⟩) q
theorem ok_is_room : FnOk P w K mg base CX0 3 T.a_is_room T.d_is_room ["value"] (spX okRoom) := by
  refine T.F_is_room.ok sc_is_room (fun vs H Q E h => ?_) (fun cdv A outer s H vs Q E hr h => ?_)
  · obtain ⟨z, ⟨v, d, rfl, _⟩, _⟩ := h
    rfl
  · obtain ⟨z, ⟨v, d, rfl, hv, hz, rfl⟩, q⟩ := h
    have nd := sc_is_room.nd
    refine ⟨_, (pss_cons (ps_if (PW.pt (pw_or (pt_not (pt_val (pe_call (ok_is_tuple T) (hr.mono (by decide)) (by rfl) T.g_is_tuple T.F_is_tuple.kp (b_is_tuple T) .nil pass0 (pa_cons (pv 0) (pa_cons pe_int (pa_cons pe_int pa_nil)))))) (pw_or (pt_not (pt_val (pe_call (ok_is_name T) (hr.mono (by decide)) (by rfl) T.g_is_name T.F_is_name.kp (b_is_name T) .nil pass0 (pa_cons (pe_ix (r := rIxT K) ix_tup (pv 0) pe_int (fun _ _ => rfl)) pa_nil)))) (pw_or (pt_cmpR op_eq (pe_ix (r := rIxT K) ix_tup (pv 0) pe_int (fun _ _ => rfl)) (pe_glob (v := .str "out") (by rfl) T.g_OUT ⟨T.tO, rfl⟩) (nomark _)) (pw_or1 (pt_not (pt_val (pe_call (ok_are_wholes T) (hr.mono (by decide)) (by rfl) T.g_are_wholes T.F_are_wholes.kp (b_are_wholes T) .nil pass0 (pa_cons (pe_slice sl_tupF (pv 0) (po_some pe_int) po_none) (pa_cons (pe_un un_neg pe_int) (pa_cons pe_int pa_nil))))))))))) (pss_one (ps_ret pe_bl)) pss_nil)
      (pss_cons (ps_asg (pe_slice sl_tupF (pv 0) (po_some pe_int) po_none) (pg_tup rfl (pgs_cons (pg_name (i := 1) nd rfl (.inl rfl)) (pgs_cons (pg_name (i := 2) nd rfl (.inl rfl)) (pgs_cons (pg_name (i := 3) nd rfl (.inl rfl)) pgs_nil)))))
      (pss_one (ps_ret (pe_chain3 op_le op_le op_le (pv 1) (pv 3) (pv 2) (pe_op op_add (pv 1) pe_int)))))), ?_⟩
    cases ht : isTup d 4 4 with
    | false =>
      refine s_if (b := true || false) (et_or (a := true) (b := false) (et_is (et_not (et_B (ev_sp stb_tup (ea_cons (ev_var rfl) (ea_cons ev_c (ea_cons ev_c ea_nil))) ⟨_, d, 4, 4, rfl, hv, rfl⟩))) (by rw [ht]; rfl)) fun h => by cases h) (fun hb H1 e => ?_) (fun hb => by cases hb)
      refine s_ret (v := .bl false) ev_c fun H2 e2 => ?_
      have z : d.room = false := by
        cases d with
        | tup ds =>
          match ds, ht with
          | [_, _, _, _], h => exact absurd h (by simp [isTup])
          | [], _ | [_], _ | [_, _], _ | [_, _, _], _ | _ :: _ :: _ :: _ :: _ :: _, _ => rfl
        | _ => rfl
      rw [z] at q
      exact q H2 (e.trans e2)
    | true =>
      obtain ⟨n, lo, hi, f, rfl⟩ := tup4 ht
      obtain ⟨a, v0, v1, v2, v3, rfl, ha, r0, r1, r2, r3⟩ := hv.t4
      have z0 := hz.tup.2.get (j := 0) rfl
      refine s_if (b := !((n.nm && !decide (n.txt = "out")) && [lo, hi, f].all (fun d => isBetw d (-40) 40))) (et_is (et_or (a := false) (et_is (et_not (et_B (ev_sp stb_tup (ea_cons (ev_var rfl) (ea_cons ev_c (ea_cons ev_c ea_nil))) ⟨_, _, 4, 4, rfl, hv, rfl⟩))) (by rw [ht]; rfl)) fun _ =>
        et_or (et_not (et_B (ev_sp stb_name (ea_cons (ev_ixT (j := 0) (ev_var rfl) ha rfl) ea_nil) ⟨v0, n, rfl, r0, szD_of z0, rfl⟩))) fun hn => et_or (a := decide (n.txt = "out")) (by
          rw [nm_str (not_f hn)] at r0
          obtain rfl := r0.strD
          exact et_test (ev_is (ev_op (ev_ixT (j := 0) (ev_var rfl) ha rfl) ev_c (rv_eq rfl)) (congrArg V.bl (txt_eq _ _)))) fun _ => et_not (et_B (show Ev _ _ _ (.bl ([lo, hi, f].all fun d => isBetw d (-40) 40)) from ?_))) ?_) (fun hb H1 e => ?_) (fun hb H1 e => ?_)
      · have sl := er_slice (er_of (ev_var rfl) hv) (eo_some ev_c) eo_none (te := tVar 0) (tlo := tPart (tC (.int 1))) (thi := tNoPart) (σ := [some (.ref a), none, none, none])
        rw [cut1] at sl
        exact ev_spR (ok := okWholes) sl (ea_cons (ev_un ev_c ru_neg) (ea_cons ev_c ea_nil)) fun v H1 e r => ⟨v, [lo, hi, f], -40, 40, rfl, r, by simp, rfl⟩
      · cases n.nm <;> cases decide (n.txt = "out") <;> rfl
      · refine s_ret (v := .bl false) ev_c fun H2 e2 => ?_
        rw [room_4, ← Bool.and_assoc, not_t hb] at q
        exact q H2 (e.trans e2)
      · rw [room_4, ← Bool.and_assoc, not_f hb] at q
        have hw := (Bool.and_eq_true _ _).mp (not_f hb) |>.2
        obtain ⟨w1, _⟩ := betw_int (List.all_eq_true.mp hw lo (by simp))
        obtain ⟨w2, _⟩ := betw_int (List.all_eq_true.mp hw hi (by simp))
        obtain ⟨w3, _⟩ := betw_int (List.all_eq_true.mp hw f (by simp))
        have sl := er_slice (er_of (ev_var rfl) (hv.up e)) (eo_some ev_c) eo_none (te := tVar 0) (tlo := tPart (tC (.int 1))) (thi := tNoPart) (σ := [some (.ref a), none, none, none])
        rw [cut1] at sl
        refine s_unp sl rfl fun vs H2 e2 rs => ?_
        cases rs with
        | cons p1 rs => cases rs with
          | cons p2 rs => cases rs with
            | cons p3 rs =>
              cases rs
              rw [w1] at p1
              rw [w2] at p2
              rw [w3] at p3
              obtain rfl := p1.intD
              obtain rfl := p2.intD
              obtain rfl := p3.intD
              refine ⟨_, _, rfl, _, _, rfl, _, _, rfl, rfl, ?_⟩
              show tRet _ _ [some (.ref a), some (.int lo.num), some (.int hi.num), some (.int f.num)] H2
              exact s_ret (ev_chain3 (ev_var rfl) (ev_var rfl) (ev_var rfl) (ev_op (ev_var rfl) ev_c rv_I0) rv_I0 rv_I0 rv_I0) fun H3 e3 => q H3 ((e.trans e2).trans e3)
end
end Kx

set_option Elab.async false
set_option linter.all false
set_option maxRecDepth 100000
set_option maxHeartbeats 400000
namespace Kx
open PySem PySem.Spec PyProof.Rows L2 Evl
/-! ## rooms, leaks, heaters -/
theorem room_shape {d : D} (h : d.room = true) : ∃ n lo hi f, d = .tup [.str n, .int lo, .int hi, .int f] ∧ nmS n = true ∧ n ≠ "out" ∧ -40 ≤ lo ∧ lo ≤ f ∧ f ≤ hi ∧ hi ≤ lo + 8 ∧ hi ≤ 40 := by
  match d, h with
  | .tup [n, lo, hi, f], h =>
    rw [room_4] at h
    simp only [Bool.and_eq_true, List.all_cons, List.all_nil, Bool.not_eq_true', decide_eq_false_iff_not, decide_eq_true_eq] at h
    obtain ⟨⟨h1, h2⟩, ⟨h3, h4, h5, _⟩, h6, h7, h8⟩ := h
    obtain ⟨e1, a1, b1⟩ := betw_int h3
    obtain ⟨e2, a2, b2⟩ := betw_int h4
    obtain ⟨e3, a3, b3⟩ := betw_int h5
    have e0 := nm_str h1
    refine ⟨n.txt, lo.num, hi.num, f.num, ?_, by rw [e0] at h1; exact h1, h2, a1, h6, h7, h8, b2⟩
    rw [← e0, ← e1, ← e2, ← e3]
def isN : D → Bool
  | .non => true
  | _ => false
def D.leak (ns : List Str) (whole : Int) : D → Bool
  | .tup [a, b, s, n] => (amD a ns && isBetw s 1 whole) && ((amD b ns || b.isS "out") && (!decide (a.txt = b.txt) && (isN n || n.nm)))
  | _ => false
theorem leak_4 (ns : List Str) (whole : Int) (a b s n : D) : D.leak ns whole (.tup [a, b, s, n]) = ((amD a ns && isBetw s 1 whole) && ((amD b ns || b.isS "out") && (!decide (a.txt = b.txt) && (isN n || n.nm)))) := rfl
def okLeak : OkF := fun vs H z => ∃ v d a ns m, vs = [v, .ref a, .int m] ∧ Rep H v d ∧ d.Sz ∧ Txs H a ns ∧ z = .bl (d.leak ns m)
theorem stb_leak : Stb okLeak := fun _ _ _ _ e ⟨v, d, a, ns, m, h1, h2, h3, h4, h5⟩ => ⟨v, d, a, ns, m, h1, h2.up e, h3, h4.up e, h5⟩
def D.heat (ns : List Str) : D → Bool
  | .tup [n, a, g] => (n.nm && amD a ns) && (isBetw g (-60) 60 && !decide (g.num = 0))
  | _ => false
theorem heat_3 (ns : List Str) (n a g : D) : D.heat ns (.tup [n, a, g]) = ((n.nm && amD a ns) && (isBetw g (-60) 60 && !decide (g.num = 0))) := rfl
def okHeat : OkF := fun vs H z => ∃ v d a ns, vs = [v, .ref a] ∧ Rep H v d ∧ d.Sz ∧ Txs H a ns ∧ z = .bl (d.heat ns)
theorem stb_heat : Stb okHeat := fun _ _ _ _ e ⟨v, d, a, ns, h1, h2, h3, h4, h5⟩ => ⟨v, d, a, ns, h1, h2.up e, h3, h4.up e, h5⟩
def D.heats (ns : List Str) : D → Bool
  | .tup ds => isTup (.tup ds) 0 3 && (ds.all (D.heat ns) && decide ((ds.map fun x => x.fst.txt).Nodup))
  | _ => false
theorem heats_tup (ns : List Str) (ds : List D) : D.heats ns (.tup ds) = (isTup (.tup ds) 0 3 && (ds.all (D.heat ns) && decide ((ds.map fun x => x.fst.txt).Nodup))) := rfl
def okHeats : OkF := fun vs H z => ∃ v d a ns, vs = [v, .ref a] ∧ Rep H v d ∧ d.Sz ∧ Txs H a ns ∧ z = .bl (d.heats ns)
theorem stb_heats : Stb okHeats := fun _ _ _ _ e ⟨v, d, a, ns, h1, h2, h3, h4, h5⟩ => ⟨v, d, a, ns, h1, h2.up e, h3, h4.up e, h5⟩
theorem heat_shape {ns : List Str} {d : D} (h : d.heat ns = true) : ∃ n a g, d = .tup [.str n, .str a, .int g] ∧ nmS n = true ∧ a ∈ ns ∧ -60 ≤ g ∧ g ≤ 60 ∧ g ≠ 0 := by
  match d, h with
  | .tup [n, a, g], h =>
    rw [heat_3] at h
    simp only [Bool.and_eq_true, Bool.not_eq_true', decide_eq_false_iff_not] at h
    obtain ⟨⟨h1, h2⟩, h3, h4⟩ := h
    obtain ⟨e3, a3, b3⟩ := betw_int h3
    obtain ⟨e2, m2⟩ := am_str h2
    have e0 := nm_str h1
    refine ⟨n.txt, a.txt, g.num, ?_, by rw [e0] at h1; exact h1, m2, a3, b3, h4⟩
    rw [← e0, ← e2, ← e3]
theorem leak_shape {ns : List Str} {m : Int} {d : D} (h : d.leak ns m = true) : ∃ a b s n, d = .tup [.str a, .str b, .int s, n] ∧ a ∈ ns ∧ (b ∈ ns ∨ b = "out") ∧ a ≠ b ∧ 1 ≤ s ∧ s ≤ m ∧ (n = .non ∨ ∃ x, n = .str x ∧ nmS x = true) := by
  match d, h with
  | .tup [a, b, s, n], h =>
    rw [leak_4] at h
    simp only [Bool.and_eq_true, Bool.or_eq_true, Bool.not_eq_true', decide_eq_false_iff_not] at h
    obtain ⟨⟨h1, h2⟩, h3, h4, h5⟩ := h
    obtain ⟨e2, a2, b2⟩ := betw_int h2
    obtain ⟨e1, m1⟩ := am_str h1
    have e3 : b = .str b.txt ∧ (b.txt ∈ ns ∨ b.txt = "out") := by
      rcases h3 with h3 | h3
      · exact ⟨(am_str h3).1, .inl (am_str h3).2⟩
      · rw [isS_eq h3]
        exact ⟨rfl, .inr rfl⟩
    refine ⟨a.txt, b.txt, s.num, n, ?_, m1, e3.2, h4, a2, b2, ?_⟩
    · rw [← e1, ← e3.1, ← e2]
    · rcases h5 with h5 | h5
      · cases n with
        | non => exact .inl rfl
        | _ => exact absurd h5 (by unfold isN; exact Bool.false_ne_true)
      · exact .inr ⟨n.txt, nm_str h5, by rw [nm_str h5] at h5; exact h5⟩
section
variable {P : Program} {w : World} {K : PySem.W.Frag} {mg : Str → Option Value} {base : Heap} (T : Txt K mg)
theorem ok_are_rooms : FnOk P w K mg base CX0 4 T.a_are_rooms T.d_are_rooms ["value"] (spX okRooms) := by
  refine T.F_are_rooms.ok sc_are_rooms (fun vs H Q E h => ?_) (fun cdv A outer s H vs Q E hr h => ?_)
  · obtain ⟨z, ⟨v, d, rfl, _⟩, _⟩ := h
    rfl
  · obtain ⟨z, ⟨v, d, rfl, hv, hz, rfl⟩, q⟩ := h
    have nd := sc_are_rooms.nd
    refine ⟨_, (pss_cons (ps_if (PW.pt (pw_or (pt_not (pt_val (pe_call (ok_is_tuple T) (hr.mono (by decide)) (by rfl) T.g_is_tuple T.F_is_tuple.kp (b_is_tuple T) .nil pass0 (pa_cons (pv 0) (pa_cons pe_int (pa_cons pe_int pa_nil)))))) (pw_or1 (pt_not (pt_val (pe_callB (cr_all rfl) (by rfl) T.z_all bo_all (pa_cons (pe_lc (own := [("row", 1)]) (g := gName 1) (tt := tYes) (by rfl) nd (pi_tup (pv 0)) (blkOk_by (N := ["value", "row"]) (sc := defScope s_are_rooms) (by decide +kernel)) (fun _ _ _ _ _ => (pg_name (i := 1) nd rfl (.inl rfl))) (fun _ _ _ _ _ => pts_nil) (fun _ _ _ _ _ => (pe_call (ok_is_room T) (hr.mono (by decide)) (by rfl) T.g_is_room T.F_is_room.kp (b_is_room T) .nil pass0 (pa_cons (pv 1) pa_nil)))) pa_nil))))))) (pss_one (ps_ret pe_bl)) pss_nil)
      (pss_one (ps_ret (pe_call (ok_are_unlike T) (hr.mono (by decide)) (by rfl) T.g_are_unlike T.F_are_unlike.kp (b_are_unlike T) .nil pass0 (pa_cons (pe_lc (own := [("row", 1)]) (g := gName 1) (tt := tYes) (by rfl) nd (pi_tup (pv 0)) (blkOk_by (N := ["value", "row"]) (sc := defScope s_are_rooms) (by decide +kernel)) (fun _ _ _ _ _ => (pg_name (i := 1) nd rfl (.inl rfl))) (fun _ _ _ _ _ => pts_nil) (fun _ _ _ _ _ => (pe_ix (r := rIxT K) ix_tup (pv 1) pe_int (fun _ _ => rfl)))) pa_nil))))), ?_⟩
    cases ht : isTup d 1 3 with
    | false =>
      refine s_ifX (b := true || false) (et_or (a := true) (b := false) (et_is (et_not (et_B (ev_sp stb_tup (ea_cons (ev_var rfl) (ea_cons ev_c (ea_cons ev_c ea_nil))) ⟨_, d, 1, 3, rfl, hv, rfl⟩))) (by rw [ht]; rfl)) fun h => by cases h) (fun hb H1 e => ?_) (fun hb => by cases hb)
      refine s_ret (v := .bl false) ev_c fun H2 e2 => ?_
      have z : d.rooms = false := by
        cases d with
        | tup ds => rw [rooms_tup, ht]; rfl
        | _ => rfl
      rw [z] at q
      exact q H2 (e.trans e2)
    | true =>
      obtain ⟨ds, rfl, _⟩ := isTup_len ht
      obtain ⟨a, vs, rfl, ha, hs⟩ := hv.tupD
      have hl := hz.tup.1
      rw [rooms_tup, ht, Bool.true_and] at q
      refine s_ifX (b := !ds.all D.room) ?_ (fun hb H1 e => ?_) (fun hb H1 e => ?_)
      · refine et_is (et_or (a := false) (b := !ds.all D.room) (et_is (et_not (et_B (ev_sp stb_tup (ea_cons (ev_var rfl) (ea_cons ev_c (ea_cons ev_c ea_nil))) ⟨_, _, 1, 3, rfl, hv, rfl⟩))) (by rw [ht]; rfl)) fun _ => ?_) (Bool.false_or _)
        exact et_not (et_B (ev_allT (ev_var rfl) ha hs hl fun j x d hd r => ev_sp stb_room (ea_cons (ev_var rfl) ea_nil) ⟨x, d, rfl, r, hz.tup.2.get hd, rfl⟩))
      · rw [not_t hb] at q
        exact s_ret (v := .bl false) ev_c fun H2 e2 => q H2 (e.trans e2)
      · have hall := not_f hb
        rw [hall, Bool.true_and] at q
        refine s_ret (v := .bl (decide ((ds.map fun x => x.fst.txt).Nodup))) (ev_spL (xs := sv (ds.map fun x => x.fst.txt)) (el_lcT (ev_var rfl) (ha.up e).sq ?_ (by rw [hs.length]; omega) fun j x y hx hy => ?_) fun p H2 hp e2 => ⟨p, _, rfl, .inl hp, by rw [List.length_map]; exact hl, rfl⟩) fun H2 e2 => q H2 (e.trans e2)
        · unfold sv
          rw [List.length_map, List.length_map, hs.length]
        · obtain ⟨d, hd, r⟩ := hs.get hx
          obtain ⟨n, _, _, _, rfl, _⟩ := room_shape (List.all_eq_true.mp hall d (List.mem_of_getElem? hd))
          unfold sv at hy
          rw [List.getElem?_map, List.getElem?_map, hd] at hy
          have ey : y = .str n := (Option.some.inj hy).symm
          subst ey
          obtain ⟨b, ws, rfl, hb2, hs2⟩ := r.tupD
          cases hs2 with
          | cons r0 _ =>
            obtain rfl := r0.strD
            exact ev_ixT (j := 0) (ev_var rfl) (hb2.up e) rfl
theorem ok_is_heater : FnOk P w K mg base CX0 2 T.a_is_heater T.d_is_heater ["value", "names"] (spX okHeat) := by
  refine T.F_is_heater.ok sc_is_heater (fun vs H Q E h => ?_) (fun cdv A outer s H vs Q E hr h => ?_)
  · obtain ⟨z, ⟨v, d, a, ns, rfl, _⟩, _⟩ := h
    rfl
  · obtain ⟨z, ⟨v, d, na, ns, rfl, hv, hz, hns, rfl⟩, q⟩ := h
    have nd := sc_is_heater.nd
    refine ⟨_, (pss_cons (ps_if (PW.pt (pw_or (pt_not (pt_val (pe_call (ok_is_tuple T) (hr.mono (by decide)) (by rfl) T.g_is_tuple T.F_is_tuple.kp (b_is_tuple T) .nil pass0 (pa_cons (pv 0) (pa_cons pe_int (pa_cons pe_int pa_nil)))))) (pw_or (pt_not (pt_val (pe_call (ok_is_name T) (hr.mono (by decide)) (by rfl) T.g_is_name T.F_is_name.kp (b_is_name T) .nil pass0 (pa_cons (pe_ix (r := rIxT K) ix_tup (pv 0) pe_int (fun _ _ => rfl)) pa_nil)))) (pw_or1 (pt_not (pt_val (pe_call (ok_is_among T) (hr.mono (by decide)) (by rfl) T.g_is_among T.F_is_among.kp (b_is_among T) .nil pass0 (pa_cons (pe_ix (r := rIxT K) ix_tup (pv 0) pe_int (fun _ _ => rfl)) (pa_cons (pv 1) pa_nil))))))))) (pss_one (ps_ret pe_bl)) pss_nil)
      (pss_one (ps_ret (pe_and (pe_call (ok_is_between T) (hr.mono (by decide)) (by rfl) T.g_is_between T.F_is_between.kp (b_is_between T) .nil pass0 (pa_cons (pe_ix (r := rIxT K) ix_tup (pv 0) pe_int (fun _ _ => rfl)) (pa_cons (pe_un un_neg pe_int) (pa_cons pe_int pa_nil)))) (pe_one (pe_cmpR op_ne (pe_ix (r := rIxT K) ix_tup (pv 0) pe_int (fun _ _ => rfl)) pe_int (nomark _))))))), ?_⟩
    cases ht : isTup d 3 3 with
    | false =>
      refine s_if (b := true || false) (et_or (a := true) (b := false) (et_is (et_not (et_B (ev_sp stb_tup (ea_cons (ev_var rfl) (ea_cons ev_c (ea_cons ev_c ea_nil))) ⟨_, d, 3, 3, rfl, hv, rfl⟩))) (by rw [ht]; rfl)) fun h => by cases h) (fun hb H1 e => ?_) (fun hb => by cases hb)
      refine s_ret (v := .bl false) ev_c fun H2 e2 => ?_
      have z : d.heat ns = false := by
        cases d with
        | tup ds =>
          match ds, ht with
          | [_, _, _], h => exact absurd h (by simp [isTup])
          | [], _ | [_], _ | [_, _], _ | _ :: _ :: _ :: _ :: _, _ => rfl
        | _ => rfl
      rw [z] at q
      exact q H2 (e.trans e2)
    | true =>
      obtain ⟨n, ar, g, rfl⟩ := tup3 ht
      obtain ⟨a, v0, v1, v2, rfl, ha, r0, r1, r2⟩ := hv.t3
      have z0 := hz.tup.2.get (j := 0) rfl
      rw [heat_3] at q
      refine s_if (b := !(n.nm && amD ar ns)) (et_is (et_or (a := false) (et_is (et_not (et_B (ev_sp stb_tup (ea_cons (ev_var rfl) (ea_cons ev_c (ea_cons ev_c ea_nil))) ⟨_, _, 3, 3, rfl, hv, rfl⟩))) (by rw [ht]; rfl)) fun _ =>
        et_or (et_not (et_B (ev_sp stb_name (ea_cons (ev_ixT (j := 0) (ev_var rfl) ha rfl) ea_nil) ⟨v0, n, rfl, r0, szD_of z0, rfl⟩))) fun _ => et_not (et_B (ev_sp stb_among (ea_cons (ev_ixT (j := 1) (ev_var rfl) ha rfl) (ea_cons (ev_var rfl) ea_nil)) ⟨v1, ar, na, ns, rfl, r1, hns, rfl⟩))) ?_) (fun hb H1 e => ?_) (fun hb H1 e => ?_)
      · cases n.nm <;> cases amD ar ns <;> rfl
      · rw [not_t hb] at q
        exact s_ret (v := .bl false) ev_c fun H2 e2 => q H2 (e.trans e2)
      · rw [not_f hb, Bool.true_and] at q
        refine s_ret (ev_andV (ev_sp stb_betw (ea_cons (ev_ixT (j := 2) (ev_var rfl) (ha.up e) rfl) (ea_cons (ev_un ev_c ru_neg) (ea_cons ev_c ea_nil))) ⟨v2, g, -60, 60, rfl, r2.up e, rfl⟩) fun hg => ?_) fun H2 e2 => q H2 (e.trans e2)
        rw [(betw_int hg).1] at r2
        obtain rfl := r2.intD
        exact ev_is (ev_op (ev_ixT (j := 2) (ev_var rfl) (ha.up e) rfl) ev_c (rv_ne rfl)) (congrArg (fun b => V.bl (!b)) (decide_eq_decide.mpr ⟨V.int.inj, fun h => h ▸ rfl⟩))
theorem ok_are_heaters : FnOk P w K mg base CX0 3 T.a_are_heaters T.d_are_heaters ["value", "names"] (spX okHeats) := by
  refine T.F_are_heaters.ok sc_are_heaters (fun vs H Q E h => ?_) (fun cdv A outer s H vs Q E hr h => ?_)
  · obtain ⟨z, ⟨v, d, a, ns, rfl, _⟩, _⟩ := h
    rfl
  · obtain ⟨z, ⟨v, d, na, ns, rfl, hv, hz, hns, rfl⟩, q⟩ := h
    have nd := sc_are_heaters.nd
    refine ⟨_, (pss_cons (ps_if (PW.pt (pw_or (pt_not (pt_val (pe_call (ok_is_tuple T) (hr.mono (by decide)) (by rfl) T.g_is_tuple T.F_is_tuple.kp (b_is_tuple T) .nil pass0 (pa_cons (pv 0) (pa_cons pe_int (pa_cons pe_int pa_nil)))))) (pw_or1 (pt_not (pt_val (pe_callB (cr_all rfl) (by rfl) T.z_all bo_all (pa_cons (pe_lc (own := [("row", 2)]) (g := gName 2) (tt := tYes) (by rfl) nd (pi_tup (pv 0)) (blkOk_by (N := ["value", "names", "row"]) (sc := defScope s_are_heaters) (by decide +kernel)) (fun _ _ _ _ _ => (pg_name (i := 2) nd rfl (.inl rfl))) (fun _ _ _ _ _ => pts_nil) (fun _ _ _ _ _ => (pe_call (ok_is_heater T) (hr.mono (by decide)) (by rfl) T.g_is_heater T.F_is_heater.kp (b_is_heater T) .nil pass0 (pa_cons (pv 2) (pa_cons (pv 1) pa_nil))))) pa_nil))))))) (pss_one (ps_ret pe_bl)) pss_nil)
      (pss_one (ps_ret (pe_call (ok_are_unlike T) (hr.mono (by decide)) (by rfl) T.g_are_unlike T.F_are_unlike.kp (b_are_unlike T) .nil pass0 (pa_cons (pe_lc (own := [("row", 2)]) (g := gName 2) (tt := tYes) (by rfl) nd (pi_tup (pv 0)) (blkOk_by (N := ["value", "names", "row"]) (sc := defScope s_are_heaters) (by decide +kernel)) (fun _ _ _ _ _ => (pg_name (i := 2) nd rfl (.inl rfl))) (fun _ _ _ _ _ => pts_nil) (fun _ _ _ _ _ => (pe_ix (r := rIxT K) ix_tup (pv 2) pe_int (fun _ _ => rfl)))) pa_nil))))), ?_⟩
    cases ht : isTup d 0 3 with
    | false =>
      refine s_ifX (b := true || false) (et_or (a := true) (b := false) (et_is (et_not (et_B (ev_sp stb_tup (ea_cons (ev_var rfl) (ea_cons ev_c (ea_cons ev_c ea_nil))) ⟨_, d, 0, 3, rfl, hv, rfl⟩))) (by rw [ht]; rfl)) fun h => by cases h) (fun hb H1 e => ?_) (fun hb => by cases hb)
      refine s_ret (v := .bl false) ev_c fun H2 e2 => ?_
      have z : d.heats ns = false := by
        cases d with
        | tup ds => rw [heats_tup, ht]; rfl
        | _ => rfl
      rw [z] at q
      exact q H2 (e.trans e2)
    | true =>
      obtain ⟨ds, rfl, _⟩ := isTup_len ht
      obtain ⟨a, vs, rfl, ha, hs⟩ := hv.tupD
      have hl := hz.tup.1
      rw [heats_tup, ht, Bool.true_and] at q
      refine s_ifX (b := !ds.all (D.heat ns)) ?_ (fun hb H1 e => ?_) (fun hb H1 e => ?_)
      · refine et_is (et_or (a := false) (b := !ds.all (D.heat ns)) (et_is (et_not (et_B (ev_sp stb_tup (ea_cons (ev_var rfl) (ea_cons ev_c (ea_cons ev_c ea_nil))) ⟨_, _, 0, 3, rfl, hv, rfl⟩))) (by rw [ht]; rfl)) fun _ => ?_) (Bool.false_or _)
        exact et_not (et_B (ev_allT (ev_var rfl) ha hs hl fun j x d hd r => ev_sp stb_heat (ea_cons (ev_var rfl) (ea_cons (ev_var rfl) ea_nil)) ⟨x, d, na, ns, rfl, r, hz.tup.2.get hd, hns, rfl⟩))
      · rw [not_t hb] at q
        exact s_ret (v := .bl false) ev_c fun H2 e2 => q H2 (e.trans e2)
      · have hall := not_f hb
        rw [hall, Bool.true_and] at q
        refine s_ret (v := .bl (decide ((ds.map fun x => x.fst.txt).Nodup))) (ev_spL (xs := sv (ds.map fun x => x.fst.txt)) (el_lcT (ev_var rfl) (ha.up e).sq ?_ (by rw [hs.length]; omega) fun j x y hx hy => ?_) fun p H2 hp e2 => ⟨p, _, rfl, .inl hp, by rw [List.length_map]; exact hl, rfl⟩) fun H2 e2 => q H2 (e.trans e2)
        · unfold sv
          rw [List.length_map, List.length_map, hs.length]
        · obtain ⟨d, hd, r⟩ := hs.get hx
          obtain ⟨n, _, _, rfl, _⟩ := heat_shape (List.all_eq_true.mp hall d (List.mem_of_getElem? hd))
          unfold sv at hy
          rw [List.getElem?_map, List.getElem?_map, hd] at hy
          have ey : y = .str n := (Option.some.inj hy).symm
          subst ey
          obtain ⟨b, ws, rfl, hb2, hs2⟩ := r.tupD
          cases hs2 with
          | cons r0 _ =>
            obtain rfl := r0.strD
            exact ev_ixT (j := 0) (ev_var rfl) (hb2.up e) rfl
theorem ok_is_leak : FnOk P w K mg base CX0 2 T.a_is_leak T.d_is_leak ["value", "names", "whole"] (spX okLeak) := by
  refine T.F_is_leak.ok sc_is_leak (fun vs H Q E h => ?_) (fun cdv A outer s H vs Q E hr h => ?_)
  · obtain ⟨z, ⟨v, d, a, ns, m, rfl, _⟩, _⟩ := h
    rfl
  · obtain ⟨z, ⟨v, d, na, ns, m, rfl, hv, hz, hns, rfl⟩, q⟩ := h
    have nd := sc_is_leak.nd
    refine ⟨_, (pss_cons (ps_if (PW.pt (pw_or (pt_not (pt_val (pe_call (ok_is_tuple T) (hr.mono (by decide)) (by rfl) T.g_is_tuple T.F_is_tuple.kp (b_is_tuple T) .nil pass0 (pa_cons (pv 0) (pa_cons pe_int (pa_cons pe_int pa_nil)))))) (pw_or (pt_not (pt_val (pe_call (ok_is_among T) (hr.mono (by decide)) (by rfl) T.g_is_among T.F_is_among.kp (b_is_among T) .nil pass0 (pa_cons (pe_ix (r := rIxT K) ix_tup (pv 0) pe_int (fun _ _ => rfl)) (pa_cons (pv 1) pa_nil))))) (pw_or1 (pt_not (pt_val (pe_call (ok_is_between T) (hr.mono (by decide)) (by rfl) T.g_is_between T.F_is_between.kp (b_is_between T) .nil pass0 (pa_cons (pe_ix (r := rIxT K) ix_tup (pv 0) pe_int (fun _ _ => rfl)) (pa_cons pe_int (pa_cons (pv 2) pa_nil)))))))))) (pss_one (ps_ret pe_bl)) pss_nil)
      (pss_cons (ps_if (PW.pt (pw_and (pt_not (pt_val (pe_call (ok_is_among T) (hr.mono (by decide)) (by rfl) T.g_is_among T.F_is_among.kp (b_is_among T) .nil pass0 (pa_cons (pe_ix (r := rIxT K) ix_tup (pv 0) pe_int (fun _ _ => rfl)) (pa_cons (pv 1) pa_nil))))) (pw_and1 (pt_cmpR (op_neS hr.units0) (pe_ix (r := rIxT K) ix_tup (pv 0) pe_int (fun _ _ => rfl)) (pe_glob (v := .str "out") (by rfl) T.g_OUT ⟨T.tO, rfl⟩) (nomark _))))) (pss_one (ps_ret pe_bl)) pss_nil)
      (pss_one (ps_ret (pe_and (pe_cmpR op_ne (pe_ix (r := rIxT K) ix_tup (pv 0) pe_int (fun _ _ => rfl)) (pe_ix (r := rIxT K) ix_tup (pv 0) pe_int (fun _ _ => rfl)) (nomark _)) (pe_one (pe_or (pe_cmpR op_isN (pe_ix (r := rIxT K) ix_tup (pv 0) pe_int (fun _ _ => rfl)) pe_non (nomark _)) (pe_one (pe_call (ok_is_name T) (hr.mono (by decide)) (by rfl) T.g_is_name T.F_is_name.kp (b_is_name T) .nil pass0 (pa_cons (pe_ix (r := rIxT K) ix_tup (pv 0) pe_int (fun _ _ => rfl)) pa_nil)))))))))), ?_⟩
    cases ht : isTup d 4 4 with
    | false =>
      refine s_if (b := true || false) (et_or (a := true) (b := false) (et_is (et_not (et_B (ev_sp stb_tup (ea_cons (ev_var rfl) (ea_cons ev_c (ea_cons ev_c ea_nil))) ⟨_, d, 4, 4, rfl, hv, rfl⟩))) (by rw [ht]; rfl)) fun h => by cases h) (fun hb H1 e => ?_) (fun hb => by cases hb)
      refine s_ret (v := .bl false) ev_c fun H2 e2 => ?_
      have z : d.leak ns m = false := by
        cases d with
        | tup ds =>
          match ds, ht with
          | [_, _, _, _], h => exact absurd h (by simp [isTup])
          | [], _ | [_], _ | [_, _], _ | [_, _, _], _ | _ :: _ :: _ :: _ :: _ :: _, _ => rfl
        | _ => rfl
      rw [z] at q
      exact q H2 (e.trans e2)
    | true =>
      obtain ⟨ar, br, sh, n, rfl⟩ := tup4 ht
      obtain ⟨a, v0, v1, v2, v3, rfl, ha, r0, r1, r2, r3⟩ := hv.t4
      have z3 := hz.tup.2.get (j := 3) rfl
      rw [leak_4] at q
      refine s_if (b := !(amD ar ns && isBetw sh 1 m)) (et_is (et_or (a := false) (et_is (et_not (et_B (ev_sp stb_tup (ea_cons (ev_var rfl) (ea_cons ev_c (ea_cons ev_c ea_nil))) ⟨_, _, 4, 4, rfl, hv, rfl⟩))) (by rw [ht]; rfl)) fun _ =>
        et_or (et_not (et_B (ev_sp stb_among (ea_cons (ev_ixT (j := 0) (ev_var rfl) ha rfl) (ea_cons (ev_var rfl) ea_nil)) ⟨v0, ar, na, ns, rfl, r0, hns, rfl⟩))) fun _ => et_not (et_B (ev_sp stb_betw (ea_cons (ev_ixT (j := 2) (ev_var rfl) ha rfl) (ea_cons ev_c (ea_cons (ev_var rfl) ea_nil))) ⟨v2, sh, 1, m, rfl, r2, rfl⟩))) ?_) (fun hb H1 e => ?_) (fun hb H1 e => ?_)
      · cases amD ar ns <;> cases isBetw sh 1 m <;> rfl
      · rw [not_t hb] at q
        exact s_ret (v := .bl false) ev_c fun H2 e2 => q H2 (e.trans e2)
      · have hb1 := not_f hb
        rw [hb1, Bool.true_and] at q
        obtain ⟨h1, h2⟩ := (Bool.and_eq_true _ _).mp hb1
        refine s_if (b := !(amD br ns || br.isS "out")) (et_is (et_and (et_not (et_B (ev_sp stb_among (ea_cons (ev_ixT (j := 1) (ev_var rfl) (ha.up e) rfl) (ea_cons (ev_var rfl) ea_nil)) ⟨v1, br, na, ns, rfl, r1.up e, hns.up e, rfl⟩))) fun _ => et_test (ev_op (ev_ixT (j := 1) (ev_var rfl) (ha.up e) rfl) ev_c (rv_neS (r1.up e)))) ?_) (fun hb2 H2 e2 => ?_) (fun hb2 H2 e2 => ?_)
        · cases amD br ns <;> cases br.isS "out" <;> rfl
        · rw [not_t hb2] at q
          exact s_ret (v := .bl false) ev_c fun H3 e3 => q H3 ((e.trans e2).trans e3)
        · have hb3 := not_f hb2
          rw [hb3, Bool.true_and] at q
          have E := e.trans e2
          rw [(am_str h1).1] at r0
          have eb : br = .str br.txt := by
            rcases (Bool.or_eq_true _ _).mp hb3 with z | z
            · exact (am_str z).1
            · rw [isS_eq z]
              rfl
          rw [eb] at r1
          obtain rfl := r0.strD
          obtain rfl := r1.strD
          refine s_ret (ev_andV (ev_is (ev_op (ev_ixT (j := 0) (ev_var rfl) (ha.up E) rfl) (ev_ixT (j := 1) (ev_var rfl) (ha.up E) rfl) (rv_ne rfl)) (congrArg (fun b => V.bl (!b)) (txt_eq _ _))) fun _ => ev_orV (a := isN n) ?_ fun _ => ev_sp stb_name (ea_cons (ev_ixT (j := 3) (ev_var rfl) (ha.up E) rfl) ea_nil) ⟨v3, n, rfl, r3.up E, szD_of z3, rfl⟩) fun H3 e3 => q H3 (E.trans e3)
          refine ev_is (ev_op (ev_ixT (j := 3) (ev_var rfl) (ha.up E) rfl) ev_c (rv_isN (x := v3))) ?_
          cases r3 <;> rfl
end
end Kx

set_option Elab.async false
set_option linter.all false
set_option maxRecDepth 100000
set_option maxHeartbeats 400000
namespace Kx
open PySem PySem.Spec PyProof.Rows L2 Evl
/-! ## data that lie apart from what is being written -/
open Classical in
/-- the heap without the addresses of S -/
noncomputable def hidP (S : Addr → Prop) (H : Hp) : Hp := fun a => if S a then none else H a
theorem hidP_at {S : Addr → Prop} {H : Hp} {a : Addr} {o : HO} (h : H a = some o) (n : ¬ S a) : hidP S H a = some o := by
  unfold hidP
  rw [if_neg n]
  exact h
theorem hidP_get {S : Addr → Prop} {H : Hp} {a : Addr} {o : HO} (h : hidP S H a = some o) : H a = some o ∧ ¬ S a := by
  unfold hidP at h
  split at h
  · cases h
  · rename_i n
    exact ⟨h, n⟩
theorem hidP_ex {S : Addr → Prop} {H H' : Hp} (e : Ex H H') : Ex (hidP S H) (hidP S H') := fun a o h => by
  obtain ⟨h1, h2⟩ := hidP_get h
  exact hidP_at (e a o h1) h2
theorem hidP_sub {S : Addr → Prop} {H : Hp} : Ex (hidP S H) H := fun a o h => (hidP_get h).1
theorem hidP_less {S S' : Addr → Prop} {H : Hp} (h : ∀ a, S a → S' a) : Ex (hidP S' H) (hidP S H) := fun a o e => by
  obtain ⟨h1, h2⟩ := hidP_get e
  exact hidP_at h1 fun z => h2 (h a z)
theorem hidP_mut {S : Addr → Prop} {H : Hp} {a : Addr} {o : HO} (h : S a) : Ex (hidP S H) (hidP S (upd H a o)) := fun b u e => by
  obtain ⟨h1, h2⟩ := hidP_get e
  exact hidP_at ((upd_ne fun z => h2 (by rw [z]; exact h)).trans h1) h2
def also (S : Addr → Prop) (l : Addr) : Addr → Prop := fun a => S a ∨ a = l
theorem hidP_also {S : Addr → Prop} {H : Hp} {l : Addr} (h : H l = none) : Ex (hidP S H) (hidP (also S l) H) := fun a o e => by
  obtain ⟨h1, h2⟩ := hidP_get e
  refine hidP_at h1 fun z => z.elim h2 fun z => ?_
  rw [z, h] at h1
  cases h1
/-- S lies in the heap: what is new is not of it -/
def InS (S : Addr → Prop) (H : Hp) : Prop := ∀ a, S a → H a ≠ none
theorem InS.up {S : Addr → Prop} {H H' : Hp} (i : InS S H) (e : Ex H H') : InS S H' := fun a h n => by
  cases z : H a with
  | none => exact i a h z
  | some o => rw [e a o z] at n; cases n
theorem InS.new {S : Addr → Prop} {H : Hp} {l : Addr} (i : InS S H) (h : H l = none) : ¬ S l := fun z => i l z h
theorem InS.mut {S : Addr → Prop} {H : Hp} {l : Addr} {o : HO} (i : InS S H) : InS S (upd H l o) := fun a h n => by
  by_cases e : a = l
  · rw [e, upd_same] at n; cases n
  · rw [upd_ne e] at n; exact i a h n
abbrev RepS (S : Addr → Prop) (H : Hp) (v : V) (d : D) : Prop := Rep (hidP S H) v d
abbrev RepsS (S : Addr → Prop) (H : Hp) (vs : List V) (ds : List D) : Prop := Reps (hidP S H) vs ds
theorem reps_and {H : Hp} : ∀ {xs ys : List V} {ds es : List D}, Reps H xs ds → Reps H ys es → Reps H (xs ++ ys) (ds ++ es)
  | _, _, _, _, .nil, r => r
  | _, _, _, _, .cons a b, r => .cons a (reps_and b r)
theorem reps_up {H H' : Hp} {vs : List V} {ds : List D} (r : Reps H vs ds) (e : Ex H H') : Reps H' vs ds := r.up e
/-- te gives a value that stands for d, apart from S -/
def EvS (S : Addr → Prop) (te : TE) (σ : L2.St) (H : Hp) (d : D) : Prop := ∀ H1, Ex H H1 → ∀ Q : VK, (∀ v H2, Ex H1 H2 → RepS S H2 v d → Q v H2) → te σ H1 Q
def EvAS (S : Addr → Prop) (ta : TA) (σ : L2.St) (H : Hp) (ds : List D) : Prop := ∀ H1, Ex H H1 → ∀ Q : List V → Hp → Prop, (∀ vs H2, Ex H1 H2 → RepsS S H2 vs ds → Q vs H2) → ta σ H1 Q
/-- the turns of a loop yield the data ds -/
def ItS (S : Addr → Prop) (wi : TI) (σ : L2.St) (H : Hp) (ds : List D) : Prop := ∀ H1, Ex H H1 → ∀ R : It → Hp → Prop, (∀ J H2, Ex H1 H2 →
  (∀ i H', Ex (hidP S H2) (hidP S H') → (∀ d, ds[i]? = some d → J.go i H' ∧ ∀ x H'', J.yld i H' x H'' → H'' = H' ∧ Rep (hidP S H2) x d) ∧ (ds.length ≤ i → J.stop i H')) → R J H2) → wi σ H1 R
section
variable {K : PySem.W.Frag} {S : Addr → Prop} {σ : L2.St} {H H' : Hp} {ta tr : TA} {te tl tb : TE} {v : V} {d : D} {ds es : List D}
theorem EvS.mono (h : EvS S te σ H d) (e : Ex H H') : EvS S te σ H' d := fun H1 e1 Q q => h H1 (e.trans e1) Q q
theorem es_of (h : Ev te σ H v) (r : RepS S H v d) : EvS S te σ H d := fun H1 e Q q => h H1 e _ fun H2 e2 => q v H2 e2 (r.up (hidP_ex (e.trans e2)))
theorem eas_nil : EvAS S tNil σ H [] := fun H1 _ _ q => q [] H1 (Ex.refl _) .nil
theorem eas_cons (h : EvS S te σ H d) (hr : EvAS S tr σ H ds) : EvAS S (tCons te tr) σ H (d :: ds) := fun H1 e Q q =>
  h H1 e _ fun v H2 e2 r => hr H2 (e.trans e2) _ fun vs H3 e3 rs => q (v :: vs) H3 (e2.trans e3) (.cons (r.up (hidP_ex e3)) rs)
theorem es_tup (i : InS S H) (h : EvAS S ta σ H ds) (hz : ds.length ≤ 100000) : EvS S (tTupF ta) σ H (.tup ds) := fun H1 e Q q =>
  h H1 e _ fun vs H2 e2 rs => ⟨by rw [rs.length]; exact sz_of hz, fun p o hp ho => by
    have n := (i.up (e.trans e2)).new hp
    exact q (.ref p) _ (e2.trans (Ex.new hp)) (.tup ⟨o, ho, hidP_at upd_same n⟩ (rs.up (hidP_ex (Ex.new hp))))⟩
theorem es_lst (i : InS S H) (h : EvAS S ta σ H ds) (hz : ds.length ≤ 100000) : EvS S (tLst ta) σ H (.lst ds) := fun H1 e Q q =>
  h H1 e _ fun vs H2 e2 rs => ⟨by rw [rs.length]; exact sz_of hz, fun p hp => by
    have n := (i.up (e.trans e2)).new hp
    exact q (.ref p) _ (e2.trans (Ex.new hp)) (.lst (hidP_at upd_same n) (rs.up (hidP_ex (Ex.new hp))))⟩
theorem its_list (h : EvS S tl σ H (.lst ds)) : ItS S (iList K tl) σ H ds := fun H1 e R r => h H1 e _ fun v H2 e2 rep => by
  cases rep with
  | @lst a vs _ ha rs =>
    have at_ : ∀ {H' : Hp}, Ex (hidP S H2) (hidP S H') → SqL K H' a vs := fun e3 => .of (hidP_get (e3 _ _ ha)).1
    refine ⟨a, rfl, ⟨vs, at_ (Ex.refl _)⟩, r _ H2 e2 fun i H' e3 => ⟨fun d hd => ?_, fun le => ⟨vs, at_ e3, by rw [rs.length]; exact le⟩⟩⟩
    have lt : i < vs.length := by
      have := (List.getElem?_eq_some_iff.mp hd).1
      rw [rs.length]
      exact this
    refine ⟨⟨vs, vs[i], at_ e3, List.getElem?_eq_getElem lt⟩, fun x H'' y => ⟨y.1, ?_⟩⟩
    obtain ⟨d2, h2, r2⟩ := rs.get (y.2 vs (at_ e3))
    rw [hd] at h2
    cases h2
    exact r2
theorem its_tup (h : EvS S tl σ H (.tup ds)) : ItS S (iTup K tl) σ H ds := fun H1 e R r => h H1 e _ fun v H2 e2 rep => by
  obtain ⟨a, vs, rfl, ha, rs⟩ := rep.tupD
  have at_ : ∀ {H' : Hp}, Ex (hidP S H2) (hidP S H') → SqT K H' a vs := fun e3 => ((ha.up e3).up hidP_sub).sq
  refine ⟨a, rfl, ⟨vs, at_ (Ex.refl _)⟩, r _ H2 e2 fun i H' e3 => ⟨fun d hd => ?_, fun le => ⟨vs, at_ e3, by rw [rs.length]; exact le⟩⟩⟩
  have lt : i < vs.length := by
    have := (List.getElem?_eq_some_iff.mp hd).1
    rw [rs.length]
    exact this
  refine ⟨⟨vs, vs[i], at_ e3, List.getElem?_eq_getElem lt⟩, fun x H'' y => ⟨y.1, ?_⟩⟩
  obtain ⟨d2, h2, r2⟩ := rs.get (y.2 vs (at_ e3))
  rw [hd] at h2
  cases h2
  exact r2
/-- [te for g in wi if tt], by what it stands for -/
theorem lcS {wi : TI} {g : TG} {tt : TT} {own : List Nat} (p : D → Bool) (f : D → D) (hin : InS S H) (h : ItS S wi σ H ds) (hz : ds.length ≤ 100000)
    (each : ∀ (S' : Addr → Prop) (x : V) (d : D) (H1 : Hp), d ∈ ds → InS S' H1 → Ex H H1 → Ex (hidP S H) (hidP S' H1) → RepS S' H1 x d →
      ∃ σ2, (∀ Q : L2.St → Hp → Prop, Q σ2 H1 → g x (wipe σ own) H1 Q) ∧ wipe σ2 own = wipe σ own ∧ EvT tt σ2 H1 (p d) ∧ (p d = true → EvS S' te σ2 H1 (f d))) :
    EvS S (tLc wi g tt te own) σ H (.lst ((ds.filter p).map f)) := fun H1 e Q q => h H1 e _ fun J H2 e2 turn l fl => by
  have n := (hin.up (e.trans e2)).new fl
  refine ⟨fun i m H' => m = ds.length - i ∧ i ≤ ds.length ∧ Ex H2 H' ∧ ∃ acc, H' l = some (.lst acc) ∧ RepsS (also S l) H' acc (((ds.take i).filter p).map f), ⟨ds.length, rfl, Nat.zero_le _, Ex.new fl, [], upd_same, .nil⟩, ?_⟩
  rintro i m H' ⟨rfl, hi, e3, acc, hl, ra⟩
  obtain ⟨t1, t2⟩ := turn i H' (hidP_ex e3)
  have E := (e.trans e2).trans e3
  by_cases lt : i < ds.length
  · have hd : ds[i]? = some ds[i] := List.getElem?_eq_getElem lt
    obtain ⟨go, yl⟩ := t1 _ hd
    refine .inr ⟨go, fun H' => i + 1 ≤ ds.length ∧ Ex H2 H' ∧ ∃ acc, H' l = some (.lst acc) ∧ RepsS (also S l) H' acc (((ds.take (i + 1)).filter p).map f), fun H' w => ⟨_, by omega, rfl, w.1, w.2⟩, fun x H'' y => ?_⟩
    obtain ⟨rfl, rx⟩ := yl x H'' y
    have inA : InS (also S l) H'' := fun a ha z => ha.elim (fun s => (hin.up E) a s z) fun s => by rw [s, hl] at z; cases z
    have lift : Ex (hidP S H2) (hidP (also S l) H'') := (hidP_also fl).trans (hidP_ex e3)
    obtain ⟨σ2, hg, hw, ht, he⟩ := each (also S l) x ds[i] H'' (List.getElem_mem lt) inA E ((hidP_ex (e.trans e2)).trans lift) (rx.up lift)
    refine hg _ ⟨hw, ht H'' (Ex.refl _) _ fun H4 e4 => ?_⟩
    have tk : ds.take (i + 1) = ds.take i ++ [ds[i]] := by rw [List.take_add_one, hd]; rfl
    cases hp : p ds[i] with
    | false =>
      show (if false = true then _ else _)
      rw [if_neg Bool.false_ne_true]
      refine ⟨lt, e3.trans e4, acc, e4 _ _ hl, ?_⟩
      rw [tk, List.filter_append, List.filter_cons_of_neg (by rw [hp]; decide), List.filter_nil, List.append_nil]
      exact ra.up (hidP_ex e4)
    | true =>
      show (if true = true then _ else _)
      rw [if_pos rfl]
      refine he hp H4 e4 _ fun y H5 e5 ry => ⟨acc, e5 _ _ (e4 _ _ hl), ?_, lt, ((e3.trans e4).trans e5).mut fl, acc ++ [y], upd_same, ?_⟩
      · rw [ra.length, List.length_map]
        refine sz_lt (Nat.lt_of_le_of_lt (List.length_filter_le _ _) ?_)
        rw [List.length_take]
        omega
      · rw [tk, List.filter_append, List.filter_cons_of_pos hp, List.filter_nil, List.map_append]
        have a1 := (ra.up (hidP_ex (e4.trans e5))).up (hidP_mut (o := .lst (acc ++ [y])) (show also S l l from .inr rfl))
        exact reps_and a1 (.cons (ry.up (hidP_mut (show also S l l from .inr rfl))) .nil)
  · refine .inl ⟨t2 (by omega), q (.ref l) H' (e2.trans e3) (.lst (hidP_at hl n) ?_)⟩
    rw [List.take_of_length_le (by omega)] at ra
    exact ra.up (hidP_less fun a h => .inl h)
theorem filt_lt {α : Type} {xs : List α} {p : α → Bool} {i : Nat} {e : α} (h : xs[i]? = some e) (hp : p e = true) : ((xs.take i).filter p).length < (xs.filter p).length := by
  obtain ⟨lt, rfl⟩ := List.getElem?_eq_some_iff.mp h
  have e := List.take_append_drop i xs
  rw [List.drop_eq_getElem_cons lt] at e
  have e2 := congrArg (fun l => (l.filter p).length) e
  simp only [List.filter_append, List.length_append, List.filter_cons_of_pos hp, List.length_cons] at e2
  omega
theorem flat_le {α β : Type} {xs : List α} {p : α → Bool} {G : α → List β} {i : Nat} {e : α} (h : xs[i]? = some e) (hp : p e = true) : (((xs.take i).filter p).flatMap G).length + (G e).length ≤ ((xs.filter p).flatMap G).length := by
  obtain ⟨lt, rfl⟩ := List.getElem?_eq_some_iff.mp h
  have e := List.take_append_drop i xs
  rw [List.drop_eq_getElem_cons lt] at e
  have e2 := congrArg (fun l => ((l.filter p).flatMap G).length) e
  simp only [List.filter_append, List.flatMap_append, List.length_append, List.filter_cons_of_pos hp, List.flatMap_cons] at e2
  omega
/-- [te for g in wi if tt for g1 in wi1 if tt1], by what it stands for -/
theorem lc2S {wi wi1 : TI} {g g1 : TG} {tt tt1 : TT} {own vs1 : List Nat} (p : D → Bool) (es : D → List D) (q : D → D → Bool) (f : D → D → D) (hin : InS S H) (h : ItS S wi σ H ds) (hz : ((ds.filter p).flatMap fun d => ((es d).filter (q d)).map (f d)).length ≤ 100000)
    (each : ∀ (S' : Addr → Prop) (x : V) (d : D) (H1 : Hp), d ∈ ds → InS S' H1 → Ex H H1 → Ex (hidP S H) (hidP S' H1) → RepS S' H1 x d →
      ∃ σ2, (∀ Q : L2.St → Hp → Prop, Q σ2 H1 → g x (wipe σ own) H1 Q) ∧ wipe σ2 own = wipe σ own ∧ EvT tt σ2 H1 (p d) ∧ (p d = true → ItS S' wi1 σ2 H1 (es d) ∧
        ∀ (y : V) (e : D) (H5 : Hp), e ∈ es d → InS S' H5 → Ex H H5 → Ex (hidP S' H1) (hidP S' H5) → RepS S' H5 y e → ∃ σ3, (∀ Q : L2.St → Hp → Prop, Q σ3 H5 → g1 y (wipe σ2 vs1) H5 Q) ∧ wipe σ3 vs1 = wipe σ2 vs1 ∧ EvT tt1 σ3 H5 (q d e) ∧ (q d e = true → EvS S' te σ3 H5 (f d e)))) :
    EvS S (tLc2 wi g tt wi1 g1 tt1 te own vs1) σ H (.lst ((ds.filter p).flatMap fun d => ((es d).filter (q d)).map (f d))) := fun H1 e Q q0 => h H1 e _ fun J H2 e2 turn l fl => by
  have n := (hin.up (e.trans e2)).new fl
  let G : D → List D := fun d => ((es d).filter (q d)).map (f d)
  refine ⟨fun i m H' => m = ds.length - i ∧ i ≤ ds.length ∧ Ex H2 H' ∧ ∃ acc, H' l = some (.lst acc) ∧ RepsS (also S l) H' acc (((ds.take i).filter p).flatMap G), ⟨ds.length, rfl, Nat.zero_le _, Ex.new fl, [], upd_same, .nil⟩, ?_⟩
  rintro i m H' ⟨rfl, hi, e3, acc, hl, ra⟩
  obtain ⟨t1, t2⟩ := turn i H' (hidP_ex e3)
  have E := (e.trans e2).trans e3
  by_cases lt : i < ds.length
  · have hd : ds[i]? = some ds[i] := List.getElem?_eq_getElem lt
    obtain ⟨go, yl⟩ := t1 _ hd
    refine .inr ⟨go, fun H' => i + 1 ≤ ds.length ∧ Ex H2 H' ∧ ∃ acc, H' l = some (.lst acc) ∧ RepsS (also S l) H' acc (((ds.take (i + 1)).filter p).flatMap G), fun H' w => ⟨_, by omega, rfl, w.1, w.2⟩, fun x H'' y => ?_⟩
    obtain ⟨rfl, rx⟩ := yl x H'' y
    have inA : ∀ {H' : Hp} {ac : List V}, Ex H2 H' → H' l = some (.lst ac) → InS (also S l) H' := fun {H' ac} e3 hl a ha z => ha.elim (fun s => (hin.up ((e.trans e2).trans e3)) a s z) fun s => by rw [s, hl] at z; cases z
    have lift : Ex (hidP S H2) (hidP (also S l) H'') := (hidP_also fl).trans (hidP_ex e3)
    obtain ⟨σ2, hg, hw, ht, he⟩ := each (also S l) x ds[i] H'' (List.getElem_mem lt) (inA e3 hl) E ((hidP_ex (e.trans e2)).trans lift) (rx.up lift)
    have tk : ds.take (i + 1) = ds.take i ++ [ds[i]] := by rw [List.take_add_one, hd]; rfl
    refine hg _ ⟨hw, ht H'' (Ex.refl _) _ fun H4 e4 => ?_⟩
    cases hp : p ds[i] with
    | false =>
      show (if false = true then _ else _)
      rw [if_neg Bool.false_ne_true]
      refine ⟨lt, e3.trans e4, acc, e4 _ _ hl, ?_⟩
      rw [tk, List.filter_append, List.filter_cons_of_neg (by rw [hp]; decide), List.filter_nil, List.append_nil]
      exact ra.up (hidP_ex e4)
    | true =>
      show (if true = true then _ else _)
      rw [if_pos rfl]
      obtain ⟨it1, each2⟩ := he hp
      have tot := flat_le (G := G) hd hp
      refine it1 H4 e4 _ fun J1 H5 e5 turn1 => ?_
      have base : ∀ {H' : Hp}, Ex (hidP (also S l) H5) (hidP (also S l) H') → Ex (hidP (also S l) H'') (hidP (also S l) H') := fun h => (hidP_ex (e4.trans e5)).trans h
      refine ⟨fun j k H' => k = (es ds[i]).length - j ∧ j ≤ (es ds[i]).length ∧ Ex H2 H' ∧ Ex (hidP (also S l) H5) (hidP (also S l) H') ∧ ∃ acc, H' l = some (.lst acc) ∧ RepsS (also S l) H' acc (((ds.take i).filter p).flatMap G ++ (((es ds[i]).take j).filter (q ds[i])).map (f ds[i])), ⟨_, rfl, Nat.zero_le _, (e3.trans e4).trans e5, Ex.refl _, acc, e5 _ _ (e4 _ _ hl), ?_⟩, ?_⟩
      · rw [List.take_zero, List.filter_nil, List.map_nil, List.append_nil]
        exact ra.up (hidP_ex (e4.trans e5))
      rintro j k H6 ⟨rfl, hj, e6, x6, ac, hl6, ra6⟩
      obtain ⟨u1, u2⟩ := turn1 j H6 x6
      by_cases lj : j < (es ds[i]).length
      · have hd1 : (es ds[i])[j]? = some (es ds[i])[j] := List.getElem?_eq_getElem lj
        obtain ⟨go1, yl1⟩ := u1 _ hd1
        refine .inr ⟨go1, fun H' => j + 1 ≤ (es ds[i]).length ∧ Ex H2 H' ∧ Ex (hidP (also S l) H5) (hidP (also S l) H') ∧ ∃ acc, H' l = some (.lst acc) ∧ RepsS (also S l) H' acc (((ds.take i).filter p).flatMap G ++ (((es ds[i]).take (j + 1)).filter (q ds[i])).map (f ds[i])), fun H' w => ⟨_, by omega, rfl, w.1, w.2⟩, fun x1 H7 y1 => ?_⟩
        obtain ⟨rfl, rx1⟩ := yl1 x1 H7 y1
        obtain ⟨σ3, hg1, hw1, ht1, he1⟩ := each2 x1 _ H7 (List.getElem_mem lj) (inA e6 hl6) ((e.trans e2).trans e6) (base x6) (rx1.up x6)
        have tk1 : (es ds[i]).take (j + 1) = (es ds[i]).take j ++ [(es ds[i])[j]] := by rw [List.take_add_one, hd1]; rfl
        refine hg1 _ ⟨hw1, ht1 H7 (Ex.refl _) _ fun H8 e8 => ?_⟩
        cases hq : q ds[i] (es ds[i])[j] with
        | false =>
          show (if false = true then _ else _)
          rw [if_neg Bool.false_ne_true]
          refine ⟨lj, e6.trans e8, x6.trans (hidP_ex e8), ac, e8 _ _ hl6, ?_⟩
          rw [tk1, List.filter_append, List.filter_cons_of_neg (by rw [hq]; decide), List.filter_nil, List.append_nil]
          exact ra6.up (hidP_ex e8)
        | true =>
          show (if true = true then _ else _)
          rw [if_pos rfl]
          have ll := filt_lt (p := q ds[i]) hd1 hq
          refine he1 hq H8 e8 _ fun y H9 e9 ry => ⟨ac, e9 _ _ (e8 _ _ hl6), ?_, lj, ((e6.trans e8).trans e9).mut fl, (x6.trans (hidP_ex (e8.trans e9))).trans (hidP_mut (show also S l l from .inr rfl)), ac ++ [y], upd_same, ?_⟩
          · rw [ra6.length, List.length_append, List.length_map]
            refine sz_lt (Nat.lt_of_lt_of_le (m := (((ds.take i).filter p).flatMap G).length + (G ds[i]).length) ?_ (Nat.le_trans tot hz))
            show _ < _ + (((es ds[i]).filter (q ds[i])).map (f ds[i])).length
            rw [List.length_map]
            omega
          · rw [tk1, List.filter_append, List.filter_cons_of_pos hq, List.filter_nil, List.map_append, ← List.append_assoc]
            have a1 := (ra6.up (hidP_ex (e8.trans e9))).up (hidP_mut (o := .lst (ac ++ [y])) (show also S l l from .inr rfl))
            exact reps_and a1 (.cons (ry.up (hidP_mut (show also S l l from .inr rfl))) .nil)
      · refine .inl ⟨u2 (by omega), lt, e6, ac, hl6, ?_⟩
        rw [show (es ds[i]).take j = es ds[i] from List.take_of_length_le (by omega)] at ra6
        rw [tk, List.filter_append, List.filter_cons_of_pos hp, List.filter_nil, List.flatMap_append, List.flatMap_cons, List.flatMap_nil, List.append_nil]
        exact ra6
  · refine .inl ⟨t2 (by omega), q0 (.ref l) H' (e2.trans e3) (.lst (hidP_at hl n) ?_)⟩
    rw [List.take_of_length_le (by omega)] at ra
    exact ra.up (hidP_less fun a h => .inl h)
end
end Kx

set_option Elab.async false
set_option linter.all false
set_option maxRecDepth 100000
set_option maxHeartbeats 400000
namespace Kx
open PySem PySem.Spec PyProof.Rows L2 Evl
/-- a list or a tuple is gone through -/
def iLT (K : PySem.W.Frag) (tl : TE) : TI := fun σ H R => iList K tl σ H R ∨ iTup K tl σ H R
theorem pi_lt {X : Cx} {tg l : Expr} {tl : TE} (K : PySem.W.Frag) (hl : PE X l tl) (hK : X.K = K := by rfl) : PI X tg l (iLT K tl) := by
  subst hK
  exact ⟨fun pins s σ H R I h => h.elim (fun h => (pi_list hl).run pins s σ H R I h) fun h => (pi_tup hl).run pins s σ H R I h⟩
theorem pi_tupK {X : Cx} {tg l : Expr} {tl : TE} (K : PySem.W.Frag) (hl : PE X l tl) (hK : X.K = K := by rfl) : PI X tg l (iTup K tl) := by
  subst hK
  exact pi_tup hl
theorem pi_listK {X : Cx} {tg l : Expr} {tl : TE} (K : PySem.W.Frag) (hl : PE X l tl) (hK : X.K = K := by rfl) : PI X tg l (iList K tl) := by
  subst hK
  exact pi_list hl
theorem tup_rd {H : Hp} {a : Addr} {vs : List V} (h : TupS H a vs) : Rd H a (.tup vs) := let ⟨o, _, h2⟩ := h; .inr ⟨o, h2⟩
abbrev S0 : Addr → Prop := fun _ => False
theorem hid0 {H : Hp} : Ex H (hidP S0 H) := fun a o h => hidP_at h fun z => z
theorem in0 {H : Hp} : InS S0 H := fun a h => h.elim
theorem bls_of : ∀ {bs : List Bool} {vs : List V}, Reps H vs (bs.map D.bl) → vs = bs.map V.bl
  | [], _, .nil => rfl
  | b :: bs, _, .cons r t => by
    cases r
    rw [bls_of t]
    rfl
section
variable {K : PySem.W.Frag} {S : Addr → Prop} {σ : L2.St} {H H' : Hp} {ta tr : TA} {te tl tb : TE} {v : V} {d : D} {ds es : List D} {wi : TI} {g : TG} {D0 : Ends} {u ts : TS}
theorem ev_allS {bs : List Bool} (h : EvS S te σ H (.lst (bs.map D.bl))) : Ev (tCB (rAll K) (tCons te tNil)) σ H (.bl (bs.all id)) := fun H1 e Q q => h H1 e _ fun v H2 e2 r => by
  cases r with
  | @lst p vs _ hp rs =>
    rw [bls_of rs] at hp
    exact ⟨p, bs, rfl, .of (hidP_get hp).1, q H2 e2⟩
theorem its_ltL (h : EvS S tl σ H (.lst ds)) : ItS S (iLT K tl) σ H ds := fun H1 e R r => .inl (its_list h H1 e R r)
theorem its_ltT (h : EvS S tl σ H (.tup ds)) : ItS S (iLT K tl) σ H ds := fun H1 e R r => .inr (its_tup h H1 e R r)
def tTru (K : PySem.W.Frag) (ta : TE) : TT := fun σ H Q => ta σ H fun x H' => ∃ k, TruV K x H' k ∧ Q k H'
theorem pt_tru {X : Cx} (K : PySem.W.Frag) {a : Expr} {ta : TE} (ha : PE X a ta) (hK : X.K = K := by rfl) (he : ∀ whole, isTrue a X.env whole = (do let v ← whole; standAt a.pos; holding [v] (truthy v)) := by intro _; rfl) : PT X a (tTru K ta) := by
  subst hK
  exact pt_truth ha he
theorem its_rng2 {i j : Int} (h : EvA ta σ H [.int i, .int j]) (b : -1000000 ≤ i ∧ i ≤ 1000000 ∧ -1000000 ≤ j ∧ j ≤ 1000000) : ItS S (iRng2 ta) σ H ((List.range (j - i).toNat).map fun k : Nat => D.int (i + (k : Int))) := fun H1 e R r => h H1 e _ fun H2 e2 =>
  ⟨i, j, rfl, ⟨by omega, by omega, by omega, by omega⟩, r _ H2 e2 fun k H' e3 => ⟨fun d hd => by
    rw [List.getElem?_map] at hd
    obtain ⟨m, hm, rfl⟩ := Option.map_eq_some_iff.mp hd
    obtain ⟨lt, em⟩ := List.getElem?_eq_some_iff.mp hm
    rw [List.length_range] at lt
    rw [List.getElem_range] at em
    subst em
    exact ⟨lt, fun x H'' y => ⟨y.1, by rw [y.2]; exact .int _⟩⟩, fun le => by
    rw [List.length_map, List.length_range] at le
    exact le⟩⟩
theorem es_catL (hin : InS S H) (ha : EvS S te σ H (.lst ds)) (hb : EvS S tb σ H (.lst es)) (hz : ds.length + es.length ≤ 100000) : EvS S (tOp rCat te tb) σ H (.lst (ds ++ es)) := fun H1 e Q q =>
  ha H1 e _ fun v H2 e2 r => hb H2 (e.trans e2) _ fun u H3 e3 r2 => by
    have r := r.up (hidP_ex e3)
    cases r with
    | @lst a xs _ h1 s1 => cases r2 with
      | @lst b ys _ h2 s2 =>
        refine ⟨a, b, xs, ys, rfl, rfl, (hidP_get h1).1, (hidP_get h2).1, by rw [s1.length, s2.length]; exact sz_of hz, fun p fp => ?_⟩
        have n := (hin.up ((e.trans e2).trans e3)).new fp
        exact q (.ref p) _ ((e2.trans e3).trans (Ex.new fp)) (.lst (hidP_at upd_same n) (reps_and (s1.up (hidP_ex (Ex.new fp))) (s2.up (hidP_ex (Ex.new fp)))))
theorem es_catF (hin : InS S H) (ha : EvS S te σ H (.tup ds)) (hb : EvS S tb σ H (.tup es)) (hz : ds.length + es.length ≤ 100000) : EvS S (tOp rCatF te tb) σ H (.tup (ds ++ es)) := fun H1 e Q q =>
  ha H1 e _ fun v H2 e2 r => hb H2 (e.trans e2) _ fun u H3 e3 r2 => by
    obtain ⟨a, xs, rfl, h1, s1⟩ := (r.up (hidP_ex e3)).tupD
    obtain ⟨b, ys, rfl, h2, s2⟩ := r2.tupD
    refine ⟨a, b, xs, ys, rfl, rfl, h1.up hidP_sub, h2.up hidP_sub, by rw [s1.length, s2.length]; exact sz_of hz, fun z => ?_, fun z1 z2 => ?_, fun z1 z2 p o fp ho => ?_⟩
    · subst z
      cases s1
      exact q _ _ (e2.trans e3) (.tup h2 s2)
    · subst z2
      cases s2
      refine q _ _ (e2.trans e3) ?_
      rw [List.append_nil]
      exact .tup h1 s1
    · have n := (hin.up ((e.trans e2).trans e3)).new fp
      exact q (.ref p) _ ((e2.trans e3).trans (Ex.new fp)) (.tup ⟨o, ho, hidP_at upd_same n⟩ (reps_and (s1.up (hidP_ex (Ex.new fp))) (s2.up (hidP_ex (Ex.new fp)))))
theorem s_asgS {D0 : Ends} {u : TS} {i : Nat} (h : EvS S te σ H d) (k : ∀ v H1, Ex H H1 → RepS S H1 v d → u D0 (σ.set i (some v)) H1) : tSeq (tAsg te (gName i)) u D0 σ H := h H (Ex.refl _) _ k
theorem s_asgSN {D0 : Ends} {i : Nat} (h : EvS S te σ H d) (k : ∀ v H1, Ex H H1 → RepS S H1 v d → D0.nx (σ.set i (some v)) H1) : tAsg te (gName i) D0 σ H := h H (Ex.refl _) _ k
theorem s_retS {D0 : Ends} (h : EvS S te σ H d) (k : ∀ v H1, Ex H H1 → RepS S H1 v d → D0.rt v H1) : tRet te D0 σ H := h H (Ex.refl _) _ k
theorem et_truL (h : EvS S te σ H (.lst ds)) : EvT (tTru K te) σ H (!ds.isEmpty) := fun H1 e Q q => h H1 e _ fun v H2 e2 r => by
  cases r with
  | @lst a xs _ h1 s1 =>
    have l := s1.length
    refine ⟨!ds.isEmpty, .inl ⟨xs, .of (hidP_get h1).1, ?_⟩, q H2 e2⟩
    cases xs <;> cases ds <;> first | rfl | cases l
theorem et_truT (h : EvS S te σ H (.tup ds)) : EvT (tTru K te) σ H (!ds.isEmpty) := fun H1 e Q q => h H1 e _ fun v H2 e2 r => by
  obtain ⟨a, xs, rfl, h1, s1⟩ := r.tupD
  have l := s1.length
  refine ⟨!ds.isEmpty, .inr (.inl ⟨xs, (h1.up hidP_sub).sq, ?_⟩), q H2 e2⟩
  cases xs <;> cases ds <;> first | rfl | cases l
end
section
variable {K : PySem.W.Frag} {S : Addr → Prop} {σ : L2.St} {H H' : Hp} {wi : TI} {g : TG} {tu tz : TS} {D0 : Ends} {ds : List D}
theorem s_forS (h : ItS S wi σ H ds) (Pv : Hp → Nat → L2.St → Hp → Prop) (h0 : ∀ H1, Ex H H1 → Pv H1 0 σ H1) (hk : ∀ H1 i σ' H', Ex H H1 → Pv H1 i σ' H' → Ex (hidP S H1) (hidP S H'))
    (hs : ∀ H1 i d x σ' H', Ex H H1 → ds[i]? = some d → Pv H1 i σ' H' → RepS S H' x d → g x σ' H' fun σ2 H2 => tu { D0 with nx := Pv H1 (i + 1), ct := Pv H1 (i + 1), bk := D0.nx } σ2 H2)
    (hd : ∀ H1 σ' H', Ex H H1 → Pv H1 ds.length σ' H' → D0.nx σ' H') : tFor wi g tu D0 σ H := h H (Ex.refl _) _ fun J H2 e2 turn => by
  refine ⟨fun i m σ' H' => m = ds.length - i ∧ i ≤ ds.length ∧ Pv H2 i σ' H', ⟨ds.length, rfl, Nat.zero_le _, h0 H2 e2⟩, ?_⟩
  rintro i m σ' H' ⟨rfl, hi, pv⟩
  obtain ⟨t1, t2⟩ := turn i H' (hk H2 i σ' H' e2 pv)
  by_cases lt : i < ds.length
  · have hd1 : ds[i]? = some ds[i] := List.getElem?_eq_getElem lt
    obtain ⟨go, yl⟩ := t1 _ hd1
    refine .inr ⟨go, Pv H2 (i + 1), fun σ3 H3 p3 => ⟨ds.length - (i + 1), by omega, rfl, lt, p3⟩, fun x H'' y => ?_⟩
    obtain ⟨rfl, rx⟩ := yl x H'' y
    exact hs H2 i _ x σ' H'' e2 hd1 pv (rx.up (hk H2 i σ' H'' e2 pv))
  · have ei : i = ds.length := by omega
    subst ei
    exact .inl ⟨t2 (Nat.le_refl _), hd H2 σ' H' e2 pv⟩
theorem q_forS (h : ItS S wi σ H ds) (Pv : Hp → Nat → L2.St → Hp → Prop) (h0 : ∀ H1, Ex H H1 → Pv H1 0 σ H1) (hk : ∀ H1 i σ' H', Ex H H1 → Pv H1 i σ' H' → Ex (hidP S H1) (hidP S H'))
    (hs : ∀ H1 i d x σ' H', Ex H H1 → ds[i]? = some d → Pv H1 i σ' H' → RepS S H' x d → g x σ' H' fun σ2 H2 => tu { D0 with nx := Pv H1 (i + 1), ct := Pv H1 (i + 1), bk := tz D0 } σ2 H2)
    (hd : ∀ H1 σ' H', Ex H H1 → Pv H1 ds.length σ' H' → tz D0 σ' H') : tSeq (tFor wi g tu) tz D0 σ H := s_forS (D0 := { D0 with nx := tz D0 }) h Pv h0 hk hs hd
theorem g_pair {i j : Nat} {x : V} {d1 d2 : D} {Q : L2.St → Hp → Prop} (r : RepS S H x (.tup [d1, d2])) (k : ∀ v1 v2, RepS S H v1 d1 → RepS S H v2 d2 → Q ((σ.set i (some v1)).set j (some v2)) H) : gTup K 2 (gCons (gName i) (gCons (gName j) gNil)) x σ H Q := by
  obtain ⟨c, us, rfl, hc, hs⟩ := r.tupD
  cases hs with
  | cons r1 hs => cases hs with
    | cons r2 hs =>
      cases hs
      exact ⟨c, _, rfl, (hc.up hidP_sub).sq, rfl, _, _, rfl, _, _, rfl, rfl, k _ _ r1 r2⟩
end
end Kx

set_option Elab.async false
set_option linter.all false
set_option maxRecDepth 100000
set_option maxHeartbeats 1000000
namespace Kx
open PySem PySem.Spec PyProof.Rows L2
/-! ## a set is filled with tuples of numbers and texts, no two alike -/
abbrev hsh (P : Program) (w : World) (k : List (Option Key)) : Int := tupleKeyHash (noneKind P w) k
/-- a tuple of these numbers and texts -/
structure TupAt (P : Program) (w : World) (h : Heap) (a : Addr) (k : List (Option Key)) : Prop where
  key : IsTupleKey (noneKind P w) h k a
  flat : ∀ o items n, h.get? a = some o → o.data = .seq items n → ∀ y ∈ items.toList, ∀ b, y ≠ .ref b
theorem TupAt.move {P : Program} {w : World} {h h' : Heap} {a : Addr} {k : List (Option Key)} (t : TupAt P w h a k) (e : ∀ o, h.get? a = some o → h'.get? a = some o) : TupAt P w h' a k := by
  obtain ⟨⟨o, items, n, ho, hc, hd, hi⟩, fl⟩ := t
  refine ⟨⟨o, items, n, e o ho, hc, hd, hi⟩, fun o2 i2 n2 h2 d2 => ?_⟩
  obtain rfl : o = o2 := Option.some.inj ((e o ho).symm.trans h2)
  exact fl o i2 n2 ho d2
theorem TupAt.aside {P : Program} {w : World} {h h' : Heap} {a S : Addr} {k : List (Option Key)} {o : Obj} {es : Array (Int × Value)} {ep : Nat} {t : SetTable} (x : TupAt P w h a k) (ho : h.get? S = some o) (hd : o.data = .set es ep t) (sb : Heap.SameBut S h h') : TupAt P w h' a k := by
  refine x.move fun o2 h2 => (sb.2 a fun z => ?_).trans h2
  obtain ⟨o3, i3, n3, g3, _, d3, _⟩ := x.key
  rw [z, ho] at g3
  obtain rfl := Option.some.inj g3
  rw [hd] at d3
  cases d3
section
variable {P : Program} {w : World} {A : Around} {E : Value → Shared → Prop} {s : Shared} {S a x : Addr} {k : List (Option Key)} {ks : List (List (Option Key))} {es : Array (Int × Value)} {ep : Nat} {t : SetTable} {G : Addr → Prop}
/-! ### what is no object -/
theorem no_class {y : Value} (h : ∀ b, y ≠ .ref b) (n : Nat) : ofAClassStatement n y = pure false := by
  cases y with
  | ref b => exact absurd rfl (h b)
  | _ => cases n <;> rfl
theorem by_value {y : Value} (h : ∀ b, y ≠ .ref b) (n : Nat) : ∃ c, hashByValue n y = pure c := by
  cases y with
  | ref b => exact absurd rfl (h b)
  | _ => cases n <;> exact ⟨_, rfl⟩
theorem each_still {β : Type} {f : Value → β → Sem (ForInStep β)} {b : β} : ∀ {xs : List Value}, (∀ y ∈ xs, f y b = pure (.yield b)) → forIn xs b f = (pure b : Sem β)
  | [], _ => List.forIn_nil
  | y :: r, h => by
    rw [List.forIn_cons, h y List.mem_cons_self, pure_bind]
    exact each_still fun z hz => h z (List.mem_cons_of_mem _ hz)
theorem TupAt.noClass {Q : Bool → Shared → Prop} (x : TupAt P w s.heap a k) (q : Q false s) : wpAny (model P w) A (ofAClassStatement 8 (.ref a)) Q E s := by
  have ty := x.key.typeIs
  have fl := x.flat
  obtain ⟨o, items, n, ho, _, hd, _⟩ := x.key
  have fl := fl o items n ho hd
  unfold ofAClassStatement
  apply wpAny_bind
  apply wpAny_typeOf ty
  simp only [beq_self_eq_true, if_true, Bool.not_true, Bool.false_eq_true, if_false]
  try refine wpAny_bind (wpAny_pure ?_)
  try simp only [Bool.not_true, Bool.false_eq_true, if_false]
  apply wpAny_bind
  apply wpAny_seqItems ho hd
  apply wpAny_bind
  show wpAny _ _ (forIn items _ _) _ _ s
  rw [← Array.forIn_toList]
  refine wpAny_of_eq (each_still fun y hy => ?_) ?_
  · rw [no_class (fl y hy), pure_bind]
    rfl
  · exact wpAny_pure q
theorem TupAt.byValue {Q : Bool → Shared → Prop} (x : TupAt P w s.heap a k) (q : ∀ c, Q c s) : wpAny (model P w) A (hashByValue 8 (.ref a)) Q E s := by
  have ty := x.key.typeIs
  have fl := x.flat
  obtain ⟨o, items, n, ho, _, hd, _⟩ := x.key
  have fl := fl o items n ho hd
  unfold hashByValue
  apply wpAny_bind
  apply wpAny_specialOf ty F.slot_tuple_hash.lookup
  show wpAny _ _ (seqItems? (.ref a) >>= _) _ _ s
  apply wpAny_bind
  apply wpAny_seqItems ho hd
  apply wpAny_bind
  show wpAny _ _ (forIn items _ _) _ _ s
  rw [← Array.forIn_toList]
  refine wpAny_forIn_list _ (fun rest r u => u = s ∧ ∀ y ∈ rest, ∀ b, y ≠ .ref b) _ (fun y rest r u hu => ?_) (fun r u hu => ?_) _ _ ⟨rfl, fl⟩
  · obtain ⟨rfl, hu⟩ := hu
    obtain ⟨c, e⟩ := by_value (hu y List.mem_cons_self) 7
    rw [e]
    refine wpAny_bind (wpAny_pure ?_)
    cases c with
    | true => exact wpAny_pure ⟨rfl, fun z hz => hu z (List.mem_cons_of_mem _ hz)⟩
    | false => exact wpAny_pure (wpAny_pure (q false))
  · obtain ⟨rfl, _⟩ := hu
    match r with
    | (none, _) => exact wpAny_pure (q true)
    | (some c, _) => exact wpAny_pure (q c)
/-- nothing of a search among such tuples shows -/
theorem unseen {Q : Bool → Shared → Prop} (hx : TupAt P w s.heap x k) {ys : List Value} (hy : ∀ y ∈ ys, ∃ b kb, y = .ref b ∧ TupAt P w s.heap b kb) (q : Q false s) : wpAny (model P w) A (searchCouldBeSeen (.ref x) ys) Q E s := by
  unfold searchCouldBeSeen
  apply wpAny_bind
  refine wpAny_forIn_list _ (fun rest r u => u = s ∧ r.1 = none ∧ ∀ y ∈ rest, ∃ b kb, y = .ref b ∧ TupAt P w s.heap b kb) _ (fun y rest r u hu => ?_) (fun r u hu => ?_) _ _ ⟨rfl, rfl, hy⟩
  · obtain ⟨rfl, hr, all⟩ := hu
    obtain ⟨b, kb, rfl, hb⟩ := all y List.mem_cons_self
    have tail : ∀ y ∈ rest, ∃ b kb, y = Value.ref b ∧ TupAt P w u.heap b kb := fun z hz => all z (List.mem_cons_of_mem _ hz)
    dsimp only
    by_cases same : (x == b || (carriedByValue (.ref x) && carriedByValue (.ref b))) = true
    · rw [if_pos same]
      exact wpAny_pure ⟨rfl, rfl, tail⟩
    · rw [if_neg same]
      apply wpAny_bind
      apply wpAny_eqIsQuiet_tuple hx.key
      simp only [Bool.not_true, Bool.false_eq_true, if_false]
      apply wpAny_bind
      apply wpAny_eqIsQuiet_tuple hb.key
      simp only [Bool.not_true, Bool.false_eq_true, if_false]
      apply wpAny_bind
      apply hx.noClass
      simp only [Bool.false_eq_true, if_false]
      apply wpAny_bind
      apply hb.noClass
      simp only [Bool.false_eq_true, if_false]
      exact wpAny_pure ⟨rfl, rfl, tail⟩
  · obtain ⟨rfl, hr, _⟩ := hu
    match r, hr with
    | (none, _), _ => exact wpAny_pure q
end
/-! ### the set -/
/-- at S a set whose entries have keys among ks, as many as ks, told by objects of G -/
structure Pot (P : Program) (w : World) (G : Addr → Prop) (h : Heap) (S : Addr) (ks : List (List (Option Key))) (es : Array (Int × Value)) (ep : Nat) (t : SetTable) : Prop where
  here : ∃ o, h.get? S = some o ∧ o.ExactSet ∧ o.data = .set es ep t
  rows : ∀ e ∈ es.toList, ∃ a k, k ∈ ks ∧ (G a ∧ TupAt P w h a k) ∧ e = (hsh P w k, Value.ref a)
  tab : TabOk t (es.toList.map (·.1))
  has : ∀ k ∈ ks, ∃ a, (hsh P w k, Value.ref a) ∈ es.toList ∧ G a ∧ TupAt P w h a k
  many : es.size = ks.length
  fit : es.size ≤ t.mask
section
variable {P : Program} {w : World} {A : Around} {E : Value → Shared → Prop} {s : Shared} {S a x : Addr} {k : List (Option Key)} {ks : List (List (Option Key))} {es : Array (Int × Value)} {ep : Nat} {t : SetTable} {G : Addr → Prop}
theorem Pot.fits {h : Heap} (R : Pot P w G h S ks es ep t) : t.fits es.size = true := by
  have z := R.tab.sz
  rw [List.length_map, Array.length_toList] at z
  have f := R.fit
  unfold SetTable.fits SetTable.fill
  rw [R.tab.dm, z, beq_self_eq_true, Bool.true_and, decide_eq_true_eq]
  exact f
theorem Pot.steady {h : Heap} (R : Pot P w G h S ks es ep t) : t.gaveWay = false := by
  unfold SetTable.gaveWay
  rw [mask_odd R.tab.mok]
  rfl
theorem Pot.row {h : Heap} (R : Pot P w G h S ks es ep t) {i j : Nat} (hi : t.place.toList[i]? = some j) : ∃ a k, k ∈ ks ∧ TupAt P w h a k ∧ es[i]? = some (hsh P w k, Value.ref a) := by
  have z := R.tab.sz
  rw [List.length_map, Array.length_toList] at z
  have lt : i < es.size := by
    have := (List.getElem?_eq_some_iff.mp hi).1
    rw [Array.length_toList] at this
    omega
  obtain ⟨a, k, h1, h2, h3⟩ := R.rows es[i] (by simp)
  exact ⟨a, k, h1, h2.2, by rw [Array.getElem?_eq_getElem lt, h3]⟩
theorem Pot.move {h h' : Heap} (R : Pot P w G h S ks es ep t) (e : ∀ b o, b = S ∨ G b → h.get? b = some o → h'.get? b = some o) : Pot P w G h' S ks es ep t := by
  obtain ⟨⟨o, ho, hex, hd⟩, rows, tab, has, many, fit⟩ := R
  refine ⟨⟨o, e S o (.inl rfl) ho, hex, hd⟩, fun r hr => ?_, tab, fun k hk => ?_, many, fit⟩
  · obtain ⟨a, k, h1, h2, h3⟩ := rows r hr
    exact ⟨a, k, h1, ⟨h2.1, h2.2.move fun o2 => e a o2 (.inr h2.1)⟩, h3⟩
  · obtain ⟨a, h1, h2, h3⟩ := has k hk
    exact ⟨a, h1, h2, h3.move fun o2 => e a o2 (.inr h2)⟩
/-- the c-th look from the start -/
abbrev lookAt (m : Nat) (h : Int) (c : Nat) : SetTable.Probe := nth m (runAt m (SetTable.bits h % (m + 1)) (SetTable.bits h)) c
theorem no_dummy (m : Nat) : ∀ (c : Nat) (p : SetTable.Probe), p.dummy = none → (nth m p c).dummy = none
  | 0, _, h => h
  | c + 1, p, h => no_dummy m c (adv m p) (by unfold adv; split <;> exact h)
theorem TupAt.one {h : Heap} {a : Addr} {k j : List (Option Key)} (x : TupAt P w h a k) (y : TupAt P w h a j) : k = j := by
  obtain ⟨o, items, n, ho, _, hd, hi⟩ := x.key
  obtain ⟨o2, i2, n2, ho2, _, hd2, hi2⟩ := y.key
  obtain rfl : o = o2 := Option.some.inj (ho.symm.trans ho2)
  rw [hd] at hd2
  injection hd2 with e1 e2
  subst e1
  exact hi.inj hi2
/-- k stands at the c-th look, if at all -/
def Met (P : Program) (w : World) (h : Heap) (k : List (Option Key)) (es : Array (Int × Value)) (t : SetTable) (c : Nat) : Prop := ∃ (i : Nat) (b : Addr), t.place.toList[i]? = some (way t.mask (hsh P w k) c) ∧ es[i]? = some (hsh P w k, Value.ref b) ∧ TupAt P w h b k
/-- the search ends at what is like x, or at the first free place of its way -/
theorem Pot.search (R : Pot P w G s.heap S ks es ep t) (hx : TupAt P w s.heap x k) (hu : A.units < cLine) {K : Nat} (near : K < 10 * SetTable.turns t.mask) (free : way t.mask (hsh P w k) K ∉ t.place.toList) (busy : ∀ c, c < K → way t.mask (hsh P w k) c ∈ t.place.toList)
    {Q : SetFound → Shared → Prop} (q : k ∉ ks → Q (.free (way t.mask (hsh P w k) K) false) s) (q2 : k ∈ ks → Q (.there none) s) : ∀ (f c : Nat) (st : Option SetTable.Probe), st.getD (t.probeStart (hsh P w k)) = lookAt t.mask (hsh P w k) c → c ≤ K → K < c + f → (k ∈ ks → ∃ c0, c ≤ c0 ∧ c0 < K ∧ Met P w s.heap k es t c0) →
      wpAny (model P w) A (setSearchFrom S (.ref x) (hsh P w k) true f st) Q E s := by
  intro f
  induction f with
  | zero => intro c st _ h1 h2 _; omega
  | succ f more =>
    intro c st hst h1 h2 inn
    obtain ⟨o, ho, hex, hd⟩ := R.here
    have on : ∀ d, (nth t.mask (lookAt t.mask (hsh P w k) c) d).j = way t.mask (hsh P w k) (c + d) := fun d => congrArg SetTable.Probe.j (nth_add t.mask c _ d).symm
    have told := go_spec t R.tab.ris R.tab.dm (fun i => (es[i]?.map (·.1)).getD 0) (hsh P w k) (10 * SetTable.turns t.mask) (K - c) (lookAt t.mask (hsh P w k) c) (no_dummy _ _ _ rfl) (by omega)
      (fun d hd => (on d) ▸ busy (c + d) (by omega)) (by rw [on, Nat.add_sub_cancel' h1]; exact free)
    rw [setSearchFrom_succ]
    apply wpAny_bind
    apply wpAny_setState_of ho hd R.fits
    dsimp only
    rw [R.steady]
    simp only [Bool.false_eq_true, if_false]
    rcases told with ⟨d, i, hd1, hi, _, earlier, met⟩ | ⟨never, met⟩
    · -- one of this hash
      rw [on] at hi met
      obtain ⟨b, kb, kin, hb, eb⟩ := R.row hi
      have rest : wpAny (model P w) A (searchRest S (.ref x) (hsh P w k) true f es t (way t.mask (hsh P w k) (c + d)) i (nth t.mask (lookAt t.mask (hsh P w k) c) (d + 1))) Q E s := by
        unfold searchRest
        rw [eb]
        apply wpAny_bind
        apply wpAny_holding
        apply wpAny_eqBool_tuple hu hb.key hx.key
        by_cases like : kb = k
        · rw [decide_eq_true like]
          apply wpAny_bind
          apply wpAny_setState_of ho hd R.fits
          simp only [Bool.and_self, if_true]
          exact wpAny_pure (q2 (like ▸ kin))
        · rw [decide_eq_false like]
          apply wpAny_bind
          apply wpAny_setState_of ho hd R.fits
          simp only [Bool.and_false, Bool.false_eq_true, if_false, sameMem, if_true, slot_live R.tab.ris hi, eb]
          try refine wpAny_bind (wpAny_pure ?_)
          apply wpAny_bind
          apply wpAny_isSame_ref_self
          refine wpAny_bind (wpAny_pure ?_)
          simp only [Bool.false_eq_true, if_false, if_true]
          refine more (c + (d + 1)) _ (nth_add t.mask c _ (d + 1)).symm (by omega) (by omega) fun kk => ?_
          obtain ⟨c0, a1, a2, i0, b0, a3, a4, a5⟩ := inn kk
          refine ⟨c0, ?_, a2, i0, b0, a3, a4, a5⟩
          rcases Nat.lt_trichotomy c0 (c + d) with z | z | z
          · refine absurd ?_ (earlier (c0 - c) i0 (by omega) (by rw [on, Nat.add_sub_cancel' a1]; exact a3))
            show (es[i0]?.map (·.1)).getD 0 = _
            rw [a4]
            rfl
          · rw [z] at a3
            have s1 := slot_live R.tab.ris a3
            rw [slot_live R.tab.ris hi] at s1
            cases s1
            rw [eb] at a4
            have e2 := congrArg Prod.snd (Option.some.inj a4)
            have e3 : b = b0 := Value.ref.inj e2
            subst e3
            exact absurd (hb.one a5) like
          · omega
      have pr : t.probe (fun i => (es[i]?.map (·.1)).getD 0) (hsh P w k) (st.getD (t.probeStart (hsh P w k))) = some (.candidate (way t.mask (hsh P w k) (c + d)) i (nth t.mask (lookAt t.mask (hsh P w k) c) (d + 1))) := by
        rw [hst]
        exact met
      rw [pr]
      dsimp only
      by_cases led : t.led = true
      · simp only [led, Bool.not_true, Bool.false_eq_true, if_false]
        try refine wpAny_bind (wpAny_pure ?_)
        exact rest
      · simp only [Bool.not_eq_true] at led
        simp only [led, Bool.not_false, if_true]
        apply wpAny_bind
        refine unseen hx (fun y hy => ?_) ?_
        · obtain ⟨e, he, rfl⟩ := List.mem_map.mp hy
          have he2 : e ∈ es.toList := by
            have : e ∈ es ∧ e.1 = hsh P w k := by simpa using he
            simpa using this.1
          obtain ⟨b2, k2, _, h2, e2⟩ := R.rows e he2
          exact ⟨b2, k2, by rw [e2], h2.2⟩
        · simp only [Bool.false_eq_true, if_false]
          try refine wpAny_bind (wpAny_pure ?_)
          exact rest
    · have kn : k ∉ ks := fun kk => by
        obtain ⟨c0, a1, a2, i0, b0, a3, a4, a5⟩ := inn kk
        refine absurd ?_ (never (c0 - c) i0 (by omega) (by rw [on, Nat.add_sub_cancel' a1]; exact a3))
        show (es[i0]?.map (·.1)).getD 0 = _
        rw [a4]; rfl
      rw [on, Nat.add_sub_cancel' h1] at met
      have pr : t.probe (fun i => (es[i]?.map (·.1)).getD 0) (hsh P w k) (st.getD (t.probeStart (hsh P w k))) = some (.empty (way t.mask (hsh P w k) K) none) := by
        rw [hst]
        exact met
      rw [pr]
      exact wpAny_pure (q kn)
/-- where k stands -/
theorem Pot.met (R : Pot P w G s.heap S ks es ep t) {K : Nat} (free : way t.mask (hsh P w k) K ∉ t.place.toList) (kk : k ∈ ks) : ∃ c0, 0 ≤ c0 ∧ c0 < K ∧ Met P w s.heap k es t c0 := by
  obtain ⟨a, m, _, ta⟩ := R.has k kk
  obtain ⟨i, hi⟩ := List.mem_iff_getElem?.mp m
  have hh : (es.toList.map (·.1))[i]? = some (hsh P w k) := by rw [List.getElem?_map, hi]; rfl
  have z := R.tab.sz
  rw [List.length_map] at z
  have lt : i < t.place.toList.length := by
    have := (List.getElem?_eq_some_iff.mp hi).1
    rw [Array.length_toList, z]
    exact this
  have hp := List.getElem?_eq_getElem lt
  obtain ⟨c, h1, h2⟩ := R.tab.before free hh hp
  refine ⟨c, Nat.zero_le _, h1, i, a, by rw [h2]; exact hp, ?_, ta⟩
  rw [← Array.getElem?_toList]
  exact hi
end
end Kx

set_option Elab.async false
set_option linter.all false
set_option maxRecDepth 100000
set_option maxHeartbeats 1000000
namespace Kx
open PySem PySem.Spec PyProof.Rows L2
section
variable {P : Program} {w : World} {A : Around} {E : Value → Shared → Prop} {s : Shared} {S a x : Addr} {k : List (Option Key)} {ks : List (List (Option Key))} {es : Array (Int × Value)} {ep : Nat} {t : SetTable} {G : Addr → Prop}
theorem taken {es : Array (Int × Value)} : ∀ {l : List Nat}, (∀ i ∈ l, i < es.size) → (l.filterMap (es[·]?)).map (·.1) = l.map (fun i => (es.map (·.1)).getD i 0)
  | [], _ => rfl
  | i :: r, h => by
    have lt := h i List.mem_cons_self
    rw [List.filterMap_cons, Array.getElem?_eq_getElem lt, List.map_cons, List.map_cons, taken fun j hj => h j (List.mem_cons_of_mem _ hj)]
    refine congrArg (· :: _) ?_
    rw [Array.getD_eq_getD_getElem?, Array.getElem?_map, Array.getElem?_eq_getElem lt]
    rfl
/-- the table is laid anew -/
theorem Pot.relay (R : Pot P w G s.heap S ks es ep t) {wanted M : Nat} (hw : SetTable.sizeAbove wanted - 1 = M) (hM : MaskOk M) (small : SetTable.sizeAbove wanted ≤ 128) (hn : es.size ≤ M) {Q : Unit → Shared → Prop}
    (q : ∀ h' es' ep' t', Heap.SameBut S s.heap h' → Pot P w G h' S ks es' ep' t' → t'.mask = M → Q () { s with heap := h' }) : wpAny (model P w) A (setRelay S wanted) Q E s := by
  obtain ⟨o, ho, hex, hd⟩ := R.here
  obtain ⟨t', order, laid, perm, T, mask, _, _, dm⟩ := relaid_ok t (hs := es.map (·.1)) (wanted := wanted) hw hM (by rw [Array.size_map]; exact hn)
  rw [Array.size_map] at perm
  have below : ∀ i ∈ order.toList, i < es.size := fun i hi => List.mem_range.mp (perm.mem_iff.mp hi)
  have hashes : (order.filterMap (es[·]?)).toList.map (·.1) = order.toList.map (fun i => (es.map (·.1)).getD i 0) := by
    rw [Array.toList_filterMap]
    exact taken below
  have size : (order.filterMap (es[·]?)).size = es.size := by
    have z := congrArg List.length hashes
    rw [List.length_map, List.length_map, Array.length_toList, perm.length_eq, List.length_range] at z
    exact z
  rw [← hashes] at T
  rw [setRelay_eq]
  apply wpAny_bind
  apply wpAny_setState_of ho hd R.fits
  dsimp only
  rw [if_neg (show ¬ SetTable.sizeAbove wanted > sizeLine by rw [sizeLine_eq]; omega)]
  try refine wpAny_bind (wpAny_pure ?_)
  rw [laid]
  apply wpAny_bind
  dsimp only
  rw [if_neg (by rw [size]; simp)]
  try refine wpAny_bind (wpAny_pure ?_)
  refine wpAny_pure ?_
  dsimp only
  have sb : Heap.SameBut S s.heap (s.heap.update S (Obj.putSet (order.filterMap (es[·]?)) t')) := Heap.SameBut.update ..
  refine wpAny_storeSet_of ho hd (q _ _ (ep + 1) t' sb ⟨⟨_, store_at ho hd, ⟨hex.1, hex.2.1, hex.2.2⟩, rfl⟩, fun e he => ?_, T, fun k hk => ?_, size.trans R.many, by rw [size, mask]; exact hn⟩ mask) (by rw [size, sizeLine_eq]; have := perm.length_eq; rcases hM with e | e | e <;> omega)
  · rw [Array.toList_filterMap] at he
    obtain ⟨i, hi, hie⟩ := List.mem_filterMap.mp he
    have he2 : e ∈ es.toList := by
      rw [Array.getElem?_eq_getElem (below i hi)] at hie
      rw [← Option.some.inj hie]
      simp
    obtain ⟨b, kb, h1, h2, h3⟩ := R.rows e he2
    exact ⟨b, kb, h1, ⟨h2.1, h2.2.aside ho hd sb⟩, h3⟩
  · obtain ⟨a, m, g, ta⟩ := R.has k hk
    obtain ⟨i, hi⟩ := List.mem_iff_getElem?.mp m
    refine ⟨a, ?_, g, ta.aside ho hd sb⟩
    rw [Array.toList_filterMap]
    have lt : i < es.size := (List.getElem?_eq_some_iff.mp hi).1
    exact List.mem_filterMap.mpr ⟨i, perm.mem_iff.mpr (List.mem_range.mpr lt), by rw [← Array.getElem?_toList]; exact hi⟩
theorem TabOk.dull {t : SetTable} {hs : List Int} {b : Bool} (T : TabOk t hs) : TabOk { t with plain := b } hs := ⟨T.ris, T.dm, T.sz, T.mok, T.bd, T.reach⟩
/-- one is put in, if none there is like it -/
theorem Pot.add (R : Pot P w G s.heap S ks es ep t) (room : es.size * 5 < t.mask * 3) (few : es.size < 60) (hG : G x) (hx : TupAt P w s.heap x k) (hu : A.units < cLine) {Q : Bool → Shared → Prop} (q0 : k ∈ ks → Q false s)
    (q : ∀ b h' es' ep' t', k ∉ ks → Heap.SameBut S s.heap h' → Pot P w G h' S (k :: ks) es' ep' t' → es'.size * 5 < t'.mask * 3 → Q b { s with heap := h' }) : wpAny (model P w) A (setAddHashed S (.ref x) (hsh P w k)) Q E s := by
  obtain ⟨o, ho, hex, hd⟩ := R.here
  have len : (es.toList.map (·.1)).length = es.size := by rw [List.length_map, Array.length_toList]
  obtain ⟨K, near, free, busy⟩ := R.tab.first (by rw [len]; exact R.fit) (hsh P w k)
  have turns : 10 * SetTable.turns t.mask ≤ 1420 := by
    unfold SetTable.turns
    rcases R.tab.mok with e | e | e <;> omega
  unfold setAddHashed
  apply wpAny_holding
  rw [show (100000 : Nat) = 99999 + 1 from rfl, setAddHashedIn_succ]
  apply wpAny_bind
  apply wpAny_setState_of ho hd R.fits
  dsimp only
  rw [if_neg (by simp [byScan, Value.scannable])]
  try refine wpAny_bind (wpAny_pure ?_)
  apply wpAny_bind
  unfold setSearch
  refine R.search hx hu near free busy (fun hk => ?_) (fun hk => wpAny_pure (q0 hk)) 100000 0 none rfl (Nat.zero_le _) (by omega) fun kk => R.met free kk
  dsimp only
  apply wpAny_bind
  apply wpAny_setState_of ho hd R.fits
  obtain ⟨q1, q2, q3, q4, _, _, _, _, q9⟩ := R.tab.put free busy
  rw [len] at q2 q9
  generalize t.put (way t.mask (hsh P w k) K) = pt at q1 q3 q4 q9 ⊢
  obtain ⟨t1, p⟩ := pt
  dsimp only at q1 q3 q4 q9 ⊢
  rw [← q1] at q2 q3
  have list1 : (SetTable.insertAt es p (hsh P w k, Value.ref x)).toList = es.toList.take p ++ (hsh P w k, Value.ref x) :: es.toList.drop p := SetTable.toList_insertAt _ _ _
  have maps : (SetTable.insertAt es p (hsh P w k, Value.ref x)).toList.map (·.1) = (es.toList.map (·.1)).take p ++ hsh P w k :: (es.toList.map (·.1)).drop p := by rw [list1, List.map_append, List.map_cons, List.map_take, List.map_drop]
  rw [← maps] at q3
  have size1 : (SetTable.insertAt es p (hsh P w k, Value.ref x)).size = es.size + 1 := by
    rw [← Array.length_toList, list1, List.length_append, List.length_cons, List.length_take, List.length_drop, Array.length_toList]
    omega
  have ins : ∀ e ∈ (SetTable.insertAt es p (hsh P w k, Value.ref x)).toList, e = (hsh P w k, Value.ref x) ∨ e ∈ es.toList := fun e he => by
    rw [list1] at he
    rcases List.mem_append.mp he with z | z
    · exact .inr (List.mem_of_mem_take z)
    · rcases List.mem_cons.mp z with z | z
      · exact .inl z
      · exact .inr (List.mem_of_mem_drop z)
  have own : (hsh P w k, Value.ref x) ∈ (SetTable.insertAt es p (hsh P w k, Value.ref x)).toList := by
    rw [list1]
    exact List.mem_append_right _ List.mem_cons_self
  have kept : ∀ e ∈ es.toList, e ∈ (SetTable.insertAt es p (hsh P w k, Value.ref x)).toList := fun e he => by
    rw [list1]
    rw [← List.take_append_drop p es.toList] at he
    rcases List.mem_append.mp he with z | z
    · exact List.mem_append_left _ z
    · exact List.mem_append_right _ (List.mem_cons_of_mem _ z)
  generalize SetTable.insertAt es p (hsh P w k, Value.ref x) = es1 at q3 size1 ins own kept
  have fit1 : es.size + 1 ≤ t.mask := by rcases R.tab.mok with e | e | e <;> omega
  -- behind the question by what it is hashed
  have go : ∀ t2 : SetTable, TabOk t2 (es1.toList.map (·.1)) → t2.mask = t.mask → t2.fill = es.size + 1 → wpAny (model P w) A (do
      storeSet S es1 t2
      if !false && t2.tooFull then setRelay S (SetTable.grown (es.size + 1))
      return true) Q E s := fun t2 T2 m2 f2 => by
    apply wpAny_bind
    have sb : Heap.SameBut S s.heap (s.heap.update S (Obj.putSet es1 t2)) := Heap.SameBut.update ..
    refine wpAny_storeSet_of ho hd ?_ (by rw [size1, sizeLine_eq]; omega)
    have R1 : Pot P w G (s.heap.update S (Obj.putSet es1 t2)) S (k :: ks) es1 (ep + 1) t2 := ⟨⟨_, store_at ho hd, ⟨hex.1, hex.2.1, hex.2.2⟩, rfl⟩, fun e he => by
        rcases ins e he with rfl | z
        · exact ⟨x, k, List.mem_cons_self, ⟨hG, hx.aside ho hd sb⟩, rfl⟩
        · obtain ⟨b, kb, h1, h2, h3⟩ := R.rows e z
          exact ⟨b, kb, List.mem_cons_of_mem _ h1, ⟨h2.1, h2.2.aside ho hd sb⟩, h3⟩, T2, fun k2 hk2 => (by
        rcases List.mem_cons.mp hk2 with rfl | z
        · exact ⟨x, own, hG, hx.aside ho hd sb⟩
        · obtain ⟨a2, m2, g2, t2⟩ := R.has k2 z
          exact ⟨a2, kept _ m2, g2, t2.aside ho hd sb⟩), by rw [size1, R.many, List.length_cons], by rw [size1, m2]; exact fit1⟩
    generalize s.heap.update S (Obj.putSet es1 t2) = h1 at sb R1
    have tf : t2.tooFull = decide ((es.size + 1) * 5 ≥ t.mask * 3) := by
      unfold SetTable.tooFull
      rw [f2, m2]
    by_cases full : (es.size + 1) * 5 ≥ t.mask * 3
    · rw [tf, decide_eq_true full]
      simp only [Bool.not_false, Bool.and_self, if_true]
      apply wpAny_bind
      have grow : ∀ M, SetTable.sizeAbove (SetTable.grown (es.size + 1)) - 1 = M → MaskOk M → SetTable.sizeAbove (SetTable.grown (es.size + 1)) ≤ 128 → (es.size + 1) * 5 < M * 3 →
          wpAny (model P w) A (setRelay S (SetTable.grown (es.size + 1))) (fun _ s' => wpAny (model P w) A (pure true) Q E s') E { s with heap := h1 } := fun M g1 g2 g3 g4 =>
        Pot.relay (s := { s with heap := h1 }) R1 g1 g2 g3 (by rw [size1]; omega) fun h2 es2 ep2 t2' sb2 R2 m => wpAny_pure (q true h2 es2 ep2 t2' hk (sb.trans sb2) R2 (by rw [m, R2.many, List.length_cons, ← R.many]; exact g4))
      have two : es.size = 4 ∨ es.size = 18 := by rcases R.tab.mok with e | e | e <;> rw [e] at full room <;> omega
      rcases two with e | e
      · exact grow 31 (by rw [e, size_20]) (.inr (.inl rfl)) (by rw [e, size_20]; decide) (by omega)
      · exact grow 127 (by rw [e, size_76]) (.inr (.inr rfl)) (by rw [e, size_76]; decide) (by omega)
    · rw [tf, decide_eq_false full]
      simp only [Bool.and_false, Bool.false_eq_true, if_false]
      try refine wpAny_bind (wpAny_pure ?_)
      exact wpAny_pure (q true h1 es1 (ep + 1) t2 hk sb R1 (by rw [size1, m2]; omega))
  have both : ∀ c : Bool, wpAny (model P w) A (do
      storeSet S es1 (if c = true then t1 else { t1 with plain := false })
      if !false && (if c = true then t1 else { t1 with plain := false }).tooFull then setRelay S (SetTable.grown (es.size + 1))
      return true) Q E s := fun c => by
    cases c with
    | true => exact go t1 q3 q4 q9
    | false => exact go { t1 with plain := false } (TabOk.dull q3) q4 q9
  by_cases pl : t1.plain = true
  · rw [if_pos pl]
    apply wpAny_bind
    exact hx.byValue fun c => both c
  · rw [if_neg pl]
    refine wpAny_bind (wpAny_pure (both true))
end
end Kx

set_option Elab.async false
set_option linter.all false
set_option maxRecDepth 100000
set_option maxHeartbeats 1000000
namespace Kx
open PySem PySem.Spec PyProof.Rows L2
/-- a name as a key, or None -/
def okV : Option Key → V
  | none => .non
  | some k => kV k
def dstep {α : Type} [DecidableEq α] (σ : List α) (x : α) : List α := if x ∈ σ then σ else x :: σ
def dd {α : Type} [DecidableEq α] (xs : List α) : List α := xs.foldl dstep []
theorem dd_mem {α : Type} [DecidableEq α] : ∀ (xs σ : List α) (y : α), y ∈ xs.foldl dstep σ ↔ y ∈ σ ∨ y ∈ xs
  | [], σ, y => by simp
  | x :: r, σ, y => by
    rw [List.foldl_cons, dd_mem r]
    unfold dstep
    split
    · rename_i h
      constructor
      · exact fun z => z.elim .inl fun z => .inr (List.mem_cons_of_mem _ z)
      · exact fun z => z.elim .inl fun z => (List.mem_cons.mp z).elim (fun e => .inl (e ▸ h)) .inr
    · constructor
      · exact fun z => z.elim (fun z => (List.mem_cons.mp z).elim (fun e => .inr (e ▸ List.mem_cons_self)) .inl) fun z => .inr (List.mem_cons_of_mem _ z)
      · exact fun z => z.elim (fun z => .inl (List.mem_cons_of_mem _ z)) fun z => (List.mem_cons.mp z).elim (fun e => .inl (e ▸ List.mem_cons_self)) .inr
theorem dd_len {α : Type} [DecidableEq α] : ∀ (xs σ : List α), (xs.foldl dstep σ).length ≤ σ.length + xs.length ∧ ((xs.foldl dstep σ).length = σ.length + xs.length ↔ (xs.Nodup ∧ ∀ x ∈ xs, x ∉ σ))
  | [], σ => by simp
  | x :: r, σ => by
    obtain ⟨h1, h2⟩ := dd_len r (dstep σ x)
    rw [List.foldl_cons]
    by_cases m : x ∈ σ
    · have e : dstep σ x = σ := if_pos m
      rw [e] at h1 h2 ⊢
      refine ⟨by rw [List.length_cons]; omega, ⟨fun z => by rw [List.length_cons] at z; omega, fun z => absurd m (z.2 x List.mem_cons_self)⟩⟩
    · have e : dstep σ x = x :: σ := if_neg m
      rw [e] at h1 h2 ⊢
      rw [List.length_cons] at h1 h2 ⊢
      refine ⟨by omega, ⟨fun z => ?_, fun z => ?_⟩⟩
      · obtain ⟨n, f⟩ := h2.mp (by omega)
        refine ⟨List.nodup_cons.mpr ⟨fun k => f x k List.mem_cons_self, n⟩, fun y hy => ?_⟩
        rcases List.mem_cons.mp hy with rfl | hy
        · exact m
        · exact fun k => f y hy (List.mem_cons_of_mem _ k)
      · obtain ⟨n, f⟩ := z
        obtain ⟨n1, n2⟩ := List.nodup_cons.mp n
        have := h2.mpr ⟨n2, fun y hy k => (List.mem_cons.mp k).elim (fun e => n1 (e ▸ hy)) (f y (List.mem_cons_of_mem _ hy))⟩
        omega
theorem dd_nodup {α : Type} [DecidableEq α] (xs : List α) : (dd xs).length = xs.length ↔ xs.Nodup := by
  have h := (dd_len xs []).2
  rw [List.length_nil, Nat.zero_add] at h
  exact h.trans ⟨fun z => z.1, fun z => ⟨z, fun _ _ k => nomatch k⟩⟩
theorem dd_le {α : Type} [DecidableEq α] (xs : List α) : (dd xs).length ≤ xs.length := by
  have h := (dd_len xs []).1
  rw [List.length_nil, Nat.zero_add] at h
  exact h
theorem dd_next {α : Type} [DecidableEq α] {xs : List α} {i : Nat} {x : α} (h : xs[i]? = some x) : dd (xs.take (i + 1)) = dstep (dd (xs.take i)) x := by
  unfold dd
  rw [List.take_add_one, h, List.foldl_append]
  rfl
/-- what is known when i of these are in -/
def InBy (P : Program) (w : World) (as : List Addr) (ks : List (List (Option Key))) (S : Addr) (i : Nat) (h : Heap) : Prop :=
  (∀ (j : Nat) (a : Addr) (k : List (Option Key)), as[j]? = some a → ks[j]? = some k → TupAt P w h a k) ∧ ∃ es ep t, Pot P w (fun a => a ∈ as) h S (dd (ks.take i)) es ep t ∧ es.size * 5 < t.mask * 3
section
variable {P : Program} {w : World} {A1 : Around} {as : List Addr} {ks : List (List (Option Key))} {items : Array Value} {S l It : Addr} {G : Array GenState → Array GenState → Prop} {St : Nat → Shared → Prop} {u0 : Shared} {R : Result → Shared → Prop}
theorem none_in {h : Heap} (none_yet : h.get? S = some (set0 w)) : Pot P w (fun a => a ∈ as) h S [] #[] 0 (.fresh 0 0 (!w.params.followText "set-order")) where
  here := ⟨_, none_yet, ⟨rfl, rfl, rfl⟩, rfl⟩
  rows := fun e he => by cases he
  tab := ⟨List.Pairwise.nil, rfl, rfl, .inl rfl, fun x hx => (by cases hx), fun i h j hi => (by cases hi)⟩
  has := fun k hk => nomatch hk
  many := rfl
  fit := Nat.zero_le _
theorem tuples_in (size : items.toList = as.map Value.ref) (len : as.length = ks.length) (few : ks.length < 60) (hu : A1.in1.units < cLine) (W : WalksS P w A1.in1 It [It, l] [It] G items.size (fun i v => items[i]? = some v) St) (off : S ∉ [It, l]) (st : St 0 u0)
    (none_yet : u0.heap.get? S = some (set0 w)) (tup : ∀ (j : Nat) (a : Addr) (k : List (Option Key)), as[j]? = some a → ks[j]? = some k → TupAt P w u0.heap a k) (apart : It ∉ as)
    (fin : ∀ u1, Moved [S, It] G u0 u1 → InBy P w as ks S ks.length u1.heap → R (.ok (.ret .none)) u1) : codeAny (model P w) A1 (.builtin "set.update.loop" ⟨[.ref S, .ref It], []⟩) R u0 := by
  have n : items.size = ks.length := by rw [← Array.length_toList, size, List.length_map, len]
  have SI : S ≠ It := fun z => off (z ▸ List.mem_cons_self)
  refine loop_by W off (InBy P w as ks S) (fun i h h' x e => ?_) (fun i v t Q E lt pv x q => ?_) items.size 0 u0 (Nat.add_zero _) st ⟨tup, _, _, _, none_in none_yet, by show 0 * 5 < 7 * 3; decide⟩ (n.symm ▸ fin)
  · obtain ⟨x1, es, ep, t, x2, x3⟩ := x
    have gone : ∀ a ∈ as, ∀ o, h.get? a = some o → h'.get? a = some o := fun a ha o => e a o fun z => apart ((List.mem_singleton.mp z) ▸ ha)
    refine ⟨fun j a k ha hk => (x1 j a k ha hk).move (gone a (List.mem_of_getElem? ha)), es, ep, t, x2.move fun b o hb => ?_, x3⟩
    rcases hb with rfl | hb
    · exact e b o fun z => SI (List.mem_singleton.mp z)
    · exact gone b hb o
  · obtain ⟨x1, es, ep, tb, x2, x3⟩ := x
    have li : i < as.length := by omega
    have lk : i < ks.length := by omega
    have ga : as[i]? = some as[i] := List.getElem?_eq_getElem li
    have gk : ks[i]? = some ks[i] := List.getElem?_eq_getElem lk
    have ev : v = Value.ref as[i] := by
      rw [← Array.getElem?_toList, size, List.getElem?_map, ga] at pv
      exact (Option.some.inj pv).symm
    subst ev
    have tx := x1 i _ _ ga gk
    have next := dd_next gk
    unfold setAdd
    apply wpAny_holding
    apply wpAny_bind
    apply wpAny_pyHash_tuple hu tx.key
    have cnt := x2.many
    have le := dd_le (ks.take i)
    rw [List.length_take] at le
    have moved : ∀ {h' : Heap}, Heap.SameBut S t.heap h' → ∀ (j : Nat) (a : Addr) (k : List (Option Key)), as[j]? = some a → ks[j]? = some k → TupAt P w h' a k := fun sb j a k ha hk => by
      obtain ⟨o, ho, _, hd⟩ := x2.here
      exact (x1 j a k ha hk).aside ho hd sb
    refine Pot.add (s := { t with toks := t.toks + (ks[i].length + 1) }) x2 x3 (by omega) (List.getElem_mem li) tx hu (fun hk => q t.heap _ false (by show t.toks ≤ t.toks + _; omega) (Heap.SameBut.refl S t.heap) ⟨x1, es, ep, tb, ?_, x3⟩) fun b h' es' ep' t' hk sb y room => q h' _ b (by show t.toks ≤ t.toks + _; omega) sb ⟨moved sb, es', ep', t', ?_, room⟩
    · rw [next]
      unfold dstep
      rw [if_pos hk]
      exact x2
    · rw [next]
      unfold dstep
      rw [if_neg hk]
      exact y
end
/-! ### len(set(t)), t a tuple of such tuples -/
def tLenSetT (K : PySem.W.Frag) (ta : TE) : TE := fun σ H Q => ta σ H fun x H1 => ∃ (l : Addr) (as : List Addr) (ks : List (List (Option Key))), x = .ref l ∧ SqL K H1 l (as.map V.ref) ∧ as.length = ks.length ∧ (∀ (j : Nat) (a : Addr) (k : List (Option Key)), as[j]? = some a → ks[j]? = some k → SqT K H1 a (k.map okV)) ∧
  ks.length < 60 ∧ Q (.int ((dd ks).length : Nat)) H1
theorem refs_are : ∀ {as : List Addr} {us : List Value}, Vals (as.map V.ref) us → us = as.map Value.ref
  | [], _, .nil => rfl
  | a :: r, _, .cons h t => by
    cases h
    rw [refs_are t]
    rfl
theorem okey_flat : ∀ {k : List (Option Key)} {us : List Value}, Vals (k.map okV) us → ∀ y ∈ us, ∀ b, y ≠ .ref b
  | [], _, .nil, y, hy, _ => by cases hy
  | none :: r, _, .cons h t, y, hy, b => by
    cases h
    rcases List.mem_cons.mp hy with rfl | hy
    · exact fun z => by cases z
    · exact okey_flat t y hy b
  | some (.inl i) :: r, _, .cons h t, y, hy, b => by
    obtain ⟨tk, rfl⟩ := h
    rcases List.mem_cons.mp hy with rfl | hy
    · exact fun z => by cases z
    · exact okey_flat t y hy b
  | some (.inr i) :: r, _, .cons h t, y, hy, b => by
    obtain ⟨tk, rfl⟩ := h
    rcases List.mem_cons.mp hy with rfl | hy
    · exact fun z => by cases z
    · exact okey_flat t y hy b
theorem oitems {P : Program} {w : World} : ∀ {k : List (Option Key)} {us : List Value}, Vals (k.map okV) us → ItemsAre (noneKind P w) k us
  | [], _, .nil => .nil
  | none :: r, _, .cons h t => by
    cases h
    exact .cons rfl (oitems t)
  | some k :: r, _, .cons h t => .cons (kV_is (P := P) (w := w) h) (oitems t)
theorem tup_at {X : Cx} {pins : List (Addr × Obj)} {σ : L2.St} {H : Hp} {s : Shared} {a : Addr} {k : List (Option Key)} (I : Inv X pins σ H s) (h : SqT X.K H a (k.map okV)) : TupAt X.prog X.w s.heap a k := by
  obtain ⟨its, rv, ⟨o, ho, hc, n, hd⟩, _⟩ := I.tuple h
  refine ⟨⟨o, its.toArray, n, ho, hc, hd, oitems rv⟩, fun o2 i2 n2 h2 d2 y hy b => ?_⟩
  obtain rfl : o = o2 := Option.some.inj (ho.symm.trans h2)
  rw [hd] at d2
  injection d2 with d3 d4
  rw [← d3] at hy
  exact okey_flat rv y hy b
theorem pe_lenSetT {X : Cx} {a : Expr} {ta : TE} {p p2 q pos : Pos} (hc : X.calm = true) (hu : X.A.units + 20 < cLine) (hm : X.mg "len" = none) (hm2 : X.mg "set" = none) (ha : PE X a ta) (hg : Gl X "len" := by rfl) (hg2 : Gl X "set" := by rfl)
    (na : starEach [a] X.env = (false, eval a X.env) :: starEach [] X.env := by rfl) : PE X (.Call (.Name "len" p) [.Call (.Name "set" p2) [a] [] q] [] pos) (tLenSetT X.K ta) where
  run := fun pins s σ H Q I h => by
    have inner : wpAny (model X.prog X.w) X.A (eval (.Call (.Name "set" p2) [a] [] q) X.env) (fun v s2 => wpAny (model X.prog X.w) X.A (call (.builtin "len") [v]) (EP X pins σ Q) X.xe s2) X.xe s := by
      refine Call_ (ld_blt I hg2 hm2 PyProof.Rows.boot_set (PyProof.Rows.callWith_type1 (PyProof.Rows.args_cons (thn (ha.run pins s σ H _ I h) fun v s1 got => PyProof.Rows.args_nil ?_) na) na rfl))
      obtain ⟨x, H1, J, rx, l, as, ks, rfl, seq, len, each, few, want⟩ := got
      cases rx
      obtain ⟨its, rv, pl, _⟩ := J.list seq
      have items := refs_are rv
      have tups : ∀ (j : Nat) (a : Addr) (k : List (Option Key)), as[j]? = some a → ks[j]? = some k → TupAt X.prog X.w s1.heap a k := fun j a k h1 h2 => tup_at J (each j a k h1 h2)
      have old : ∀ a ∈ as, ∃ o, s1.heap.get? a = some o := fun a ha => by
        obtain ⟨j, hj, e⟩ := List.getElem_of_mem ha
        have g1 : as[j]? = some a := by rw [List.getElem?_eq_getElem hj, e]
        have g2 : ks[j]? = some ks[j] := List.getElem?_eq_getElem (by omega)
        obtain ⟨o, _, _, ho, _⟩ := (tups j a _ g1 g2).key
        exact ⟨o, ho⟩
      refine call_set_list (P := X.prog) (w := X.w) (s := s1) (InBy X.prog X.w as ks s1.heap.objs.size ks.length) (J.ok.hd hc) pl.isList (fun A1 It deep G St u0 R W off st n keep fin => tuples_in (by simpa using items) len few (by simp only [Around.in1_units]; omega) W off st n (fun j a k h1 h2 => (tups j a k h1 h2).move fun o ho => (keep a o ho).2) (fun z => ?_) fin) fun h' tk full kept => ?_
      · obtain ⟨o, ho⟩ := old It z
        exact (keep It o ho).1 rfl
      · obtain ⟨_, es, ep, t, pot, _⟩ := full
        obtain ⟨o, ho, hex, hd⟩ := pot.here
        have J2 : Inv X pins σ H1 { s1 with heap := h', toks := tk } := J.kept kept
        have cnt := pot.many
        rw [List.take_length] at cnt
        exact call_len_set ho hex hd pot.fits (by rw [cnt]; have := dd_le ks; omega) ⟨.int ((dd ks).length : Nat), H1, J2.tok _, ⟨_, by rw [cnt]⟩, want⟩
    exact Call_ (ld_blt I hg hm PySem.boot_len (PyProof.Rows.callWith_builtin1 (PyProof.Rows.args_cons (wpAny_mono inner (fun _ _ z => PyProof.Rows.args_nil z) fun _ _ z => z) rfl) rfl rfl))
end Kx

set_option Elab.async false
set_option linter.all false
set_option maxRecDepth 100000
set_option maxHeartbeats 400000
namespace Kx
open PySem PySem.Spec PyProof.Rows L2 Evl
/-! ## leaks that are unlike -/
def D.oTxt : D → Option Str
  | .str x => some x
  | _ => none
abbrev T4 := Str × Str × Option Str
def D.trip : D → T4
  | .tup [a, b, _, n] => (a.txt, b.txt, n.oTxt)
  | _ => (Str.empty, Str.empty, none)
def oD : Option Str → D
  | none => .non
  | some x => .str x
def tripD (t : T4) : D := .tup [.str t.1, .str t.2.1, oD t.2.2]
def key3 (t : T4) : List (Option Key) := [some (.inr t.1), some (.inr t.2.1), t.2.2.map Sum.inr]
theorem key3_inj {t u : T4} (h : key3 t = key3 u) : t = u := by
  obtain ⟨a, b, c⟩ := t
  obtain ⟨a2, b2, c2⟩ := u
  unfold key3 at h
  simp only [List.cons.injEq, Option.some.injEq, Sum.inr.injEq, and_true] at h
  obtain ⟨rfl, rfl, h⟩ := h
  cases c with
  | none => cases c2 with
    | none => rfl
    | some y => cases h
  | some x => cases c2 with
    | none => cases h
    | some y =>
      simp only [Option.map_some, Option.some.injEq, Sum.inr.injEq] at h
      rw [h]
theorem keys_nodup (ts : List T4) : (ts.map key3).Nodup ↔ ts.Nodup := by
  constructor
  · exact fun h => List.Pairwise.of_map key3 (fun _ _ n e => n (congrArg key3 e)) h
  · exact fun h => List.Pairwise.map key3 (fun _ _ n e => n (key3_inj e)) h
theorem trip_at {H : Hp} {v : V} {t : T4} (r : Rep H v (tripD t)) : ∃ a, v = .ref a ∧ TupS H a ((key3 t).map okV) := by
  obtain ⟨a, v0, v1, v2, rfl, ha, r0, r1, r2⟩ := r.t3
  obtain rfl := r0.strD
  obtain rfl := r1.strD
  refine ⟨a, rfl, ?_⟩
  obtain ⟨x, y, c⟩ := t
  cases c with
  | none =>
    cases r2
    exact ha
  | some z =>
    obtain rfl := r2.strD
    exact ha
theorem trips_at {H : Hp} : ∀ {ts : List T4} {vs : List V}, Reps H vs (ts.map tripD) → ∃ as : List Addr, vs = as.map V.ref ∧ as.length = (ts.map key3).length ∧ ∀ (j : Nat) (a : Addr) (k : List (Option Key)), as[j]? = some a → (ts.map key3)[j]? = some k → TupS H a (k.map okV)
  | [], _, .nil => ⟨[], rfl, rfl, fun j a k h => by simp at h⟩
  | t :: r, _, .cons h hs => by
    obtain ⟨a, rfl, ha⟩ := trip_at h
    obtain ⟨as, rfl, l, each⟩ := trips_at hs
    refine ⟨a :: as, rfl, by rw [List.length_cons, l]; rfl, fun j b k hb hk => ?_⟩
    cases j with
    | zero =>
      have e1 := Option.some.inj hb
      have e2 := Option.some.inj hk
      subst e1 e2
      exact ha
    | succ j => exact each j b k hb hk
def okUnlikeT : OkF := fun vs H z => ∃ (v : V) (ts : List T4), vs = [v] ∧ Rep H v (.lst (ts.map tripD)) ∧ ts.length < 60 ∧ z = .bl (decide ts.Nodup)
theorem stb_unlikeT : Stb okUnlikeT := fun _ _ _ _ e ⟨v, ts, h1, h2, h3, h4⟩ => ⟨v, ts, h1, h2.up e, h3, h4⟩
section
variable {K : PySem.W.Frag} {S : Addr → Prop} {σ : L2.St} {H : Hp} {te : TE} {d : D}
theorem er_ofS (h : EvS S te σ H d) : EvR te σ H d := fun H1 e Q q => h H1 e Q fun v H2 e2 r => q v H2 e2 (r.up hidP_sub)
theorem es_sum {is : List Int} (h : EvS S te σ H (.lst (is.map D.int))) : Ev (tCB (rSum K) (tCons te tNil)) σ H (.int is.sum) := fun H1 e Q q => h H1 e _ fun v H2 e2 r => by
  cases r with
  | @lst a vs _ ha rs =>
    rw [reps_ints rs] at ha
    exact ⟨a, is, rfl, .of (hidP_get ha).1, q H2 e2⟩
/-- a list of truths of which all are so -/
theorem es_all {bs : List Bool} (h : EvS S te σ H (.lst (bs.map D.bl))) : Ev (tCB (rAll K) (tCons te tNil)) σ H (.bl (bs.all id)) := ev_allS h
end
def shareOf (d : D) : Int := match d with
  | .tup [_, _, s, _] => s.num
  | _ => 0
def isFrom (n : Str) (d : D) : Bool := match d with
  | .tup [a, _, _, _] => decide (a.txt = n)
  | _ => false
/-- what flows off n -/
def lost (ds : List D) (n : Str) : Int := ((ds.filter (isFrom n)).map shareOf).sum
def D.leaks (ns : List Str) (m : Int) : D → Bool
  | .tup ds => isTup (.tup ds) 0 6 && (ds.all (D.leak ns m) && (decide (ds.map D.trip).Nodup && ns.all fun n => decide (lost ds n ≤ m)))
  | _ => false
theorem leaks_tup (ns : List Str) (m : Int) (ds : List D) : D.leaks ns m (.tup ds) = (isTup (.tup ds) 0 6 && (ds.all (D.leak ns m) && (decide (ds.map D.trip).Nodup && ns.all fun n => decide (lost ds n ≤ m)))) := rfl
def okLeaks : OkF := fun vs H z => ∃ v d a ns m, vs = [v, .ref a, .int m] ∧ Rep H v d ∧ d.Sz ∧ H a = some (.lst (sv ns)) ∧ ns.length ≤ 1000 ∧ z = .bl (d.leaks ns m)
theorem stb_leaks : Stb okLeaks := fun _ _ _ _ e ⟨v, d, a, ns, m, h1, h2, h3, h4, h5, h6⟩ => ⟨v, d, a, ns, m, h1, h2.up e, h3, e _ _ h4, h5, h6⟩
def D.sky : D → Bool
  | .tup [lo, hi, f, mv] => [lo, hi, f, mv].all (fun d => isBetw d (-40) 40) && ((decide (lo.num ≤ f.num) && (decide (f.num ≤ hi.num) && decide (hi.num ≤ lo.num + 8))) && (decide (0 ≤ mv.num) && decide (mv.num ≤ 8)))
  | _ => false
theorem sky_4 (lo hi f mv : D) : D.sky (.tup [lo, hi, f, mv]) = ([lo, hi, f, mv].all (fun d => isBetw d (-40) 40) && ((decide (lo.num ≤ f.num) && (decide (f.num ≤ hi.num) && decide (hi.num ≤ lo.num + 8))) && (decide (0 ≤ mv.num) && decide (mv.num ≤ 8)))) := rfl
def okSky : OkF := fun vs H z => ∃ v d, vs = [v] ∧ Rep H v d ∧ z = .bl d.sky
theorem stb_sky : Stb okSky := fun _ _ _ _ e ⟨v, d, h1, h2, h3⟩ => ⟨v, d, h1, h2.up e, h3⟩
section
variable {P : Program} {w : World} {K : PySem.W.Frag} {mg : Str → Option Value} {base : Heap} (T : Txt K mg)
theorem ok_unlikeT : FnOk P w K mg base CX0 1 T.a_are_unlike T.d_are_unlike ["row"] (spX okUnlikeT) := by
  refine T.F_are_unlike.ok sc_are_unlike (fun vs H Q E h => ?_) (fun cdv A outer s H vs Q E hr h => ?_)
  · obtain ⟨z, ⟨v, ts, rfl, _⟩, _⟩ := h
    rfl
  · obtain ⟨z, ⟨v, ts, rfl, hv, hz, rfl⟩, q⟩ := h
    have hu : (A.deeper (envOfC "are_unlike" (defScope s_are_unlike) s.heap.objs.size T.a_are_unlike cdv)).units + 20 < cLine := by have := hr.un; omega
    refine ⟨_, pss_one (ps_ret (pe_cmpR op_eq (pe_lenSetT rfl hu T.z_len T.z_set (pv 0)) (pe_callB call_len_seq (by rfl) T.z_len bo_len (pa_cons (pv 0) pa_nil)) (nomark _))), ?_⟩
    obtain ⟨a, vs, rfl, ha, hs⟩ := hv.lstD
    obtain ⟨as, rfl, l, each⟩ := trips_at hs
    refine s_ret (v := .bl (decide ts.Nodup)) (ev_is (ev_op (x := .int ((dd (ts.map key3)).length : Nat)) (y := .int (ts.length : Nat)) (fun H1 e Q q => ?_) (ev_is (ev_lenT (ev_var rfl) (.inl ha)) ?_) (rv_eq rfl)) ?_) q
    · exact ⟨.ref a, rfl, a, as, ts.map key3, rfl, .of (e _ _ ha), l, fun j b k hb hk => (((each j b k hb hk).up e).sq), by rw [List.length_map]; exact hz, q H1 (Ex.refl _)⟩
    · rw [List.length_map, l, List.length_map]
    · have e : (V.int ((dd (ts.map key3)).length : Nat) = V.int (ts.length : Nat)) ↔ ts.Nodup := by
        rw [← keys_nodup, ← dd_nodup, List.length_map]
        exact ⟨fun h => by have h2 := V.int.inj h; omega, fun h => by rw [h]⟩
      rw [decide_eq_decide.mpr e]
theorem ok_is_weather : FnOk P w K mg base CX0 3 T.a_is_weather T.d_is_weather ["value"] (spX okSky) := by
  refine T.F_is_weather.ok sc_is_weather (fun vs H Q E h => ?_) (fun cdv A outer s H vs Q E hr h => ?_)
  · obtain ⟨z, ⟨v, d, rfl, _⟩, _⟩ := h
    rfl
  · obtain ⟨z, ⟨v, d, rfl, hv, rfl⟩, q⟩ := h
    have nd := sc_is_weather.nd
    refine ⟨_, (pss_cons (ps_if (PW.pt (pw_or (pt_not (pt_val (pe_call (ok_is_tuple T) (hr.mono (by decide)) (by rfl) T.g_is_tuple T.F_is_tuple.kp (b_is_tuple T) .nil pass0 (pa_cons (pv 0) (pa_cons pe_int (pa_cons pe_int pa_nil)))))) (pw_or1 (pt_not (pt_val (pe_call (ok_are_wholes T) (hr.mono (by decide)) (by rfl) T.g_are_wholes T.F_are_wholes.kp (b_are_wholes T) .nil pass0 (pa_cons (pv 0) (pa_cons (pe_un un_neg pe_int) (pa_cons pe_int pa_nil))))))))) (pss_one (ps_ret pe_bl)) pss_nil)
      (pss_cons (ps_asg (pv 0) (pg_tup rfl (pgs_cons (pg_name (i := 1) nd rfl (.inl rfl)) (pgs_cons (pg_name (i := 2) nd rfl (.inl rfl)) (pgs_cons (pg_name (i := 3) nd rfl (.inl rfl)) (pgs_cons (pg_name (i := 4) nd rfl (.inl rfl)) pgs_nil))))))
      (pss_one (ps_ret (pe_and (pe_chain3 op_le op_le op_le (pv 1) (pv 3) (pv 2) (pe_op op_add (pv 1) pe_int)) (pe_one (pe_chain op_le op_le pe_int (pv 4) pe_int))))))), ?_⟩
    cases ht : isTup d 4 4 with
    | false =>
      refine s_if (b := true || false) (et_or (a := true) (b := false) (et_is (et_not (et_B (ev_sp stb_tup (ea_cons (ev_var rfl) (ea_cons ev_c (ea_cons ev_c ea_nil))) ⟨_, d, 4, 4, rfl, hv, rfl⟩))) (by rw [ht]; rfl)) fun h => by cases h) (fun hb H1 e => ?_) (fun hb => by cases hb)
      refine s_ret (v := .bl false) ev_c fun H2 e2 => ?_
      have z : d.sky = false := by
        cases d with
        | tup ds =>
          match ds, ht with
          | [_, _, _, _], h => exact absurd h (by simp [isTup])
          | [], _ | [_], _ | [_, _], _ | [_, _, _], _ | _ :: _ :: _ :: _ :: _ :: _, _ => rfl
        | _ => rfl
      rw [z] at q
      exact q H2 (e.trans e2)
    | true =>
      obtain ⟨lo, hi, f, mv, rfl⟩ := tup4 ht
      have hv0 := hv
      obtain ⟨a, v0, v1, v2, v3, rfl, ha, r0, r1, r2, r3⟩ := hv.t4
      rw [sky_4] at q
      refine s_if (b := ![lo, hi, f, mv].all (fun d => isBetw d (-40) 40)) (et_is (et_or (a := false) (et_is (et_not (et_B (ev_sp stb_tup (ea_cons (ev_var rfl) (ea_cons ev_c (ea_cons ev_c ea_nil))) ⟨_, _, 4, 4, rfl, hv, rfl⟩))) (by rw [ht]; rfl)) fun _ =>
        et_not (et_B (ev_sp stb_wholes (ea_cons (ev_var rfl) (ea_cons (ev_un ev_c ru_neg) (ea_cons ev_c ea_nil))) ⟨_, [lo, hi, f, mv], -40, 40, rfl, hv, by simp, rfl⟩))) (Bool.false_or _)) (fun hb H1 e => ?_) (fun hb H1 e => ?_)
      · rw [not_t hb] at q
        exact s_ret (v := .bl false) ev_c fun H2 e2 => q H2 (e.trans e2)
      · rw [not_f hb, Bool.true_and] at q
        have hw := not_f hb
        rw [(betw_int (List.all_eq_true.mp hw lo (by simp))).1] at r0
        rw [(betw_int (List.all_eq_true.mp hw hi (by simp))).1] at r1
        rw [(betw_int (List.all_eq_true.mp hw f (by simp))).1] at r2
        rw [(betw_int (List.all_eq_true.mp hw mv (by simp))).1] at r3
        obtain rfl := r0.intD
        obtain rfl := r1.intD
        obtain rfl := r2.intD
        obtain rfl := r3.intD
        refine s_unp (er_of (ev_var rfl) (hv0.up e)) rfl fun vs H2 e2 rs => ?_
        cases rs with
        | cons p1 rs => cases rs with
          | cons p2 rs => cases rs with
            | cons p3 rs => cases rs with
              | cons p4 rs =>
                cases rs
                rw [(betw_int (List.all_eq_true.mp hw lo (by simp))).1] at p1
                rw [(betw_int (List.all_eq_true.mp hw hi (by simp))).1] at p2
                rw [(betw_int (List.all_eq_true.mp hw f (by simp))).1] at p3
                rw [(betw_int (List.all_eq_true.mp hw mv (by simp))).1] at p4
                obtain rfl := p1.intD
                obtain rfl := p2.intD
                obtain rfl := p3.intD
                obtain rfl := p4.intD
                refine ⟨_, _, rfl, _, _, rfl, _, _, rfl, _, _, rfl, rfl, ?_⟩
                show tRet _ _ [some (.ref a), some (.int lo.num), some (.int hi.num), some (.int f.num), some (.int mv.num)] H2
                exact s_ret (ev_andV (ev_chain3 (ev_var rfl) (ev_var rfl) (ev_var rfl) (ev_op (ev_var rfl) ev_c rv_I0) rv_I0 rv_I0 rv_I0) fun _ => ev_chain ev_c (ev_var rfl) rv_I0 (fun _ => ev_c) (fun _ => rv_I0)) fun H3 e3 => q H3 ((e.trans e2).trans e3)
theorem ok_are_leaks : FnOk P w K mg base CX0 3 T.a_are_leaks T.d_are_leaks ["value", "names", "whole"] (spX okLeaks) := by
  refine T.F_are_leaks.ok sc_are_leaks (fun vs H Q E h => ?_) (fun cdv A outer s H vs Q E hr h => ?_)
  · obtain ⟨z, ⟨v, d, a, ns, m, rfl, _⟩, _⟩ := h
    rfl
  · obtain ⟨z, ⟨v, d, na, ns, m, rfl, hv, hz, hns, nz, rfl⟩, q⟩ := h
    have nd := sc_are_leaks.nd
    refine ⟨_, (pss_cons (ps_if (PW.pt (pw_or (pt_not (pt_val (pe_call (ok_is_tuple T) (hr.mono (by decide)) (by rfl) T.g_is_tuple T.F_is_tuple.kp (b_is_tuple T) .nil pass0 (pa_cons (pv 0) (pa_cons pe_int (pa_cons pe_int pa_nil)))))) (pw_or1 (pt_not (pt_val (pe_callB (cr_all rfl) (by rfl) T.z_all bo_all (pa_cons (pe_lc (own := [("row", 3)]) (g := gName 3) (tt := tYes) (by rfl) nd (pi_tup (pv 0)) (blkOk_by (N := ["value", "names", "whole", "row", "area", "other", "_", "door", "name"]) (sc := defScope s_are_leaks) (by decide +kernel)) (fun _ _ _ _ _ => (pg_name (i := 3) nd rfl (.inl rfl))) (fun _ _ _ _ _ => pts_nil) (fun _ _ _ _ _ => (pe_call (ok_is_leak T) (hr.mono (by decide)) (by rfl) T.g_is_leak T.F_is_leak.kp (b_is_leak T) .nil pass0 (pa_cons (pv 3) (pa_cons (pv 1) (pa_cons (pv 2) pa_nil)))))) pa_nil))))))) (pss_one (ps_ret pe_bl)) pss_nil)
      (pss_cons (ps_if (pt_not (pt_val (pe_call (ok_unlikeT T) (hr.mono (by decide)) (by rfl) T.g_are_unlike T.F_are_unlike.kp (b_are_unlike T) .nil pass0 (pa_cons (pe_lc (own := [("area", 4), ("other", 5), ("_", 6), ("door", 7)]) (g := gTup K 4 (gCons (gName 4) (gCons (gName 5) (gCons (gName 6) (gCons (gName 7) gNil))))) (tt := tYes) (by rfl) nd (pi_tup (pv 0)) (blkOk_by (N := ["value", "names", "whole", "row", "area", "other", "_", "door", "name"]) (sc := defScope s_are_leaks) (by decide +kernel)) (fun _ _ _ _ _ => (pg_tup rfl (pgs_cons (pg_name (i := 4) nd rfl (.inl rfl)) (pgs_cons (pg_name (i := 5) nd rfl (.inl rfl)) (pgs_cons (pg_name (i := 6) nd rfl (.inl rfl)) (pgs_cons (pg_name (i := 7) nd rfl (.inl rfl)) pgs_nil)))))) (fun _ _ _ _ _ => pts_nil) (fun _ _ _ _ _ => (pe_tupF (pa_cons (pv 4) (pa_cons (pv 5) (pa_cons (pv 7) pa_nil)))))) pa_nil)))) (pss_one (ps_ret pe_bl)) pss_nil)
      (pss_one (ps_ret (pe_callB (cr_all rfl) (by rfl) T.z_all bo_all (pa_cons (pe_lc (own := [("name", 8)]) (g := gName 8) (tt := tYes) (by rfl) nd (pi_list (pv 1)) (blkOk_by (N := ["value", "names", "whole", "row", "area", "other", "_", "door", "name"]) (sc := defScope s_are_leaks) (by decide +kernel)) (fun _ _ _ _ _ => (pg_name (i := 8) nd rfl (.inr rfl))) (fun _ _ _ _ _ => pts_nil) (fun _ _ _ _ _ => (pe_cmpR op_le (pe_callB (r := rSum K) (cr_sum rfl) (by rfl) T.z_sum bo_sum (pa_cons (pe_lc (own := [("row", 3)]) (g := gName 3)  (by rfl) nd (pi_tupK K (pv 0)) (blkOk_by (N := ["value", "names", "whole", "row", "area", "other", "_", "door", "name"]) (by rfl)) (fun _ _ _ _ _ => (pg_name (i := 3) nd rfl (.inl rfl))) (fun _ _ _ _ _ => (pts_one (pt_cmpR op_eq (pe_ix (r := rIxT K) ix_tup (pv 3) pe_int (fun _ _ => rfl)) (pv 8) (nomark _)))) (fun _ _ _ _ _ => (pe_ix (r := rIxT K) ix_tup (pv 3) pe_int (fun _ _ => rfl)))) pa_nil)) (pv 2) (nomark _)))) pa_nil)))))), ?_⟩
    cases ht : isTup d 0 6 with
    | false =>
      refine s_ifX (b := true || false) (et_or (a := true) (b := false) (et_is (et_not (et_B (ev_sp stb_tup (ea_cons (ev_var rfl) (ea_cons ev_c (ea_cons ev_c ea_nil))) ⟨_, d, 0, 6, rfl, hv, rfl⟩))) (by rw [ht]; rfl)) fun h => by cases h) (fun hb H1 e => ?_) (fun hb => by cases hb)
      refine s_ret (v := .bl false) ev_c fun H2 e2 => ?_
      have z : d.leaks ns m = false := by
        cases d with
        | tup ds => rw [leaks_tup, ht]; rfl
        | _ => rfl
      rw [z] at q
      exact q H2 (e.trans e2)
    | true =>
      obtain ⟨ds, rfl, l0, l6⟩ := isTup_len ht
      obtain ⟨a, vs, rfl, ha, hs⟩ := hv.tupD
      have hl := hz.tup.1
      rw [leaks_tup, ht, Bool.true_and] at q
      refine s_ifX (b := !ds.all (D.leak ns m)) ?_ (fun hb H1 e => ?_) (fun hb H1 e => ?_)
      · refine et_is (et_or (a := false) (b := !ds.all (D.leak ns m)) (et_is (et_not (et_B (ev_sp stb_tup (ea_cons (ev_var rfl) (ea_cons ev_c (ea_cons ev_c ea_nil))) ⟨_, _, 0, 6, rfl, hv, rfl⟩))) (by rw [ht]; rfl)) fun _ => ?_) (Bool.false_or _)
        exact et_not (et_B (ev_allT (ev_var rfl) ha hs hl fun j x d hd r => ev_sp stb_leak (ea_cons (ev_var rfl) (ea_cons (ev_var rfl) (ea_cons (ev_var rfl) ea_nil))) ⟨x, d, na, ns, m, rfl, r, hz.tup.2.get hd, .inl hns, rfl⟩))
      · rw [not_t hb] at q
        exact s_ret (v := .bl false) ev_c fun H2 e2 => q H2 (e.trans e2)
      · have hall := not_f hb
        rw [hall, Bool.true_and] at q
        have shp := fun d hd => leak_shape (List.all_eq_true.mp hall d hd)
        have hv1 : Rep (hidP S0 H1) (.ref a) (.tup ds) := (Rep.tup ha hs : Rep H (.ref a) (.tup ds)).up (e.trans hid0)
        have un : EvS S0 (tLc (iTup K (tVar 0)) (gTup K 4 (gCons (gName 4) (gCons (gName 5) (gCons (gName 6) (gCons (gName 7) gNil))))) tYes (tTupF (tCons (tVar 4) (tCons (tVar 5) (tCons (tVar 7) tNil)))) [4, 5, 6, 7]) [some (.ref a), some (.ref na), some (.int m), none, none, none, none, none, none] H1 (.lst ((ds.map D.trip).map tripD)) := by
          have c := lcS (S := S0) (ds := ds) (wi := iTup K (tVar 0)) (g := gTup K 4 (gCons (gName 4) (gCons (gName 5) (gCons (gName 6) (gCons (gName 7) gNil))))) (tt := tYes) (te := tTupF (tCons (tVar 4) (tCons (tVar 5) (tCons (tVar 7) tNil)))) (own := [4, 5, 6, 7]) (σ := [some (.ref a), some (.ref na), some (.int m), none, none, none, none, none, none]) (H := H1) (fun _ => true) (fun d => tripD d.trip) in0 (its_tup (es_of (ev_var rfl) hv1)) (by omega) fun S' x d H5 hd in5 e5 x5 rx => by
            obtain ⟨a1, b1, s1, n1, rfl, _, _, _, _, _, hn⟩ := shp d hd
            obtain ⟨p, v0, v1, v2, v3, rfl, hp, r0, r1, r2, r3⟩ := rx.t4
            obtain rfl := r0.strD
            obtain rfl := r1.strD
            have en : oD n1.oTxt = n1 := by
              rcases hn with rfl | ⟨y, rfl, _⟩ <;> rfl
            refine ⟨[some (.ref a), some (.ref na), some (.int m), none, some (.str a1), some (.str b1), some (v2), some (v3), none], fun Q h => ⟨p, _, rfl, (hp.up hidP_sub).sq, rfl, _, _, rfl, _, _, rfl, _, _, rfl, _, _, rfl, rfl, h⟩, rfl, fun H6 e6 Q q => q H6 (Ex.refl _), fun _ => ?_⟩
            refine es_tup in5 (ds := [.str a1, .str b1, oD n1.oTxt]) (eas_cons (es_of (ev_var rfl) (.str a1)) (eas_cons (es_of (ev_var rfl) (.str b1)) (eas_cons (es_of (ev_var rfl) ?_) eas_nil))) (by simp)
            rw [en]
            exact r3
          rw [List.filter_eq_self.mpr fun _ _ => rfl] at c
          rw [List.map_map]
          exact c
        refine s_ifX (b := !decide (ds.map D.trip).Nodup) (et_not (et_B (ev_spR (ok := okUnlikeT) (er_ofS un) ea_nil fun v H2 e2 r => ⟨v, ds.map D.trip, rfl, r, by rw [List.length_map]; omega, rfl⟩))) (fun hb2 H2 e2 => ?_) (fun hb2 H2 e2 => ?_)
        · rw [not_t hb2] at q
          exact s_ret (v := .bl false) ev_c fun H3 e3 => q H3 ((e.trans e2).trans e3)
        · rw [not_f hb2, Bool.true_and] at q
          have E2 := e.trans e2
          have hv2 : Rep (hidP S0 H2) (.ref a) (.tup ds) := hv1.up (hidP_ex e2)
          have hn2 : Rep (hidP S0 H2) (.ref na) (.lst (ns.map D.str)) := .lst (hidP_at (E2 _ _ hns) fun z => z) (reps_strs ns)
          have al : EvS S0 (tLc (iList K (tVar 1)) (gName 8) tYes (tOp (rI0 fun i j => V.bl (decide (i ≤ j))) (tCB (rSum K) (tCons (tLc (iTup K (tVar 0)) (gName 3) (tTest (tOp rEq (tOp (rIxT K) (tVar 3) (tC (.int 0))) (tVar 8))) (tOp (rIxT K) (tVar 3) (tC (.int 2))) [3]) tNil)) (tVar 2)) [8]) [some (.ref a), some (.ref na), some (.int m), none, none, none, none, none, none] H2 (.lst ((ns.map fun n => decide (lost ds n ≤ m)).map D.bl)) := by
            have c := lcS (S := S0) (ds := ns.map D.str) (wi := iList K (tVar 1)) (g := gName 8) (tt := tYes) (te := tOp (rI0 fun i j => V.bl (decide (i ≤ j))) (tCB (rSum K) (tCons (tLc (iTup K (tVar 0)) (gName 3) (tTest (tOp rEq (tOp (rIxT K) (tVar 3) (tC (.int 0))) (tVar 8))) (tOp (rIxT K) (tVar 3) (tC (.int 2))) [3]) tNil)) (tVar 2)) (own := [8]) (σ := [some (.ref a), some (.ref na), some (.int m), none, none, none, none, none, none]) (H := H2) (fun _ => true) (fun d => .bl (decide (lost ds d.txt ≤ m))) in0 (its_list (es_of (ev_var rfl) hn2)) (by rw [List.length_map]; omega) fun S' x d H5 hd in5 e5 x5 rx => by
              obtain ⟨n, _, rfl⟩ := List.mem_map.mp hd
              obtain rfl := rx.strD
              refine ⟨[some (.ref a), some (.ref na), some (.int m), none, none, none, none, none, some (.str n)], fun Q h => h, rfl, fun H6 e6 Q q => q H6 (Ex.refl _), fun _ => ?_⟩
              refine es_of (ev_op (es_sum (S := S') (is := (ds.filter (isFrom n)).map shareOf) ?_) (ev_var rfl) rv_I0) (.bl _)
              have c2 := lcS (S := S') (ds := ds) (wi := iTup K (tVar 0)) (g := gName 3) (tt := tTest (tOp rEq (tOp (rIxT K) (tVar 3) (tC (.int 0))) (tVar 8))) (te := tOp (rIxT K) (tVar 3) (tC (.int 2))) (own := [3]) (σ := [some (.ref a), some (.ref na), some (.int m), none, none, none, none, none, some (.str n)]) (H := H5) (isFrom n) (fun d => .int (shareOf d)) in5 (its_tup (es_of (ev_var rfl) (hv2.up x5))) (by omega) fun S2 y d2 H6 hd2 in6 e6 x6 ry => by
                obtain ⟨a1, b1, s1, n1, rfl, _⟩ := shp d2 hd2
                obtain ⟨p, v0, v1, v2, v3, rfl, hp, r0, r1, r2, r3⟩ := ry.t4
                obtain rfl := r0.strD
                obtain rfl := r2.intD
                have hp := hp.up hidP_sub
                exact ⟨[some (.ref a), some (.ref na), some (.int m), some (.ref p), none, none, none, none, some (.str n)], fun Q h => h, rfl, et_test (ev_is (ev_op (ev_ixT (j := 0) (ev_var rfl) hp rfl) (ev_var rfl) (rv_eq rfl)) (congrArg V.bl (txt_eq _ _))), fun _ => es_of (ev_ixT (j := 2) (ev_var rfl) hp rfl) (.int _)⟩
              rw [List.map_map]
              exact c2
            rw [List.filter_eq_self.mpr fun _ _ => rfl, List.map_map] at c
            rw [List.map_map]
            exact c
          refine s_ret (ev_is (es_all al) ?_) fun H3 e3 => q H3 (E2.trans e3)
          rw [List.all_map]
          rfl
end
end Kx

set_option Elab.async false
set_option linter.all false
set_option maxRecDepth 100000
set_option maxHeartbeats 400000
namespace Kx
open PySem PySem.Spec PyProof.Rows L2 Evl
/-! ## is_air -/
def D.air : D → Bool
  | .tup [t, r, w, l, h, s] => (t.isS "air" && (r.rooms && isBetw w 1 12)) && (l.leaks r.fsts w.num && (h.heats r.fsts && s.sky))
  | _ => false
theorem air_6 (t r w l h s : D) : D.air (.tup [t, r, w, l, h, s]) = ((t.isS "air" && (r.rooms && isBetw w 1 12)) && (l.leaks r.fsts w.num && (h.heats r.fsts && s.sky))) := rfl
def okAir : OkF := fun vs H z => ∃ v d, vs = [v] ∧ Rep H v d ∧ d.Sz ∧ z = .bl d.air
theorem stb_air : Stb okAir := fun _ _ _ _ e ⟨v, d, h1, h2, h3, h4⟩ => ⟨v, d, h1, h2.up e, h3, h4⟩
/-! ## names in their order -/
def ltS (a b : Str) : Bool := decide (a.cps.toList < b.cps.toList)
def ascS (ss : List Str) : Bool := (List.range (ss.length - 1)).all fun j => ltS (ss.getD j Str.empty) (ss.getD (j + 1) Str.empty)
def okAscS : OkF := fun vs H z => ∃ (v : V) (ss : List Str), vs = [v] ∧ Rep H v (.tup (ss.map D.str)) ∧ ss.length ≤ 1000 ∧ z = .bl (ascS ss)
theorem stb_ascS : Stb okAscS := fun _ _ _ _ e ⟨v, ss, h1, h2, h3, h4⟩ => ⟨v, ss, h1, h2.up e, h3, h4⟩
def D.named (ns : List Str) : D → Bool
  | .tup ds => ds.all (fun d => amD d ns) && ascS (ds.map D.txt)
  | _ => false
def okNamed : OkF := fun vs H z => ∃ v d a ns, vs = [v, .ref a] ∧ Rep H v d ∧ d.Sz ∧ Txs H a ns ∧ z = .bl (d.named ns)
theorem stb_named : Stb okNamed := fun _ _ _ _ e ⟨v, d, a, ns, h1, h2, h3, h4, h5⟩ => ⟨v, d, a, ns, h1, h2.up e, h3, h4.up e, h5⟩
theorem all_am {ns : List Str} : ∀ {ds : List D}, ds.all (fun e => amD e ns) = true → ds = (ds.map D.txt).map D.str
  | [], _ => rfl
  | d :: r, h => by
    rw [List.all_cons, Bool.and_eq_true] at h
    rw [List.map_cons, List.map_cons, ← all_am h.2]
    cases d with
    | str s => rfl
    | _ => exact absurd h.1 (by unfold amD; exact Bool.false_ne_true)
section
variable {P : Program} {w : World} {K : PySem.W.Frag} {mg : Str → Option Value} {base : Heap} (T : Txt K mg)
theorem rv_ltS {H : Hp} {a b : Str} : RV (fun x y H Q => ∃ i j, x = V.str i ∧ y = V.str j ∧ Q (.bl (decide (i.cps.toList < j.cps.toList))) H) (.str a) (.str b) H (.bl (ltS a b)) := fun H1 e Q k => ⟨a, b, rfl, rfl, k H1 (Ex.refl _)⟩
theorem ok_ascS : FnOk P w K mg base CX0 1 T.a_is_ascending T.d_is_ascending ["row"] (spX okAscS) := by
  refine T.F_is_ascending.ok sc_is_ascending (fun vs H Q E h => ?_) (fun cdv A outer s H vs Q E hr h => ?_)
  · obtain ⟨z, ⟨v, ss, rfl, _⟩, _⟩ := h
    rfl
  · obtain ⟨z, ⟨v, ss, rfl, hv, hz, rfl⟩, q⟩ := h
    have nd := sc_is_ascending.nd
    refine ⟨_, (pss_one (ps_ret (pe_callB (cr_all rfl) (by rfl) T.z_all bo_all (pa_cons (pe_lc (own := [("at", 1)]) (g := gName 1) (tt := tYes) (by rfl) nd (pi_range1 (by rfl) T.z_range (pa_cons (pe_op op_sub (pe_callB call_len_seq (by rfl) T.z_len bo_len (pa_cons (pv 0) pa_nil)) pe_int) pa_nil)) (blkOk_by (N := ["row", "at"]) (sc := defScope s_is_ascending) (by decide +kernel)) (fun _ _ _ _ _ => (pg_name (i := 1) nd rfl (.inl rfl))) (fun _ _ _ _ _ => pts_nil) (fun _ _ _ _ _ => (pe_cmpR op_lt_str (pe_ix (r := rIxT K) ix_tup (pv 0) (pv 1) (fun _ _ => rfl)) (pe_ix (r := rIxT K) ix_tup (pv 0) (pe_op op_add (pv 1) pe_int) (fun _ _ => rfl)) (nomark _)))) pa_nil)))), ?_⟩
    obtain ⟨a, rfl, ha⟩ := hv.txs
    refine s_ret (v := .bl (ascS ss)) (ev_is (ev_all (bs := (List.range (ss.length - 1)).map fun j => ltS (ss.getD j Str.empty) (ss.getD (j + 1) Str.empty)) (el_lcR (n := (ss.length : Int) - 1) (ea_cons (ev_op (ev_is (ev_lenT (ev_var rfl) (.inr ha.rd)) (by unfold sv; rw [List.length_map])) ev_c rv_I0) ea_nil) ?_ (by omega) (by omega) fun j y hy => ?_)) (by rw [List.all_map]; rfl)) q
    · rw [List.length_map, List.length_map, List.length_range]
      omega
    · have hj : j < ss.length - 1 := by
        have := (List.getElem?_eq_some_iff.mp hy).1
        rw [List.length_map, List.length_map, List.length_range] at this
        exact this
      have ey : y = .bl (ltS (ss.getD j Str.empty) (ss.getD (j + 1) Str.empty)) := by
        rw [List.getElem?_map, List.getElem?_map, List.getElem?_range hj] at hy
        exact (Option.some.inj hy).symm
      subst ey
      have at_ : ∀ k, k < ss.length → (sv ss)[k]? = some (.str (ss.getD k Str.empty)) := fun k hk => by
        unfold sv
        rw [List.getElem?_map, List.getElem?_eq_getElem hk, List.getD_eq_getElem?_getD, List.getElem?_eq_getElem hk]
        rfl
      exact ev_op (ev_ixTi (j := j) (ev_var rfl) (ev_var rfl) ha (by omega) (at_ j (by omega))) (ev_ixTi (j := j + 1) (k := 0 + (j : Int) + 1) (ev_var rfl) (ev_op (ev_var rfl) ev_c rv_I0) ha (by omega) (at_ (j + 1) (by omega))) rv_ltS
theorem ok_are_named : FnOk P w K mg base CX0 2 T.a_are_named T.d_are_named ["value", "names"] (spX okNamed) := by
  refine T.F_are_named.ok sc_are_named (fun vs H Q E h => ?_) (fun cdv A outer s H vs Q E hr h => ?_)
  · obtain ⟨z, ⟨v, d, a, ns, rfl, _⟩, _⟩ := h
    rfl
  · obtain ⟨z, ⟨v, d, na, ns, rfl, hv, hz, hns, rfl⟩, q⟩ := h
    have nd := sc_are_named.nd
    refine ⟨_, (pss_one (ps_ret (pe_and (pe_tyIs T.z_type T.z_tuple bo_tuple (pv 0)) (pe_and (pe_callB (cr_all rfl) (by rfl) T.z_all bo_all (pa_cons (pe_lc (own := [("item", 2)]) (g := gName 2) (tt := tYes) (by rfl) nd (pi_tup (pv 0)) (blkOk_by (N := ["value", "names", "item"]) (sc := defScope s_are_named) (by decide +kernel)) (fun _ _ _ _ _ => (pg_name (i := 2) nd rfl (.inl rfl))) (fun _ _ _ _ _ => pts_nil) (fun _ _ _ _ _ => (pe_call (ok_is_among T) (hr.mono (by decide)) (by rfl) T.g_is_among T.F_is_among.kp (b_is_among T) .nil pass0 (pa_cons (pv 2) (pa_cons (pv 1) pa_nil))))) pa_nil)) (pe_one (pe_call (ok_ascS T) (hr.mono (by decide)) (by rfl) T.g_is_ascending T.F_is_ascending.kp (b_is_ascending T) .nil pass0 (pa_cons (pv 0) pa_nil))))))), ?_⟩
    refine s_ret (v := .bl (d.named ns)) ?_ q
    by_cases ht : d.ty = "tuple"
    · obtain ⟨ds, rfl⟩ := ty_tup ht
      obtain ⟨a, vs, rfl, ha, hs⟩ := hv.tupD
      refine ev_is (ev_andV (b := ds.all (fun d => amD d ns) && ascS (ds.map D.txt)) (ev_tyIs (ev_var rfl) hv) fun _ => ev_andV (a := ds.all fun d => amD d ns) (b := ascS (ds.map D.txt)) (ev_allT (ev_var rfl) ha hs hz.tup.1 fun j x d hd r => ev_sp stb_among (ea_cons (ev_var rfl) (ea_cons (ev_var rfl) ea_nil)) ⟨x, d, na, ns, rfl, r, hns, rfl⟩) fun hall => ?_) rfl
      rw [all_am hall] at hv
      exact ev_sp stb_ascS (ea_cons (ev_var rfl) ea_nil) ⟨_, ds.map D.txt, rfl, hv, by rw [List.length_map]; exact hz.tup.1, rfl⟩
    · refine ev_is (ev_andV (b := false) (ev_tyIs (ev_var rfl) hv) fun h => absurd (of_decide_eq_true h) ht) ?_
      rw [decide_eq_false ht]
      cases d <;> first | rfl | exact absurd rfl ht
/-- [row[0] for row in a tuple of rows] -/
theorem el_fsts {σ : L2.St} {H : Hp} {tl : TE} {i : Nat} {a : Addr} {vs : List V} {ds : List D} (h : Ev tl σ H (.ref a)) (ha : TupS H a vs) (hs : Reps H vs ds) (hl : ds.length ≤ 1000) (hi : i < σ.length) (hf : ∀ d ∈ ds, ∃ n r, d = .tup (.str n :: r)) :
    EvL (tLc (iTup K tl) (gName i) tYes (tOp (rIxT K) (tVar i) (tC (.int 0))) [i]) σ H (sv (ds.map fun x => x.fst.txt)) := by
  refine el_lcT h ha.sq ?_ (by rw [hs.length]; omega) fun j x y hx hy => ?_
  · unfold sv
    rw [List.length_map, List.length_map, hs.length]
  · obtain ⟨d, hd, r⟩ := hs.get hx
    obtain ⟨n, rr, rfl⟩ := hf d (List.mem_of_getElem? hd)
    unfold sv at hy
    rw [List.getElem?_map, List.getElem?_map, hd] at hy
    have ey : y = .str n := (Option.some.inj hy).symm
    subst ey
    obtain ⟨b, ws, rfl, hb2, hs2⟩ := r.tupD
    cases hs2 with
    | cons r0 _ =>
      obtain rfl := r0.strD
      exact ev_ixT (j := 0) (ev_var (by rw [List.getElem?_set_self (by rw [List.length_set]; exact hi)])) hb2 rfl
theorem ok_is_air : FnOk P w K mg base CX0 5 T.a_is_air T.d_is_air ["value"] (spX okAir) := by
  refine T.F_is_air.ok sc_is_air (fun vs H Q E h => ?_) (fun cdv A outer s H vs Q E hr h => ?_)
  · obtain ⟨z, ⟨v, d, rfl, _⟩, _⟩ := h
    rfl
  · obtain ⟨z, ⟨v, d, rfl, hv, hz, rfl⟩, q⟩ := h
    have nd := sc_is_air.nd
    refine ⟨_, (pss_cons (ps_if (PW.pt (pw_or (pt_not (pt_val (pe_call (ok_is_tuple T) (hr.mono (by decide)) (by rfl) T.g_is_tuple T.F_is_tuple.kp (b_is_tuple T) .nil pass0 (pa_cons (pv 0) (pa_cons pe_int (pa_cons pe_int pa_nil)))))) (pw_or (pt_cmpR (op_neS hr.units0) (pe_ix (r := rIxT K) ix_tup (pv 0) pe_int (fun _ _ => rfl)) pe_str (nomark _)) (pw_or (pt_not (pt_val (pe_call (ok_are_rooms T) (hr.mono (by decide)) (by rfl) T.g_are_rooms T.F_are_rooms.kp (b_are_rooms T) .nil pass0 (pa_cons (pe_ix (r := rIxT K) ix_tup (pv 0) pe_int (fun _ _ => rfl)) pa_nil)))) (pw_or1 (pt_not (pt_val (pe_call (ok_is_between T) (hr.mono (by decide)) (by rfl) T.g_is_between T.F_is_between.kp (b_is_between T) .nil pass0 (pa_cons (pe_ix (r := rIxT K) ix_tup (pv 0) pe_int (fun _ _ => rfl)) (pa_cons pe_int (pa_cons pe_int pa_nil))))))))))) (pss_one (ps_ret pe_bl)) pss_nil)
      (pss_cons (ps_setLc (i := 1) (own := [("row", 2)]) (g := gName 2) (tt := tYes) (by rfl) nd rfl rfl (by rfl) (pi_tup (pe_ix (r := rIxT K) ix_tup (pv 0) pe_int (fun _ _ => rfl))) (blkOk_by (N := ["value", "names", "row"]) (sc := defScope s_is_air) (by decide +kernel)) (fun _ _ _ _ _ => (pg_name (i := 2) nd rfl (.inl rfl))) (fun _ _ _ _ _ => pts_nil) (fun _ _ _ _ _ => (pe_ix (r := rIxT K) ix_tup (pv 2) pe_int (fun _ _ => rfl))))
      (pss_one (ps_ret (pe_and (pe_call (ok_are_leaks T) (hr.mono (by decide)) (by rfl) T.g_are_leaks T.F_are_leaks.kp (b_are_leaks T) .nil pass0 (pa_cons (pe_ix (r := rIxT K) ix_tup (pv 0) pe_int (fun _ _ => rfl)) (pa_cons (pv 1) (pa_cons (pe_ix (r := rIxT K) ix_tup (pv 0) pe_int (fun _ _ => rfl)) pa_nil)))) (pe_and (pe_call (ok_are_heaters T) (hr.mono (by decide)) (by rfl) T.g_are_heaters T.F_are_heaters.kp (b_are_heaters T) .nil pass0 (pa_cons (pe_ix (r := rIxT K) ix_tup (pv 0) pe_int (fun _ _ => rfl)) (pa_cons (pv 1) pa_nil))) (pe_one (pe_call (ok_is_weather T) (hr.mono (by decide)) (by rfl) T.g_is_weather T.F_is_weather.kp (b_is_weather T) .nil pass0 (pa_cons (pe_ix (r := rIxT K) ix_tup (pv 0) pe_int (fun _ _ => rfl)) pa_nil))))))))), ?_⟩
    cases ht : isTup d 6 6 with
    | false =>
      refine s_if (b := true || false) (et_or (a := true) (b := false) (et_is (et_not (et_B (ev_sp stb_tup (ea_cons (ev_var rfl) (ea_cons ev_c (ea_cons ev_c ea_nil))) ⟨_, d, 6, 6, rfl, hv, rfl⟩))) (by rw [ht]; rfl)) fun h => by cases h) (fun hb H1 e => ?_) (fun hb => by cases hb)
      refine s_ret (v := .bl false) ev_c fun H2 e2 => ?_
      have z : d.air = false := by
        cases d with
        | tup ds =>
          match ds, ht with
          | [_, _, _, _, _, _], h => exact absurd h (by simp [isTup])
          | [], _ | [_], _ | [_, _], _ | [_, _, _], _ | [_, _, _, _], _ | [_, _, _, _, _], _ | _ :: _ :: _ :: _ :: _ :: _ :: _ :: _, _ => rfl
        | _ => rfl
      rw [z] at q
      exact q H2 (e.trans e2)
    | true =>
      obtain ⟨t, r, wd, l, h, sk, rfl⟩ := tup6 ht
      obtain ⟨a, v0, v1, v2, v3, v4, v5, rfl, ha, r0, r1, r2, r3, r4, r5⟩ := hv.t6
      have z1 := hz.tup.2.get (j := 1) rfl
      have z3 := hz.tup.2.get (j := 3) rfl
      have z4 := hz.tup.2.get (j := 4) rfl
      rw [air_6] at q
      refine s_if (b := !(t.isS "air" && (r.rooms && isBetw wd 1 12))) (et_is (et_or (a := false) (et_is (et_not (et_B (ev_sp stb_tup (ea_cons (ev_var rfl) (ea_cons ev_c (ea_cons ev_c ea_nil))) ⟨_, _, 6, 6, rfl, hv, rfl⟩))) (by rw [ht]; rfl)) fun _ =>
        et_or (et_test (ev_op (ev_ixT (j := 0) (ev_var rfl) ha rfl) ev_c (rv_neS r0))) fun _ => et_or (et_not (et_B (ev_sp stb_rooms (ea_cons (ev_ixT (j := 1) (ev_var rfl) ha rfl) ea_nil) ⟨v1, r, rfl, r1, z1, rfl⟩))) fun _ => et_not (et_B (ev_sp stb_betw (ea_cons (ev_ixT (j := 2) (ev_var rfl) ha rfl) (ea_cons ev_c (ea_cons ev_c ea_nil))) ⟨v2, wd, 1, 12, rfl, r2, rfl⟩))) ?_) (fun hb H1 e => ?_) (fun hb H1 e => ?_)
      · cases t.isS "air" <;> cases r.rooms <;> cases isBetw wd 1 12 <;> rfl
      · rw [not_t hb] at q
        exact s_ret (v := .bl false) ev_c fun H2 e2 => q H2 (e.trans e2)
      · have hb1 := not_f hb
        rw [hb1, Bool.true_and] at q
        obtain ⟨_, hb2⟩ := (Bool.and_eq_true _ _).mp hb1
        obtain ⟨hr1, hw1⟩ := (Bool.and_eq_true _ _).mp hb2
        rw [(betw_int hw1).1] at r2
        obtain rfl := r2.intD
        match r, hr1, r1, z1, q with
        | .tup rs, hr1, r1, z1, q =>
        rw [rooms_tup] at hr1
        obtain ⟨_, hr2⟩ := (Bool.and_eq_true _ _).mp hr1
        obtain ⟨hall, _⟩ := (Bool.and_eq_true _ _).mp hr2
        obtain ⟨b, ws, rfl, hb3, hs3⟩ := r1.tupD
        refine s_asgL (el_fsts (ev_ixT (j := 1) (ev_var rfl) (ha.up e) rfl) (hb3.up e) (hs3.up e) z1.tup.1 (show 2 < 3 from by decide) fun d hd => ?_) fun p H2 np e2 hp => ?_
        · obtain ⟨n, _, _, _, rfl, _⟩ := room_shape (List.all_eq_true.mp hall d hd)
          exact ⟨n, _, rfl⟩
        · have E2 := e.trans e2
          have lz : (rs.map fun x => x.fst.txt).length ≤ 1000 := by rw [List.length_map]; exact z1.tup.1
          refine s_ret (ev_andV (ev_sp stb_leaks (ea_cons (ev_ixT (j := 3) (ev_var rfl) (ha.up E2) rfl) (ea_cons (ev_var rfl) (ea_cons (ev_ixT (j := 2) (ev_var rfl) (ha.up E2) rfl) ea_nil))) ⟨v3, l, p, _, wd.num, rfl, r3.up E2, z3, hp, lz, rfl⟩) fun _ =>
            ev_andV (ev_sp stb_heats (ea_cons (ev_ixT (j := 4) (ev_var rfl) (ha.up E2) rfl) (ea_cons (ev_var rfl) ea_nil)) ⟨v4, h, p, _, rfl, r4.up E2, z4, .inl hp, rfl⟩) fun _ => ev_sp stb_sky (ea_cons (ev_ixT (j := 5) (ev_var rfl) (ha.up E2) rfl) ea_nil) ⟨v5, sk, rfl, r5.up E2, rfl⟩) fun H3 e3 => q H3 (E2.trans e3)
end
end Kx

set_option Elab.async false
set_option linter.all false
set_option maxRecDepth 100000
set_option maxHeartbeats 400000
namespace Kx
open PySem PySem.Spec PyProof.Rows L2 Evl
/-! ## what an air is -/
def nmsD (ds : List D) : List Str := ds.map fun x => x.fst.txt
structure IsA (d : D) (rs ls hs : List D) (m lo hi f mv : Int) : Prop where
  eq : d = .tup [.str "air", .tup rs, .int m, .tup ls, .tup hs, .tup [.int lo, .int hi, .int f, .int mv]]
  r1 : 1 ≤ rs.length
  r3 : rs.length ≤ 3
  ra : ∀ x ∈ rs, x.room = true
  rn : (nmsD rs).Nodup
  m1 : 1 ≤ m
  m2 : m ≤ 12
  l6 : ls.length ≤ 6
  la : ∀ x ∈ ls, x.leak (nmsD rs) m = true
  ln : (ls.map D.trip).Nodup
  lo_ : ∀ n ∈ nmsD rs, lost ls n ≤ m
  h3 : hs.length ≤ 3
  ha : ∀ x ∈ hs, x.heat (nmsD rs) = true
  hn : (nmsD hs).Nodup
  s1 : -40 ≤ lo
  s2 : lo ≤ f
  s3 : f ≤ hi
  s4 : hi ≤ lo + 8
  s5 : hi ≤ 40
  s6 : 0 ≤ mv
  s7 : mv ≤ 8
theorem sky_is {d : D} (h : d.sky = true) : ∃ lo hi f mv, d = .tup [.int lo, .int hi, .int f, .int mv] ∧ -40 ≤ lo ∧ lo ≤ f ∧ f ≤ hi ∧ hi ≤ lo + 8 ∧ hi ≤ 40 ∧ 0 ≤ mv ∧ mv ≤ 8 := by
  match d, h with
  | .tup [a, b, c, e], h =>
    rw [sky_4] at h
    simp only [Bool.and_eq_true, List.all_cons, List.all_nil, decide_eq_true_eq] at h
    obtain ⟨⟨h1, h2, h3, h4, _⟩, ⟨h5, h6, h7⟩, h8, h9⟩ := h
    obtain ⟨e1, a1, b1⟩ := betw_int h1
    obtain ⟨e2, a2, b2⟩ := betw_int h2
    obtain ⟨e3, a3, b3⟩ := betw_int h3
    obtain ⟨e4, a4, b4⟩ := betw_int h4
    refine ⟨a.num, b.num, c.num, e.num, ?_, a1, h5, h6, h7, b2, h8, h9⟩
    rw [← e1, ← e2, ← e3, ← e4]
theorem air_is {d : D} (h : d.air = true) : ∃ rs ls hs m lo hi f mv, IsA d rs ls hs m lo hi f mv := by
  match d, h with
  | .tup [t, r, w, l, e, s], h =>
    rw [air_6] at h
    simp only [Bool.and_eq_true] at h
    obtain ⟨⟨h1, h2, h3⟩, h4, h5, h6⟩ := h
    obtain ⟨e3, w1, w2⟩ := betw_int h3
    obtain ⟨lo, hi, f, mv, rfl, s1, s2, s3, s4, s5, s6, s7⟩ := sky_is h6
    cases r with
    | tup rs => cases l with
      | tup ls => cases e with
        | tup hs =>
          rw [rooms_tup] at h2
          rw [leaks_tup] at h4
          rw [heats_tup] at h5
          simp only [Bool.and_eq_true, decide_eq_true_eq, List.all_eq_true] at h2 h4 h5
          obtain ⟨a1, a2, a3⟩ := h2
          obtain ⟨b1, b2, b3, b4⟩ := h4
          obtain ⟨c1, c2, c3⟩ := h5
          obtain ⟨_, ea, a4, a5⟩ := isTup_len a1
          obtain ⟨_, eb, b5, b6⟩ := isTup_len b1
          obtain ⟨_, ec, c4, c5⟩ := isTup_len c1
          cases ea
          cases eb
          cases ec
          refine ⟨rs, ls, hs, w.num, lo, hi, f, mv, ?_, by omega, by omega, a2, a3, w1, w2, by omega, b2, b3, b4, by omega, c2, c3, s1, s2, s3, s4, s5, s6, s7⟩
          rw [isS_eq h1, ← e3]
        | _ => exact absurd h5 (by unfold D.heats; exact Bool.false_ne_true)
      | _ => exact absurd h4 (by unfold D.leaks; exact Bool.false_ne_true)
    | _ => exact absurd h2 (by unfold D.rooms; exact Bool.false_ne_true)
def D.dor : D → D
  | .tup [_, _, _, n] => n
  | _ => .non
def D.rows : D → List D
  | .tup ds => ds
  | _ => []
def D.nth (d : D) (j : Nat) : D := d.rows.getD j .non
/-- the names of the heaters, of the doors of an air -/
def hN (d : D) : List Str := nmsD (d.nth 4).rows
def dNl (ls : List D) : List Str := (ls.filter fun x => !isN x.dor).map fun x => x.dor.txt
def dN (d : D) : List Str := dNl (d.nth 3).rows
theorem IsA.hN {d : D} {rs ls hs : List D} {m lo hi f mv : Int} (A : IsA d rs ls hs m lo hi f mv) : hN d = nmsD hs := by rw [A.eq]; rfl
theorem IsA.dN {d : D} {rs ls hs : List D} {m lo hi f mv : Int} (A : IsA d rs ls hs m lo hi f mv) : dN d = dNl ls := by rw [A.eq]; rfl
def D.setg (hs dn : List Str) : D → Bool
  | .tup [a, b] => a.named hs && b.named dn
  | _ => false
theorem setg_2 (hs dn : List Str) (a b : D) : D.setg hs dn (.tup [a, b]) = (a.named hs && b.named dn) := rfl
def okSetOf : OkF := fun vs H z => ∃ x da v d, vs = [x, v] ∧ Rep H x da ∧ da.air = true ∧ Rep H v d ∧ d.Sz ∧ z = .bl (d.setg (hN da) (dN da))
theorem stb_setOf : Stb okSetOf := fun _ _ _ _ e ⟨x, da, v, d, h1, h2, h3, h4, h5, h6⟩ => ⟨x, da, v, d, h1, h2.up e, h3, h4.up e, h5, h6⟩
def okCA (C : Addr) : OkO := fun vs H o => ∃ v d, vs = [v] ∧ Rep H v d ∧ d.Sz ∧ o = if d.air = true then .ret .non else .exc C
def okIS (C : Addr) : OkO := fun vs H o => ∃ x da v d, vs = [x, v] ∧ Rep H x da ∧ da.Sz ∧ Rep H v d ∧ d.Sz ∧ o = if da.air = true then .ret (.bl (d.setg (hN da) (dN da))) else .exc C
/-- a tuple of so many numbers -/
def D.degs (n : Nat) (d : D) : Bool := isTup d n n && d.rows.all fun x => isBetw x (-1000) 1000
def okCDg (C : Addr) : OkO := fun vs H o => ∃ x da v d, vs = [x, v] ∧ Rep H x da ∧ da.air = true ∧ Rep H v d ∧ d.Sz ∧ o = if d.degs (da.nth 1).rows.length = true then .ret .non else .exc C
section
variable {K : PySem.W.Frag} {σ : L2.St} {H : Hp} {ta tb te : TE} {x z : V} {E : XK} {ok : OkF} {xs : List V}
theorem ev_spL2 (ha : Ev ta σ H x) (hb : EvL tb σ H xs) (k : ∀ p H1, H1 p = some (.lst xs) → Ex H H1 → ok [x, .ref p] H1 z) : Ev (tCall (spX ok) [] E (tCons ta (tCons tb tNil))) σ H z :=
  fun H1 e Q q => ha H1 e _ fun H2 e2 => hb H2 (e.trans e2) _ fun p H3 _ e3 hp => ⟨z, k p H3 hp ((e.trans e2).trans e3), fun H4 e4 => q H4 ((e2.trans e3).trans e4)⟩
theorem rv_notN {x : V} : RV (fun x y H Q => y = .non ∧ Q (.bl (!decide (x = .non))) H) x .non H (.bl (!decide (x = .non))) := fun H1 e Q q => ⟨rfl, q H1 (Ex.refl H1)⟩
theorem isN_v {v : V} {d : D} (r : Rep H v d) : decide (v = .non) = isN d := by cases r <;> rfl
end
section
variable {P : Program} {w : World} {K : PySem.W.Frag} {mg : Str → Option Value} {base : Heap} (T : Txt K mg)
theorem ok_setOf : FnOk P w K mg base CX0 3 T.a_is_setting_of T.d_is_setting_of ["air", "value"] (spX okSetOf) := by
  refine T.F_is_setting_of.ok sc_is_setting_of (fun vs H Q E h => ?_) (fun cdv A outer s H vs Q E hr h => ?_)
  · obtain ⟨z, ⟨x, da, v, d, rfl, _⟩, _⟩ := h
    rfl
  · obtain ⟨z, ⟨x, da, v, d, rfl, hx, hair, hv, hz, rfl⟩, q⟩ := h
    have nd := sc_is_setting_of.nd
    refine ⟨_, (pss_cons (ps_if (pt_not (pt_val (pe_call (ok_is_tuple T) (hr.mono (by decide)) (by rfl) T.g_is_tuple T.F_is_tuple.kp (b_is_tuple T) .nil pass0 (pa_cons (pv 1) (pa_cons pe_int (pa_cons pe_int pa_nil)))))) (pss_one (ps_ret pe_bl)) pss_nil)
      (pss_cons (ps_setLc (i := 2) (own := [("row", 3)]) (g := gName 3)  (by rfl) nd rfl rfl (by rfl) (pi_tup (pe_ix (r := rIxT K) ix_tup (pv 0) pe_int (fun _ _ => rfl))) (blkOk_by (N := ["air", "value", "doors", "row"]) (sc := defScope s_is_setting_of) (by decide +kernel)) (fun _ _ _ _ _ => (pg_name (i := 3) nd rfl (.inl rfl))) (fun _ _ _ _ _ => (pts_one (pt_cmpR op_notN (pe_ix (r := rIxT K) ix_tup (pv 3) pe_int (fun _ _ => rfl)) pe_non (nomark _)))) (fun _ _ _ _ _ => (pe_ix (r := rIxT K) ix_tup (pv 3) pe_int (fun _ _ => rfl))))
      (pss_one (ps_ret (pe_and (pe_call (ok_are_named T) (hr.mono (by decide)) (by rfl) T.g_are_named T.F_are_named.kp (b_are_named T) .nil pass0 (pa_cons (pe_ix (r := rIxT K) ix_tup (pv 1) pe_int (fun _ _ => rfl)) (pa_cons (pe_lc (own := [("row", 3)]) (g := gName 3) (tt := tYes) (by rfl) nd (pi_tup (pe_ix (r := rIxT K) ix_tup (pv 0) pe_int (fun _ _ => rfl))) (blkOk_by (N := ["air", "value", "doors", "row"]) (sc := defScope s_is_setting_of) (by decide +kernel)) (fun _ _ _ _ _ => (pg_name (i := 3) nd rfl (.inl rfl))) (fun _ _ _ _ _ => pts_nil) (fun _ _ _ _ _ => (pe_ix (r := rIxT K) ix_tup (pv 3) pe_int (fun _ _ => rfl)))) pa_nil))) (pe_one (pe_call (ok_are_named T) (hr.mono (by decide)) (by rfl) T.g_are_named T.F_are_named.kp (b_are_named T) .nil pass0 (pa_cons (pe_ix (r := rIxT K) ix_tup (pv 1) pe_int (fun _ _ => rfl)) (pa_cons (pv 2) pa_nil))))))))), ?_⟩
    refine s_ifX (b := !isTup d 2 2) (et_not (et_B (ev_sp stb_tup (ea_cons (ev_var rfl) (ea_cons ev_c (ea_cons ev_c ea_nil))) ⟨_, d, 2, 2, rfl, hv, rfl⟩))) (fun hb H1 e => ?_) (fun hb H1 e => ?_)
    · refine s_ret (v := .bl false) ev_c fun H2 e2 => ?_
      have z : d.setg (hN da) (dN da) = false := by
        have ht := not_t hb
        cases d with
        | tup ds =>
          match ds, ht with
          | [_, _], h => exact absurd h (by simp [isTup])
          | [], _ | [_], _ | _ :: _ :: _ :: _, _ => rfl
        | _ => rfl
      rw [z] at q
      exact q H2 (e.trans e2)
    · obtain ⟨p0, p1, rfl⟩ := tup2 (not_f hb)
      obtain ⟨b, w0, w1, rfl, hb2, q0, q1⟩ := hv.t2
      obtain ⟨rs, ls, hs, m, lo, hi, f, mv, A⟩ := air_is hair
      rw [setg_2, A.hN, A.dN] at q
      rw [A.eq] at hx
      obtain ⟨a, v0, v1, v2, v3, v4, v5, rfl, ha, r0, r1, r2, r3, r4, r5⟩ := hx.t6
      have shp := fun d hd => leak_shape (A.la d hd)
      have r3' : Rep (hidP S0 H1) v3 (.tup ls) := (r3.up e).up hid0
      have dl : EvS S0 (tLc (iTup K (tOp (rIxT K) (tVar 0) (tC (.int 3)))) (gName 3) (tTest (tOp (fun x y H Q => y = .non ∧ Q (.bl (!decide (x = .non))) H) (tOp (rIxT K) (tVar 3) (tC (.int 3))) (tC .non))) (tOp (rIxT K) (tVar 3) (tC (.int 3))) [3]) [some (.ref a), some (.ref b), none, none] H1 (.lst ((dNl ls).map D.str)) := by
        have c := lcS (S := S0) (ds := ls) (wi := iTup K (tOp (rIxT K) (tVar 0) (tC (.int 3)))) (g := gName 3) (tt := tTest (tOp (fun x y H Q => y = .non ∧ Q (.bl (!decide (x = .non))) H) (tOp (rIxT K) (tVar 3) (tC (.int 3))) (tC .non))) (te := tOp (rIxT K) (tVar 3) (tC (.int 3))) (own := [3]) (σ := [some (.ref a), some (.ref b), none, none]) (H := H1) (fun x => !isN x.dor) (fun x => .str x.dor.txt) in0 (its_tup (es_of (ev_ixT (j := 3) (ev_var rfl) (ha.up e) rfl) r3')) (by have := A.l6; omega) fun S' y d2 H6 hd2 in6 e6 x6 ry => by
          obtain ⟨a1, b1, s1, n1, rfl, _, _, _, _, _, hn⟩ := shp d2 hd2
          obtain ⟨p, u0, u1, u2, u3, rfl, hp, g0, g1, g2, g3⟩ := ry.t4
          have hp := hp.up hidP_sub
          refine ⟨[some (.ref a), some (.ref b), none, some (.ref p)], fun Q h => h, rfl, et_test (ev_is (ev_op (ev_ixT (j := 3) (ev_var rfl) hp rfl) ev_c rv_notN) (by rw [isN_v g3]; rfl)), fun hk => ?_⟩
          rcases hn with rfl | ⟨y, rfl, _⟩
          · cases hk
          · obtain rfl := g3.strD
            exact es_of (ev_ixT (j := 3) (ev_var rfl) hp rfl) (.str _)
        unfold dNl
        rw [List.map_map]
        exact c
      refine s_asgS dl fun v H2 e2 rv => ?_
      have E2 := e.trans e2
      obtain ⟨p, us, rfl, hp, hus⟩ := (rv.up hidP_sub).lstD
      rw [strs_of_reps hus] at hp
      obtain ⟨hq, ws, rfl, hq2, hqs⟩ := r4.tupD
      refine s_ret (ev_andV (ev_spL2 (ok := okNamed) (ev_ixT (j := 0) (ev_var rfl) (hb2.up E2) rfl) (el_fsts (ev_ixT (j := 4) (ev_var rfl) (ha.up E2) rfl) (hq2.up E2) (hqs.up E2) (by have := A.h3; omega) (show 3 < 4 from by decide) fun d hd => ?_) fun p3 H3 hp3 e3 => ⟨w0, p0, p3, _, rfl, q0.up (E2.trans e3), hz.tup.2.get (j := 0) rfl, .inl hp3, rfl⟩) fun _ =>
        ev_sp stb_named (ea_cons (ev_ixT (j := 1) (ev_var rfl) (hb2.up E2) rfl) (ea_cons (ev_var rfl) ea_nil)) ⟨w1, p1, p, _, rfl, q1.up E2, hz.tup.2.get (j := 1) rfl, .inl hp, rfl⟩) fun H3 e3 => q H3 (E2.trans e3)
      obtain ⟨n, _, _, rfl, _⟩ := heat_shape (A.ha d hd)
      exact ⟨n, _, rfl⟩
theorem ok_check_air : FnOk P w K mg base (L2.CX P w) 6 T.a_check_air T.d_check_air ["air"] (spO (okCA T.c_BadAir)) := by
  refine T.F_check_air.okX sc_check_air (fun vs H Q E h => ?_) (fun cdv A outer s H vs Q E hr h => ?_)
  · obtain ⟨o, ⟨v, d, rfl, _⟩, _⟩ := h
    rfl
  · obtain ⟨o, ⟨v, d, rfl, hv, hz, rfl⟩, q⟩ := h
    have nd := sc_check_air.nd
    refine ⟨_, (pss_one (ps_if (pt_not (pt_val (pe_call (ok_is_air T) (hr.mono (by decide)) (by rfl) T.g_is_air T.F_is_air.kp (b_is_air T) .nil pass0 (pa_cons (pv 0) pa_nil)))) (pss_one (ps_raise rfl (takes_of rfl rfl rfl rfl) (pmk_own PySem.F.excBase_ValueError T.E_BadAir.q T.E_BadAir.g T.E_BadAir.kp (raises_own T.E_BadAir.bx T.E_BadAir.ty) rfl))) pss_nil)), ?_⟩
    refine s_if (b := !d.air) (et_not (et_B (ev_sp stb_air (ea_cons (ev_var rfl) ea_nil) ⟨v, d, rfl, hv, hz, rfl⟩))) (fun hb H1 e => ?_) (fun hb H1 e => ?_)
    · rw [not_t hb] at q
      exact q H1 e
    · rw [not_f hb] at q
      exact q H1 e
theorem ok_is_setting : FnOk P w K mg base (L2.CX P w) 7 T.a_is_setting T.d_is_setting ["air", "value"] (spO (okIS T.c_BadAir)) := by
  refine T.F_is_setting.okX sc_is_setting (fun vs H Q E h => ?_) (fun cdv A outer s H vs Q E hr h => ?_)
  · obtain ⟨o, ⟨x, da, v, d, rfl, _⟩, _⟩ := h
    rfl
  · obtain ⟨o, ⟨x, da, v, d, rfl, hx, zx, hv, hz, rfl⟩, q⟩ := h
    have nd := sc_is_setting.nd
    refine ⟨_, (pss_cons (ps_expr (pe_call (E := E) (ok_check_air T) (hr.mono (by decide)) (by rfl) T.g_check_air T.F_check_air.kp (b_check_air T) .nil (passes_call (takes_of rfl rfl rfl rfl) fun _ _ _ _ h => h) (pa_cons (pv 0) pa_nil)))
      (pss_one (ps_ret (pe_call (ok_setOf T) (hr.mono (by decide)) (by rfl) T.g_is_setting_of T.F_is_setting_of.kp (b_is_setting_of T) .nil pass0 (pa_cons (pv 0) (pa_cons (pv 1) pa_nil)))))), ?_⟩
    refine s_callO (o := if da.air = true then .ret .non else .exc T.c_BadAir) (ea_cons (ev_var rfl) ea_nil) (fun H1 e1 => ⟨x, da, rfl, hx.up e1, zx, rfl⟩) fun H2 e2 => ?_
    cases ha : da.air with
    | false =>
      rw [ha] at q
      exact q H2 e2
    | true =>
      rw [ha] at q
      refine s_ret (ev_sp stb_setOf (ea_cons (ev_var rfl) (ea_cons (ev_var rfl) ea_nil)) ⟨x, da, v, d, rfl, hx.up e2, ha, hv.up e2, hz, rfl⟩) fun H3 e3 => q H3 (e2.trans e3)
theorem ok_check_degs : FnOk P w K mg base (L2.CX P w) 3 T.a_check_degrees T.d_check_degrees ["air", "degrees"] (spO (okCDg T.c_BadDegrees)) := by
  refine T.F_check_degrees.okX sc_check_degrees (fun vs H Q E h => ?_) (fun cdv A outer s H vs Q E hr h => ?_)
  · obtain ⟨o, ⟨x, da, v, d, rfl, _⟩, _⟩ := h
    rfl
  · obtain ⟨o, ⟨x, da, v, d, rfl, hx, ha0, hv, hz, rfl⟩, q⟩ := h
    have nd := sc_check_degrees.nd
    refine ⟨_, (pss_cons (ps_set (i := 2) nd rfl (.inl rfl) (pe_callB call_len_seq (by rfl) T.z_len bo_len (pa_cons (pe_ix (r := rIxT K) ix_tup (pv 0) pe_int (fun _ _ => rfl)) pa_nil)))
      (pss_one (ps_if (PW.pt (pw_or (pt_not (pt_val (pe_call (ok_is_tuple T) (hr.mono (by decide)) (by rfl) T.g_is_tuple T.F_is_tuple.kp (b_is_tuple T) .nil pass0 (pa_cons (pv 1) (pa_cons (pv 2) (pa_cons (pv 2) pa_nil)))))) (pw_or1 (pt_not (pt_val (pe_call (ok_are_wholes T) (hr.mono (by decide)) (by rfl) T.g_are_wholes T.F_are_wholes.kp (b_are_wholes T) .nil pass0 (pa_cons (pv 1) (pa_cons (pe_un un_neg pe_int) (pa_cons pe_int pa_nil))))))))) (pss_one (ps_raise rfl (takes_of rfl rfl rfl rfl) (pmk_own PySem.F.excBase_ValueError T.E_BadDegrees.q T.E_BadDegrees.g T.E_BadDegrees.kp (raises_own T.E_BadDegrees.bx T.E_BadDegrees.ty) rfl))) pss_nil))), ?_⟩
    obtain ⟨rs, ls, hs, m, lo, hi, f, mv, A⟩ := air_is ha0
    rw [A.eq] at hx
    obtain ⟨a, v0, v1, v2, v3, v4, v5, rfl, ha, r0, r1, r2, r3, r4, r5⟩ := hx.t6
    obtain ⟨b, ws, rfl, hb, hbs⟩ := r1.tupD
    have en : (da.nth 1).rows.length = rs.length := by rw [A.eq]; rfl
    rw [en] at q
    refine s_asg (v := .int (rs.length : Nat)) (ev_is (ev_lenT (ev_ixT (j := 1) (ev_var rfl) ha rfl) (.inr hb.rd)) (by rw [hbs.length])) fun H1 e => ?_
    have tst : EvT (tOr (tNot (tB (tCall (spX okTup) [] E0 (tCons (tVar 1) (tCons (tVar 2) (tCons (tVar 2) tNil)))))) (tNot (tB (tCall (spX okWholes) [] E0 (tCons (tVar 1) (tCons (tUn (rU fun i => V.int (-i)) (tC (.int 1000))) (tCons (tC (.int 1000)) tNil))))))) [some (.ref a), some (v), some (.int (rs.length : Nat))] H1 (!d.degs rs.length) := by
      refine et_is (et_or (et_not (et_B (ev_sp stb_tup (ea_cons (ev_var rfl) (ea_cons (ev_var rfl) (ea_cons (ev_var rfl) ea_nil))) ⟨v, d, _, _, rfl, hv.up e, rfl⟩))) (b := !d.rows.all fun x => isBetw x (-1000) 1000) fun h => et_not (et_B ?_)) ?_
      · obtain ⟨ds, rfl, _⟩ := isTup_len (not_f h)
        exact ev_sp stb_wholes (ea_cons (ev_var rfl) (ea_cons (ev_un ev_c ru_neg) (ea_cons ev_c ea_nil))) ⟨v, ds, -1000, 1000, rfl, hv.up e, hz.tup.1, rfl⟩
      · unfold D.degs
        rw [Bool.not_and]
    dsimp only
    refine s_if tst (fun hb H2 e2 => ?_) (fun hb H2 e2 => ?_)
    · rw [not_t hb] at q
      exact q H2 (e.trans e2)
    · rw [not_f hb] at q
      exact q H2 (e.trans e2)
end
end Kx

set_option Elab.async false
set_option linter.all false
set_option maxRecDepth 100000
set_option maxHeartbeats 400000
namespace Kx
open PySem PySem.Spec PyProof.Rows L2 Evl
/-! ## a step: what the degrees are next -/
def fromR (n : Str) (fr : List Str) (x : D) : Bool := isFrom n x && (isN x.dor || amD x.dor fr)
def lk (ls : List D) (fr : List Str) (n : Str) : List D := ls.filter (fromR n fr)
def D.oth : D → Str
  | .tup [_, b, _, _] => b.txt
  | _ => Str.empty
def valA (ns : List Str) (dg : List Int) (w : Int) (n : Str) : Int := if n = "out" then w else dg.getD (ns.idxOf n) 0
def heatOf (on : List Str) (n : Str) : D → Bool
  | .tup [a, b, _] => decide (b.txt = n) && amg a.txt on
  | _ => false
def D.gain : D → Int
  | .tup [_, _, g] => g.num
  | _ => 0
def stepAt (ns : List Str) (dg : List Int) (w : Int) (on fr : List Str) (m : Int) (ls hs : List D) (n : Str) : Int :=
  (((lk ls fr n).map fun x => shareOf x * valA ns dg w x.oth).sum + valA ns dg w n * (m - ((lk ls fr n).map shareOf).sum) + ((hs.filter (heatOf on n)).map D.gain).sum) / m
def later (d : D) (dg : List Int) (w : Int) (on fr : List Str) : List Int := (nmsD (d.nth 1).rows).map (stepAt (nmsD (d.nth 1).rows) dg w on fr (d.nth 2).num (d.nth 3).rows (d.nth 4).rows)
def spStep : Sp := fun vs H Q _ => ∃ (v : V) (da : D) (x : V) (dg : List Int) (w : Int) (y : V) (on fr : List Str), vs = [v, x, .int w, y] ∧ Rep H v da ∧ da.air = true ∧ Rep H x (itup dg) ∧ dg.length = (da.nth 1).rows.length ∧ (∀ g ∈ dg, -1000 ≤ g ∧ g ≤ 1000) ∧ -40 ≤ w ∧ w ≤ 40 ∧
  Rep H y (.tup [.tup (on.map D.str), .tup (fr.map D.str)]) ∧ ∀ z H', Ex H H' → Rep H' z (itup (later da dg w on fr)) → Q z H'
theorem idx_nd {ns : List Str} (nd : ns.Nodup) {i : Nat} {x : Str} (h : ns[i]? = some x) : ns.idxOf x = i := by
  obtain ⟨h1, h2⟩ := idx_at (List.mem_of_getElem? h)
  rcases Nat.lt_trichotomy (ns.idxOf x) i with z | z | z
  · obtain ⟨l1, e1⟩ := List.getElem?_eq_some_iff.mp h1
    obtain ⟨l2, e2⟩ := List.getElem?_eq_some_iff.mp h
    exact absurd (e1.trans e2.symm) (List.pairwise_iff_getElem.mp nd _ _ l1 l2 z)
  · exact z
  · exact absurd h (h2 i z)
section
variable {K : PySem.W.Frag} {σ : L2.St} {H : Hp} {ta tb : TE}
/-- {row[0]: degree for row, degree in zip(rows, degrees)} -/
theorem dc_zip {i j : Nat} {a b : Addr} {vs : List V} {rs : List D} {dg : List Int} {Q : VK} (hw : ∀ x y : V, wipe (((wipe σ [i, j]).set i (some x)).set j (some y)) [i, j] = wipe σ [i, j]) (hx : ∀ x y : V, (((wipe σ [i, j]).set i (some x)).set j (some y))[i]? = some (some x)) (hy : ∀ x y : V, (((wipe σ [i, j]).set i (some x)).set j (some y))[j]? = some (some y)) (ha : Ev ta σ H (.ref a)) (hb : Ev tb σ H (.ref b)) (ta_ : TupS H a vs) (rs_ : Reps H vs rs) (tb_ : TupS H b (dg.map V.int)) (hl : dg.length = rs.length) (l1 : rs.length ≤ 1000)
    (hf : ∀ d ∈ rs, ∃ n r, d = .tup (.str n :: r)) (nd : (nmsD rs).Nodup)
    (q : ∀ p H' kvs, H p = none → Ex H H' → H' p = some (.dK kvs) → kvs.length ≤ 1000 → (∀ n, valV kvs (Sum.inr n : Key) = if n ∈ nmsD rs then some (.int (dg.getD ((nmsD rs).idxOf n) 0)) else none) → Q (.ref p) H') :
    tDc (RZ.iZipA K (tCons ta (tCons tb tNil))) (gTup K 2 (gCons (gName i) (gCons (gName j) gNil))) tYes (tOp (rIxT K) (tVar i) (tC (.int 0))) (tVar j) [i, j] σ H Q := by
  unfold tDc RZ.iZipA
  exact ea_cons ha (ea_cons hb ea_nil) H (Ex.refl H) _ fun H1 e1 => ⟨a, b, vs, dg.map V.int, rfl, .inr ⟨(ta_.up e1).sq, (tb_.up e1).sq, fun p hp => by
    have lv := rs_.length
    have ln : (nmsD rs).length = rs.length := by unfold nmsD; rw [List.length_map]
    let Pv : Nat → Hp → Prop := fun k H' => Ex H1 H' ∧ ∃ kvs : List (Key × V), H' p = some (.dK kvs) ∧ kvs.length ≤ k ∧ ∀ n, valV kvs (Sum.inr n : Key) = if n ∈ (nmsD rs).take k then some (.int (dg.getD ((nmsD rs).idxOf n) 0)) else none
    refine ⟨fun k m H' => m = rs.length - k ∧ k ≤ rs.length ∧ Pv k H', ⟨rs.length, rfl, Nat.zero_le _, Ex.new hp, [], upd_same, Nat.zero_le _, fun n => rfl⟩, ?_⟩
    rintro k m H2 ⟨rfl, hk, e2, kvs, h2, kl, look⟩
    have E := e1.trans e2
    have qa := (ta_.up E).sq (K := K)
    have qb := (tb_.up E).sq (K := K)
    by_cases lt : k < rs.length
    · have lt1 : k < vs.length := by omega
      have lt2 : k < (dg.map V.int).length := by rw [List.length_map]; omega
      have lt3 : k < dg.length := by omega
      refine .inr ⟨⟨vs, dg.map V.int, vs[k], (dg.map V.int)[k], qa, qb, List.getElem?_eq_getElem lt1, List.getElem?_eq_getElem lt2⟩, Pv (k + 1), fun H' p' => ⟨rs.length - (k + 1), by omega, rfl, lt, p'⟩, fun x H3 y => ?_⟩
      obtain ⟨t, x0, y0, rfl, ht, rfl, f1, f2⟩ := y
      have g1 := f1 vs qa
      have g2 := f2 _ qb
      obtain ⟨d, hd, rd⟩ := rs_.get g1
      obtain ⟨n, rr, rfl⟩ := hf d (List.mem_of_getElem? hd)
      have gn : (nmsD rs)[k]? = some n := by
        unfold nmsD
        rw [List.getElem?_map, hd]
        rfl
      have ey : y0 = .int dg[k] := by
        rw [List.getElem?_map, List.getElem?_eq_getElem lt3] at g2
        exact (Option.some.inj g2).symm
      subst ey
      obtain ⟨c, ws, rfl, hc, hcs⟩ := rd.tupD
      cases hcs with
      | cons r0 _ =>
        obtain rfl := r0.strD
        have e3 : Ex H2 (upd H2 t (.tup [.ref c, .int dg[k]])) := Ex.new ht
        refine ⟨t, _, rfl, .inl (.inl upd_same), rfl, _, _, rfl, _, _, rfl, rfl, hw _ _, ?_⟩
        refine ev_ixT (K := K) (j := 0) (ev_var (hx _ _)) ((hc.up E).up e3) rfl _ (Ex.refl _) _ fun H4 e4 => ev_var (hy _ _) H4 (Ex.refl _) _ fun H5 e5 => ⟨kvs, .inr n, rfl, e5 _ _ (e4 _ _ (e3 _ _ h2)), sz_lt (by omega), (((e2.trans e3).trans e4).trans e5).mut hp, putK kvs (.inr n) (.int dg[k]), upd_same, Nat.le_trans (length_putK _ _ _) (by omega), fun n2 => ?_⟩
        have new : n ∉ (nmsD rs).take k := fun z => by
          obtain ⟨i2, hi2⟩ := List.mem_iff_getElem?.mp z
          have l2 : i2 < k := by
            have := (List.getElem?_eq_some_iff.mp hi2).1
            rw [List.length_take] at this
            omega
          rw [List.getElem?_take_of_lt l2] at hi2
          have a1 := idx_nd nd gn
          have a2 := idx_nd nd hi2
          omega
        rw [valV_put, List.take_add_one, gn]
        by_cases en : n2 = n
        · subst en
          rw [if_pos rfl, if_pos (List.mem_append_right _ (by simp)), idx_nd nd gn, List.getD_eq_getElem?_getD, List.getElem?_eq_getElem lt3]
          rfl
        · rw [if_neg fun z => en (Sum.inr.inj z), look n2]
          by_cases m : n2 ∈ (nmsD rs).take k
          · rw [if_pos m, if_pos (List.mem_append_left _ m)]
          · rw [if_neg m, if_neg fun z => (List.mem_append.mp z).elim m fun z => en (by simpa using z)]
    · have ek : k = rs.length := by omega
      subst ek
      refine .inl ⟨⟨vs, dg.map V.int, qa, qb, .inl (by omega)⟩, q p H2 kvs (fresh_back e1 hp) E h2 (by omega) fun n => ?_⟩
      rw [look n, List.take_of_length_le (by omega)]⟩⟩
end
section
variable {K : PySem.W.Frag} {S : Addr → Prop} {σ : L2.St} {H : Hp} {te : TE} {ds : List D}
theorem s_te {D0 : Ends} {u : TS} {i : Nat} (h : te σ H fun v H1 => u D0 (σ.set i (some v)) H1) : tSeq (tAsg te (gName i)) u D0 σ H := h
theorem s_dputk {D0 : Ends} {u : TS} {td ty tv : TE} {x : V} {a : Addr} {k : Str} {kvs : List (Key × V)} (hv : Ev tv σ H x) (hd : Ev td σ H (.ref a)) (hk : Ev ty σ H (.str k)) (ha : H a = some (.dK kvs)) (hz : kvs.length < sizeLine)
    (n : ∀ H1, Ex H H1 → u D0 σ (upd H1 a (.dK (putK kvs (Sum.inr k) x)))) : tSeq (sDPut td ty tv) u D0 σ H := by
  show sDPut td ty tv { D0 with nx := u D0 } σ H
  unfold sDPut
  exact hv H (Ex.refl _) _ fun H1 e1 => hd H1 e1 _ fun H2 e2 => hk H2 (e1.trans e2) _ fun H3 e3 => ⟨a, _, rfl, DPut.k (k := .inr k) (((e1.trans e2).trans e3) _ _ ha) hz, n H3 ((e1.trans e2).trans e3)⟩
/-- a comprehension of numbers -/
theorem lcI {wi : TI} {g : TG} {tt : TT} {own : List Nat} (p : D → Bool) (f : D → Int) (hin : InS S H) (h : ItS S wi σ H ds) (hz : ds.length ≤ 100000)
    (each : ∀ (S' : Addr → Prop) (x : V) (d : D) (H1 : Hp), d ∈ ds → InS S' H1 → Ex H H1 → Ex (hidP S H) (hidP S' H1) → RepS S' H1 x d →
      ∃ σ2, (∀ Q : L2.St → Hp → Prop, Q σ2 H1 → g x (wipe σ own) H1 Q) ∧ wipe σ2 own = wipe σ own ∧ EvT tt σ2 H1 (p d) ∧ (p d = true → Ev te σ2 H1 (.int (f d)))) :
    EvS S (tLc wi g tt te own) σ H (.lst (((ds.filter p).map f).map D.int)) := by
  have c := lcS (te := te) p (fun d => .int (f d)) hin h hz fun S' x d H1 hd in1 e1 x1 rx => by
    obtain ⟨σ2, h1, h2, h3, h4⟩ := each S' x d H1 hd in1 e1 x1 rx
    exact ⟨σ2, h1, h2, h3, fun hp => es_of (h4 hp) (.int _)⟩
  rw [List.map_map]
  exact c
theorem lcIa {wi : TI} {g : TG} {own : List Nat} (f : D → Int) (hin : InS S H) (h : ItS S wi σ H ds) (hz : ds.length ≤ 100000)
    (each : ∀ (S' : Addr → Prop) (x : V) (d : D) (H1 : Hp), d ∈ ds → InS S' H1 → Ex H H1 → Ex (hidP S H) (hidP S' H1) → RepS S' H1 x d →
      ∃ σ2, (∀ Q : L2.St → Hp → Prop, Q σ2 H1 → g x (wipe σ own) H1 Q) ∧ wipe σ2 own = wipe σ own ∧ Ev te σ2 H1 (.int (f d))) :
    EvS S (tLc wi g tYes te own) σ H (.lst ((ds.map f).map D.int)) := by
  have c := lcI (te := te) (tt := tYes) (fun _ => true) f hin h hz fun S' x d H1 hd in1 e1 x1 rx => by
    obtain ⟨σ2, h1, h2, h3⟩ := each S' x d H1 hd in1 e1 x1 rx
    exact ⟨σ2, h1, h2, fun H6 e6 Q q => q H6 (Ex.refl _), fun _ => h3⟩
  rw [List.filter_eq_self.mpr fun _ _ => rfl] at c
  exact c
end
theorem room_row {d : D} (h : d.room = true) : ∃ n r, d = .tup (.str n :: r) := by
  obtain ⟨n, _, _, _, rfl, _⟩ := room_shape h
  exact ⟨n, _, rfl⟩
theorem IsA.notOut {d : D} {rs ls hs : List D} {m lo hi f mv : Int} (A : IsA d rs ls hs m lo hi f mv) : ("out" : Str) ∉ nmsD rs := fun z => by
  obtain ⟨x, hx, e⟩ := List.mem_map.mp z
  obtain ⟨n, _, _, _, rfl, _, ne, _⟩ := room_shape (A.ra x hx)
  exact ne e
theorem share_sum : ∀ (ls : List D) (k : Int), (∀ x ∈ ls, 0 ≤ shareOf x ∧ shareOf x ≤ k) → 0 ≤ (ls.map shareOf).sum ∧ (ls.map shareOf).sum ≤ k * (ls.length : Int)
  | [], k, _ => by simp
  | x :: r, k, h => by
    obtain ⟨a, b⟩ := h x List.mem_cons_self
    obtain ⟨c, d⟩ := share_sum r k fun y hy => h y (List.mem_cons_of_mem _ hy)
    rw [List.map_cons, List.sum_cons, List.length_cons, Int.natCast_succ, Int.mul_add]
    omega
section
variable {P : Program} {w : World} {K : PySem.W.Frag} {mg : Str → Option Value} {base : Heap} (T : Txt K mg)
set_option maxHeartbeats 4000000 in
theorem ok_stepped : FnOk P w K mg base CX0 1 T.a_stepped_degrees T.d_stepped_degrees ["air", "degrees", "weather", "setting"] spStep := by
  refine T.F_stepped_degrees.ok sc_stepped_degrees (fun vs H Q E h => ?_) (fun cdv A outer s H vs Q E hr h => ?_)
  · obtain ⟨v, da, x, dg, w, y, on, fr, rfl, _⟩ := h
    rfl
  · obtain ⟨v, da, x, dg, sky, y, on, fr, rfl, hv, hair, hx, hl, hb, w1, w2, hy, q⟩ := h
    have nd := sc_stepped_degrees.nd
    have hu : (A.deeper (envOfC "stepped_degrees" (defScope s_stepped_degrees) s.heap.objs.size T.a_stepped_degrees cdv)).units + 1 < cLine := by have := hr.un; omega
    refine ⟨_, (pss_cons (ps_asg (pv 3) (pg_tup rfl (pgs_cons (pg_name (i := 4) nd rfl (.inr rfl)) (pgs_cons (pg_name (i := 5) nd rfl (.inr rfl)) pgs_nil))))
      (pss_cons (ps_set (i := 6) nd rfl (.inr rfl) (pe_dc (own := [("row", 8), ("degree", 14)]) (g := gTup K 2 (gCons (gName 8) (gCons (gName 14) gNil))) (tt := tYes) (by rfl) nd (RZ.pi_zipA (by rfl) T.z_zip (pa_cons (pe_ix (r := rIxT K) ix_tup (pv 0) pe_int (fun _ _ => rfl)) (pa_cons (pv 1) pa_nil))) (blkOk_by (N := ["air", "degrees", "weather", "setting", "on", "free", "around", "found", "row", "area", "leaks", "flows", "kept", "gains", "degree", "leak", "_", "other", "share", "name", "there", "gain"]) (sc := defScope s_stepped_degrees) (by decide +kernel)) (fun _ _ _ _ _ => (pg_tup rfl (pgs_cons (pg_name (i := 8) nd rfl (.inl rfl)) (pgs_cons (pg_name (i := 14) nd rfl (.inl rfl)) pgs_nil)))) (fun _ _ _ _ _ => pts_nil) (fun _ _ _ _ _ => (pe_ix (r := rIxT K) ix_tup (pv 8) pe_int (fun _ _ => rfl))) (fun _ _ _ _ _ => (pv 14))))
      (pss_cons (ps_dput hu (pv 6) (pe_glob (v := .str "out") (by rfl) T.g_OUT ⟨T.tO, rfl⟩) (pv 2) rfl)
      (pss_cons (ps_set (i := 7) nd rfl (.inl rfl) (pe_lst pa_nil))
      (pss_cons (ps_for PassesOwn.never rfl (pi_tup (pe_ix (r := rIxT K) ix_tup (pv 0) pe_int (fun _ _ => rfl))) (pg_name (i := 8) nd rfl (.inl rfl)) (pss_cons (ps_set (i := 9) nd rfl (.inr rfl) (pe_ix (r := rIxT K) ix_tup (pv 8) pe_int (fun _ _ => rfl)))
      (pss_cons (ps_setLc (i := 10) (own := [("leak", 15)]) (g := gName 15)  (by rfl) nd rfl rfl (by rfl) (pi_tup (pe_ix (r := rIxT K) ix_tup (pv 0) pe_int (fun _ _ => rfl))) (blkOk_by (N := ["air", "degrees", "weather", "setting", "on", "free", "around", "found", "row", "area", "leaks", "flows", "kept", "gains", "degree", "leak", "_", "other", "share", "name", "there", "gain"]) (sc := defScope s_stepped_degrees) (by decide +kernel)) (fun _ _ _ _ _ => (pg_name (i := 15) nd rfl (.inl rfl))) (fun _ _ _ _ _ => (pts_one (PW.pt (pw_and (pt_cmpR op_eq (pe_ix (r := rIxT K) ix_tup (pv 15) pe_int (fun _ _ => rfl)) (pv 9) (nomark _)) (pw_and1 (PW.pt (pw_or (pt_cmpR op_isN (pe_ix (r := rIxT K) ix_tup (pv 15) pe_int (fun _ _ => rfl)) pe_non (nomark _)) (pw_or1 (pt_cmpR (r := rIn K false) op_in_seq (pe_ix (r := rIxT K) ix_tup (pv 15) pe_int (fun _ _ => rfl)) (pv 5) (by rfl)))))))))) (fun _ _ _ _ _ => (pv 15)))
      (pss_cons (ps_set (i := 11) nd rfl (.inl rfl) (pe_callB (r := rSum K) (cr_sum rfl) (by rfl) T.z_sum bo_sum (pa_cons (pe_lc (own := [("_", 16), ("other", 17), ("share", 18)]) (g := gTup K 4 (gCons (gName 16) (gCons (gName 17) (gCons (gName 18) (gCons (gName 16) gNil))))) (tt := tYes) (by rfl) nd (pi_list (pv 10)) (blkOk_by (N := ["air", "degrees", "weather", "setting", "on", "free", "around", "found", "row", "area", "leaks", "flows", "kept", "gains", "degree", "leak", "_", "other", "share", "name", "there", "gain"]) (sc := defScope s_stepped_degrees) (by decide +kernel)) (fun _ _ _ _ _ => (pg_tup rfl (pgs_cons (pg_name (i := 16) nd rfl (.inl rfl)) (pgs_cons (pg_name (i := 17) nd rfl (.inl rfl)) (pgs_cons (pg_name (i := 18) nd rfl (.inl rfl)) (pgs_cons (pg_name (i := 16) nd rfl (.inl rfl)) pgs_nil)))))) (fun _ _ _ _ _ => pts_nil) (fun _ _ _ _ _ => (pe_op op_mul (pv 18) (pe_dget hu (pv 6) (pv 17) (fun _ _ => rfl))))) pa_nil)))
      (pss_cons (ps_set (i := 12) nd rfl (.inl rfl) (pe_op op_mul (pe_dget hu (pv 6) (pv 9) (fun _ _ => rfl)) (pe_op op_sub (pe_ix (r := rIxT K) ix_tup (pv 0) pe_int (fun _ _ => rfl)) (pe_callB (r := rSum K) (cr_sum rfl) (by rfl) T.z_sum bo_sum (pa_cons (pe_lc (own := [("leak", 15)]) (g := gName 15) (tt := tYes) (by rfl) nd (pi_list (pv 10)) (blkOk_by (N := ["air", "degrees", "weather", "setting", "on", "free", "around", "found", "row", "area", "leaks", "flows", "kept", "gains", "degree", "leak", "_", "other", "share", "name", "there", "gain"]) (sc := defScope s_stepped_degrees) (by decide +kernel)) (fun _ _ _ _ _ => (pg_name (i := 15) nd rfl (.inl rfl))) (fun _ _ _ _ _ => pts_nil) (fun _ _ _ _ _ => (pe_ix (r := rIxT K) ix_tup (pv 15) pe_int (fun _ _ => rfl)))) pa_nil)))))
      (pss_cons (ps_set (i := 13) nd rfl (.inl rfl) (pe_callB (r := rSum K) (cr_sum rfl) (by rfl) T.z_sum bo_sum (pa_cons (pe_lc (own := [("name", 19), ("there", 20), ("gain", 21)]) (g := gTup K 3 (gCons (gName 19) (gCons (gName 20) (gCons (gName 21) gNil))))  (by rfl) nd (pi_tup (pe_ix (r := rIxT K) ix_tup (pv 0) pe_int (fun _ _ => rfl))) (blkOk_by (N := ["air", "degrees", "weather", "setting", "on", "free", "around", "found", "row", "area", "leaks", "flows", "kept", "gains", "degree", "leak", "_", "other", "share", "name", "there", "gain"]) (sc := defScope s_stepped_degrees) (by decide +kernel)) (fun _ _ _ _ _ => (pg_tup rfl (pgs_cons (pg_name (i := 19) nd rfl (.inl rfl)) (pgs_cons (pg_name (i := 20) nd rfl (.inl rfl)) (pgs_cons (pg_name (i := 21) nd rfl (.inl rfl)) pgs_nil))))) (fun _ _ _ _ _ => (pts_one (PW.pt (pw_and (pt_cmpR op_eq (pv 20) (pv 9) (nomark _)) (pw_and1 (pt_cmpR (r := rIn K false) op_in_seq (pv 19) (pv 4) (by rfl))))))) (fun _ _ _ _ _ => (pv 21))) pa_nil)))
      (pss_one (ps_expr (pe_bm PySem.F.plainAttrs_list PySem.F.slot_list_append PySem.F.type_list_append mt_append (pv 7) (pa_cons (pe_op op_fdiv (pe_op op_add (pe_op op_add (pv 11) (pv 12)) (pv 13)) (pe_ix (r := rIxT K) ix_tup (pv 0) pe_int (fun _ _ => rfl))) pa_nil))))))))))
      (pss_one (ps_ret (pe_callTy call_tupF (by rfl) T.z_tuple bo_tuple (pa_cons (pv 7) pa_nil))))))))), ?_⟩
    obtain ⟨rs, ls, hs, m, lo, hi, f, mv, A⟩ := air_is hair
    have hv0 := hv
    rw [A.eq] at hv
    obtain ⟨a, v0, v1, v2, v3, v4, v5, rfl, ha, r0, r1, r2, r3, r4, r5⟩ := hv.t6
    obtain rfl := r2.intD
    obtain ⟨ra, rvs, rfl, hra, hrs⟩ := r1.tupD
    obtain ⟨xa, rfl, hxa⟩ := itup_at hx
    have hl : dg.length = rs.length := by
      rw [hl, A.eq]
      rfl
    have r3l := A.r3
    refine s_unp (er_of (ev_var rfl) hy) rfl fun us H1 e rus => ?_
    cases rus with
    | cons y1 rus => cases rus with
      | cons y2 rus =>
        cases rus
        obtain ⟨pon, rfl, hon⟩ := y1.txs
        obtain ⟨pfr, rfl, hfr⟩ := y2.txs
        refine ⟨_, _, rfl, _, _, rfl, rfl, ?_⟩
        refine s_te (dc_zip (K := K) (ta := tOp (rIxT K) (tVar 0) (tC (.int 1))) (tb := tVar 1) (σ := [some (.ref a), some (.ref xa), some (.int sky), some (y), some (.ref pon), some (.ref pfr), none, none, none, none, none, none, none, none, none, none, none, none, none, none, none, none]) (H := H1) (i := 8) (j := 14) (fun _ _ => rfl) (fun _ _ => rfl) (fun _ _ => rfl) (ev_ixT (j := 1) (ev_var rfl) (ha.up e) rfl) (ev_var rfl) (hra.up e) (hrs.up e) (hxa.up e) hl (by omega) (fun d hd => room_row (A.ra d hd)) A.rn fun D0 H2 kvs nD e2 hD kl look => ?_)
        refine s_dputk (x := .int sky) (k := "out") (ev_var rfl) (ev_var rfl) ev_c hD (sz_lt (by omega)) fun H5 e5 => ?_
        have E6 := (e2.trans e5).mut (o := .dK (putK kvs (Sum.inr "out") (.int sky))) nD
        have look2 : ∀ n : Str, n = "out" ∨ n ∈ nmsD rs → valV (putK kvs (Sum.inr ("out" : Str) : Key) (.int sky)) (Sum.inr n : Key) = some (.int (valA (nmsD rs) dg sky n)) := fun n hn => by
          rw [valV_put]
          unfold valA
          by_cases en : n = "out"
          · subst en
            rw [if_pos rfl, if_pos rfl]
          · rw [if_neg fun z => en (Sum.inr.inj z), if_neg en, look n, if_pos (hn.elim (fun z => absurd z en) id)]
        have d6 : upd H5 D0 (.dK (putK kvs (Sum.inr "out") (.int sky))) D0 = some (.dK (putK kvs (Sum.inr ("out" : Str) : Key) (.int sky))) := upd_same
        generalize upd H5 D0 (.dK (putK kvs (Sum.inr "out") (.int sky))) = H6 at E6 d6
        generalize putK kvs (Sum.inr ("out" : Str) : Key) (.int sky) = kv2 at d6 look2
        refine s_asgL (el_lst ea_nil (by simp)) fun p H7 np e7 hp => ?_
        have E7 := e.trans (E6.trans e7)
        have S_ : ∀ a', (also S0 p) a' ↔ a' = p := fun a' => ⟨fun z => z.elim (fun z => z.elim) id, .inr⟩
        have lift6 : Ex (hidP S0 H6) (hidP (also S0 p) H7) := (hidP_also np).trans (hidP_ex e7)
        have up6 : Ex H (hidP (also S0 p) H7) := ((e.trans E6).trans hid0).trans lift6
        have tA := ha.up up6
        have tOn := hon.up (((E6).trans hid0).trans lift6)
        have tFr := hfr.up (((E6).trans hid0).trans lift6)
        have tD : hidP (also S0 p) H7 D0 = some (.dK kv2) := hidP_at (e7 _ _ d6) fun z => by
          rw [(S_ _).mp z, np] at d6
          cases d6
        have rL := r3.up up6
        have rHs := r4.up up6
        have rRs : Rep (hidP (also S0 p) H7) (.ref ra) (.tup rs) := r1.up up6
        have in7 : InS (also S0 p) H7 := fun a' h z => by
          rw [(S_ _).mp h, hp] at z
          cases z
        have vb : ∀ n : Str, n = "out" ∨ n ∈ nmsD rs → -(2 ^ 64) < valA (nmsD rs) dg sky n ∧ valA (nmsD rs) dg sky n < 2 ^ 64 := fun n _ => by
          unfold valA
          split
          · omega
          · rw [List.getD_eq_getElem?_getD]
            cases hg : dg[(nmsD rs).idxOf n]? with
            | none =>
              rw [Option.getD_none]
              omega
            | some g =>
              have := hb g (List.mem_of_getElem? hg)
              rw [Option.getD_some]
              omega
        have shp := fun d hd => leak_shape (A.la d hd)
        have m1 := A.m1
        have m2 := A.m2
        have l6 := A.l6
        have h3 := A.h3
        refine q_forS (S := also S0 p) (ds := rs) (its_tup (es_of (ev_ixT (j := 1) (ev_var rfl) (tA.up hidP_sub) rfl) rRs)) (fun H8 i σ' H' => Ex (hidP (also S0 p) H8) (hidP (also S0 p) H') ∧ H' p = some (.lst ((((nmsD rs).take i).map (stepAt (nmsD rs) dg sky on fr m ls hs)).map V.int)) ∧
          ∃ z8 z9 z10 z11 z12 z13, σ' = [some (.ref a), some (.ref xa), some (.int sky), some y, some (.ref pon), some (.ref pfr), some (.ref D0), some (.ref p), z8, z9, z10, z11, z12, z13, none, none, none, none, none, none, none, none])
          (fun H8 e8 => ⟨Ex.refl _, e8 _ _ hp, _, _, _, _, _, _, rfl⟩) (fun _ _ _ _ _ h => h.1) (fun H8 i d x8 σ' H' e8 hd ⟨x9, hp9, z8, z9, z10, z11, z12, z13, es⟩ rx => ?_) (fun H8 σ' H' e8 ⟨x9, hp9, z8, z9, z10, z11, z12, z13, es⟩ => ?_)
        · subst es
          obtain ⟨n, lo1, hi1, f1, rfl, _⟩ := room_shape (A.ra d (List.mem_of_getElem? hd))
          obtain ⟨c, u0, u1, u2, u3, rfl, hc, g0, _⟩ := rx.t4
          obtain rfl := g0.strD
          have X9 := (hidP_ex e8).trans x9
          have gn : (nmsD rs)[i]? = some n := by
            unfold nmsD
            rw [List.getElem?_map, hd]
            rfl
          have mn : n ∈ nmsD rs := List.mem_of_getElem? gn
          have in9 : ∀ {H'' : Hp}, Ex H' H'' → InS (also S0 p) H'' := fun {H''} e' a' h z => by
            rw [(S_ _).mp h, e' _ _ hp9] at z
            cases z
          refine s_asg (v := .str n) (ev_ixT (j := 0) (ev_var rfl) (hc.up hidP_sub) rfl) fun H9 e9 => ?_
          refine s_asgS (S := also S0 p) (lcS (ds := ls) (fromR n fr) (fun x => x) (in9 e9) (its_tup (es_of (ev_ixT (j := 3) (ev_var rfl) ((tA.up (X9.trans (hidP_ex e9))).up hidP_sub) rfl) (rL.up (X9.trans (hidP_ex e9))))) (by omega) fun S' x d2 HA hd2 inA eA xA rA => ?_) fun vl H10 e10 rvl => ?_
          · obtain ⟨a1, b1, s1, n1, rfl, _, _, _, _, _, hn⟩ := shp d2 hd2
            obtain ⟨c2, t0, t1, t2, t3, rfl, hc2, g0, g1, g2, g3⟩ := rA.t4
            obtain rfl := g0.strD
            have hc3 := hc2.up hidP_sub
            refine ⟨_, fun Q h => h, rfl, et_is (et_and (et_test (ev_is (ev_op (ev_ixT (j := 0) (ev_var rfl) hc3 rfl) (ev_var rfl) (rv_eq rfl)) (congrArg V.bl (txt_eq _ _)))) fun _ => et_or (et_test (ev_is (ev_op (ev_ixT (j := 3) (ev_var rfl) hc3 rfl) ev_c (rv_isN (x := t3))) (congrArg V.bl (isN_v g3)))) fun hnn => et_test (b := amD n1 fr) ?_) rfl, fun _ => es_of (ev_var rfl) (.tup hc2 (.cons (.str _) (.cons g1 (.cons g2 (.cons g3 .nil)))))⟩
            rcases hn with rfl | ⟨z, rfl, _⟩
            · cases hnn
            · obtain rfl := g3.strD
              exact ev_op (ev_ixT (j := 3) (ev_var rfl) hc3 rfl) (ev_var rfl) (rv_inTx (.inr (((tFr.up (X9.trans (hidP_ex e9))).up xA).up hidP_sub).rd))
          · have ei : (ls.filter (fromR n fr)).map (fun x => x) = lk ls fr n := List.map_id' _
            rw [ei] at rvl
            have X10 := X9.trans (hidP_ex (e9.trans e10))
            have shk : ∀ d2 ∈ lk ls fr n, ∃ a b s n1, d2 = .tup [.str a, .str b, .int s, n1] ∧ (b = "out" ∨ b ∈ nmsD rs) ∧ 1 ≤ s ∧ s ≤ 12 := fun d2 h2 => by
              obtain ⟨a1, b1, s1, n1, rfl, _, hb1, _, q1, q2, _⟩ := shp d2 ((List.mem_filter.mp h2).1)
              exact ⟨a1, b1, s1, n1, rfl, hb1.symm, q1, by omega⟩
            have lkl : (lk ls fr n).length ≤ 6 := Nat.le_trans (List.length_filter_le _ _) l6
            have dict : ∀ {S' : Addr → Prop} {H'' : Hp}, Ex (hidP (also S0 p) H10) (hidP S' H'') → H'' D0 = some (.dK kv2) := fun {S' H''} x1 => (hidP_get ((X10.trans x1) _ _ tD)).1
            refine s_asg (v := .int (((lk ls fr n).map fun x => shareOf x * valA (nmsD rs) dg sky x.oth).sum)) (es_sum (S := also S0 p) (lcIa (ds := lk ls fr n) (fun x => shareOf x * valA (nmsD rs) dg sky x.oth) (in9 (e9.trans e10)) (its_list (es_of (ev_var rfl) rvl)) (by omega) fun S' x d2 HA hd2 inA eA xA rA => ?_)) fun H11 e11 => ?_
            · obtain ⟨a1, b1, s1, n1, rfl, hb1, q1, q2⟩ := shk d2 hd2
              obtain ⟨c2, t0, t1, t2, t3, rfl, hc2, g0, g1, g2, g3⟩ := rA.t4
              obtain rfl := g1.strD
              obtain rfl := g2.intD
              refine ⟨_, fun Q h => ⟨c2, _, rfl, (hc2.up hidP_sub).sq, rfl, _, _, rfl, _, _, rfl, _, _, rfl, _, _, rfl, rfl, h⟩, rfl, ?_⟩
              exact ev_op (ev_var (i := 18) rfl) (ev_dget (ev_var (i := 6) rfl) (ev_var (i := 17) rfl) (dict xA) (look2 b1 hb1)) (rv_I (.inl ⟨by show -(2 ^ 64) < s1; omega, by show s1 < 2 ^ 64; omega⟩))
            · have X11 := X10.trans (hidP_ex e11)
              have rvl11 := rvl.up (hidP_ex e11)
              refine s_asg (v := .int (valA (nmsD rs) dg sky n * (m - ((lk ls fr n).map shareOf).sum))) (ev_op (ev_dget (ev_var (i := 6) rfl) (ev_var (i := 9) rfl) (dict (hidP_ex e11)) (look2 n (.inr mn))) (ev_op (ev_ixT (j := 2) (ev_var rfl) ((tA.up X11).up hidP_sub) rfl) (es_sum (S := also S0 p) (lcIa (ds := lk ls fr n) shareOf (in9 ((e9.trans e10).trans e11)) (its_list (es_of (ev_var rfl) rvl11)) (by omega) fun S' x d2 HA hd2 inA eA xA rA => ?_)) rv_I0) (rv_I (.inl (vb n (.inr mn))))) fun H12 e12 => ?_
              · obtain ⟨a1, b1, s1, n1, rfl, _⟩ := shk d2 hd2
                obtain ⟨c2, t0, t1, t2, t3, rfl, hc2, g0, g1, g2, g3⟩ := rA.t4
                obtain rfl := g2.intD
                exact ⟨_, fun Q h => h, rfl, ev_ixT (j := 2) (ev_var rfl) (hc2.up hidP_sub) rfl⟩
              · have X12 := X11.trans (hidP_ex e12)
                refine s_asg (v := .int ((hs.filter (heatOf on n)).map D.gain).sum) (es_sum (S := also S0 p) (lcI (ds := hs) (heatOf on n) D.gain (in9 (((e9.trans e10).trans e11).trans e12)) (its_tup (es_of (ev_ixT (j := 4) (ev_var rfl) ((tA.up X12).up hidP_sub) rfl) (rHs.up X12))) (by omega) fun S' x d2 HA hd2 inA eA xA rA => ?_)) fun H13 e13 => ?_
                · obtain ⟨n1, a1, g1, rfl, _⟩ := heat_shape (A.ha d2 hd2)
                  obtain ⟨c2, t0, t1, t2, rfl, hc2, g0, g1, g2⟩ := rA.t3
                  obtain rfl := g0.strD
                  obtain rfl := g1.strD
                  obtain rfl := g2.intD
                  refine ⟨_, fun Q h => ⟨c2, _, rfl, (hc2.up hidP_sub).sq, rfl, _, _, rfl, _, _, rfl, _, _, rfl, rfl, h⟩, rfl, et_and (et_test (ev_is (ev_op (ev_var (i := 20) rfl) (ev_var (i := 9) rfl) (rv_eq rfl)) (congrArg V.bl (txt_eq _ _)))) fun _ => et_test (ev_op (ev_var (i := 19) rfl) (ev_var (i := 4) rfl) (rv_inTx (.inr (((tOn.up (X12.trans xA)).up hidP_sub).rd)))), fun _ => ev_var (i := 21) rfl⟩
                · have X13 := X12.trans (hidP_ex e13)
                  have E13 := ((((e9.trans e10).trans e11).trans e12).trans e13)
                  refine s_app (E13 _ _ hp9) (ev_var rfl) (ev_op (ev_op (ev_op (ev_var rfl) (ev_var rfl) rv_I0) (ev_var rfl) rv_I0) (ev_ixT (j := 2) (ev_var rfl) ((tA.up X13).up hidP_sub) rfl) (rv_I ⟨by omega, by omega⟩)) ?_ fun H14 e14 => ⟨(x9.trans (hidP_ex (E13.trans e14))).trans (hidP_mut (show also S0 p p from .inr rfl)), ?_, _, _, _, _, _, _, rfl⟩
                  · rw [List.length_map, List.length_map, List.length_take]
                    have ln : (nmsD rs).length = rs.length := by unfold nmsD; rw [List.length_map]
                    omega
                  · rw [upd_same, List.take_add_one, gn, List.map_append, List.map_append]
                    rfl
        · subst es
          have ln : (nmsD rs).length = rs.length := by unfold nmsD; rw [List.length_map]
          rw [List.take_of_length_le (by omega)] at hp9
          have el : later da dg sky on fr = (nmsD rs).map (stepAt (nmsD rs) dg sky on fr m ls hs) := by rw [A.eq]; rfl
          have back : Ex H6 H' := fun a' o h => by
            have z : ¬ also S0 p a' := fun z => by
              rw [(S_ _).mp z, np] at h
              cases h
            exact (hidP_get ((((hidP_ex e7).trans (hidP_ex e8)).trans x9) _ _ (hidP_at h z))).1
          refine ev_var (i := 7) rfl H' (Ex.refl _) _ fun H9 e9 => ⟨p, _, rfl, .of (e9 _ _ hp9), fun p2 o np2 ho => q (.ref p2) _ ((((e.trans E6).trans back).trans e9).trans (Ex.new np2)) ?_⟩
          rw [el]
          exact .tup ⟨o, ho, upd_same⟩ (reps_of_ints _)
end
end Kx

set_option Elab.async false
set_option linter.all false
set_option maxRecDepth 100000
set_option maxHeartbeats 400000
namespace Kx
open PySem PySem.Spec PyProof.Rows L2 Evl
/-! ## an error with a field -/
theorem b_init {K : PySem.W.Frag} {mg : Str → Option Value} (T : Txt K mg) : Binds K T.d_init ["self", "at"] [] := T.F_init.binds (ps := ["self", "at"]) fun _ _ _ _ _ _ us hl => match us, hl with | [_, _], _ => rfl
def spInit (K : PySem.W.Frag) (C : Addr) : Sp := fun vs H Q _ => ∃ (a : Addr) (v : V), vs = [.ref a, v] ∧ H a = some (exo a C none) ∧ ∀ H' dx, Ex H H' → H' dx = none → dx ≠ a → Q .non (upd (upd H' dx (exd dx [("at", v)])) a (exo a C (some dx)))
inductive OutN where
  | nums (l : List Int) | exc (C : Addr) | exf (C : Addr) (fs : List (Str × V))
def outN (o : OutN) (H : Hp) (Q : VK) (E : XK) : Prop := match o with
  | .nums l => ∀ z H2, Ex H H2 → Rep H2 z (itup l) → Q z H2
  | .exc C => E (.ref C) none H
  | .exf C fs => ∀ dx H2, Ex H H2 → H2 dx = some (.xd fs) → E (.ref C) (some dx) H2
def spN (ok : List V → Hp → OutN → Prop) : Sp := fun vs H Q E => ∃ o, ok vs H o ∧ ∀ H', Ex H H' → outN o H' Q E
def numsD (d : D) : List Int := d.rows.map D.num
def txtsD (d : D) : List Str := d.rows.map D.txt
def loD5 (da : D) : Int := ((da.nth 5).nth 0).num
def hiD5 (da : D) : Int := ((da.nth 5).nth 1).num
def nextO (cA cD cW cS : Addr) (da dd wd sd : D) : OutN :=
  if da.air = true then
    if dd.degs (da.nth 1).rows.length = true then
      if isBetw wd (loD5 da) (hiD5 da) = true then
        if sd.setg (hN da) (dN da) = true then .nums (later da (numsD dd) wd.num (txtsD (sd.nth 0)) (txtsD (sd.nth 1))) else .exc cS
      else .exf cW [("at", .int 0)]
    else .exc cD
  else .exc cA
def okNext (cA cD cW cS : Addr) : List V → Hp → OutN → Prop := fun vs H o => ∃ v da x dd y wd z sd, vs = [v, x, y, z] ∧ Rep H v da ∧ da.Sz ∧ Rep H x dd ∧ dd.Sz ∧ Rep H y wd ∧ Rep H z sd ∧ sd.Sz ∧ o = nextO cA cD cW cS da dd wd sd
theorem degs_is {n : Nat} {d : D} (h : d.degs n = true) : d = itup (numsD d) ∧ (numsD d).length = n ∧ ∀ g ∈ numsD d, -1000 ≤ g ∧ g ≤ 1000 := by
  unfold D.degs at h
  rw [Bool.and_eq_true] at h
  obtain ⟨ds, rfl, h1, h2⟩ := isTup_len h.1
  have h3 := List.all_eq_true.mp h.2
  have all : ∀ l : List D, (∀ x ∈ l, isBetw x (-1000) 1000 = true) → l = (l.map D.num).map D.int := fun l => by
    induction l with
    | nil => exact fun _ => rfl
    | cons x r ih =>
      intro hx
      rw [List.map_cons, List.map_cons, ← ih fun y hy => hx y (List.mem_cons_of_mem _ hy), ← (betw_int (hx x List.mem_cons_self)).1]
  refine ⟨?_, ?_, fun g hg => ?_⟩
  · unfold itup numsD
    exact congrArg D.tup (all ds h3)
  · unfold numsD
    rw [List.length_map]
    show ds.length = n
    omega
  · obtain ⟨x, hx, rfl⟩ := List.mem_map.mp hg
    exact (betw_int (h3 x hx)).2
theorem setg_is {hs dn : List Str} {d : D} (h : d.setg hs dn = true) : d = .tup [.tup ((txtsD (d.nth 0)).map D.str), .tup ((txtsD (d.nth 1)).map D.str)] ∧ (∀ n ∈ txtsD (d.nth 0), n ∈ hs) ∧ ascS (txtsD (d.nth 0)) = true ∧ (∀ n ∈ txtsD (d.nth 1), n ∈ dn) ∧ ascS (txtsD (d.nth 1)) = true := by
  match d, h with
  | .tup [a, b], h =>
    rw [setg_2, Bool.and_eq_true] at h
    have nm : ∀ {d : D} {ns : List Str}, d.named ns = true → d = .tup ((txtsD d).map D.str) ∧ (∀ n ∈ txtsD d, n ∈ ns) ∧ ascS (txtsD d) = true := fun {d ns} h => by
      cases d with
      | tup ds =>
        unfold D.named at h
        rw [Bool.and_eq_true] at h
        refine ⟨congrArg D.tup (all_am h.1), fun n hn => ?_, h.2⟩
        obtain ⟨x, hx, rfl⟩ := List.mem_map.mp hn
        exact (am_str (List.all_eq_true.mp h.1 x hx)).2
      | _ => exact absurd h (by unfold D.named; exact Bool.false_ne_true)
    obtain ⟨a1, a2, a3⟩ := nm h.1
    obtain ⟨b1, b2, b3⟩ := nm h.2
    refine ⟨?_, a2, a3, b2, b3⟩
    show D.tup [a, b] = .tup [.tup ((txtsD a).map D.str), .tup ((txtsD b).map D.str)]
    rw [← a1, ← b1]
section
variable {P : Program} {w : World} {K : PySem.W.Frag} {mg : Str → Option Value} {base : Heap} (T : Txt K mg)
theorem ok_init : FnOk P w K mg base CX0 1 T.a_init T.d_init ["self", "at"] (spInit K T.c_BadWeather) := by
  refine T.F_init.ok sc_init (fun vs H Q E h => ?_) (fun cdv A outer s H vs Q E hr h => ?_)
  · obtain ⟨a, v, rfl, _⟩ := h
    rfl
  · obtain ⟨a, v, rfl, ha, q⟩ := h
    refine ⟨_, pss_one (ps_ost (pv 0) (pv 1)), ?_⟩
    exact ev_var (i := 1) rfl H (Ex.refl _) _ fun H1 e1 => ev_var (i := 0) rfl H1 (Ex.refl _) _ fun H2 e2 => ⟨a, T.c_BadWeather, rfl, T.O_BadWeather, T.n_BadWeather, .inl ⟨(e1.trans e2) _ _ ha, fun dx hd ne => q _ dx (e1.trans e2) hd ne⟩⟩
theorem t_badweather {σ : L2.St} {H : Hp} {ta : TE} {v : V} {W : WX} (h : Ev ta σ H v) (q : ∀ dx H2, Ex H H2 → H2 dx = some (.xd [("at", v)]) → W (.ref T.c_BadWeather) (some dx) σ H2) :
    tMkO T.c_BadWeather (spInit K T.c_BadWeather) [] (tCons ta tNil) σ H fun cls d H' => W cls d σ H' :=
  ea_cons h ea_nil H (Ex.refl _) _ fun H1 e1 => ⟨by simp, fun a na => ⟨a, v, rfl, upd_same, fun H' dx e' hd ne => by
    have h1 : H1 dx = none := by
      cases z : H1 dx with
      | none => rfl
      | some o =>
        rw [e' dx o ((upd_ne ne).trans z)] at hd
        cases hd
    refine ⟨rfl, dx, [("at", v)], upd_same, by rw [upd_ne ne, upd_same], h1, q dx _ (fun b o hb => ?_) upd_same⟩
    have hb1 := e1 _ _ hb
    have n1 : b ≠ dx := fun z => by rw [z, h1] at hb1; cases hb1
    have n2 : b ≠ a := fun z => by rw [z, na] at hb1; cases hb1
    rw [upd_ne n1, del_ne n2, upd_ne n2, upd_ne n1]
    exact e' _ _ ((upd_ne n2).trans hb1)⟩⟩
theorem ok_next : FnOk P w K mg base (L2.CX P w) 8 T.a_next_degrees T.d_next_degrees ["air", "degrees", "weather", "setting"] (spN (okNext T.c_BadAir T.c_BadDegrees T.c_BadWeather T.c_BadSetting)) := by
  refine T.F_next_degrees.okX sc_next_degrees (fun vs H Q E h => ?_) (fun cdv A outer s H vs Q E hr h => ?_)
  · obtain ⟨o, ⟨v, da, x, dd, y, wd, z, sd, rfl, _⟩, _⟩ := h
    rfl
  · obtain ⟨o, ⟨v, da, x, dd, y, wd, z, sd, rfl, rv, hz, rx, zx, ry, rz, zz, rfl⟩, q⟩ := h
    have nd := sc_next_degrees.nd
    refine ⟨_, (pss_cons (ps_expr (pe_call (E := E) (ok_check_air T) (hr.mono (by decide)) (by rfl) T.g_check_air T.F_check_air.kp (b_check_air T) .nil (passes_call (takes_of rfl rfl rfl rfl) fun _ _ _ _ h => h) (pa_cons (pv 0) pa_nil)))
      (pss_cons (ps_expr (pe_call (E := E) (ok_check_degs T) (hr.mono (by decide)) (by rfl) T.g_check_degrees T.F_check_degrees.kp (b_check_degrees T) .nil (passes_call (takes_of rfl rfl rfl rfl) fun _ _ _ _ h => h) (pa_cons (pv 0) (pa_cons (pv 1) pa_nil))))
      (pss_cons (ps_if (pt_not (pt_val (pe_call (ok_is_between T) (hr.mono (by decide)) (by rfl) T.g_is_between T.F_is_between.kp (b_is_between T) .nil pass0 (pa_cons (pv 2) (pa_cons (pe_ix (r := rIxT K) ix_tup (pe_ix (r := rIxT K) ix_tup (pv 0) pe_int (fun _ _ => rfl)) pe_int (fun _ _ => rfl)) (pa_cons (pe_ix (r := rIxT K) ix_tup (pe_ix (r := rIxT K) ix_tup (pv 0) pe_int (fun _ _ => rfl)) pe_int (fun _ _ => rfl)) pa_nil)))))) (pss_one (ps_raise rfl (takes_of rfl rfl rfl rfl) (pmk_oex T.O_BadWeather T.i_BadWeather T.ti_BadWeather (ok_init T) (hr.mono (by decide)) (b_init T) .nil pass0 (by rfl) T.G_BadWeather (pa_cons pe_int pa_nil)))) pss_nil)
      (pss_cons (ps_if (pt_not (pt_val (pe_call (ok_setOf T) (hr.mono (by decide)) (by rfl) T.g_is_setting_of T.F_is_setting_of.kp (b_is_setting_of T) .nil pass0 (pa_cons (pv 0) (pa_cons (pv 3) pa_nil))))) (pss_one (ps_raise rfl (takes_of rfl rfl rfl rfl) (pmk_own PySem.F.excBase_ValueError T.E_BadSetting.q T.E_BadSetting.g T.E_BadSetting.kp (raises_own T.E_BadSetting.bx T.E_BadSetting.ty) rfl))) pss_nil)
      (pss_one (ps_ret (pe_call (ok_stepped T) (hr.mono (by decide)) (by rfl) T.g_stepped_degrees T.F_stepped_degrees.kp (b_stepped_degrees T) .nil pass0 (pa_cons (pv 0) (pa_cons (pv 1) (pa_cons (pv 2) (pa_cons (pv 3) pa_nil))))))))))), ?_⟩
    unfold nextO at q
    refine s_callO (o := if da.air = true then .ret .non else .exc T.c_BadAir) (ea_cons (ev_var rfl) ea_nil) (fun H1 e1 => ⟨v, da, rfl, rv.up e1, hz, rfl⟩) fun H2 e2 => ?_
    cases hair : da.air with
    | false =>
      rw [hair] at q
      exact q H2 e2
    | true =>
      rw [hair, if_pos rfl] at q
      refine s_callO (o := if dd.degs (da.nth 1).rows.length = true then .ret .non else .exc T.c_BadDegrees) (ea_cons (ev_var rfl) (ea_cons (ev_var rfl) ea_nil)) (fun H1 e1 => ⟨v, da, x, dd, rfl, rv.up (e2.trans e1), hair, rx.up (e2.trans e1), zx, rfl⟩) fun H3 e3 => ?_
      cases hdeg : dd.degs (da.nth 1).rows.length with
      | false =>
        rw [hdeg] at q
        exact q H3 (e2.trans e3)
      | true =>
        rw [hdeg, if_pos rfl] at q
        have E3 := e2.trans e3
        obtain ⟨rs, ls, hs, m, lo, hi, f, mv, A⟩ := air_is hair
        have elo : loD5 da = lo := by rw [A.eq]; rfl
        have ehi : hiD5 da = hi := by rw [A.eq]; rfl
        rw [elo, ehi] at q
        have hv := rv
        rw [A.eq] at hv
        obtain ⟨a, v0, v1, v2, v3, v4, v5, rfl, ha, r0, r1, r2, r3, r4, r5⟩ := hv.t6
        obtain ⟨b, u0, u1, u2, u3, rfl, hb, g0, g1, _⟩ := r5.t4
        obtain rfl := g0.intD
        obtain rfl := g1.intD
        rw [if_pos rfl]
        unfold outOk
        dsimp only
        refine s_ifX (σ := [some (.ref a), some (x), some (y), some (z)]) (b := !isBetw wd lo hi) (et_not (et_B (ev_sp stb_betw (ea_cons (ev_var (i := 2) rfl) (ea_cons (ev_ixT (j := 0) (ev_ixT (j := 5) (ev_var (i := 0) rfl) (ha.up E3) rfl) (hb.up E3) rfl) (ea_cons (ev_ixT (j := 1) (ev_ixT (j := 5) (ev_var (i := 0) rfl) (ha.up E3) rfl) (hb.up E3) rfl) ea_nil))) ⟨y, wd, lo, hi, rfl, ry.up E3, rfl⟩))) (fun hb1 H4 e4 => ?_) (fun hb1 H4 e4 => ?_)
        · rw [not_t hb1] at q
          exact t_badweather T (W := fun cls d _ H' => E cls d H') ev_c fun dx H5 e5 hd => q H4 (E3.trans e4) dx H5 e5 hd
        · have hw := not_f hb1
          rw [hw, if_pos rfl] at q
          have E4 := E3.trans e4
          refine s_ifX (σ := [some (.ref a), some (x), some (y), some (z)]) (b := !sd.setg (hN da) (dN da)) (et_not (et_B (ev_sp stb_setOf (ea_cons (ev_var (i := 0) rfl) (ea_cons (ev_var (i := 3) rfl) ea_nil)) ⟨.ref a, da, z, sd, rfl, rv.up E4, hair, rz.up E4, zz, rfl⟩))) (fun hb2 H5 e5 => ?_) (fun hb2 H5 e5 => ?_)
          · rw [not_t hb2] at q
            exact q H5 (E4.trans e5)
          · have hs1 := not_f hb2
            rw [hs1, if_pos rfl] at q
            have E5 := E4.trans e5
            obtain ⟨ed, ld, bd⟩ := degs_is hdeg
            obtain ⟨es, _⟩ := setg_is hs1
            obtain ⟨ew, b1, b2⟩ := betw_int hw
            rw [ew] at ry
            obtain rfl := ry.intD
            rw [ed] at rx
            rw [es] at rz
            have s1 := A.s1
            have s5 := A.s5
            unfold tRet tCall
            exact ea_cons (σ := [some (.ref a), some (x), some (.int wd.num), some (z)]) (ev_var (i := 0) rfl) (ea_cons (ev_var (i := 1) rfl) (ea_cons (ev_var (i := 2) rfl) (ea_cons (ev_var (i := 3) rfl) ea_nil))) H5 (Ex.refl _) _ fun H6 e6 => ⟨.ref a, da, x, numsD dd, wd.num, z, _, _, rfl, rv.up (E5.trans e6), hair, rx.up (E5.trans e6), ld, bd, by omega, by omega, rz.up (E5.trans e6), fun z' H7 e7 r7 => q H6 (E5.trans e6) z' H7 e7 r7⟩
end
end Kx

set_option Elab.async false
set_option linter.all false
set_option maxRecDepth 100000
set_option maxHeartbeats 1000000
namespace Kx
open PySem PySem.Spec PyProof.Rows L2 Evl
/-! ## an exception that is kept -/
/-- at a stands an exception object of the class cls -/
def ExD (cls : Value) (d : Option Addr) (a : Addr) : HO := .ext fun h => ∃ (oe : Obj) (vs : Array Value), h.get? a = some oe ∧ Zc cls d oe ∧ oe.data = .fields vs
section
variable {X : Cx} {pins : List (Addr × Obj)} {σ : L2.St} {H : Hp} {s : Shared}
/-- what was pinned is tracked from now on -/
theorem trackD {cls : Value} {d : Option Addr} {a : Addr} {oe : Obj} {vs : Array Value} (I : Inv X pins σ H s) (hg : s.heap.get? a = some oe) (hz : Zc cls d oe) (hd : oe.data = .fields vs) (hn : H a = none) (n0 : X.s_0.heap.get? a = none)
    (nL : a ≠ X.env.locals) (np : ∀ p ∈ X.pn ++ pins, p.1 ≠ a) : Inv X pins σ (upd H a (ExD cls d a)) s := by
  have old : ∀ b o, X.s_0.heap.get? b = some o → b ≠ a := fun b o e q => by rw [q, n0] at e; cases e
  have ne : ∀ b u, H b = some u → b ≠ a := fun b u e q => by rw [q, hn] at e; cases e
  have at_ : ∀ b u, H b = some u → upd H a (ExD cls d a) b = some u := fun b u e => (upd_ne (ne b u e)).trans e
  refine ⟨I.ok, I.os, I.bare, ⟨I.base.keep, I.base.slot, ?_, I.base.there, ?_, ?_, ?_⟩, I.loc, I.cell, (upd_ne nL.symm).trans I.free, ?_, ?_, ?_, I.len⟩
  · intro b o e n hx
    exact (upd_ne (old b o e)).trans (I.base.free b o e n hx)
  · intro b xs e
    exact at_ _ _ (I.base.tups b xs e)
  · intro b o u e
    exact at_ _ _ (I.base.frzs b o u e)
  · intro b ps e
    obtain ⟨m, q⟩ := I.base.tbls b ps e
    exact ⟨m, at_ _ _ q⟩
  · intro x c e
    refine (upd_ne fun q => ?_).trans (I.freeC x c e)
    obtain ⟨w, o, ho, hc⟩ := I.cell x c e
    rw [q, hg] at ho
    cases ho
    rw [hd] at hc
    cases hc
  · intro p hp
    obtain ⟨h1, h2, h3⟩ := I.pin p hp
    exact ⟨h1, (upd_ne (np p hp)).trans h2, h3⟩
  · intro b u e
    by_cases hb : b = a
    · subst hb
      rw [upd_same] at e
      cases e
      exact ⟨⟨oe, vs, hg, hz, hd⟩, ⟨oe, hg⟩, fun h1 h2 k st => let ⟨o, w, k1, k2, k3⟩ := k; ⟨o, w, st o k1, k2, k3⟩⟩
    · rw [upd_ne hb] at e
      exact (I.hok b u e).stay (fun _ _ _ q => q) (fun _ q => at_ _ _ q) fun _ _ q => at_ _ _ q
end
/-- the wish of «except c as n» whose suite keeps what it got -/
def wKeepD (K : PySem.W.Frag) (c : Value) (i n : Nat) (ts : Addr → TS) (D : Ends) : WX := fun cls d σ H => PySem.W.exmOne K cls c = some true ∧
  ∀ a, H a = none → σ.length = n → ts a { nx := fun σ' H' => H' a = none → D.nx (σ'.set i none) (upd H' a (ExD cls d a)), rt := fun v H' => H' a = none → D.rt v (upd H' a (ExD cls d a)) } (σ.set i (some (.ref a))) H
section
variable {X : Cx} {x n : Str} {c : Value} {i : Nat} {body suite : List Stmt} {b₀ : Stmt} {np pos pos' : Pos} {tb : WX → TS} {ts : Addr → TS}
/-- the suite is through: its name goes, its object is tracked from here on -/
theorem suite_keptD {pins : List (Addr × Obj)} {D : Ends} {a : Addr} {dd : Option Addr} {oe : Obj} {vs : Array Value} {f : Flow} {s : Shared} (off : Off X pins a) (ok : X.Ok) (z : Zc c dd oe) (d : oe.data = .fields vs) (hN : X.N.Nodup) (hi : X.N[i]? = some n) (hln : X.env.kindOf n = some .local)
    (h : SP (X.suite a ((a, oe) :: (X.pn ++ pins))) [] { nx := fun σ' H' => H' a = none → D.nx (σ'.set i none) (upd H' a (ExD c dd a)), rt := fun v H' => H' a = none → D.rt v (upd H' a (ExD c dd a)) } f s) :
    wpAny (model X.prog X.w) X.A (do bindName X.env n .none; unbindBehindTheSuite X.env n pos) (fun _ s' => SP X pins D f s') X.xe s := by
  cases f with
  | next =>
    obtain ⟨σ1, H1, I1, q1⟩ := h
    have hp := I1.pin (a, oe) (List.mem_append_left _ List.mem_cons_self)
    exact gone_ok (trackD (I1.unsuite ok) hp.1 z d hp.2.1 off.new off.loc off.pin) hN hi hln fun s2 I2 => ⟨_, _, I2, q1 hp.2.1⟩
  | ret u =>
    obtain ⟨v, σ1, H1, I1, rv, q1⟩ := h
    have hp := I1.pin (a, oe) (List.mem_append_left _ List.mem_cons_self)
    exact gone_ok (trackD (I1.unsuite ok) hp.1 z d hp.2.1 off.new off.loc off.pin) hN hi hln fun s2 I2 => ⟨_, _, _, I2, rv, q1 hp.2.1⟩
  | brk => exact match h with | ⟨_, _, _, q⟩ => q.elim
  | cont => exact match h with | ⟨_, _, _, q⟩ => q.elim
theorem ps_try_keepD (hs : X.stack = X.env :: X.outer) (hf : X.env.frame = some X.env.locals) (hex : X.ex = []) (hN : X.N.Nodup) (hi : X.N[i]? = some n) (hln : X.env.kindOf n = some .local) (hc : Names X x c)
    (hb : ∀ (W : WX) (pn : List (Addr × Obj)) (xe : Value → Shared → Prop), Takes (X.tr pn xe) W → PSs (X.tr pn xe) body (tb W))
    (hsu : ∀ (a : Addr) (oe : Obj) (pn : List (Addr × Obj)), PSs (X.suite a ((a, oe) :: pn)) (b₀ :: suite) (ts a)) :
    PS X (.Try body [.ExceptHandler (some (.Name x np)) (some n) (b₀ :: suite) pos'] [] [] pos) (fun D σ H => tb (wKeepD X.K c i X.N.length ts D) D σ H) := by
  refine ⟨fun pins s σ H D I h => ?_⟩
  have frames : X.A.frames = some (X.env :: X.outer) := hs ▸ I.ok.frames
  refine wpAny_Try_except (wpAny_mono ((hb (wKeepD X.K c i X.N.length ts D) (X.pn ++ pins) _ fun u t fall => ?_).run [] s σ H D (I.toTry _) h) (fun f t ft => ?_) fun _ _ x => x)
  · obtain ⟨a, B, t0, p1, τ, G, cls, d, rfl, J0, kept, slots, sky, na, os, bare, found, go⟩ := fall
    have J := J0.ofTry (X := X) I.ok
    show wpAny (model X.prog X.w) X.A (noteFrame (.ref a) X.env) _ _ _
    refine Sky.land (B := B) Zc.steady frames hf (hs ▸ sky) fun h1 fly up1 => ?_
    obtain ⟨o1, v1, at1, z1, d1⟩ := fly.there
    have off : Off X pins a := Off.of J hs hf hex fly.2.2.1 at1 d1 fly.2.1 kept
    have J1 : Inv X pins τ G { t with heap := h1 } := J.landed kept fly.1 (slots.trans up1) os bare
    have I1 := J1.suite at1 d1 na off.loc off.out
    refine wpAny_handleBy_cons (codeAny_handlers_test ?_) fun z => nomatch z
    have hit := PySem.W.exm_one (M := model X.prog X.w) J1.kIn (fun A Q E u k q => wpAny_typeOf_ref (k _ _ at1) (z1.1.symm ▸ q)) found
    have look : ∀ {Q E : Value → Shared → Prop}, Q c { t with heap := h1 } → wpAny (model X.prog X.w) (X.A.mark (some (.ref a))) (eval (.Name x np) X.env) Q E { t with heap := h1 } := fun {Q E} q => match hc with
      | ⟨g, nd, .inl m⟩ => ld_glob (X := X.suite a ((a, o1) :: (X.pn ++ pins))) I1 g m q nd
      | ⟨g, nd, .inr ⟨m, bt, nn⟩⟩ => ld_blt (X := X.suite a ((a, o1) :: (X.pn ++ pins))) I1 g m bt q nn nd
    refine look (hit.here (codeAny_handlers_suite_as (HandSPX.lands_againZ fly fun h2 fly2 up2 => ?_)))
    obtain ⟨o2, v2, at2, z2, d2⟩ := fly2.there
    have I2 := (J.landed (s' := { t with heap := h2 }) kept fly2.1 ((slots.trans up1).trans up2) os bare).suite at2 d2 na off.loc off.out
    refine store_ok (X := X.suite a ((a, o2) :: (X.pn ++ pins))) (v := .ref a) I2 hN hi (.inl hln) rfl (fun t3 I3 => ?_) (.inr hln)
    refine wpAny_mono ((hsu a o2 (X.pn ++ pins)).run [] t3 _ G _ I3 (go a na J.len)) (fun f t4 e4 => ?_) fun _ _ z => z.elim
    exact suite_keptD (c := cls) off I.ok z2 d2 hN hi hln e4
  · cases f with
    | next => exact match ft with | ⟨_, _, J, q⟩ => wpAny_execs_nil ⟨_, _, J.ofTry I.ok, q⟩
    | ret u => exact match ft with | ⟨_, _, _, J, r, q⟩ => ⟨_, _, _, J.ofTry I.ok, r, q⟩
    | _ => exact match ft with | ⟨_, _, J, q⟩ => ⟨_, _, J.ofTry I.ok, q⟩
end
end Kx

set_option Elab.async false
set_option linter.all false
set_option maxRecDepth 100000
set_option maxHeartbeats 400000
namespace Kx
open PySem PySem.Spec PyProof.Rows L2 Evl
open LamX
/-- an action is tried: what it raises is given, else None -/
def TCaughtD (K : PySem.W.Frag) (CS : Addr) : (XK → Hp → VK → Prop) → Hp → VK → Prop := fun tl H Q => ∀ R : VK, (∀ v H', Q .non H' → R v H') →
  tl (fun cls d H' => PySem.W.exmOne K cls (.ref CS) = some true ∧ ∀ a, H' a = none → Q (.ref a) (upd H' a (ExD cls d a))) H R
theorem caught_givesD {X : Cx} {x q : Str} {g CS : Addr} {cdg : Value} (hme : X.mg "KeptError" = some (.ref CS)) {j : Nat} {p0 p3 p4 p5 p6 p7 p8 pa pb pd : Pos} :
    GivesTo X ["task", "error"] x (defScope s_law_caught) g cdg [.Try [.Expr (.Call (.Name "task" p3) [] [] p4) p5] [.ExceptHandler (some (.Name "KeptError" p6)) (some "error") [.Return (some (.Name "error" p7)) p8] pa] [] [] pb, .Return (some (.Constant .none j p0)) pd] "task" q (TCaughtD X.K CS) := by
  intro f c' s H Q tl act hc h
  have nd := sc_law_caught.nd
  have hgl : Gl (cxOf C8.CX0 X.prog X.w X.K X.mg X.base ["task", "error"] x (defScope s_law_caught) g cdg X.A X.stack s H C8.E0).nox "KeptError" := by rfl
  refine ⟨_, pss_cons (ps_try_keepD (X := (cxOf C8.CX0 X.prog X.w X.K X.mg X.base ["task", "error"] x (defScope s_law_caught) g cdg X.A X.stack s H C8.E0).nox) (i := 1) (n := "error") (c := .ref CS)
      (tb := fun W D σ H' => ∃ Ech : XK, (∀ cls d σ' H', Ech cls d H' → W cls d σ' H') ∧ σ[0]? = some (some (.ref f)) ∧ H' c' = some (CodeO c' q) ∧ tl Ech H' (fun _ H2 => D.nx σ H2)) (ts := fun a => tRet (tVar 1))
      rfl rfl rfl nd rfl rfl ⟨hgl, by decide, .inl hme⟩ (fun W pn xe tk => ?_) (fun a oe pn => pss_one (ps_ret (pv 1)))) (pss_one (ps_ret pe_non)), ?_⟩
  · refine ⟨fun pins s' σ H' D I h' => ?_⟩
    obtain ⟨Ech, hW, h1, h2, h3⟩ := h'
    have hp := act W pn xe Ech p3 p4 tk hW
    exact (pss_one (ps_expr (pos := p5) hp)).run pins s' σ H' D I ⟨h1, h2, h3⟩
  · refine ⟨fun cls d H' => PySem.W.exmOne X.K cls (.ref CS) = some true ∧ ∀ a, H' a = none → Q (.ref a) (upd H' a (ExD cls d a)), fun cls d σ' H' ⟨e1, e3⟩ => ⟨e1, fun a ha hlen => ?_⟩, rfl, hc, ?_⟩
    · match σ', hlen with
      | [x0, x1], _ => exact ⟨.ref a, rfl, fun hn => e3 a ha⟩
    · exact h _ fun v H' hq => hq
end Kx

set_option Elab.async false
set_option linter.all false
set_option maxRecDepth 100000
set_option maxHeartbeats 400000
namespace Kx
open PySem PySem.Spec PyProof.Rows L2 Evl LamX
/-! ## defs whose code is known: lambdas stand in them -/
def FunC (K : PySem.W.Frag) (x : Str) (st : Stmt) (f c : Addr) (fd : FuncData) : Prop := ∃ (o1 : Value) (o2 : Option Addr) (kv dv mv : Value) (a1 : Option Addr) (t1 : Value) (sl : Array (Option Value)),
  fd = PySem.W.fnOf x x (defArgs st) (defBody st) (defScope st) .none kv dv mv a1 (.ref c) t1 ∧ K.lookup f = some ⟨o1, o2, .func fd, sl⟩ ∧ PySem.W.codeIn K (.ref c) x = true
theorem FunC.ok {P : Program} {w : World} {K : PySem.W.Frag} {mg : Str → Option Value} {base : Heap} {x : Str} {st : Stmt} {f c : Addr} {fd : FuncData} {N ps : List Str} {k : Nat} {sp : Sp} (F : FunC K x st f c fd) (S : FnScope N ps (defScope st)) (len : ∀ vs H Q E, sp vs H Q E → vs.length = ps.length)
    (hb : ∀ (A : Around) (outer : List Env) (s : Shared) (H : Hp) (vs : List V) (Q : VK) (E : XK), Room k (A.deeper (envOfC x (defScope st) s.heap.objs.size f (.ref c))) → sp vs H Q E →
      ∃ t, PSs (cxOf CX0 P w K mg base N x (defScope st) f (.ref c) A outer s H E).nox (defBody st) t ∧ t { nx := fun _ H' => Q .non H', rt := Q } (L2.start N vs) H) : FnOk P w K mg base CX0 (k + 1) f fd ps sp := by
  obtain ⟨o1, o2, kv, dv, mv, a1, t1, sl, rfl, lk, hc⟩ := F
  refine fn_of lk hc S len fun A outer s H vs Q E hr h => ?_
  obtain ⟨t, h1, h2⟩ := hb A outer s H vs Q E hr h
  exact ⟨t, h1.nox, h2⟩
/-! ## what stays when tables of lambdas grow -/
theorem TupS.xn {H H' : Hp} {a : Addr} {vs : List V} (h : TupS H a vs) (e : ExtN H H') : TupS H' a vs := let ⟨o, h1, h2⟩ := h; ⟨o, h1, e _ _ h2 fun ps z => by cases z⟩
mutual
theorem Rep.xn {H H' : Hp} (e : ExtN H H') : ∀ (d : D) (v : V), Rep H v d → Rep H' v d
  | _, _, .non => .non
  | _, _, .bl b => .bl b
  | _, _, .int i => .int i
  | _, _, .str s => .str s
  | _, _, .tup h r => .tup (h.xn e) (Reps.xn e _ _ r)
  | _, _, .lst h r => .lst (e _ _ h fun ps z => by cases z) (Reps.xn e _ _ r)
  | _, _, .dic h => .dic (e _ _ h fun ps z => by cases z)
theorem Reps.xn {H H' : Hp} (e : ExtN H H') : ∀ (ds : List D) (vs : List V), Reps H vs ds → Reps H' vs ds
  | _, _, .nil => .nil
  | _, _, .cons r t => .cons (Rep.xn e _ _ r) (Reps.xn e _ _ t)
end
theorem hid_xn {H H' : Hp} {sd sg : Addr} (e : ExtN H H') : ExtN (hid H sd sg) (hid H' sd sg) := fun a o h n => by
  unfold hid at h ⊢
  split at h
  · cases h
  · rename_i z
    rw [if_neg z]
    exact e a o h n
theorem Sta.xn {H H' : Hp} {sd sg sc : Addr} {b : Nat} (s : Sta H sd sg sc b) (e : ExtN H H') : Sta H' sd sg sc b :=
  let ⟨gs, cs, r, t, w, h1, h2⟩ := s
  ⟨gs, cs, r, t, ⟨e _ _ w.d fun ps z => (by cases z), e _ _ w.g fun ps z => (by cases z), e _ _ w.c fun ps z => (by cases z), w.ne⟩, h1, h2⟩
/-- isinstance of an error that is kept -/
def rIsK (K : PySem.W.Frag) : List V → Hp → VK → Prop := fun xs H Q => ∃ (a D C : Addr) (b : Bool) (d : Option Addr), xs = [.ref a, .ref C] ∧ (d = none ∨ ∃ dx fs, d = some dx ∧ H dx = some (.xd fs)) ∧ H a = some (ExD (.ref D) d a) ∧ ExcC K D ∧ PySem.W.kitOne K (.ref D) (.ref C) = some b ∧ Q (.bl b) H
theorem call_isK {X : Cx} : CallR X (.builtin "isinstance") (rIsK X.K) := by
  intro pins s σ H xs us Q I r h
  obtain ⟨a, D, C, b, d, rfl, hd, ha, EC, hk, q⟩ := h
  cases r with
  | cons rx rr => cases rr with
    | cons rt rr =>
      cases rr
      cases rx
      cases rt
      obtain ⟨⟨o, vs, hget, hz, hv⟩, _⟩ := I.hok a _ ha
      obtain ⟨oc, od, oda, osl⟩ := o
      obtain ⟨h1, h2⟩ := hz
      dsimp only at h1 h2 hv
      subst h1 h2 hv
      have fin : ∀ d2 : Option Obj, PySem.W.InstAt s.heap a ⟨.ref D, od, .fields vs, osl⟩ D d2 → wpAny (model X.prog X.w) X.A (call (.builtin "isinstance") [.ref a, .ref C]) (EP X pins σ Q) X.xe s := fun d2 J =>
        PySem.W.kia_one (PySem.W.kitx_exc (by obtain ⟨cd, h, _⟩ := PySem.W.any_some EC.hd; rw [h]; rfl) EC.hg EC.hk EC.hs EC.ha EC.hn EC.ht EC.hm) I.kIn J hk (fun z => nomatch z) fun tk => ⟨.bl b, H, I.kept (t' := tk) fun _ _ z => z, rfl, q⟩
      rcases hd with rfl | ⟨dx, fs, rfl, hx⟩
      · exact fin none ⟨hget, rfl, rfl, trivial⟩
      · have hx2 : ObjOk X.prog X.w H s.heap dx (.xd fs) := I.hok dx _ hx
        obtain ⟨mA, hns, hr⟩ := hx2
        obtain ⟨oD, ho, hl⟩ := lookIn_ns hns
        exact fin (some oD) ⟨hget, rfl, rfl, ho⟩
/-- an own error is caught by its root -/
theorem Txt.caught {K : PySem.W.Frag} {mg : Str → Option Value} (T : Txt K mg) {C : Addr} (h : PySem.W.subIn K (.ref C) (.ref T.c_KeptError) = some true) : PySem.W.exmOne K (.ref C) (.ref T.c_KeptError) = some true :=
  PySem.W.exm_ref T.E_KeptError.bx T.E_KeptError.ex.hd T.E_KeptError.ty h
end Kx

set_option Elab.async false
set_option linter.all false
set_option maxRecDepth 100000
set_option maxHeartbeats 400000
namespace Kx
open PySem PySem.Spec PyProof.Rows L2 Evl
open LamX
/-! ## what is kept of an action -/
inductive OutC where
  | ok | err (C : Addr) (fs : Option (List (Str × V)))
def Kept (H : Hp) (x : V) (o : OutC) : Prop := match o with
  | .ok => x = .non
  | .err C none => ∃ a, x = .ref a ∧ H a = some (ExD (.ref C) none a)
  | .err C (some fs) => ∃ a dx, x = .ref a ∧ H a = some (ExD (.ref C) (some dx) a) ∧ H dx = some (.xd fs)
theorem exD_ne {cls : Value} {d : Option Addr} {a : Addr} (ps : Array Value) : ExD cls d a ≠ .tbl ps := fun z => by
  unfold ExD at z
  cases z
theorem Kept.xn {H H' : Hp} {x : V} {o : OutC} (k : Kept H x o) (e : ExtN H H') : Kept H' x o := by
  match o, k with
  | .ok, k => exact k
  | .err C none, k =>
    obtain ⟨a, h1, h2⟩ := k
    exact ⟨a, h1, e _ _ h2 fun ps => exD_ne ps⟩
  | .err C (some fs), k =>
    obtain ⟨a, dx, h1, h2, h3⟩ := k
    exact ⟨a, dx, h1, e _ _ h2 fun ps => exD_ne ps, e _ _ h3 fun ps z => by cases z⟩
theorem Kept.up {H H' : Hp} {x : V} {o : OutC} (k : Kept H x o) (e : Ex H H') : Kept H' x o := k.xn (ExtN.of e)
theorem caught_goD {K : PySem.W.Frag} {CS : Addr} {tl : XK → Hp → VK → Prop} {o : OutC} {H1 : Hp} {Q : VK} (hc : ∀ C fs, o = .err C fs → PySem.W.exmOne K (.ref C) (.ref CS) = some true)
    (ht : ∀ (E : XK) (R : VK), (o = .ok → ∀ z H2, Ex H1 H2 → R z H2) → (∀ C, o = .err C none → ∀ H2, Ex H1 H2 → E (.ref C) none H2) → (∀ C fs, o = .err C (some fs) → ∀ dx H2, Ex H1 H2 → H2 dx = some (.xd fs) → E (.ref C) (some dx) H2) → tl E H1 R)
    (q : ∀ x H3, Ex H1 H3 → Kept H3 x o → Q x H3) : TCaughtD K CS tl H1 Q := fun R hR => ht _ R (fun eo z H2 e => hR z H2 (q .non H2 e (by rw [eo]; rfl)))
  (fun C eo H2 e => ⟨hc C none eo, fun a ha => q (.ref a) _ (e.trans (Ex.new ha)) (by rw [eo]; exact ⟨a, rfl, upd_same⟩)⟩)
  (fun C fs eo dx H2 e hd => ⟨hc C _ eo, fun a ha => q (.ref a) _ (e.trans (Ex.new ha)) (by rw [eo]; exact ⟨a, dx, rfl, upd_same, (Ex.new ha) _ _ hd⟩)⟩)
theorem lam_anyD {K : PySem.W.Frag} {σ : L2.St} {H : Hp} {CS : Addr} {Tb : List (Addr × Str)} {t : XK → TE} {Q : VK} {o : OutC} (hT : Tabs Tb H) (hc : ∀ C fs, o = .err C fs → PySem.W.exmOne K (.ref C) (.ref CS) = some true)
    (ht : ∀ H1, ExtN H H1 → ∀ (E : XK) (R : VK), (o = .ok → ∀ z H2, Ex H1 H2 → R z H2) → (∀ C, o = .err C none → ∀ H2, Ex H1 H2 → E (.ref C) none H2) → (∀ C fs, o = .err C (some fs) → ∀ dx H2, Ex H1 H2 → H2 dx = some (.xd fs) → E (.ref C) (some dx) H2) → t E σ H1 R)
    (q : ∀ x H3, ExtN H H3 → Tabs Tb H3 → Kept H3 x o → Q x H3) : tLam Tb (TCaughtD K CS) t σ H Q := ⟨hT, fun H1 e1 T1 => caught_goD hc (fun E R k1 k2 k3 => ht H1 e1 E R k1 k2 k3) fun x H3 e3 k3 => q x H3 (e1.trans (ExtN.of e3)) (T1.ext e3) k3⟩
/-- isinstance of what was kept: an error, or None -/
def rIs2 (K : PySem.W.Frag) : List V → Hp → VK → Prop := fun xs H Q => rIsK K xs H Q ∨ rIsi K xs H Q
theorem call_is2 {X : Cx} : CallR X (.builtin "isinstance") (rIs2 X.K) := by
  intro pins s σ H xs us Q I r h
  rcases h with h | h
  · exact call_isK pins s σ H xs us Q I r h
  · exact call_isi pins s σ H xs us Q I r h
section
variable {K : PySem.W.Frag} {σ : L2.St} {H : Hp} {te : TE} {x : V} {C D0 : Addr} {b : Bool}
theorem ev_isErr {fs : Option (List (Str × V))} (h : Ev te σ H x) (k : Kept H x (.err D0 fs)) (EC : ExcC K D0) (hk : PySem.W.kitOne K (.ref D0) (.ref C) = some b) : Ev (tCB (rIs2 K) (tCons te (tCons (tC (.ref C)) tNil))) σ H (.bl b) := by
  cases fs with
  | none =>
    obtain ⟨a, rfl, ha⟩ := k
    exact ev_cb (ea_cons h (ea_cons ev_c ea_nil)) fun H1 e Q q => .inl ⟨a, D0, C, b, none, rfl, .inl rfl, e _ _ ha, EC, hk, q H1 (Ex.refl _)⟩
  | some fs =>
    obtain ⟨a, dx, rfl, ha, hd⟩ := k
    exact ev_cb (ea_cons h (ea_cons ev_c ea_nil)) fun H1 e Q q => .inl ⟨a, D0, C, b, some dx, rfl, .inr ⟨dx, fs, rfl, e _ _ hd⟩, e _ _ ha, EC, hk, q H1 (Ex.refl _)⟩
theorem ev_isNon (h : Ev te σ H x) (k : Kept H x .ok) (hk : PySem.W.kitOne K (.type "NoneType") (.ref C) = some b) : Ev (tCB (rIs2 K) (tCons te (tCons (tC (.ref C)) tNil))) σ H (.bl b) := by
  have e : x = .non := k
  subst e
  exact ev_cb (ea_cons h (ea_cons ev_c ea_nil)) fun H1 e Q q => .inr ⟨.non, .ref C, .type "NoneType", .ref C, b, rfl, .own C, .base .non, hk, q H1 (Ex.refl _)⟩
end
/-- the reading of a field of an error that is kept -/
def tAt (K : PySem.W.Frag) (n : Str) (te : TE) : TE := fun σ H Q => te σ H fun x H1 => ∃ (a dx : Addr) (fs : List (Str × V)) (v : V) (C : Addr), x = .ref a ∧ H1 a = some (ExD (.ref C) (some dx) a) ∧ H1 dx = some (.xd fs) ∧ XfC K C ∧ PySem.W.findIn K (.ref C) n = some none ∧ fs.lookup n = some v ∧ Q v H1
theorem pe_at {X : Cx} {e : Expr} {te : TE} {pos : Pos} {n : Str} (he : PE X e te) (hb : attributeBase e n X.env (eval e X.env) = eval e X.env := by rfl) : PE X (.Attribute e n pos) (tAt X.K n te) := by
  refine ⟨fun pins s σ H Q I h => ?_⟩
  refine attr_of hb (thn (he.run pins s σ H _ I h) fun u s1 hh => ?_)
  obtain ⟨x, H1, I1, rx, a, dx, fs, v, C, ex, ha, ea, T, hno, l, q⟩ := hh
  subst ex
  obtain rfl : u = Value.ref a := rx
  obtain ⟨⟨oe, vs, hget, hz, hd⟩, _⟩ := I1.hok a _ ha
  have hx : ObjOk X.prog X.w H1 s1.heap dx (.xd fs) := I1.hok dx _ ea
  obtain ⟨mA, hns, hr⟩ := hx
  obtain ⟨od, ho, hl⟩ := lookIn_ns hns
  obtain ⟨u, hu, ru⟩ := RelO.some_of (v := v) (o := mA n) (by rw [← l]; exact hr n)
  have J : PySem.W.InstAt s1.heap a oe C (some od) := ⟨hget, hz.1, by unfold PySem.W.notCls; rw [hd] <;> rfl, by rw [hz.2]; exact ho⟩
  exact HandSPX.exc_get I1.kIn J T.ga T.gg T.exC (PySem.W.findObj_own T.hdC hno rfl (by rw [hl, hu])) (handed_of ru) ⟨v, H1, I1.tok _, ru, q⟩
theorem ev_at {K : PySem.W.Frag} {σ : L2.St} {H : Hp} {te : TE} {x v : V} {C : Addr} {fs : List (Str × V)} {n : Str} (h : Ev te σ H x) (k : Kept H x (.err C (some fs))) (T : XfC K C) (hno : PySem.W.findIn K (.ref C) n = some none) (l : fs.lookup n = some v) : Ev (tAt K n te) σ H v := fun H1 e Q q =>
  h H1 e _ fun H2 e2 => by
    obtain ⟨a, dx, rfl, ha, hd⟩ := k.up (e.trans e2)
    exact ⟨a, dx, fs, v, C, rfl, ha, hd, T, hno, l, q H2 e2⟩
end Kx

set_option Elab.async false
set_option linter.all false
set_option maxRecDepth 100000
set_option maxHeartbeats 400000
namespace Kx
open PySem PySem.Spec PyProof.Rows L2 Evl
/-! ## the law's own looks at data -/
def okWhole : OkF := fun vs H z => ∃ v d, vs = [v] ∧ Rep H v d ∧ z = .bl (decide (d.ty = "int"))
theorem stb_whole : Stb okWhole := fun _ _ _ _ e ⟨v, d, h1, h2, h3⟩ => ⟨v, d, h1, h2.up e, h3⟩
section
variable {P : Program} {w : World} {K : PySem.W.Frag} {mg : Str → Option Value} {base : Heap} (T : Txt K mg)
theorem ok_whole : FnOk P w K mg base CX0 1 T.a_law_whole_number T.d_law_whole_number ["value"] (spX okWhole) := by
  refine T.F_law_whole_number.ok sc_law_whole_number (fun vs H Q E h => ?_) (fun cdv A outer s H vs Q E hr h => ?_)
  · obtain ⟨z, ⟨v, d, rfl, _⟩, _⟩ := h
    rfl
  · obtain ⟨z, ⟨v, d, rfl, hv, rfl⟩, q⟩ := h
    have nd := sc_law_whole_number.nd
    refine ⟨_, (pss_one (ps_ret (pe_and (pe_isi T.z_isinstance T.z_int bo_int (pv 0)) (pe_one (pe_not (pe_isi T.z_isinstance T.z_bool bo_bool (pv 0))))))), ?_⟩
    refine s_ret (ev_is (ev_andV (ev_isi (ev_var rfl) hv) fun _ => ev_notV (ev_isi (ev_var rfl) hv)) ?_) q
    cases d <;> rfl
theorem ok_lbetw : FnOk P w K mg base CX0 2 T.a_law_between T.d_law_between ["value", "low", "high"] (spX okBetw) := by
  refine T.F_law_between.ok sc_law_between (fun vs H Q E h => ?_) (fun cdv A outer s H vs Q E hr h => ?_)
  · obtain ⟨z, ⟨v, d, lo, hi, rfl, _⟩, _⟩ := h
    rfl
  · obtain ⟨z, ⟨v, d, lo, hi, rfl, hv, rfl⟩, q⟩ := h
    have nd := sc_law_between.nd
    refine ⟨_, (pss_one (ps_ret (pe_and (pe_call (ok_whole T) (hr.mono (by decide)) (by rfl) T.g_law_whole_number T.F_law_whole_number.kp (b_law_whole_number T) .nil pass0 (pa_cons (pv 0) pa_nil)) (pe_one (pe_chain op_le op_le (pv 1) (pv 0) (pv 2)))))), ?_⟩
    refine s_ret (ev_is (ev_andV (b := isBetw d lo hi) (ev_sp stb_whole (ea_cons (ev_var rfl) ea_nil) ⟨v, d, rfl, hv, rfl⟩) fun ht => ?_) ?_) q
    · obtain ⟨i, rfl⟩ := ty_int (of_decide_eq_true ht)
      obtain rfl := hv.intD
      exact ev_chain (ev_var rfl) (ev_var rfl) rv_I0 (fun _ => ev_var rfl) fun _ => rv_I0
    · cases d <;> first | rfl | (unfold isBetw; rfl)
theorem ok_ltup : FnOk P w K mg base CX0 1 T.a_law_is_tuple T.d_law_is_tuple ["value", "least", "most"] (spX okTup) := by
  refine T.F_law_is_tuple.ok sc_law_is_tuple (fun vs H Q E h => ?_) (fun cdv A outer s H vs Q E hr h => ?_)
  · obtain ⟨z, ⟨v, d, lo, hi, rfl, _⟩, _⟩ := h
    rfl
  · obtain ⟨z, ⟨v, d, lo, hi, rfl, hv, rfl⟩, q⟩ := h
    have nd := sc_law_is_tuple.nd
    refine ⟨_, (pss_one (ps_ret (pe_and (pe_isi T.z_isinstance T.z_tuple bo_tuple (pv 0)) (pe_one (pe_chain op_le op_le (pv 1) (pe_callB call_len_seq (by rfl) T.z_len bo_len (pa_cons (pv 0) pa_nil)) (pv 2)))))), ?_⟩
    refine s_ret (ev_is (ev_andV (b := isTup d lo hi) (ev_isi (ev_var rfl) hv) fun ht => ?_) ?_) q
    · have : d.ty = "tuple" := by cases d <;> first | rfl | cases ht
      obtain ⟨ds, rfl⟩ := ty_tup this
      obtain ⟨a, vs, rfl, ha, hs⟩ := hv.tupD
      exact ev_is (ev_chain (ev_var rfl) (ev_lenT (ev_var rfl) (.inr ha.rd)) rv_I0 (fun _ => ev_var rfl) fun _ => rv_I0) (by rw [hs.length]; rfl)
    · cases d <;> first | rfl | (unfold isTup; rfl)
theorem ok_lname : FnOk P w K mg base CX0 1 T.a_law_is_name T.d_law_is_name ["value"] (spX okName) := by
  refine T.F_law_is_name.ok sc_law_is_name (fun vs H Q E h => ?_) (fun cdv A outer s H vs Q E hr h => ?_)
  · obtain ⟨z, ⟨v, d, rfl, _⟩, _⟩ := h
    rfl
  · obtain ⟨z, ⟨v, d, rfl, hv, hz, rfl⟩, q⟩ := h
    have nd := sc_law_is_name.nd
    have hu4 : (A.deeper (envOfC "_law_is_name" (defScope s_law_is_name) s.heap.objs.size T.a_law_is_name cdv)).units + 64 < cLine := by have := hr.un; omega
    refine ⟨_, (pss_cons (ps_set (i := 1) nd rfl (.inr rfl) pe_str)
      (pss_one (ps_ret (pe_and (pe_isi T.z_isinstance T.z_str bo_str (pv 0)) (pe_and (pe_chain op_le op_le pe_int (pe_callB call_len (by rfl) T.z_len bo_len (pa_cons (pv 0) pa_nil)) pe_int) (pe_and (pe_cmpR (op_eqD hu4) (pe_lc (own := [("sign", 2)]) (g := gName 2)  (by rfl) nd (pi_str (pv 0)) (blkOk_by (N := ["value", "letters", "sign"]) (sc := defScope s_law_is_name) (by decide +kernel)) (fun _ _ _ _ _ => (pg_name (i := 2) nd rfl (.inl rfl))) (fun _ _ _ _ _ => (pts_one (pt_cmpR op_notIn_sign (pv 2) (pv 1) (by rfl)))) (fun _ _ _ _ _ => pe_int)) (pe_lst pa_nil) (nomark _)) (pe_one (pe_cmpR op_ne (pv 0) pe_str (nomark _))))))))), ?_⟩
    refine s_asg (v := .str abc) ev_c fun H1 e1 => ?_
    by_cases ht : d.ty = "str"
    · obtain ⟨x, rfl⟩ := ty_str ht
      obtain rfl := hv.strD
      have hz : x.length ≤ 1000 := hz
      refine s_ret (v := .bl (D.nm (.str x))) (ev_is (ev_andV (ev_isi (ev_var rfl) (.str x)) fun _ => ev_andV (ev_chain ev_c (ev_lenS (ev_var rfl) (by omega)) rv_I0 (fun _ => ev_c) fun _ => rv_I0) fun _ => ev_andV (ev_eqNil (n := x.cps.size) (f := fun i => match x.cps[i]? with | some c => !decide (c ∈ abc.cps.toList) | none => false) (w := fun _ => 1) (el_lcSg _ _ (ev_var rfl) (by show x.length ≤ 40000; omega) (fun _ => rfl) (fun i c H2 e2 hc => ?_) (fun i c H2 e2 hc hf => ev_c))) fun _ => ev_op (ev_var rfl) ev_c (rv_ne rfl)) ?_) fun H2 e2 => q H2 (e1.trans e2)
      · rw [hc]
        exact et_test (ev_op (ev_var rfl) (ev_var rfl) fun H3 e3 Q' q' => ⟨c, abc, rfl, rfl, q' H3 (Ex.refl _)⟩)
      · show V.bl _ = V.bl (nmS x)
        have h : ((List.range x.cps.size).all fun i => !(match x.cps[i]? with | some c => !decide (c ∈ abc.cps.toList) | none => false)) = x.cps.toList.all lowc := all_abc x
        rw [h, txt_eq]
        unfold nmS
        have e2 : ∀ n : Nat, decide ((n : Int) ≤ (x.length : Int)) = decide (n ≤ x.length) := fun n => decide_eq_decide.mpr (by omega)
        have e3 : ∀ n : Nat, decide ((x.length : Int) ≤ (n : Int)) = decide (x.length ≤ n) := fun n => decide_eq_decide.mpr (by omega)
        have a1 := e2 1
        have a2 := e3 8
        rw [show ((1 : Nat) : Int) = 1 from rfl] at a1
        rw [show ((8 : Nat) : Int) = 8 from rfl] at a2
        rw [a1, a2]
        show V.bl (true && _) = _
        rw [Bool.true_and, Bool.and_assoc, Bool.and_assoc]
        congr 1
        cases decide (1 ≤ x.length) <;> cases decide (x.length ≤ 8) <;> cases decide (x = "any") <;> cases x.cps.toList.all lowc <;> rfl
    · refine s_ret (v := .bl (D.nm d)) (ev_is (ev_andV (b := false) (ev_isi (T := "str") (ev_var rfl) (hv.up e1)) fun hc => ?_) ?_) fun H2 e2 => q H2 (e1.trans e2)
      · rw [isi_no ht] at hc
        cases hc
      · rw [isi_no ht]
        cases d <;> first | rfl | exact absurd rfl ht
end
end Kx

set_option Elab.async false
set_option linter.all false
set_option maxRecDepth 100000
set_option maxHeartbeats 400000
namespace Kx
open PySem PySem.Spec PyProof.Rows L2 Evl
/-! ## rooms and heaters, as the law goes through them -/
theorem all_no {f : D → Bool} {ds : List D} {i : Nat} {d : D} (h : ds[i]? = some d) (hf : f d = false) : ds.all f = false := Bool.eq_false_iff.mpr fun z => by
  rw [List.all_eq_true.mp z d (List.mem_of_getElem? h)] at hf
  cases hf
theorem dup_no {ns : List Str} {i : Nat} {n : Str} (h : ns[i]? = some n) (m : n ∈ ns.take i) : decide ns.Nodup = false := decide_eq_false fun z => by
  obtain ⟨j, hj⟩ := List.mem_iff_getElem?.mp m
  have lj : j < i := by
    have := (List.getElem?_eq_some_iff.mp hj).1
    rw [List.length_take] at this
    omega
  rw [List.getElem?_take_of_lt lj] at hj
  have a := idx_nd z h
  have b := idx_nd z hj
  omega
theorem rooms_no {ds : List D} {i : Nat} {d : D} (h : ds[i]? = some d) (hf : d.room = false ∨ d.fst.txt ∈ (nmsD ds).take i) : D.rooms (.tup ds) = false := by
  rw [rooms_tup]
  rcases hf with hf | hf
  · rw [all_no h hf, Bool.false_and, Bool.and_false]
  · have : (nmsD ds)[i]? = some d.fst.txt := by
      unfold nmsD
      rw [List.getElem?_map, h]
      rfl
    rw [show (ds.map fun x => x.fst.txt) = nmsD ds from rfl, dup_no this hf, Bool.and_false, Bool.and_false]
theorem room_parts {d : D} (h : d.room = true) : isTup d 4 4 = true ∧ d.fst.nm = true ∧ d.fst.txt ≠ "out" := by
  obtain ⟨n, lo, hi, f, rfl, h1, h2, _⟩ := room_shape h
  exact ⟨rfl, h1, h2⟩
theorem nd_next {ns : List Str} {i : Nat} {n : Str} (h : ns[i]? = some n) (nd : (ns.take i).Nodup) (m : n ∉ ns.take i) : (ns.take (i + 1)).Nodup := by
  rw [List.take_add_one, h]
  exact List.nodup_append.mpr ⟨nd, by simp, fun a ha b hb e => by
    rw [Option.toList_some, List.mem_singleton] at hb
    exact m (hb ▸ e ▸ ha)⟩
section
variable {K : PySem.W.Frag} {S : Addr → Prop} {σ : L2.St} {H : Hp} {te : TE} {d : D} {is : List Int}
theorem es_ofR (h : EvR te σ H d) : EvS S0 te σ H d := fun H1 e Q q => h H1 e Q fun v H2 e2 r => q v H2 e2 (r.up hid0)
theorem ev_neNilI (h : EvS S te σ H (.lst (is.map D.int))) : Ev (tOp (rNeD K) te (tLst tNil)) σ H (.bl (!is.isEmpty)) := fun H1 e Q q => h H1 e _ fun v H2 e2 r => by
  obtain ⟨a, vs, rfl, ha, hs⟩ := r.lstD
  rw [reps_ints hs] at ha
  exact ⟨Nat.zero_le _, fun l nl => rv_neNil (ns := is) ((Ex.new nl) _ _ (hidP_get ha).1) upd_same _ (Ex.refl _) _ fun H3 e3 => q H3 ((e2.trans (Ex.new nl)).trans e3)⟩
theorem ev_eqNilI (h : EvS S te σ H (.lst (is.map D.int))) : Ev (tOp (rEqD K) te (tLst tNil)) σ H (.bl is.isEmpty) := fun H1 e Q q => h H1 e _ fun v H2 e2 r => by
  obtain ⟨a, vs, rfl, ha, hs⟩ := r.lstD
  rw [reps_ints hs] at ha
  exact ⟨Nat.zero_le _, fun l nl => rv_eqNil (ns := is) ((Ex.new nl) _ _ (hidP_get ha).1) upd_same _ (Ex.refl _) _ fun H3 e3 => q H3 ((e2.trans (Ex.new nl)).trans e3)⟩
end
theorem none_off {α β : Type} {f : α → Bool} {g : α → β} : ∀ ds : List α, ((ds.filter fun d => !f d).map g).isEmpty = ds.all f
  | [] => rfl
  | d :: r => by
    have ih := none_off (f := f) (g := g) r
    cases h : f d with
    | false => rw [List.filter_cons_of_pos (by rw [h]; rfl), List.all_cons, h]; rfl
    | true => rw [List.filter_cons_of_neg (by rw [h]; decide), List.all_cons, h, Bool.true_and]; exact ih
section
variable {P : Program} {w : World} {K : PySem.W.Frag} {mg : Str → Option Value} {base : Heap} (T : Txt K mg)
theorem ok_lrooms : FnOk P w K mg base CX0 4 T.a_law_good_rooms T.d_law_good_rooms ["value"] (spX okRooms) := by
  refine T.F_law_good_rooms.ok sc_law_good_rooms (fun vs H Q E h => ?_) (fun cdv A outer s H vs Q E hr h => ?_)
  · obtain ⟨z, ⟨v, d, rfl, _⟩, _⟩ := h
    rfl
  · obtain ⟨z, ⟨v, d, rfl, hv, hz, rfl⟩, q⟩ := h
    have nd := sc_law_good_rooms.nd
    have hu4 : (A.deeper (envOfC "_law_good_rooms" (defScope s_law_good_rooms) s.heap.objs.size T.a_law_good_rooms cdv)).units + 64 < cLine := by have := hr.un; omega
    refine ⟨_, (pss_cons (ps_set (i := 1) nd rfl (.inl rfl) (pe_lst pa_nil))
      (pss_cons (ps_if (pt_not (pt_val (pe_call (ok_ltup T) (hr.mono (by decide)) (by rfl) T.g_law_is_tuple T.F_law_is_tuple.kp (b_law_is_tuple T) .nil pass0 (pa_cons (pv 0) (pa_cons pe_int (pa_cons pe_int pa_nil)))))) (pss_one (ps_ret pe_bl)) pss_nil)
      (pss_cons (ps_for PassesOwn.never rfl (pi_tup (pv 0)) (pg_name (i := 2) nd rfl (.inl rfl)) (pss_cons (ps_if (PW.pt (pw_or (pt_not (pt_val (pe_call (ok_ltup T) (hr.mono (by decide)) (by rfl) T.g_law_is_tuple T.F_law_is_tuple.kp (b_law_is_tuple T) .nil pass0 (pa_cons (pv 2) (pa_cons pe_int (pa_cons pe_int pa_nil)))))) (pw_or (pt_not (pt_val (pe_call (ok_lname T) (hr.mono (by decide)) (by rfl) T.g_law_is_name T.F_law_is_name.kp (b_law_is_name T) .nil pass0 (pa_cons (pe_ix (r := rIxT K) ix_tup (pv 2) pe_int (fun _ _ => rfl)) pa_nil)))) (pw_or (pt_cmpR op_eq (pe_ix (r := rIxT K) ix_tup (pv 2) pe_int (fun _ _ => rfl)) pe_str (nomark _)) (pw_or1 (pt_cmpR (r := rIn K false) op_in_seq (pe_ix (r := rIxT K) ix_tup (pv 2) pe_int (fun _ _ => rfl)) (pv 1) (by rfl))))))) (pss_one (ps_ret pe_bl)) pss_nil)
      (pss_cons (ps_if (pt_cmpR (op_neD hu4) (pe_lc (own := [("number", 3)]) (g := gName 3)  (by rfl) nd (pi_tup (pe_slice sl_tupF (pv 2) (po_some pe_int) po_none)) (blkOk_by (N := ["value", "names", "row", "number"]) (sc := defScope s_law_good_rooms) (by decide +kernel)) (fun _ _ _ _ _ => (pg_name (i := 3) nd rfl (.inl rfl))) (fun _ _ _ _ _ => (pts_one (pt_not (pt_val (pe_call (ok_lbetw T) (hr.mono (by decide)) (by rfl) T.g_law_between T.F_law_between.kp (b_law_between T) .nil pass0 (pa_cons (pv 3) (pa_cons (pe_un un_neg pe_int) (pa_cons pe_int pa_nil)))))))) (fun _ _ _ _ _ => pe_int)) (pe_lst pa_nil) (nomark _)) (pss_one (ps_ret pe_bl)) pss_nil)
      (pss_cons (ps_if (PW.pt (pw_or (pt_not (pt_chain op_le op_le (pe_ix (r := rIxT K) ix_tup (pv 2) pe_int (fun _ _ => rfl)) (pe_ix (r := rIxT K) ix_tup (pv 2) pe_int (fun _ _ => rfl)) (pe_ix (r := rIxT K) ix_tup (pv 2) pe_int (fun _ _ => rfl)))) (pw_or1 (pt_cmpR op_gt (pe_ix (r := rIxT K) ix_tup (pv 2) pe_int (fun _ _ => rfl)) (pe_op op_add (pe_ix (r := rIxT K) ix_tup (pv 2) pe_int (fun _ _ => rfl)) pe_int) (nomark _))))) (pss_one (ps_ret pe_bl)) pss_nil)
      (pss_one (ps_expr (pe_bm PySem.F.plainAttrs_list PySem.F.slot_list_append PySem.F.type_list_append mt_append (pv 1) (pa_cons (pe_ix (r := rIxT K) ix_tup (pv 2) pe_int (fun _ _ => rfl)) pa_nil))))))))
      (pss_one (ps_ret pe_bl))))), ?_⟩
    refine s_asgL (el_lst ea_nil (by simp)) fun p H1 np e1 hp => ?_
    refine s_ifX (b := !isTup d 1 3) (et_not (et_B (ev_sp stb_tup (ea_cons (ev_var rfl) (ea_cons ev_c (ea_cons ev_c ea_nil))) ⟨v, d, 1, 3, rfl, hv.up e1, rfl⟩))) (fun hb H2 e2 => ?_) (fun hb H2 e2 => ?_)
    · refine s_ret (v := .bl false) ev_c fun H3 e3 => ?_
      have z : d.rooms = false := by
        cases d with
        | tup ds => rw [rooms_tup, not_t hb]; rfl
        | _ => rfl
      rw [z] at q
      exact q H3 ((e1.trans e2).trans e3)
    · have ht := not_f hb
      obtain ⟨ds, rfl, l1, l3⟩ := isTup_len ht
      obtain ⟨a, vs, rfl, ha, hs⟩ := hv.tupD
      have S_ : ∀ a', (also S0 p) a' ↔ a' = p := fun a' => ⟨fun z => z.elim (fun z => z.elim) id, .inr⟩
      have lift1 : Ex H (hidP (also S0 p) H1) := fun a' o h => hidP_at (e1 a' o h) fun z => by rw [(S_ _).mp z, np] at h; cases h
      have lift := lift1.trans (hidP_ex e2)
      have rv : Rep (hidP (also S0 p) H2) (.ref a) (.tup ds) := hv.up lift
      have back : ∀ {H' : Hp}, Ex (hidP (also S0 p) H2) (hidP (also S0 p) H') → Ex H H' := fun {H'} x => (lift.trans x).trans hidP_sub
      refine q_forS (S := also S0 p) (ds := ds) (its_tup (es_of (ev_var rfl) rv)) (fun H3 i σ' H' => Ex (hidP (also S0 p) H3) (hidP (also S0 p) H') ∧ H' p = some (.lst (sv ((nmsD ds).take i))) ∧ (∀ j d, j < i → ds[j]? = some d → d.room = true) ∧ ((nmsD ds).take i).Nodup ∧ ∃ z, σ' = [some (.ref a), some (.ref p), z, none])
        (fun H3 e3 => ⟨Ex.refl _, (e2.trans e3) _ _ hp, fun j d lt => absurd lt (Nat.not_lt_zero _), by simp, _, rfl⟩) (fun _ _ _ _ _ h => h.1) (fun H3 i d x σ' H' e3 hd ⟨x3, hp3, good, ndk, z, es⟩ rx => ?_) (fun H3 σ' H' e3 ⟨x3, hp3, good, ndk, z, es⟩ => ?_)
      · subst es
        have X3 := (hidP_ex e3).trans x3
        have hzd : d.Sz := hz.tup.2.get hd
        have gn : (nmsD ds)[i]? = some d.fst.txt := by
          unfold nmsD
          rw [List.getElem?_map, hd]
          rfl
        have bad : (d.room = false ∨ d.fst.txt ∈ (nmsD ds).take i) → ∀ H4, Ex H' H4 → Q (.bl false) H4 := fun h H4 e4 => by
          rw [rooms_no hd h] at q
          exact q H4 ((back X3).trans e4)
        refine s_ifX (σ := [some (.ref a), some (.ref p), some (x), none]) (b := !isTup d 4 4 || (!d.fst.nm || (decide (d.fst.txt = "out") || amg d.fst.txt ((nmsD ds).take i)))) (et_or (et_not (et_B (ev_sp stb_tup (ea_cons (ev_var (i := 2) rfl) (ea_cons ev_c (ea_cons ev_c ea_nil))) ⟨x, d, 4, 4, rfl, rx.up hidP_sub, rfl⟩))) fun h4 => ?_) (fun hb1 H4 e4 => ?_) (fun hb1 H4 e4 => ?_)
        · obtain ⟨n, lo, hi, f, rfl⟩ := tup4 (not_f h4)
          obtain ⟨c, v0, v1, v2, v3, rfl, hc, r0, r1, r2, r3⟩ := rx.t4
          have hc := hc.up hidP_sub
          refine et_or (et_not (et_B (ev_sp stb_name (ea_cons (ev_ixT (j := 0) (ev_var (i := 2) rfl) hc rfl) ea_nil) ⟨v0, n, rfl, r0.up hidP_sub, szD_of (hzd.tup.2.get (j := 0) rfl), rfl⟩))) fun hn => ?_
          have hn : n.nm = true := not_f hn
          rw [nm_str hn] at r0
          obtain rfl := r0.strD
          exact et_or (et_test (ev_is (ev_op (ev_ixT (j := 0) (ev_var (i := 2) rfl) hc rfl) ev_c (rv_eq rfl)) (congrArg V.bl (txt_eq _ _)))) fun _ => et_test (ev_op (ev_ixT (j := 0) (ev_var (i := 2) rfl) hc rfl) (ev_var (i := 1) rfl) (rv_inTx (.inl hp3)))
        · refine s_ret (v := .bl false) ev_c fun H5 e5 => bad ?_ H5 (e4.trans e5)
          cases hroom : d.room with
          | false => exact .inl rfl
          | true =>
            obtain ⟨h1, h2, h3⟩ := room_parts hroom
            rw [h1, h2, decide_eq_false h3] at hb1
            exact .inr (amg_iff.mp hb1)
        · have hb2 := hb1
          simp only [Bool.or_eq_false_iff, Bool.not_eq_false', decide_eq_false_iff_not] at hb2
          obtain ⟨t4, tn, to_, tm⟩ := hb2
          obtain ⟨n, lo, hi, f, rfl⟩ := tup4 t4
          obtain ⟨c, v0, v1, v2, v3, rfl, hc, r0, r1, r2, r3⟩ := rx.t4
          have hc := hc.up hidP_sub
          have tn : n.nm = true := tn
          have to_ : ¬ n.txt = "out" := to_
          have tm : ¬ amg n.txt ((nmsD ds).take i) = true := fun z => by
            have : amg n.txt ((nmsD ds).take i) = false := tm
            rw [this] at z
            cases z
          have r0' := r0
          rw [nm_str tn] at r0'
          obtain rfl := r0'.strD
          have rx0 : Rep H4 (.ref c) (.tup [n, lo, hi, f]) := (rx.up hidP_sub).up e4
          have sl := er_slice (er_of (ev_var (i := 2) rfl) rx0) (eo_some ev_c) eo_none (te := tVar 2) (tlo := tPart (tC (.int 1))) (thi := tNoPart) (σ := [some (.ref a), some (.ref p), some (.ref c), none])
          rw [cut1] at sl
          refine s_ifX (σ := [some (.ref a), some (.ref p), some (.ref c), none]) (b := ![lo, hi, f].all (fun d => isBetw d (-40) 40)) (et_test (ev_is (ev_neNilI (S := S0) (lcI (ds := [lo, hi, f]) (fun d => !isBetw d (-40) 40) (fun _ => 1) in0 (its_tup (es_ofR sl)) (by simp) fun S' y d2 H5 hd2 in5 e5 x5 ry => ⟨_, fun Q h => h, rfl, et_not (et_B (ev_sp stb_betw (ea_cons (ev_var (i := 3) rfl) (ea_cons (ev_un ev_c ru_neg) (ea_cons ev_c ea_nil))) ⟨y, d2, -40, 40, rfl, ry.up hidP_sub, rfl⟩)), fun _ => ev_c⟩)) (by rw [none_off]))) (fun hb3 H5 e5 => ?_) (fun hb3 H5 e5 => ?_)
          · refine s_ret (v := .bl false) ev_c fun H6 e6 => bad (.inl ?_) H6 ((e4.trans e5).trans e6)
            rw [room_4, not_t hb3, Bool.false_and, Bool.and_false]
          · have hw := not_f hb3
            rw [(betw_int (List.all_eq_true.mp hw lo (by simp))).1] at r1
            rw [(betw_int (List.all_eq_true.mp hw hi (by simp))).1] at r2
            rw [(betw_int (List.all_eq_true.mp hw f (by simp))).1] at r3
            obtain rfl := r1.intD
            obtain rfl := r2.intD
            obtain rfl := r3.intD
            have E5 := e4.trans e5
            refine s_ifX (σ := [some (.ref a), some (.ref p), some (.ref c), none]) (b := !(decide (lo.num ≤ f.num) && decide (f.num ≤ hi.num)) || decide (hi.num > lo.num + 8)) (et_or (et_not (ev_chainT (ev_chain (ev_ixT (j := 1) (ev_var (i := 2) rfl) (hc.up E5) rfl) (ev_ixT (j := 3) (ev_var (i := 2) rfl) (hc.up E5) rfl) rv_I0 (fun _ => ev_ixT (j := 2) (ev_var (i := 2) rfl) (hc.up E5) rfl) fun _ => rv_I0))) fun _ => et_test (ev_op (ev_ixT (j := 2) (ev_var (i := 2) rfl) (hc.up E5) rfl) (ev_op (ev_ixT (j := 1) (ev_var (i := 2) rfl) (hc.up E5) rfl) ev_c rv_I0) rv_I0)) (fun hb4 H6 e6 => ?_) (fun hb4 H6 e6 => ?_)
            · refine s_ret (v := .bl false) ev_c fun H7 e7 => bad (.inl (Bool.eq_false_iff.mpr fun z => ?_)) H7 ((E5.trans e6).trans e7)
              rw [room_4] at z
              simp only [Bool.and_eq_true, decide_eq_true_eq] at z
              obtain ⟨_, _, z1, z2, z3⟩ := z
              rw [decide_eq_true z1, decide_eq_true z2, decide_eq_false (by omega : ¬ hi.num > lo.num + 8)] at hb4
              cases hb4
            · have rm : D.room (.tup [n, lo, hi, f]) = true := by
                rw [room_4, hw, tn, decide_eq_false to_]
                simp only [Bool.or_eq_false_iff, Bool.not_eq_false', Bool.and_eq_true, decide_eq_true_eq, decide_eq_false_iff_not] at hb4
                obtain ⟨⟨z1, z2⟩, z3⟩ := hb4
                rw [decide_eq_true z1, decide_eq_true z2, decide_eq_true (by omega : hi.num ≤ lo.num + 8)]
                rfl
              have E6 := E5.trans e6
              refine s_app (E6 _ _ hp3) (ev_var (i := 1) rfl) (ev_ixT (j := 0) (ev_var (i := 2) rfl) (hc.up E6) rfl) ?_ fun H7 e7 => ⟨(x3.trans (hidP_ex (E6.trans e7))).trans (hidP_mut (show also S0 p p from .inr rfl)), ?_, fun j d2 lj hj => ?_, nd_next gn ndk fun z => tm (amg_iff.mpr z), _, rfl⟩
              · unfold sv
                have ln : (nmsD ds).length = ds.length := by unfold nmsD; rw [List.length_map]
                rw [List.length_map, List.length_take]
                omega
              · rw [upd_same, List.take_add_one, gn]
                unfold sv
                rw [List.map_append]
                rfl
              · rcases Nat.lt_or_ge j i with l | l
                · exact good j d2 l hj
                · have : j = i := by omega
                  subst this
                  rw [hd] at hj
                  cases hj
                  exact rm
      · subst es
        have hall : ds.all D.room = true := List.all_eq_true.mpr fun d hd => by
          obtain ⟨j, hj⟩ := List.mem_iff_getElem?.mp hd
          exact good j d (List.getElem?_eq_some_iff.mp hj).1 hj
        have ln : (nmsD ds).length = ds.length := by unfold nmsD; rw [List.length_map]
        rw [List.take_of_length_le (by omega)] at ndk
        rw [rooms_tup, ht, hall, show decide ((ds.map fun x => x.fst.txt).Nodup) = true from decide_eq_true ndk] at q
        exact s_ret (v := .bl true) ev_c fun H4 e4 => q H4 ((back ((hidP_ex e3).trans x3)).trans e4)
end
end Kx

set_option Elab.async false
set_option linter.all false
set_option maxRecDepth 100000
set_option maxHeartbeats 400000
namespace Kx
open PySem PySem.Spec PyProof.Rows L2 Evl
theorem bb1 {a b c x : Bool} (h : (!a || (!b || c)) = true) : ((x && a) && (b && !c)) = false := by cases a <;> cases b <;> cases c <;> cases x <;> first | rfl | cases h
theorem bb2 {a b c : Bool} (h : (!a || (!b || c)) = false) : ((true && a) && (b && !c)) = true := by cases a <;> cases b <;> cases c <;> first | rfl | cases h
theorem not_am {n : Str} {ns : List Str} (h : amg n ns = false) (m : n ∈ ns) : False := by
  rw [amg_iff.mpr m] at h
  cases h
theorem heats_no {ns : List Str} {ds : List D} {i : Nat} {d : D} (h : ds[i]? = some d) (hf : d.heat ns = false ∨ d.fst.txt ∈ (nmsD ds).take i) : D.heats ns (.tup ds) = false := by
  rw [heats_tup]
  rcases hf with hf | hf
  · rw [all_no h hf, Bool.false_and, Bool.and_false]
  · have : (nmsD ds)[i]? = some d.fst.txt := by
      unfold nmsD
      rw [List.getElem?_map, h]
      rfl
    rw [show (ds.map fun x => x.fst.txt) = nmsD ds from rfl, dup_no this hf, Bool.and_false, Bool.and_false]
def D.snd : D → D
  | .tup (_ :: x :: _) => x
  | _ => .non
theorem heat_parts {ns : List Str} {d : D} (h : d.heat ns = true) : isTup d 3 3 = true ∧ d.fst.nm = true ∧ isi d.snd "str" = true := by
  obtain ⟨n, a, g, rfl, h1, _⟩ := heat_shape h
  exact ⟨rfl, h1, rfl⟩
def okHeatsL : OkF := fun vs H z => ∃ v d a ns, vs = [.ref a, v] ∧ Rep H v d ∧ d.Sz ∧ Txs H a ns ∧ z = .bl (d.heats ns)
theorem stb_heatsL : Stb okHeatsL := fun _ _ _ _ e ⟨v, d, a, ns, h1, h2, h3, h4, h5⟩ => ⟨v, d, a, ns, h1, h2.up e, h3, h4.up e, h5⟩
section
variable {P : Program} {w : World} {K : PySem.W.Frag} {mg : Str → Option Value} {base : Heap} (T : Txt K mg)
theorem ok_lheats : FnOk P w K mg base CX0 4 T.a_law_good_heaters T.d_law_good_heaters ["rooms", "value"] (spX okHeatsL) := by
  refine T.F_law_good_heaters.ok sc_law_good_heaters (fun vs H Q E h => ?_) (fun cdv A outer s H vs Q E hr h => ?_)
  · obtain ⟨z, ⟨v, d, na, ns, rfl, _⟩, _⟩ := h
    rfl
  · obtain ⟨z, ⟨v, d, na, ns, rfl, hv, hz, hns, rfl⟩, q⟩ := h
    have nd := sc_law_good_heaters.nd
    refine ⟨_, (pss_cons (ps_set (i := 2) nd rfl (.inl rfl) (pe_lst pa_nil))
      (pss_cons (ps_if (pt_not (pt_val (pe_call (ok_ltup T) (hr.mono (by decide)) (by rfl) T.g_law_is_tuple T.F_law_is_tuple.kp (b_law_is_tuple T) .nil pass0 (pa_cons (pv 1) (pa_cons pe_int (pa_cons pe_int pa_nil)))))) (pss_one (ps_ret pe_bl)) pss_nil)
      (pss_cons (ps_for PassesOwn.never rfl (pi_tup (pv 1)) (pg_name (i := 3) nd rfl (.inl rfl)) (pss_cons (ps_if (PW.pt (pw_or (pt_not (pt_val (pe_call (ok_ltup T) (hr.mono (by decide)) (by rfl) T.g_law_is_tuple T.F_law_is_tuple.kp (b_law_is_tuple T) .nil pass0 (pa_cons (pv 3) (pa_cons pe_int (pa_cons pe_int pa_nil)))))) (pw_or (pt_not (pt_val (pe_call (ok_lname T) (hr.mono (by decide)) (by rfl) T.g_law_is_name T.F_law_is_name.kp (b_law_is_name T) .nil pass0 (pa_cons (pe_ix (r := rIxT K) ix_tup (pv 3) pe_int (fun _ _ => rfl)) pa_nil)))) (pw_or (pt_cmpR (r := rIn K false) op_in_seq (pe_ix (r := rIxT K) ix_tup (pv 3) pe_int (fun _ _ => rfl)) (pv 2) (by rfl)) (pw_or1 (pt_not (pt_val (pe_isi T.z_isinstance T.z_str bo_str (pe_ix (r := rIxT K) ix_tup (pv 3) pe_int (fun _ _ => rfl)))))))))) (pss_one (ps_ret pe_bl)) pss_nil)
      (pss_cons (ps_if (PW.pt (pw_or (pt_cmpR (r := rIn K true) op_notIn_seq (pe_ix (r := rIxT K) ix_tup (pv 3) pe_int (fun _ _ => rfl)) (pv 0) (by rfl)) (pw_or (pt_not (pt_val (pe_call (ok_lbetw T) (hr.mono (by decide)) (by rfl) T.g_law_between T.F_law_between.kp (b_law_between T) .nil pass0 (pa_cons (pe_ix (r := rIxT K) ix_tup (pv 3) pe_int (fun _ _ => rfl)) (pa_cons (pe_un un_neg pe_int) (pa_cons pe_int pa_nil)))))) (pw_or1 (pt_cmpR op_eq (pe_ix (r := rIxT K) ix_tup (pv 3) pe_int (fun _ _ => rfl)) pe_int (nomark _)))))) (pss_one (ps_ret pe_bl)) pss_nil)
      (pss_one (ps_expr (pe_bm PySem.F.plainAttrs_list PySem.F.slot_list_append PySem.F.type_list_append mt_append (pv 2) (pa_cons (pe_ix (r := rIxT K) ix_tup (pv 3) pe_int (fun _ _ => rfl)) pa_nil)))))))
      (pss_one (ps_ret pe_bl))))), ?_⟩
    refine s_asgL (el_lst ea_nil (by simp)) fun p H1 np e1 hp => ?_
    refine s_ifX (b := !isTup d 0 3) (et_not (et_B (ev_sp stb_tup (ea_cons (ev_var rfl) (ea_cons ev_c (ea_cons ev_c ea_nil))) ⟨v, d, 0, 3, rfl, hv.up e1, rfl⟩))) (fun hb H2 e2 => ?_) (fun hb H2 e2 => ?_)
    · refine s_ret (v := .bl false) ev_c fun H3 e3 => ?_
      have z : d.heats ns = false := by
        cases d with
        | tup ds => rw [heats_tup, not_t hb]; rfl
        | _ => rfl
      rw [z] at q
      exact q H3 ((e1.trans e2).trans e3)
    · have ht := not_f hb
      obtain ⟨ds, rfl, l1, l3⟩ := isTup_len ht
      obtain ⟨a, vs, rfl, ha, hs⟩ := hv.tupD
      have S_ : ∀ a', (also S0 p) a' ↔ a' = p := fun a' => ⟨fun z => z.elim (fun z => z.elim) id, .inr⟩
      have lift1 : Ex H (hidP (also S0 p) H1) := fun a' o h => hidP_at (e1 a' o h) fun z => by rw [(S_ _).mp z, np] at h; cases h
      have lift := lift1.trans (hidP_ex e2)
      have rv : Rep (hidP (also S0 p) H2) (.ref a) (.tup ds) := hv.up lift
      have back : ∀ {H' : Hp}, Ex (hidP (also S0 p) H2) (hidP (also S0 p) H') → Ex H H' := fun {H'} x => (lift.trans x).trans hidP_sub
      have ln : (nmsD ds).length = ds.length := by unfold nmsD; rw [List.length_map]
      refine q_forS (S := also S0 p) (ds := ds) (its_tup (es_of (ev_var rfl) rv)) (fun H3 i σ' H' => Ex (hidP (also S0 p) H3) (hidP (also S0 p) H') ∧ H' p = some (.lst (sv ((nmsD ds).take i))) ∧ (∀ j d, j < i → ds[j]? = some d → d.heat ns = true) ∧ ((nmsD ds).take i).Nodup ∧ ∃ z, σ' = [some (.ref na), some (.ref a), some (.ref p), z])
        (fun H3 e3 => ⟨Ex.refl _, (e2.trans e3) _ _ hp, fun j d lt => absurd lt (Nat.not_lt_zero _), by simp, _, rfl⟩) (fun _ _ _ _ _ h => h.1) (fun H3 i d x σ' H' e3 hd ⟨x3, hp3, good, ndk, z, es⟩ rx => ?_) (fun H3 σ' H' e3 ⟨x3, hp3, good, ndk, z, es⟩ => ?_)
      · subst es
        have X3 := (hidP_ex e3).trans x3
        have hzd : d.Sz := hz.tup.2.get hd
        have gn : (nmsD ds)[i]? = some d.fst.txt := by
          unfold nmsD
          rw [List.getElem?_map, hd]
          rfl
        have bad : (d.heat ns = false ∨ d.fst.txt ∈ (nmsD ds).take i) → ∀ H4, Ex H' H4 → Q (.bl false) H4 := fun h H4 e4 => by
          rw [heats_no hd h] at q
          exact q H4 ((back X3).trans e4)
        refine s_ifX (σ := [some (.ref na), some (.ref a), some (.ref p), some (x)]) (b := !isTup d 3 3 || (!d.fst.nm || (amg d.fst.txt ((nmsD ds).take i) || !isi d.snd "str"))) (et_or (et_not (et_B (ev_sp stb_tup (ea_cons (ev_var (i := 3) rfl) (ea_cons ev_c (ea_cons ev_c ea_nil))) ⟨x, d, 3, 3, rfl, rx.up hidP_sub, rfl⟩))) fun h4 => ?_) (fun hb1 H4 e4 => ?_) (fun hb1 H4 e4 => ?_)
        · obtain ⟨n, ar, g, rfl⟩ := tup3 (not_f h4)
          obtain ⟨c, v0, v1, v2, rfl, hc, r0, r1, r2⟩ := rx.t3
          have hc := hc.up hidP_sub
          refine et_or (et_not (et_B (ev_sp stb_name (ea_cons (ev_ixT (j := 0) (ev_var (i := 3) rfl) hc rfl) ea_nil) ⟨v0, n, rfl, r0.up hidP_sub, szD_of (hzd.tup.2.get (j := 0) rfl), rfl⟩))) fun hn => ?_
          have hn : n.nm = true := not_f hn
          rw [nm_str hn] at r0
          obtain rfl := r0.strD
          exact et_or (et_test (ev_op (ev_ixT (j := 0) (ev_var (i := 3) rfl) hc rfl) (ev_var (i := 2) rfl) (rv_inTx (.inl hp3)))) fun _ => et_not (et_val (ev_isi (ev_ixT (j := 1) (ev_var (i := 3) rfl) hc rfl) (r1.up hidP_sub)))
        · refine s_ret (v := .bl false) ev_c fun H5 e5 => bad ?_ H5 (e4.trans e5)
          cases hroom : d.heat ns with
          | false => exact .inl rfl
          | true =>
            obtain ⟨h1, h2, h3⟩ := heat_parts hroom
            rw [h1, h2, h3] at hb1
            exact .inr (amg_iff.mp (by simpa using hb1))
        · have hb2 := hb1
          simp only [Bool.or_eq_false_iff, Bool.not_eq_false'] at hb2
          obtain ⟨t4, tn, tm, ts⟩ := hb2
          obtain ⟨n, ar, g, rfl⟩ := tup3 t4
          obtain ⟨c, v0, v1, v2, rfl, hc, r0, r1, r2⟩ := rx.t3
          have hc := hc.up hidP_sub
          have tn : n.nm = true := tn
          have tm : amg n.txt ((nmsD ds).take i) = false := tm
          have ta : ar = .str ar.txt := by
            have ts : isi ar "str" = true := ts
            cases ar <;> first | rfl | cases ts
          rw [nm_str tn] at r0
          rw [ta] at r1
          obtain rfl := r0.strD
          obtain rfl := r1.strD
          have e0 := (back X3).trans e4
          refine s_ifX (σ := [some (.ref na), some (.ref a), some (.ref p), some (.ref c)]) (b := !amD ar ns || (!isBetw g (-60) 60 || decide (g.num = 0))) (et_or (et_test (ev_is (ev_op (ev_ixT (j := 1) (ev_var (i := 3) rfl) (hc.up e4) rfl) (ev_var (i := 0) rfl) (rv_niTx (hns.up e0))) (by rw [ta]; rfl))) fun _ => et_or (et_not (et_B (ev_sp stb_betw (ea_cons (ev_ixT (j := 2) (ev_var (i := 3) rfl) (hc.up e4) rfl) (ea_cons (ev_un ev_c ru_neg) (ea_cons ev_c ea_nil))) ⟨v2, g, -60, 60, rfl, (r2.up hidP_sub).up e4, rfl⟩))) fun hg => ?_) (fun hb3 H5 e5 => ?_) (fun hb3 H5 e5 => ?_)
          · rw [(betw_int (not_f hg)).1] at r2
            obtain rfl := r2.intD
            exact et_test (ev_is (ev_op (ev_ixT (j := 2) (ev_var (i := 3) rfl) (hc.up e4) rfl) ev_c (rv_eq rfl)) (congrArg V.bl (decide_eq_decide.mpr ⟨V.int.inj, fun h => h ▸ rfl⟩)))
          · refine s_ret (v := .bl false) ev_c fun H6 e6 => bad (.inl ?_) H6 ((e4.trans e5).trans e6)
            rw [heat_3]
            exact bb1 hb3
          · have rm : D.heat ns (.tup [n, ar, g]) = true := by
              rw [heat_3, tn]
              exact bb2 hb3
            have E5 := e4.trans e5
            refine s_app (E5 _ _ hp3) (ev_var (i := 2) rfl) (ev_ixT (j := 0) (ev_var (i := 3) rfl) (hc.up E5) rfl) ?_ fun H7 e7 => ⟨(x3.trans (hidP_ex (E5.trans e7))).trans (hidP_mut (show also S0 p p from .inr rfl)), ?_, fun j d2 lj hj => ?_, nd_next gn ndk (fun z => not_am tm z), _, rfl⟩
            · unfold sv
              rw [List.length_map, List.length_take]
              omega
            · rw [upd_same, List.take_add_one, gn]
              unfold sv
              rw [List.map_append]
              rfl
            · rcases Nat.lt_or_ge j i with l | l
              · exact good j d2 l hj
              · have : j = i := by omega
                subst this
                rw [hd] at hj
                cases hj
                exact rm
      · subst es
        have hall : ds.all (D.heat ns) = true := List.all_eq_true.mpr fun d hd => by
          obtain ⟨j, hj⟩ := List.mem_iff_getElem?.mp hd
          exact good j d (List.getElem?_eq_some_iff.mp hj).1 hj
        rw [List.take_of_length_le (by omega)] at ndk
        rw [heats_tup, ht, hall, show decide ((ds.map fun x => x.fst.txt).Nodup) = true from decide_eq_true ndk] at q
        exact s_ret (v := .bl true) ev_c fun H4 e4 => q H4 ((back ((hidP_ex e3).trans x3)).trans e4)
end
end Kx

set_option Elab.async false
set_option linter.all false
set_option maxRecDepth 100000
set_option maxHeartbeats 400000
namespace Kx
open PySem PySem.Spec PyProof.Rows L2 Evl
/-! ## the next degrees, as the law reckons them -/
section
variable {K : PySem.W.Frag} {σ : L2.St} {H : Hp} {tl : TE} {g : TG} {tu tz : TS} {D0 : Ends}
theorem s_parLL {i j : Nat} {ta tb : TE} {xs ys : List V} (ha : EvL ta σ H xs) (hb : EvL tb σ H ys) (k : ∀ p q H2, H p = none → H q = none → p ≠ q → Ex H H2 → H2 p = some (.lst xs) → H2 q = some (.lst ys) → tz D0 ((σ.set i (some (.ref p))).set j (some (.ref q))) H2) : tSeq (tPar i j (tCons ta (tCons tb tNil))) tz D0 σ H := by
  show tPar i j (tCons ta (tCons tb tNil)) { D0 with nx := tz D0 } σ H
  unfold tPar
  exact ha H (Ex.refl _) _ fun p H1 np e1 hp => hb H1 e1 _ fun q H2 nq e2 hq => ⟨_, _, rfl, k p q H2 np (fresh_back e1 nq) (fun z => by rw [z, nq] at hp; cases hp) (e1.trans e2) (e2 _ _ hp) hq⟩
theorem s_par2 {i j : Nat} {ta : TA} {x y : V} (ha : EvA ta σ H [x, y]) (k : ∀ H1, Ex H H1 → tz D0 ((σ.set i (some x)).set j (some y)) H1) : tSeq (tPar i j ta) tz D0 σ H := by
  show tPar i j ta { D0 with nx := tz D0 } σ H
  unfold tPar
  exact ha H (Ex.refl _) _ fun H1 e1 => ⟨_, _, rfl, k H1 e1⟩
theorem q_forEnum {a : Addr} {xs : List V} (h : Ev tl σ H (.ref a)) (hx : SqL K H a xs) (Pv : Hp → Nat → L2.St → Hp → Prop) (h0 : ∀ H1, Ex H H1 → Pv H1 0 σ H1) (hq : ∀ H1 i σ' H', Ex H H1 → Pv H1 i σ' H' → SqL K H' a xs)
    (hs : ∀ H1 i x t σ' H', Ex H H1 → xs[i]? = some x → Pv H1 i σ' H' → H' t = none → g (.ref t) σ' (upd H' t (.tup [.int (i : Nat), x])) fun σ2 H2 => tu { D0 with nx := Pv H1 (i + 1), ct := Pv H1 (i + 1), bk := tz D0 } σ2 H2)
    (hd : ∀ H1 σ' H', Ex H H1 → Pv H1 xs.length σ' H' → tz D0 σ' H') : tSeq (tFor (iEnum K (tCons tl tNil)) g tu) tz D0 σ H := by
  show tFor (iEnum K (tCons tl tNil)) g tu { D0 with nx := tz D0 } σ H
  unfold tFor iEnum
  refine ea_cons h ea_nil H (Ex.refl _) _ fun H1 e1 => ⟨a, xs, rfl, ex_l e1 hx, ?_⟩
  refine ⟨fun i m σ' H' => m = xs.length - i ∧ i ≤ xs.length ∧ Pv H1 i σ' H', ⟨xs.length, rfl, Nat.zero_le _, h0 H1 e1⟩, ?_⟩
  rintro i m σ' H' ⟨rfl, hi, pv⟩
  have q := hq H1 i σ' H' e1 pv
  by_cases lt : i < xs.length
  · refine .inr ⟨⟨xs, xs[i], q, List.getElem?_eq_getElem lt⟩, Pv H1 (i + 1), fun σ3 H3 p3 => ⟨xs.length - (i + 1), by omega, rfl, lt, p3⟩, fun x H'' y => ?_⟩
    obtain ⟨t, x0, rfl, ht, rfl, f1⟩ := y
    exact hs H1 i x0 t σ' H' e1 (f1 xs q) pv ht
  · have ei : i = xs.length := by omega
    subst ei
    exact .inl ⟨⟨xs, q, Nat.le_refl _⟩, hd H1 σ' H' e1 pv⟩
end
theorem sum_next {p : D → Bool} {f : D → Int} {ls : List D} {j : Nat} {d : D} (h : ls[j]? = some d) : (((ls.take (j + 1)).filter p).map f).sum = (((ls.take j).filter p).map f).sum + if p d = true then f d else 0 := by
  rw [List.take_add_one, h, List.filter_append, List.map_append, List.sum_append]
  congr 1
  show ((List.filter p [d]).map f).sum = _
  cases hp : p d with
  | true => rw [List.filter_cons_of_pos hp]; simp
  | false => rw [List.filter_cons_of_neg (by rw [hp]; decide)]; simp
theorem step_law {ns : List Str} {dg : List Int} {w : Int} {on fr : List Str} {m : Int} {ls hs : List D} {n : Str} : ((((ls.filter (fromR n fr)).map fun x => shareOf x * valA ns dg w x.oth).sum + ((hs.filter (heatOf on n)).map D.gain).sum) + (m - ((ls.filter (fromR n fr)).map shareOf).sum) * valA ns dg w n) / m = stepAt ns dg w on fr m ls hs n := by
  unfold stepAt lk
  rw [Int.mul_comm (valA ns dg w n)]
  congr 1
  omega
section
variable {P : Program} {w : World} {K : PySem.W.Frag} {mg : Str → Option Value} {base : Heap} (T : Txt K mg)
set_option maxHeartbeats 4000000 in
theorem ok_later : FnOk P w K mg base CX0 1 T.a_law_later T.d_law_later ["air", "now", "sky", "setting"] spStep := by
  refine T.F_law_later.ok sc_law_later (fun vs H Q E h => ?_) (fun cdv A outer s H vs Q E hr h => ?_)
  · obtain ⟨v, da, x, dg, w, y, on, fr, rfl, _⟩ := h
    rfl
  · obtain ⟨v, da, x, dg, sky, y, on, fr, rfl, hv, hair, hx, hl, hb, w1, w2, hy, q⟩ := h
    have nd := sc_law_later.nd
    refine ⟨_, (pss_cons (ps_par (i := 4) (j := 5) rfl nd rfl rfl (by decide) rfl rfl (pa_cons (pe_lc (own := [("row", 16)]) (g := gName 16) (tt := tYes) (by rfl) nd (pi_tup (pe_ix (r := rIxT K) ix_tup (pv 0) pe_int (fun _ _ => rfl))) (blkOk_by (N := ["air", "now", "sky", "setting", "rooms", "found", "at", "name", "heat", "kept", "area", "other", "share", "door", "label", "gain", "row"]) (sc := defScope s_law_later) (by decide +kernel)) (fun _ _ _ _ _ => (pg_name (i := 16) nd rfl (.inl rfl))) (fun _ _ _ _ _ => pts_nil) (fun _ _ _ _ _ => (pe_ix (r := rIxT K) ix_tup (pv 16) pe_int (fun _ _ => rfl)))) (pa_cons (pe_lst pa_nil) pa_nil)) (by rfl))
      (pss_cons (ps_for PassesOwn.never rfl (pi_enum (by rfl) T.z_enumerate (pa_cons (pv 4) pa_nil)) (pg_tup rfl (pgs_cons (pg_name (i := 6) nd rfl (.inl rfl)) (pgs_cons (pg_name (i := 7) nd rfl (.inl rfl)) pgs_nil))) (pss_cons (ps_par (i := 8) (j := 9) rfl nd rfl rfl (by decide) rfl rfl (pa_cons pe_int (pa_cons (pe_ix (r := rIxT K) ix_tup (pv 0) pe_int (fun _ _ => rfl)) pa_nil)) (by rfl))
      (pss_cons (ps_for PassesOwn.never rfl (pi_tup (pe_ix (r := rIxT K) ix_tup (pv 0) pe_int (fun _ _ => rfl))) (pg_tup rfl (pgs_cons (pg_name (i := 10) nd rfl (.inl rfl)) (pgs_cons (pg_name (i := 11) nd rfl (.inl rfl)) (pgs_cons (pg_name (i := 12) nd rfl (.inl rfl)) (pgs_cons (pg_name (i := 13) nd rfl (.inl rfl)) pgs_nil))))) (pss_one (ps_if (PW.pt (pw_and (pt_cmpR op_eq (pv 10) (pv 7) (nomark _)) (pw_and1 (PW.pt (pw_or (pt_cmpR op_isN (pv 13) pe_non (nomark _)) (pw_or1 (pt_cmpR (r := rIn K false) op_in_seq (pv 13) (pe_ix (r := rIxT K) ix_tup (pv 3) pe_int (fun _ _ => rfl)) (by rfl)))))))) (pss_cons (ps_set (i := 9) nd rfl (.inl rfl) (pe_op op_sub (pv 9) (pv 12)))
      (pss_one (ps_set (i := 8) nd rfl (.inl rfl) (pe_op op_add (pv 8) (pe_op op_mul (pv 12) (pe_ifExp (pt_cmpR op_eq (pv 11) pe_str (nomark _)) (pv 2) (pe_ix (r := rIxT K) ix_tup (pv 1) (pe_bm PySem.F.plainAttrs_list PySem.F.slot_list_index PySem.F.type_list_index mt_index (pv 4) (pa_cons (pv 11) pa_nil)) (fun _ _ => rfl)))))))) pss_nil)))
      (pss_cons (ps_for PassesOwn.never rfl (pi_tup (pe_ix (r := rIxT K) ix_tup (pv 0) pe_int (fun _ _ => rfl))) (pg_tup rfl (pgs_cons (pg_name (i := 14) nd rfl (.inl rfl)) (pgs_cons (pg_name (i := 10) nd rfl (.inl rfl)) (pgs_cons (pg_name (i := 15) nd rfl (.inl rfl)) pgs_nil)))) (pss_one (ps_if (PW.pt (pw_and (pt_cmpR op_eq (pv 10) (pv 7) (nomark _)) (pw_and1 (pt_cmpR (r := rIn K false) op_in_seq (pv 14) (pe_ix (r := rIxT K) ix_tup (pv 3) pe_int (fun _ _ => rfl)) (by rfl))))) (pss_one (ps_set (i := 8) nd rfl (.inl rfl) (pe_op op_add (pv 8) (pv 15)))) pss_nil)))
      (pss_one (ps_expr (pe_bm PySem.F.plainAttrs_list PySem.F.slot_list_append PySem.F.type_list_append mt_append (pv 5) (pa_cons (pe_op op_fdiv (pe_op op_add (pv 8) (pe_op op_mul (pv 9) (pe_ix (r := rIxT K) ix_tup (pv 1) (pv 6) (fun _ _ => rfl)))) (pe_ix (r := rIxT K) ix_tup (pv 0) pe_int (fun _ _ => rfl))) pa_nil))))))))
      (pss_one (ps_ret (pe_callTy call_tupF (by rfl) T.z_tuple bo_tuple (pa_cons (pv 5) pa_nil)))))), ?_⟩
    obtain ⟨rs, ls, hs, m, lo, hi, f, mv, A⟩ := air_is hair
    rw [A.eq] at hv
    obtain ⟨a, v0, v1, v2, v3, v4, v5, rfl, ha, r0, r1, r2, r3, r4, r5⟩ := hv.t6
    obtain rfl := r2.intD
    obtain ⟨ra, rvs, rfl, hra, hrs⟩ := r1.tupD
    obtain ⟨xa, rfl, hxa⟩ := itup_at hx
    obtain ⟨ya, y1, y2, rfl, hya, ry1, ry2⟩ := hy.t2
    obtain ⟨pon, rfl, hon⟩ := ry1.txs
    obtain ⟨pfr, rfl, hfr⟩ := ry2.txs
    have hl : dg.length = rs.length := by
      rw [hl, A.eq]
      rfl
    have r3l := A.r3
    have ln : (nmsD rs).length = rs.length := by unfold nmsD; rw [List.length_map]
    refine s_parLL (el_fsts (i := 16) (σ := [some (.ref a), some (.ref xa), some (.int sky), some (.ref ya), none, none, none, none, none, none, none, none, none, none, none, none, none]) (ev_ixT (j := 1) (ev_var (i := 0) rfl) ha rfl) hra hrs (by omega) (show 16 < 17 from by decide) (fun d hd => room_row (A.ra d hd))) (el_lst ea_nil (by simp)) fun pr p H1 npr np pp e1 hpr hp => ?_
    have S_ : ∀ a', (also S0 p) a' ↔ a' = p := fun a' => ⟨fun z => z.elim (fun z => z.elim) id, .inr⟩
    have lift1 : Ex H (hidP (also S0 p) H1) := fun a' o h => hidP_at (e1 a' o h) fun z => by rw [(S_ _).mp z, np] at h; cases h
    have tR : hidP (also S0 p) H1 pr = some (.lst (sv (nmsD rs))) := hidP_at hpr fun z => pp ((S_ _).mp z)
    have vb : ∀ n : Str, n ∈ nmsD rs → n ≠ "out" → dg[(nmsD rs).idxOf n]? = some (valA (nmsD rs) dg sky n) ∧ -1000 ≤ valA (nmsD rs) dg sky n ∧ valA (nmsD rs) dg sky n ≤ 1000 := fun n mn no => by
      have lt := List.idxOf_lt_length_of_mem mn
      have lt2 : (nmsD rs).idxOf n < dg.length := by omega
      have ev : valA (nmsD rs) dg sky n = dg[(nmsD rs).idxOf n] := by
        unfold valA
        rw [if_neg no, List.getD_eq_getElem?_getD, List.getElem?_eq_getElem lt2, Option.getD_some]
      rw [ev, List.getElem?_eq_getElem lt2]
      have := hb dg[(nmsD rs).idxOf n] (List.getElem_mem lt2)
      exact ⟨rfl, this⟩
    have shp := fun d hd => leak_shape (A.la d hd)
    have m1 := A.m1
    have m2 := A.m2
    have l6 := A.l6
    have h3 := A.h3
    refine q_forEnum (a := pr) (xs := sv (nmsD rs)) (ev_var (i := 4) rfl) (.of hpr) (fun H8 i σ' H' => Ex (hidP (also S0 p) H8) (hidP (also S0 p) H') ∧ H' p = some (.lst ((((nmsD rs).take i).map (stepAt (nmsD rs) dg sky on fr m ls hs)).map V.int)) ∧
      ∃ z6 z7 z8 z9 z10 z11 z12 z13 z14 z15, σ' = [some (.ref a), some (.ref xa), some (.int sky), some (.ref ya), some (.ref pr), some (.ref p), z6, z7, z8, z9, z10, z11, z12, z13, z14, z15, none])
      (fun H8 e8 => ⟨Ex.refl _, e8 _ _ hp, _, _, _, _, _, _, _, _, _, _, rfl⟩) (fun H8 i σ' H' e8 ⟨x8, _⟩ => .of (hidP_get (((hidP_ex e8).trans x8) _ _ tR)).1) (fun H8 i x8 t σ' H' e8 hx8 ⟨x9, hp9, z6, z7, z8, z9, z10, z11, z12, z13, z14, z15, es⟩ nt => ?_) (fun H8 σ' H' e8 ⟨x9, hp9, z6, z7, z8, z9, z10, z11, z12, z13, z14, z15, es⟩ => ?_)
    · subst es
      have X9 := (lift1.trans (hidP_ex e8)).trans x9
      have et : Ex H' (upd H' t (.tup [.int (i : Nat), x8])) := Ex.new nt
      have ht8 : upd H' t (.tup [.int (i : Nat), x8]) t = some (.tup [.int (i : Nat), x8]) := upd_same
      generalize upd H' t (.tup [.int (i : Nat), x8]) = H9 at et ht8
      have xn : ∃ n, (nmsD rs)[i]? = some n ∧ x8 = .str n := by
        unfold sv at hx8
        rw [List.getElem?_map] at hx8
        cases e : (nmsD rs)[i]? with
        | none => rw [e] at hx8; cases hx8
        | some n =>
          rw [e] at hx8
          exact ⟨n, rfl, (Option.some.inj hx8).symm⟩
      obtain ⟨n, gn, rfl⟩ := xn
      have mn : n ∈ nmsD rs := List.mem_of_getElem? gn
      have no : n ≠ "out" := fun z => A.notOut (z ▸ mn)
      have E9 : Ex H H9 := (X9.trans hidP_sub).trans et
      have hR9 : H9 pr = some (.lst (sv (nmsD rs))) := et _ _ (hidP_get (((hidP_ex e8).trans x9) _ _ tR)).1
      refine ⟨t, _, rfl, .inl (.inl ht8), rfl, _, _, rfl, _, _, rfl, rfl, ?_⟩
      refine s_par2 (x := .int 0) (y := .int m) (ea_cons ev_c (ea_cons (ev_ixT (j := 2) (ev_var (i := 0) rfl) (ha.up E9) rfl) ea_nil)) fun H10 e10 => ?_
      have E10 := E9.trans e10
      refine q_forS (S := S0) (ds := ls) (its_tup (es_of (ev_ixT (j := 3) (ev_var (i := 0) rfl) (ha.up E10) rfl) ((r3.up E10).up hid0))) (fun H11 j σ2 H2 => Ex H11 H2 ∧ ∃ z10 z11 z12 z13, σ2 = [some (.ref a), some (.ref xa), some (.int sky), some (.ref ya), some (.ref pr), some (.ref p), some (.int (i : Nat)), some (.str n), some (.int (((ls.take j).filter (fromR n fr)).map fun x => shareOf x * valA (nmsD rs) dg sky x.oth).sum), some (.int (m - (((ls.take j).filter (fromR n fr)).map shareOf).sum)), z10, z11, z12, z13, z14, z15, none])
        (fun H11 e11 => ⟨Ex.refl _, z10, z11, z12, z13, by rw [List.take_zero]; simp⟩) (fun H11 _ _ H2 _ h => hidP_ex h.1) (fun H11 j d x σ2 H2 e11 hd ⟨x11, y10, y11, y12, y13, es⟩ rx => ?_) (fun H11 σ2 H2 e11 ⟨x11, y10, y11, y12, y13, es⟩ => ?_)
      · subst es
        obtain ⟨a1, b1, s1, n1, rfl, _, hb1, _, q1, q2, hn⟩ := shp d (List.mem_of_getElem? hd)
        obtain ⟨c, t0, t1, t2, t3, rfl, hc, g0, g1, g2, g3⟩ := rx.t4
        obtain rfl := g0.strD
        obtain rfl := g1.strD
        obtain rfl := g2.intD
        have E2 := (E10.trans e11).trans x11
        have hR2 : H2 pr = some (.lst (sv (nmsD rs))) := x11 _ _ (e11 _ _ (e10 _ _ hR9))
        refine ⟨c, _, rfl, (hc.up hidP_sub).sq, rfl, _, _, rfl, _, _, rfl, _, _, rfl, _, _, rfl, rfl, ?_⟩
        have nx1 := sum_next (p := fromR n fr) (f := fun x => shareOf x * valA (nmsD rs) dg sky x.oth) hd
        have nx2 := sum_next (p := fromR n fr) (f := shareOf) hd
        refine s_if (b := fromR n fr (.tup [.str a1, .str b1, .int s1, n1])) (et_is (et_and (et_test (ev_is (ev_op (ev_var (i := 10) rfl) (ev_var (i := 7) rfl) (rv_eq rfl)) (congrArg V.bl (txt_eq _ _)))) fun _ => et_or (et_test (ev_is (ev_op (ev_var (i := 13) rfl) ev_c (rv_isN (x := t3))) (congrArg V.bl (isN_v g3)))) fun hnn => et_test (b := amD n1 fr) ?_) rfl) (fun ht H3 e3 => ?_) (fun ht H3 e3 => ?_)
        · rcases hn with rfl | ⟨z, rfl, _⟩
          · cases hnn
          · obtain rfl := g3.strD
            exact ev_op (ev_var (i := 13) rfl) (ev_ixT (j := 1) (ev_var (i := 3) rfl) (hya.up E2) rfl) (rv_inTx (.inr (hfr.up E2).rd))
        · rw [if_pos ht] at nx1 nx2
          have E3 := E2.trans e3
          refine s_asg (v := .int (m - (((ls.take j).filter (fromR n fr)).map shareOf).sum - s1)) (ev_op (ev_var (i := 9) rfl) (ev_var (i := 12) rfl) rv_I0) fun H4 e4 => ?_
          refine s_asg (v := .int ((((ls.take j).filter (fromR n fr)).map fun x => shareOf x * valA (nmsD rs) dg sky x.oth).sum + s1 * valA (nmsD rs) dg sky b1)) (ev_op (ev_var (i := 8) rfl) (ev_op (ev_var (i := 12) rfl) (ev_if (b := decide (b1 = "out")) (et_test (ev_is (ev_op (ev_var (i := 11) rfl) ev_c (rv_eq rfl)) (congrArg V.bl (txt_eq _ _)))) (fun hO => ?_) (fun hO => ?_)) (rv_I (.inl ⟨by omega, by omega⟩))) rv_I0) fun H5 e5 => ⟨((x11.trans e3).trans e4).trans e5, some (.str a1), some (.str b1), some (.int s1), some t3, ?_⟩
          · have : valA (nmsD rs) dg sky b1 = sky := if_pos (of_decide_eq_true hO)
            rw [this]
            exact ev_var (i := 2) rfl
          · have nO := of_decide_eq_false hO
            have mb : b1 ∈ nmsD rs := hb1.resolve_right nO
            have v1 := (vb b1 mb nO).1
            refine ev_ixTi (j := (nmsD rs).idxOf b1) (ev_var (i := 1) rfl) (ev_lix (ev_var (i := 4) rfl) (e4 _ _ (e3 _ _ hR2)) (ev_var (i := 11) rfl) mb) (hxa.up (E3.trans e4)) rfl ?_
            rw [List.getElem?_map, v1]
            rfl
          · have ek : m - ((((ls.take j).filter (fromR n fr)).map shareOf).sum + s1) = m - (((ls.take j).filter (fromR n fr)).map shareOf).sum - s1 := by omega
            have ek2 : m - ((((ls.take j).filter (fromR n fr)).map shareOf).sum + shareOf (.tup [.str a1, .str b1, .int s1, n1])) = m - (((ls.take j).filter (fromR n fr)).map shareOf).sum - s1 := ek
            rw [nx1, nx2, ek2]
            rfl
        · rw [if_neg (by rw [ht]; decide), Int.add_zero] at nx1 nx2
          refine ⟨x11.trans e3, some (.str a1), some (.str b1), some (.int s1), some t3, ?_⟩
          rw [nx1, nx2]
          rfl
      · subst es
        rw [List.take_of_length_le (Nat.le_refl _)]
        have E2 := (E10.trans e11).trans x11
        refine q_forS (S := S0) (ds := hs) (its_tup (es_of (ev_ixT (j := 4) (ev_var (i := 0) rfl) (ha.up E2) rfl) ((r4.up E2).up hid0))) (fun H12 j σ3 H3 => Ex H12 H3 ∧ ∃ z10 z14 z15, σ3 = [some (.ref a), some (.ref xa), some (.int sky), some (.ref ya), some (.ref pr), some (.ref p), some (.int (i : Nat)), some (.str n), some (.int (((ls.filter (fromR n fr)).map fun x => shareOf x * valA (nmsD rs) dg sky x.oth).sum + (((hs.take j).filter (heatOf on n)).map D.gain).sum)), some (.int (m - ((ls.filter (fromR n fr)).map shareOf).sum)), z10, y11, y12, y13, z14, z15, none])
          (fun H12 e12 => ⟨Ex.refl _, y10, z14, z15, by rw [List.take_zero]; simp⟩) (fun H12 _ _ H3 _ h => hidP_ex h.1) (fun H12 j d x σ3 H3 e12 hd ⟨x12, u10, u14, u15, es⟩ rx => ?_) (fun H12 σ3 H3 e12 ⟨x12, u10, u14, u15, es⟩ => ?_)
        · subst es
          obtain ⟨n1, a1, g1, rfl, _⟩ := heat_shape (A.ha d (List.mem_of_getElem? hd))
          obtain ⟨c, t0, t1, t2, rfl, hc, g0, g1', g2⟩ := rx.t3
          obtain rfl := g0.strD
          obtain rfl := g1'.strD
          obtain rfl := g2.intD
          have E3 := (E2.trans e12).trans x12
          refine ⟨c, _, rfl, (hc.up hidP_sub).sq, rfl, _, _, rfl, _, _, rfl, _, _, rfl, rfl, ?_⟩
          have nx := sum_next (p := heatOf on n) (f := D.gain) hd
          refine s_if (b := heatOf on n (.tup [.str n1, .str a1, .int g1])) (et_is (et_and (et_test (ev_is (ev_op (ev_var (i := 10) rfl) (ev_var (i := 7) rfl) (rv_eq rfl)) (congrArg V.bl (txt_eq _ _)))) fun _ => et_test (ev_op (ev_var (i := 14) rfl) (ev_ixT (j := 0) (ev_var (i := 3) rfl) (hya.up E3) rfl) (rv_inTx (.inr (hon.up E3).rd)))) rfl) (fun ht H4 e4 => ?_) (fun ht H4 e4 => ?_)
          · rw [if_pos ht] at nx
            refine s_asg (v := .int (((ls.filter (fromR n fr)).map fun x => shareOf x * valA (nmsD rs) dg sky x.oth).sum + (((hs.take j).filter (heatOf on n)).map D.gain).sum + g1)) (ev_op (ev_var (i := 8) rfl) (ev_var (i := 15) rfl) rv_I0) fun H5 e5 => ⟨(x12.trans e4).trans e5, some (.str a1), some (.str n1), some (.int g1), ?_⟩
            rw [nx, ← Int.add_assoc]
            rfl
          · rw [if_neg (by rw [ht]; decide), Int.add_zero] at nx
            refine ⟨x12.trans e4, some (.str a1), some (.str n1), some (.int g1), ?_⟩
            rw [nx]
            rfl
        · subst es
          rw [List.take_of_length_le (Nat.le_refl _)]
          have E3 := (E2.trans e12).trans x12
          have e93 : Ex H' H3 := ((((et.trans e10).trans e11).trans x11).trans e12).trans x12
          obtain ⟨v1, v2, v3⟩ := vb n mn no
          have ix : (nmsD rs).idxOf n = i := idx_nd A.rn gn
          refine s_app (e93 _ _ hp9) (ev_var (i := 5) rfl) (ev_op (ev_op (ev_var (i := 8) rfl) (ev_op (ev_var (i := 9) rfl) (ev_ixTi (j := i) (v := .int (valA (nmsD rs) dg sky n)) (ev_var (i := 1) rfl) (ev_var (i := 6) rfl) (hxa.up E3) rfl (by rw [List.getElem?_map, ← ix, v1]; rfl)) (rv_I (.inr ⟨by omega, by omega⟩))) rv_I0) (ev_ixT (j := 2) (ev_var (i := 0) rfl) (ha.up E3) rfl) (rv_I ⟨by omega, by omega⟩)) ?_ fun H7 e7 => ⟨(x9.trans (hidP_ex (e93.trans e7))).trans (hidP_mut (show also S0 p p from .inr rfl)), ?_, _, _, _, _, _, _, _, _, _, _, rfl⟩
          · rw [List.length_map, List.length_map, List.length_take]
            omega
          · rw [step_law, upd_same, List.take_add_one, gn, List.map_append, List.map_append]
            rfl
    · subst es
      rw [show (sv (nmsD rs)).length = (nmsD rs).length from List.length_map _, List.take_of_length_le (Nat.le_refl _)] at hp9
      have el : later da dg sky on fr = (nmsD rs).map (stepAt (nmsD rs) dg sky on fr m ls hs) := by rw [A.eq]; rfl
      have back : Ex H H' := ((lift1.trans (hidP_ex e8)).trans x9).trans hidP_sub
      refine ev_var (i := 5) rfl H' (Ex.refl _) _ fun H9 e9 => ⟨p, _, rfl, .of (e9 _ _ hp9), fun p2 o np2 ho => q (.ref p2) _ ((back.trans e9).trans (Ex.new np2)) ?_⟩
      rw [el]
      exact .tup ⟨o, ho, upd_same⟩ (reps_of_ints _)
end
end Kx

set_option Elab.async false
set_option linter.all false
set_option maxRecDepth 100000
set_option maxHeartbeats 400000
namespace Kx
open PySem PySem.Spec PyProof.Rows L2 Evl
/-! ## names of heaters; some of a list -/
def spHN : Sp := fun vs H Q _ => ∃ (v : V) (da : D), vs = [v] ∧ Rep H v da ∧ da.air = true ∧ ∀ (p : Addr) (ys : List Str) (H' : Hp), H p = none → Ex H H' → ys.Perm (hN da) → sortedS ys = true → H' p = some (.lst (sv ys)) → Q (.ref p) H'
def spSome : Sp := fun vs H Q _ => ∃ (sd sg sc : Addr) (b : Nat) (l : Addr) (ss : List Str) (odds : Int), vs = [.ref sd, .ref l, .int odds] ∧ H l = some (.lst (sv ss)) ∧ l ≠ sd ∧ l ≠ sg ∧ ss.length ≤ 100 ∧ 0 < odds ∧ odds < 1000000 ∧ Sta H sd sg sc (b + ss.length) ∧
  ∀ (p : Addr) (ys : List Str) (H' : Hp), H p = none → ys.Sublist ss → H' p = some (.lst (sv ys)) → Sta H' sd sg sc b → ExS sd sg H H' → Q (.ref p) H'
theorem s_retW {te : TE} {D0 : Ends} {σ : L2.St} {H : Hp} (h : te σ H D0.rt) : tRet te D0 σ H := h
theorem cb_L {r : List V → Hp → VK → Prop} {te : TE} {σ : L2.St} {H : Hp} {Q : VK} {xs : List V} (h : EvL te σ H xs) (k : ∀ p H1, H p = none → Ex H H1 → H1 p = some (.lst xs) → r [.ref p] H1 Q) : tCB r (tCons te tNil) σ H Q := h H (Ex.refl _) _ k
section
variable {P : Program} {w : World} {K : PySem.W.Frag} {mg : Str → Option Value} {base : Heap} (T : Txt K mg)
theorem ok_hnames : FnOk P w K mg base CX0 1 T.a_law_heater_names T.d_law_heater_names ["air"] spHN := by
  refine T.F_law_heater_names.ok sc_law_heater_names (fun vs H Q E h => ?_) (fun cdv A outer s H vs Q E hr h => ?_)
  · obtain ⟨v, da, rfl, _⟩ := h
    rfl
  · obtain ⟨v, da, rfl, hv, hair, q⟩ := h
    have nd := sc_law_heater_names.nd
    refine ⟨_, (pss_one (ps_ret (pe_callB cr_sortedS (by rfl) T.z_sorted bo_sorted (pa_cons (pe_lc (own := [("row", 1)]) (g := gName 1) (tt := tYes) (by rfl) nd (pi_tup (pe_ix (r := rIxT K) ix_tup (pv 0) pe_int (fun _ _ => rfl))) (blkOk_by (N := ["air", "row"]) (sc := defScope s_law_heater_names) (by decide +kernel)) (fun _ _ _ _ _ => (pg_name (i := 1) nd rfl (.inl rfl))) (fun _ _ _ _ _ => pts_nil) (fun _ _ _ _ _ => (pe_ix (r := rIxT K) ix_tup (pv 1) pe_int (fun _ _ => rfl)))) pa_nil)))), ?_⟩
    obtain ⟨rs, ls, hs, m, lo, hi, f, mv, A⟩ := air_is hair
    rw [A.hN] at q
    rw [A.eq] at hv
    obtain ⟨a, v0, v1, v2, v3, v4, v5, rfl, ha, r0, r1, r2, r3, r4, r5⟩ := hv.t6
    obtain ⟨ra, rvs, rfl, hra, hrs⟩ := r4.tupD
    have h3 := A.h3
    refine s_retW (cb_L (el_fsts (i := 1) (σ := [some (.ref a), none]) (ev_ixT (j := 4) (ev_var (i := 0) rfl) ha rfl) hra hrs (by omega) (show 1 < 2 from by decide) (fun d hd => ?_)) fun p H1 np e1 hp => ⟨p, nmsD hs, rfl, .of hp, by unfold nmsD; rw [List.length_map]; omega, fun ys p2 pm st np2 => q p2 ys _ (fresh_back e1 np2) (e1.trans (Ex.new np2)) pm st upd_same⟩)
    obtain ⟨n, _, _, rfl, _⟩ := heat_shape (A.ha d hd)
    exact ⟨n, _, rfl⟩
theorem ok_some : FnOk P w K mg base CX0 3 T.a_law_some T.d_law_some ["state", "items", "odds"] spSome := by
  refine T.F_law_some.ok sc_law_some (fun vs H Q E h => ?_) (fun cdv A outer s H vs Q E hr h => ?_)
  · obtain ⟨sd, sg, sc, b, l, ss, odds, rfl, _⟩ := h
    rfl
  · obtain ⟨sd, sg, sc, b, l, ss, odds, rfl, hl, l1, l2, lz, o1, o2, St, q⟩ := h
    have nd := sc_law_some.nd
    refine ⟨_, (pss_one (ps_ret (pe_lc (own := [("item", 3)]) (g := gName 3)  (by rfl) nd (pi_list (pv 1)) (blkOk_by (N := ["state", "items", "odds", "item"]) (sc := defScope s_law_some) (by decide +kernel)) (fun _ _ _ _ _ => (pg_name (i := 3) nd rfl (.inl rfl))) (fun _ _ _ _ _ => (pts_one (pt_cmpR op_gt (pe_call (ok_draw T) (hr.mono (by decide)) (by rfl) T.g_law_draw T.F_law_draw.kp (b_law_draw T) .nil pass0 (pa_cons (pv 0) (pa_cons (pv 2) pa_nil))) pe_int (nomark _)))) (fun _ _ _ _ _ => (pv 3))))), ?_⟩
    have svl : (sv ss).length = ss.length := List.length_map _
    unfold tRet tLc iList
    refine ev_var (i := 1) rfl H (Ex.refl _) _ fun H1 e1 => ⟨l, rfl, ⟨sv ss, .of (e1 _ _ hl)⟩, fun p np => ?_⟩
    have St1 := St.up e1
    obtain ⟨p1, p2, p3⟩ := St1.off np
    refine ⟨fun i m H' => m = ss.length - i ∧ i ≤ ss.length ∧ Sta H' sd sg sc (b + (ss.length - i)) ∧ ExS sd sg H1 H' ∧ ∃ ys : List Str, ys.Sublist (ss.take i) ∧ H' p = some (.lst (sv ys)), ⟨ss.length, rfl, Nat.zero_le _, by rw [Nat.sub_zero]; exact St1.upd p1 p2 p3, .of (Ex.new np), [], List.nil_sublist _, upd_same⟩, ?_⟩
    rintro i m H2 ⟨rfl, hi, S2, X2, ys, sub, hp2⟩
    have hl2 : H2 l = some (.lst (sv ss)) := X2 _ _ (e1 _ _ hl) l1 l2
    by_cases lt : i < ss.length
    · have gx : (sv ss)[i]? = some (.str ss[i]) := by
        unfold sv
        rw [List.getElem?_map, List.getElem?_eq_getElem lt]
        rfl
      refine .inr ⟨⟨sv ss, .str ss[i], .of hl2, gx⟩, fun H' => i + 1 ≤ ss.length ∧ Sta H' sd sg sc (b + (ss.length - (i + 1))) ∧ ExS sd sg H1 H' ∧ ∃ ys : List Str, ys.Sublist (ss.take (i + 1)) ∧ H' p = some (.lst (sv ys)), fun H' h => ⟨_, by omega, rfl, h⟩, fun x H3 y => ?_⟩
      obtain ⟨rfl, fx⟩ := y
      have ex : x = .str ss[i] := by
        have := fx (sv ss) (.of hl2)
        rw [gx] at this
        exact (Option.some.inj this).symm
      subst ex
      have tk : ss.take (i + 1) = ss.take i ++ [ss[i]] := by rw [List.take_add_one, List.getElem?_eq_getElem lt]; rfl
      have S3 : Sta H3 sd sg sc (b + (ss.length - (i + 1)) + 1) := S2.less (by omega)
      refine ⟨rfl, ?_⟩
      unfold tTest tOp tCall
      refine ea_cons (σ := [some (.ref sd), some (.ref l), some (.int odds), some (.str ss[i])]) (ev_var (i := 0) rfl) (ea_cons (ev_var (i := 2) rfl) ea_nil) H3 (Ex.refl _) _ fun H4 e4 => ⟨sd, sg, sc, _, odds, rfl, o1, o2, S3.up e4, fun z H5 z1 z2 S5 X5 => ?_⟩
      refine ⟨z, 0, rfl, rfl, decide (z > 0), rfl, ?_⟩
      have X6 := (X2.trans (ExS.of e4)).trans X5
      have hp5 : H5 p = some (.lst (sv ys)) := X5 _ _ (e4 _ _ hp2) p1 p2
      cases hz : decide (z > 0) with
      | false =>
        show (if false = true then _ else _)
        rw [if_neg (by decide)]
        exact ⟨lt, S5, X6, ys, by rw [tk]; exact sub.trans (List.sublist_append_left _ _), hp5⟩
      | true =>
        show (if true = true then _ else _)
        rw [if_pos rfl]
        have yl : ys.length ≤ ss.length := Nat.le_trans sub.length_le (by rw [List.length_take]; omega)
        refine ev_var (i := 3) (v := .str ss[i]) rfl H5 (Ex.refl _) _ fun H6 e6 => ⟨sv ys, e6 _ _ hp5, sz_lt (by unfold sv; rw [List.length_map]; omega), lt, (S5.up e6).upd p1 p2 p3, ?_, ys ++ [ss[i]], by rw [tk]; exact sub.append (List.Sublist.refl _), ?_⟩
        · exact fun a o h n m => (upd_ne fun z => by rw [z] at h; exact absurd (h.symm.trans np) (by simp)).trans ((X6.trans (ExS.of e6)) a o h n m)
        · rw [upd_same]
          unfold sv
          rw [List.map_append]
          rfl
    · have ei : i = ss.length := by omega
      subst ei
      rw [List.take_of_length_le (Nat.le_refl _)] at sub
      exact .inl ⟨⟨sv ss, .of hl2, by rw [svl]; exact Nat.le_refl _⟩, q p ys H2 (fresh_back e1 np) sub hp2 (S2.less (by omega)) ((ExS.of e1).trans X2)⟩
end
end Kx

set_option Elab.async false
set_option linter.all false
set_option maxRecDepth 100000
set_option maxHeartbeats 400000
namespace Kx
open PySem PySem.Spec PyProof.Rows L2 Evl
theorem nil_shaped : SeqAt.shaped (.list []) = true := iv_shaped []
/-! ## data as the interpreter compares them -/
mutual
def D.pyd : D → PyData
  | .int i => .int i
  | .str s => .str s
  | .tup ds => .tuple (pyds ds)
  | .lst ds => .list (pyds ds)
  | .bl b => .bool b
  | .non => .none
  | .dic => .none
def pyds : List D → List PyData
  | [] => []
  | d :: r => d.pyd :: pyds r
end
mutual
def D.pk : D → Bool
  | .str s => PyData.strOk s
  | .tup ds => pks ds
  | .lst ds => pks ds
  | .dic => false
  | .int _ => true
  | .bl _ => true
  | .non => true
def pks : List D → Bool
  | [] => true
  | d :: r => d.pk && pks r
end
mutual
def D.deep : D → Nat
  | .tup ds => deeps ds + 1
  | .lst ds => deeps ds + 1
  | .str _ => 0
  | .dic => 0
  | .int _ => 0
  | .bl _ => 0
  | .non => 0
def deeps : List D → Nat
  | [] => 0
  | d :: r => max d.deep (deeps r)
end
theorem pks_iff : ∀ {ds : List D}, pks ds = true ↔ ∀ d ∈ ds, d.pk = true
  | [] => ⟨fun _ d h => (by cases h), fun _ => by unfold pks; rfl⟩
  | x :: r => by
    unfold pks
    rw [Bool.and_eq_true, pks_iff (ds := r)]
    exact ⟨fun ⟨a, b⟩ d hd => (List.mem_cons.mp hd).elim (fun e => e ▸ a) (b d), fun h => ⟨h x List.mem_cons_self, fun d hd => h d (List.mem_cons_of_mem _ hd)⟩⟩
theorem deeps_le {n : Nat} : ∀ {ds : List D}, (∀ d ∈ ds, d.deep ≤ n) → deeps ds ≤ n
  | [], _ => by unfold deeps; exact Nat.zero_le _
  | x :: r, h => by
    have a := h x List.mem_cons_self
    have b := deeps_le (ds := r) fun d hd => h d (List.mem_cons_of_mem _ hd)
    unfold deeps
    omega
mutual
theorem dp_pyd {K : PySem.W.Frag} {H : Hp} : ∀ (d : D) (v : V), d.pk = true → Rep H v d → Dp K H v d.pyd
  | .int i, _, _, .int _ => by unfold D.pyd; exact .int i
  | .str s, _, _, .str _ => by unfold D.pyd; exact .str s
  | .non, _, _, .non => by unfold D.pyd; exact .non
  | .bl b, _, _, .bl _ => by unfold D.pyd; exact .bl b
  | .tup ds, _, h, .tup t r => by
    unfold D.pyd
    exact .tup t.sq (dp_pyds ds _ (by unfold D.pk at h; exact h) r)
  | .lst ds, _, h, .lst t r => by
    unfold D.pyd
    exact .lst (.of t) (dp_pyds ds _ (by unfold D.pk at h; exact h) r)
  | .dic, _, h, _ => by unfold D.pk at h; cases h
theorem dp_pyds {K : PySem.W.Frag} {H : Hp} : ∀ (ds : List D) (vs : List V), pks ds = true → Reps H vs ds → DpAll K H vs (pyds ds)
  | [], _, _, .nil => by unfold pyds; exact .nil
  | d :: ds, _, h, .cons r t => by
    unfold pks at h
    rw [Bool.and_eq_true] at h
    unfold pyds
    exact .cons (dp_pyd d _ h.1 r) (dp_pyds ds _ h.2 t)
end
mutual
theorem pyd_same : ∀ d : D, PyData.eqv d.pyd d.pyd = true
  | .int i => by simp [D.pyd, PyData.eqv]
  | .str s => by simp [D.pyd, PyData.eqv]
  | .non => by simp [D.pyd, PyData.eqv]
  | .dic => by simp [D.pyd, PyData.eqv]
  | .bl b => by simp [D.pyd, PyData.eqv]
  | .tup ds => by
    unfold D.pyd
    simp only [PyData.eqv]
    exact pyds_same ds
  | .lst ds => by
    unfold D.pyd
    simp only [PyData.eqv]
    exact pyds_same ds
theorem pyds_same : ∀ ds : List D, PyData.eqvAll (pyds ds) (pyds ds) = true
  | [] => by simp [pyds, PyData.eqvAll]
  | d :: r => by
    unfold pyds
    simp only [PyData.eqvAll, pyd_same d, pyds_same r, Bool.and_self]
end
mutual
theorem pyd_lay : ∀ d : D, d.pk = true → d.pyd.canLay0 = true
  | .int i, _ => by simp [D.pyd, PyData.canLay0]
  | .non, _ => by simp [D.pyd, PyData.canLay0]
  | .bl b, _ => by simp [D.pyd, PyData.canLay0]
  | .str s, h => by
    unfold D.pk at h
    simp only [D.pyd, PyData.canLay0, h]
  | .tup ds, h => by
    unfold D.pk at h
    unfold D.pyd
    simp only [PyData.canLay0]
    exact pyds_lay ds h
  | .lst ds, h => by
    unfold D.pk at h
    unfold D.pyd
    simp only [PyData.canLay0]
    exact pyds_lay ds h
  | .dic, h => by unfold D.pk at h; cases h
theorem pyds_lay : ∀ ds : List D, pks ds = true → PyData.canLayAll0 (pyds ds) = true
  | [], _ => by simp [pyds, PyData.canLayAll0]
  | d :: r, h => by
    unfold pks at h
    rw [Bool.and_eq_true] at h
    unfold pyds
    simp only [PyData.canLayAll0, pyd_lay d h.1, pyds_lay r h.2, Bool.and_self]
end
mutual
theorem pyd_dep : ∀ d : D, d.pyd.depth ≤ d.deep
  | .int i => by simp [D.pyd, PyData.depth]
  | .non => by simp [D.pyd, PyData.depth]
  | .bl b => by simp [D.pyd, PyData.depth]
  | .str s => by simp [D.pyd, PyData.depth]
  | .dic => by simp [D.pyd, PyData.depth]
  | .tup ds => by
    have := pyds_dep ds
    unfold D.pyd D.deep
    simp only [PyData.depth]
    omega
  | .lst ds => by
    have := pyds_dep ds
    unfold D.pyd D.deep
    simp only [PyData.depth]
    omega
theorem pyds_dep : ∀ ds : List D, PyData.depthAll (pyds ds) ≤ deeps ds
  | [] => by simp [pyds, PyData.depthAll]
  | d :: r => by
    have := pyd_dep d
    have := pyds_dep r
    unfold pyds deeps
    simp only [PyData.depthAll]
    omega
end
theorem pyd_shaped {d : D} (h : d.pk = true) (hd : d.deep ≤ 64) : SeqAt.shaped d.pyd = true := by
  show (PyData.canLay0 d.pyd && decide (PyData.depth d.pyd ≤ 64)) = true
  rw [Bool.and_eq_true]
  exact ⟨pyd_lay d h, decide_eq_true (Nat.le_trans (pyd_dep d) hd)⟩
theorem pyds_nil (ds : List D) : PyData.eqv (D.lst ds).pyd (.list []) = ds.isEmpty := by
  unfold D.pyd
  cases ds <;> simp [pyds, PyData.eqv, PyData.eqvAll]
/-- small enough and plain -/
structure Pln (d : D) : Prop where
  pk : d.pk = true
  dp : d.deep ≤ 60
theorem Pln.sh {d : D} (h : Pln d) : SeqAt.shaped d.pyd = true := pyd_shaped h.pk (Nat.le_trans h.dp (by decide))
theorem pln_lst {n : Nat} {ds : List D} (hn : n ≤ 59) (h : ∀ d ∈ ds, d.pk = true ∧ d.deep ≤ n) : Pln (.lst ds) := ⟨by unfold D.pk; exact pks_iff.mpr fun d hd => (h d hd).1, by
  have := deeps_le fun d hd => (h d hd).2
  unfold D.deep
  omega⟩
theorem pln_tup {n : Nat} {ds : List D} (hn : n ≤ 59) (h : ∀ d ∈ ds, d.pk = true ∧ d.deep ≤ n) : Pln (.tup ds) := ⟨by unfold D.pk; exact pks_iff.mpr fun d hd => (h d hd).1, by
  have := deeps_le fun d hd => (h d hd).2
  unfold D.deep
  omega⟩
theorem leaf_str {s : Str} (h : PyData.strOk s = true) : (D.str s).pk = true ∧ (D.str s).deep ≤ 0 := ⟨by unfold D.pk; exact h, by unfold D.deep; exact Nat.le_refl _⟩
theorem leaf_int (i : Int) : (D.int i).pk = true ∧ (D.int i).deep ≤ 0 := ⟨by unfold D.pk; rfl, by unfold D.deep; exact Nat.le_refl _⟩
theorem row_lst {ss : List Str} (h : ∀ s ∈ ss, PyData.strOk s = true) : (D.lst (ss.map D.str)).pk = true ∧ (D.lst (ss.map D.str)).deep ≤ 1 := by
  constructor
  · unfold D.pk
    exact pks_iff.mpr fun d hd => by
      obtain ⟨s, hs, rfl⟩ := List.mem_map.mp hd
      exact (leaf_str (h s hs)).1
  · have := deeps_le (n := 0) (ds := ss.map D.str) fun d hd => by
      obtain ⟨s, hs, rfl⟩ := List.mem_map.mp hd
      exact (leaf_str (h s hs)).2
    unfold D.deep
    omega
theorem row_tup {ss : List Str} (h : ∀ s ∈ ss, PyData.strOk s = true) : (D.tup (ss.map D.str)).pk = true ∧ (D.tup (ss.map D.str)).deep ≤ 1 := by
  have := row_lst h
  unfold D.pk D.deep at this ⊢
  exact this
section
variable {K : PySem.W.Frag} {S : Addr → Prop} {σ : L2.St} {H H' : Hp} {te tb : TE} {d : D} {ds : List D}
theorem ev_eqS (h1 : EvS S te σ H d) (h2 : EvS S tb σ H d) (p : Pln d) : Ev (tOp (rEqD K) te tb) σ H (.bl true) := fun H1 e Q q =>
  h1 H1 e _ fun v H2 e2 r => h2 H2 (e.trans e2) _ fun u H3 e3 r2 => ⟨d.pyd, d.pyd, dp_pyd d _ p.pk ((r.up (hidP_ex e3)).up hidP_sub), dp_pyd d _ p.pk (r2.up hidP_sub), p.sh, p.sh, by rw [pyd_same]; exact q H3 (e2.trans e3)⟩
theorem ev_neS (h1 : EvS S te σ H d) (h2 : EvS S tb σ H d) (p : Pln d) : Ev (tOp (rNeD K) te tb) σ H (.bl false) := fun H1 e Q q =>
  h1 H1 e _ fun v H2 e2 r => h2 H2 (e.trans e2) _ fun u H3 e3 r2 => ⟨d.pyd, d.pyd, dp_pyd d _ p.pk ((r.up (hidP_ex e3)).up hidP_sub), dp_pyd d _ p.pk (r2.up hidP_sub), p.sh, p.sh, by rw [pyd_same]; exact q H3 (e2.trans e3)⟩
theorem ev_neNilS (h1 : EvS S te σ H (.lst ds)) (p : Pln (.lst ds)) : Ev (tOp (rNeD K) te (tLst tNil)) σ H (.bl (!ds.isEmpty)) := fun H1 e Q q =>
  h1 H1 e _ fun v H2 e2 r => ⟨Nat.zero_le _, fun l nl => ⟨(D.lst ds).pyd, .list [], dp_pyd _ _ p.pk ((r.up hidP_sub).up (Ex.new nl)), .lst (.of upd_same) .nil, p.sh, nil_shaped, by rw [pyds_nil]; exact q _ (e2.trans (Ex.new nl))⟩⟩
theorem ev_eqNilS (h1 : EvS S te σ H (.lst ds)) (p : Pln (.lst ds)) : Ev (tOp (rEqD K) te (tLst tNil)) σ H (.bl ds.isEmpty) := fun H1 e Q q =>
  h1 H1 e _ fun v H2 e2 r => ⟨Nat.zero_le _, fun l nl => ⟨(D.lst ds).pyd, .list [], dp_pyd _ _ p.pk ((r.up hidP_sub).up (Ex.new nl)), .lst (.of upd_same) .nil, p.sh, nil_shaped, by rw [pyds_nil]; exact q _ (e2.trans (Ex.new nl))⟩⟩
/-- not in a list that has it -/
theorem ev_niS (h1 : EvS S te σ H d) (h2 : EvS S tb σ H (.lst ds)) (m : d ∈ ds) (p : Pln (.lst ds)) (pd : Pln d) : Ev (tOp (rNotInD K) te tb) σ H (.bl false) := fun H1 e Q q =>
  h1 H1 e _ fun v H2 e2 r => h2 H2 (e.trans e2) _ fun u H3 e3 r2 => ⟨d.pyd, pyds ds, dp_pyd d _ pd.pk ((r.up (hidP_ex e3)).up hidP_sub), by have := dp_pyd (K := K) _ _ p.pk (r2.up hidP_sub); unfold D.pyd at this; exact this, pd.sh, by have := p.sh; unfold D.pyd at this; exact this, by
    have : ((pyds ds).any fun z => PyData.eqv z d.pyd) = true := by
      have gen : ∀ {ds : List D}, d ∈ ds → ((pyds ds).any fun z => PyData.eqv z d.pyd) = true := fun {ds} m => by
        induction ds with
        | nil => cases m
        | cons x r ih =>
          unfold pyds
          rw [List.any_cons]
          rcases List.mem_cons.mp m with e | m
          · rw [← e, pyd_same]
            rfl
          · rw [ih m, Bool.or_true]
      exact gen m
    rw [this]
    exact q H3 (e2.trans e3)⟩
theorem es_listOf (hin : InS S H) (h : EvS S te σ H (.lst ds)) : EvS S (tCB (rListS K) (tCons te tNil)) σ H (.lst ds) := fun H1 e Q q => h H1 e _ fun v H2 e2 r => by
  cases r with
  | @lst p vs _ hp rs => exact ⟨p, vs, rfl, .inl (.of (hidP_get hp).1), fun l hl => q (.ref l) _ (e2.trans (Ex.new hl)) (.lst (hidP_at upd_same ((hin.up (e.trans e2)).new hl)) (rs.up (hidP_ex (Ex.new hl))))⟩
/-- a, b = x, y -/
theorem s_twoS {D0 : Ends} {tz : TS} {ta : TA} {i j : Nat} {d1 d2 : D} (hin : InS S H) (h : EvAS S ta σ H [d1, d2]) (k : ∀ v1 v2 H1, Ex H H1 → RepS S H1 v1 d1 → RepS S H1 v2 d2 → tz D0 ((σ.set i (some v1)).set j (some v2)) H1) : tSeq (tAsg (tTupF ta) (gTup K 2 (gCons (gName i) (gCons (gName j) gNil)))) tz D0 σ H :=
  es_tup hin h (by show 2 ≤ 100000; decide) H (Ex.refl _) _ fun v H1 e r => g_pair r fun v1 v2 r1 r2 => k v1 v2 H1 e r1 r2
end
end Kx

set_option Elab.async false
set_option linter.all false
set_option maxRecDepth 100000
set_option maxHeartbeats 400000
namespace Kx
open PySem PySem.Spec PyProof.Rows L2 Evl
/-! ## data in a drawn order -/
def stS (sd sg : Addr) : Addr → Prop := fun a => a = sd ∨ a = sg
theorem hidP_exs {sd sg : Addr} {H H' : Hp} (e : ExS sd sg H H') : Ex (hidP (stS sd sg) H) (hidP (stS sd sg) H') := fun a o h => by
  obtain ⟨h1, h2⟩ := hidP_get h
  exact hidP_at (e a o h1 (fun z => h2 (.inl z)) fun z => h2 (.inr z)) h2
theorem Sta.inS {H : Hp} {sd sg sc : Addr} {b : Nat} (s : Sta H sd sg sc b) : InS (stS sd sg) H := fun a ha n => by
  obtain ⟨gs, cs, r, t, w, _, _⟩ := s
  rcases ha with rfl | rfl
  · rw [w.d] at n; cases n
  · rw [w.g] at n; cases n
theorem repS_tp {S : Addr → Prop} {H : Hp} {v : V} {d : D} (r : Rep H v d) (im : d.imm = true) (h : ∀ a, S a → ∀ o xs, H a ≠ some (.frz o (.tup xs))) : RepS S H v d := r.monoT (fun a o xs e => hidP_at e fun s => h a s o xs e) _ _ im
theorem Sta.rep {H : Hp} {sd sg sc : Addr} {b : Nat} {v : V} {d : D} (s : Sta H sd sg sc b) (r : Rep H v d) (im : d.imm = true) : RepS (stS sd sg) H v d := repS_tp r im fun a ha o xs e => by
  obtain ⟨gs, cs, rr, t, w, _, _⟩ := s
  rcases ha with rfl | rfl
  · rw [w.d] at e; cases e
  · rw [w.g] at e; cases e
theorem erase_perm {α : Type} : ∀ (l : List α) (k : Nat) (h : k < l.length), (l[k] :: l.eraseIdx k).Perm l
  | x :: l, 0, h => .refl _
  | x :: l, k + 1, h => (List.Perm.swap x _ _).trans ((erase_perm l k (Nat.lt_of_succ_lt_succ h)).cons x)
/-- a value stands for something plain, apart from the state -/
def PlV (sd sg : Addr) (H : Hp) (v : V) : Prop := ∃ d, RepS (stS sd sg) H v d ∧ d.pk = true ∧ d.deep ≤ 50
theorem PlV.up {sd sg : Addr} {H H' : Hp} {v : V} (h : PlV sd sg H v) (e : ExS sd sg H H') : PlV sd sg H' v := let ⟨d, r, p⟩ := h; ⟨d, r.up (hidP_exs e), p⟩
theorem plv_list {sd sg : Addr} {H : Hp} : ∀ {vs : List V}, (∀ v ∈ vs, PlV sd sg H v) → ∃ ds, RepsS (stS sd sg) H vs ds ∧ ∀ d ∈ ds, d.pk = true ∧ d.deep ≤ 50
  | [], _ => ⟨[], .nil, fun d h => nomatch h⟩
  | v :: r, h => by
    obtain ⟨d, rd, pd⟩ := h v List.mem_cons_self
    obtain ⟨ds, rs, ps⟩ := plv_list (vs := r) fun u hu => h u (List.mem_cons_of_mem _ hu)
    exact ⟨d :: ds, .cons rd rs, fun x hx => (List.mem_cons.mp hx).elim (fun e => e ▸ pd) (ps x)⟩
section
variable {K : PySem.W.Frag} {σ : L2.St} {H : Hp} {te : TE}
theorem et_neNilD {sd sg a : Addr} {vs : List V} (h : Ev te σ H (.ref a)) (ha : H a = some (.lst vs)) (n1 : a ≠ sd) (n2 : a ≠ sg) (ok : ∀ v ∈ vs, PlV sd sg H v) : EvT (tTest (tOp (rNeD K) te (tLst tNil))) σ H (!vs.isEmpty) := by
  obtain ⟨ds, rs, ps⟩ := plv_list ok
  have r : RepS (stS sd sg) H (.ref a) (.lst ds) := .lst (hidP_at ha fun z => z.elim n1 n2) rs
  have e : vs.isEmpty = ds.isEmpty := by
    have := rs.length
    cases vs <;> cases ds <;> first | rfl | (simp at this)
  rw [e]
  exact et_test (ev_neNilS (es_of h r) (pln_lst (n := 50) (by decide) ps))
end
def spShufD : Sp := fun vs H Q _ => ∃ (sd sg sc : Addr) (b : Nat) (l : Addr) (ss : List V), vs = [.ref sd, .ref l] ∧ H l = some (.lst ss) ∧ ss.length ≤ 100 ∧ (∀ v ∈ ss, PlV sd sg H v) ∧ Sta H sd sg sc (b + ss.length) ∧
  ∀ (p : Addr) (ts : List V) (H' : Hp), H p = none → H' p = some (.lst ts) → ts.Perm ss → Sta H' sd sg sc b → ExS sd sg H H' → Q (.ref p) H'
section
variable {P : Program} {w : World} {K : PySem.W.Frag} {mg : Str → Option Value} {base : Heap} (T : Txt K mg)
theorem ok_shufD : FnOk P w K mg base CX0 3 T.a_law_shuffled T.d_law_shuffled ["state", "some"] spShufD := by
  refine T.F_law_shuffled.ok sc_law_shuffled (fun vs H Q E h => ?_) (fun cdv A outer s H vs Q E hr h => ?_)
  · obtain ⟨sd, sg, sc, b, l, ss, rfl, _⟩ := h
    rfl
  · obtain ⟨sd, sg, sc, b, l, ss, rfl, hl, l100, sok, hS, q⟩ := h
    have nd := sc_law_shuffled.nd
    have hu4 : (A.deeper (envOfC "_law_shuffled" (defScope s_law_shuffled) s.heap.objs.size T.a_law_shuffled cdv)).units + 64 < cLine := by have := hr.un; omega
    refine ⟨_, (pss_cons (ps_par (i := 2) (j := 3) rfl nd rfl rfl (by decide) rfl rfl (pa_cons (pe_callTy call_list_of (by rfl) T.z_list bo_list (pa_cons (pv 1) pa_nil)) (pa_cons (pe_lst pa_nil) pa_nil)) (by rfl))
      (pss_cons (ps_while PassesOwn.never (pt_cmpR (op_neD hu4) (pv 2) (pe_lst pa_nil) (nomark _)) (pss_one (ps_expr (pe_bm PySem.F.plainAttrs_list PySem.F.slot_list_append PySem.F.type_list_append mt_append (pv 3) (pa_cons (pe_bm PySem.F.plainAttrs_list PySem.F.slot_list_pop PySem.F.type_list_pop mt_popAt (pv 2) (pa_cons (pe_call (ok_draw T) (hr.mono (by decide)) (by rfl) T.g_law_draw T.F_law_draw.kp (b_law_draw T) .nil pass0 (pa_cons (pv 0) (pa_cons (pe_callB call_len_seq (by rfl) T.z_len bo_len (pa_cons (pv 2) pa_nil)) pa_nil))) pa_nil)) pa_nil)))))
      (pss_one (ps_ret (pv 3))))), ?_⟩
    refine ⟨.ref l, rfl, l, ss, rfl, .inl (.of hl), fun p np => ⟨Nat.zero_le _, fun r nr => ⟨.ref p, .ref r, rfl, ?_⟩⟩⟩
    have hp : upd H p (.lst (ss)) p = some (.lst (ss)) := upd_same
    have rp : r ≠ p := fun e => by rw [e, hp] at nr; cases nr
    have E1 : Ex H (upd (upd H p (.lst (ss))) r (.lst [])) := (Ex.new np).trans (Ex.new nr)
    have S1 := hS.up E1
    have nrH : H r = none := fresh_back (Ex.new np) nr
    obtain ⟨p1, p2, p3⟩ := hS.off np
    obtain ⟨r1, r2, r3⟩ := hS.off nrH
    have hp1 : upd (upd H p (.lst (ss))) r (.lst []) p = some (.lst (ss)) := (upd_ne (Ne.symm rp)).trans hp
    have hr1 : upd (upd H p (.lst (ss))) r (.lst []) r = some (.lst []) := upd_same
    generalize upd (upd H p (.lst (ss))) r (.lst []) = H1 at E1 S1 hp1 hr1
    refine q_while (σ := [some (.ref sd), some (.ref l), some (.ref p), some (.ref r)]) (fun m σ' H' => ∃ left found : List V, m = left.length ∧ σ' = [some (.ref sd), some (.ref l), some (.ref p), some (.ref r)] ∧ H' p = some (.lst (left)) ∧ H' r = some (.lst (found)) ∧ (found ++ left).Perm ss ∧ Sta H' sd sg sc (b + left.length) ∧ ExS sd sg H H') ss.length
      ⟨ss, [], rfl, rfl, hp1, hr1, .refl _, S1, .of E1⟩ fun m σ' H' ⟨left, found, em, es, hp', hr', pm, S', X'⟩ => ?_
    subst es em
    have lok : ∀ v ∈ left, PlV sd sg H' v := fun v hs => (sok v (pm.mem_iff.mp (List.mem_append_right _ hs))).up X'
    have ll : (found ++ left).length = ss.length := pm.length_eq
    rw [List.length_append] at ll
    refine ⟨!left.isEmpty, et_neNilD (ev_var rfl) hp' p1 p2 lok, fun hb H2 e2 => ?_, fun hb H2 e2 => ?_⟩
    · have lpos : 0 < left.length := by
        cases left with
        | nil => cases hb
        | cons _ _ => exact Nat.zero_lt_succ _
      refine ⟨fun σ2 H3 => ∃ left' found' : List V, left'.length + 1 = left.length ∧ σ2 = [some (.ref sd), some (.ref l), some (.ref p), some (.ref r)] ∧ H3 p = some (.lst (left')) ∧ H3 r = some (.lst (found')) ∧ (found' ++ left').Perm ss ∧ Sta H3 sd sg sc (b + left'.length) ∧ ExS sd sg H H3, fun σ2 H3 ⟨left', found', ll, es, a1, a2, a3, a4, a5⟩ => ⟨left'.length, by omega, left', found', rfl, es, a1, a2, a3, a4, a5⟩, ?_⟩
      refine ⟨.ref r, rfl, .inl ⟨rfl, _, .of (e2 _ _ hr')⟩, .ref p, rfl, .inl ⟨rfl, _, .of (e2 _ _ hp')⟩, .ref sd, rfl, .ref p, rfl, p, left, rfl, .inl (.of (e2 _ _ hp')), sd, sg, sc, b + (left.length - 1), (left).length, rfl, by omega, by omega, (S'.up e2).less (by omega), fun z H3 z0 zl S3 X3 => ?_⟩
      obtain ⟨k, rfl⟩ : ∃ k : Nat, z = (k : Int) := ⟨z.toNat, by omega⟩
      have kl : k < left.length := by omega
      have hp3 := X3 _ _ (e2 _ _ hp') p1 p2
      have hr3 := X3 _ _ (e2 _ _ hr') r1 r2
      refine ⟨p, left, (k : Int), k, left[k], rfl, rfl, hp3, by omega, by omega, by unfold seqIndex?; simp; omega, List.getElem?_eq_getElem kl, r, found, left[k], rfl, rfl, (upd_ne rp).trans hr3, sz_lt (by omega), left.eraseIdx k, found ++ [left[k]], ?_, rfl, ?_, ?_, ?_, ?_, ?_⟩
      · rw [List.length_eraseIdx_of_lt kl]
        omega
      · rw [upd_ne (Ne.symm rp), upd_same]
      · rw [upd_same]
      · refine List.Perm.trans ?_ pm
        rw [List.append_assoc]
        exact List.Perm.append_left _ (erase_perm left k kl)
      · rw [List.length_eraseIdx_of_lt kl]
        exact (S3.upd p1 p2 p3).upd r1 r2 r3
      · exact fun a o h n m => (upd_ne (ne_of_none h nrH)).trans ((upd_ne (ne_of_none h np)).trans ((X'.trans ((ExS.of e2).trans X3)) a o h n m))
    · have nil : left = [] := by
        cases left with
        | nil => rfl
        | cons _ _ => cases hb
      subst nil
      rw [List.append_nil] at pm
      exact s_ret (v := .ref r) (ev_var rfl) fun H3 e3 => q r found H3 nrH (e3 _ _ (e2 _ _ hr')) pm ((S'.up (e2.trans e3)).less (by omega)) (X'.trans (.of (e2.trans e3)))
end
end Kx

set_option Elab.async false
set_option linter.all false
set_option maxRecDepth 100000
set_option maxHeartbeats 1000000
namespace Kx
open PySem PySem.Spec PyProof.Rows L2 Evl
/-! ## sorted(set(xs)), xs texts -/
def wordOf : Value → Str
  | .str k _ => k
  | _ => Str.empty
def Worded (w : World) (r : Int × Value) : Prop := ∃ k tk, r = (hashStr w k, Value.str k tk)
abbrev wordsIn (es : Array (Int × Value)) : List Str := es.toList.map fun r => wordOf r.2
/-- a set of just these texts whose table can be gone through -/
def Words (w : World) (h : Heap) (a : Addr) (ks : List Str) : Prop :=
  ∃ (o : Obj) (es : Array (Int × Value)) (ep : Nat) (tb : SetTable), (h.get? a = some o ∧ o.ExactSet ∧ o.data = .set es ep tb) ∧ (∀ r ∈ es.toList, Worded w r) ∧ (wordsIn es).Perm ks ∧ ks.Nodup ∧ es.size < scanBound ∧ (tb.fits es.size = true ∧ Ris tb.place.toList ∧ (w.params.followText "set-order" = true ∨ tb.led = true))
theorem Words.at {w : World} {h h' : Heap} {a : Addr} {ks : List Str} (x : Words w h a ks) (e : ∀ o, h.get? a = some o → h'.get? a = some o) : Words w h' a ks := match x with
  | ⟨o, es, ep, tb, ⟨h1, h2⟩, more⟩ => ⟨o, es, ep, tb, ⟨e o h1, h2⟩, more⟩
section
variable {P : Program} {w : World} {A : Around} {E : Value → Shared → Prop} {s : Shared} {a : Addr} {ks : List Str}
theorem worded_elems {l : List (Int × Value)} (g : ∀ r ∈ l, Worded w r) : ElemsOf (PySem.strKind P w) l := fun r hr => by
  obtain ⟨k, tk, rfl⟩ := g r hr
  exact ⟨⟨k, strKind_is P w k tk, rfl⟩, rfl⟩
theorem worded_is {r : Int × Value} (g : Worded w r) (k : Str) : (PySem.strKind P w).is k r.2 = true ↔ wordOf r.2 = k := by
  obtain ⟨k0, tk, rfl⟩ := g
  exact ⟨fun z => (Value.isStrOf_inj (Value.str k0 tk) k0 k (strKind_is P w k0 tk) z : k0 = k), fun z => by subst z; exact strKind_is P w _ tk⟩
theorem worded_mem {l : List (Int × Value)} (g : ∀ r ∈ l, Worded w r) (k : Str) : (k ∈ l.map fun r => wordOf r.2) ↔ ∃ r ∈ l, (PySem.strKind P w).is k r.2 = true := List.mem_map.trans ⟨fun ⟨r, h1, h2⟩ => ⟨r, h1, (worded_is (g r h1) k).mpr h2⟩, fun ⟨r, h1, h2⟩ => ⟨r, h1, (worded_is (g r h1) k).mp h2⟩⟩
/-- what is stored is such a set, also where its table is laid anew -/
theorem words_store {g : Bool → Sem Unit} (quiet : ∀ b u (Z : Unit → Shared → Prop), Z () u → wpAny (model P w) A (g b) Z E u) {o : Obj} {es es1 : Array (Int × Value)} {ep : Nat} {tb t2 : SetTable} (ho : s.heap.get? a = some o) (hx : o.ExactSet) (hd : o.data = .set es ep tb)
    (rows : ∀ r ∈ es1.toList, Worded w r) (pm : (wordsIn es1).Perm ks) (nd : ks.Nodup) (few : es1.size < scanBound) (fit : t2.fits es1.size = true) (ris : Ris t2.place.toList) (led : w.params.followText "set-order" = true ∨ t2.led = true) {was : Bool} {R : Option Bool → Shared → Prop}
    (fin : ∀ h', Heap.SameBut a s.heap h' → Words w h' a ks → R (some true) { s with heap := h' }) :
    wpAny (model P w) A (storeSet a es1 t2 >>= fun _ => if (!was && t2.tooFull) = true then (do g (relayAll t2 es1 (SetTable.grown es1.size)).2.2; storeSet a (relayAll t2 es1 (SetTable.grown es1.size)).1 (relayAll t2 es1 (SetTable.grown es1.size)).2.1; pure (some true)) else pure (some true)) R E s := by
  apply wpAny_bind
  refine wpAny_storeSet_of ho hd ?_ (fits_of_scanBound few)
  have o1 := store_at (es' := es1) (t' := t2) ho hd
  have same1 := Heap.SameBut.update s.heap a (Obj.putSet es1 t2)
  by_cases full : (!was && t2.tooFull) = true
  · rw [if_pos full]
    have p2 := relayAll_perm t2 es1 (SetTable.grown es1.size)
    have f2 := relayAll_fits t2 es1 (SetTable.grown es1.size)
    have r2 := relayAll_ris t2 es1 (SetTable.grown es1.size)
    have l2 := relayAll_led t2 es1 (SetTable.grown es1.size)
    generalize relayAll t2 es1 (SetTable.grown es1.size) = Y at p2 f2 r2 l2 ⊢
    match Y, p2, f2, r2, l2 with
    | (es2, t3, gave), p2, f2, r2, l2 =>
      have many : es2.size = es1.size := by simpa using p2.length_eq
      apply wpAny_bind
      apply quiet
      apply wpAny_bind
      refine wpAny_storeSet_of o1 rfl ?_ (fits_of_scanBound (many ▸ few))
      exact wpAny_pure (fin _ (same1.trans (Heap.SameBut.update _ a _)) ⟨_, es2, _, t3, ⟨store_at (es' := es2) (t' := t3) o1 rfl, hx, rfl⟩, fun r hr => rows r (p2.mem_iff.mp hr), (p2.map _).trans pm, nd, many ▸ few, f2, r2, led.imp id fun z => l2.trans z⟩)
  · rw [if_neg full]
    exact wpAny_pure (fin _ same1 ⟨_, es1, _, t2, ⟨o1, hx, rfl⟩, rows, pm, nd, few, fit, ris, led⟩)
theorem quiet_way (b : Bool) (u : Shared) (Z : Unit → Shared → Prop) (z : Z () u) : wpAny (model P w) A (match b with | true => rule "set.scan.the-table-gave-way" | false => pure ()) Z E u := by
  cases b with
  | true => exact wpAny_rule z
  | false => exact wpAny_pure z
theorem words_add {k : Str} {tk : Tok} {Q : Bool → Shared → Prop} (R : Words w s.heap a ks) (room : ks.length + 1 < scanBound) (q1 : k ∈ ks → Q false s) (q2 : k ∉ ks → ∀ h', Heap.SameBut a s.heap h' → Words w h' a (ks ++ [k]) → Q true { s with heap := h' }) :
    wpAny (model P w) A (setAddHashed a (.str k tk) (hashStr w k)) Q E s := by
  obtain ⟨o, es, ep, tb, ⟨ho, hx, hd⟩, rows, pm, nd, few, fit, ris, led⟩ := R
  have key : (PySem.strKind P w).is k (.str k tk) = true := strKind_is P w k tk
  have scan : (Value.str k tk).scannable = true := rfl
  have els : ElemsOf (PySem.strKind P w) es.toList := worded_elems rows
  have many : es.size = ks.length := by simpa using pm.length_eq
  show wpAny (model P w) A (setAddHashed a (.str k tk) ((PySem.strKind P w).hash k)) Q E s
  unfold setAddHashed setAddHashedIn
  apply wpAny_holding
  apply wpAny_bind
  refine wpAny_setState_of ho hd fit ?_
  dsimp only
  rw [byScan_of scan few els]
  simp only [if_true]
  unfold setAddByScan
  apply wpAny_bind
  apply wpAny_bind
  apply wpAny_rule
  apply wpAny_bind
  refine wpAny_setScan_of key ho hd fit els ?_
  have mem : k ∈ ks ↔ ∃ r ∈ es.toList, (PySem.strKind P w).is k r.2 = true := pm.mem_iff.symm.trans (worded_mem rows k)
  cases found : List.findIdx? (fun r => (PySem.strKind P w).is k r.2) es.toList with
  | some j =>
    obtain ⟨hj, pj, _⟩ := List.findIdx?_eq_some_iff_getElem.mp found
    exact wpAny_pure (wpAny_pure (q1 (mem.mpr ⟨_, List.getElem_mem hj, pj⟩)))
  | none =>
    have new : k ∉ ks := fun z => by
      obtain ⟨r, hr, z⟩ := mem.mp z
      have := List.findIdx?_eq_none_iff.mp found r hr
      rw [z] at this
      cases this
    have q2 := q2 new
    dsimp only
    have p1 := layNew_perm tb es ((PySem.strKind P w).hash k) (.str k tk)
    have f1 := layNew_fits tb es ((PySem.strKind P w).hash k) (.str k tk)
    have r1 := layNew_ris tb es ((PySem.strKind P w).hash k) (.str k tk) ris
    have l1 := layNew_led tb es ((PySem.strKind P w).hash k) (.str k tk)
    generalize layNew tb es ((PySem.strKind P w).hash k) (.str k tk) = Y at p1 f1 r1 l1 ⊢
    obtain ⟨es1, t1, was, gave⟩ := Y
    dsimp only at p1 f1 r1 l1 ⊢
    rw [Array.toList_push] at p1
    have rows1 : ∀ r ∈ es1.toList, Worded w r := fun r hr => by
      rcases List.mem_append.mp (p1.mem_iff.mp hr) with z | z
      · exact rows r z
      · exact ⟨k, tk, List.mem_singleton.mp z⟩
    have pm1 : (wordsIn es1).Perm (ks ++ [k]) := by
      have := p1.map fun r => wordOf r.2
      rw [List.map_append] at this
      exact this.trans (pm.append_right _)
    have nd1 : (ks ++ [k]).Nodup := List.nodup_append.mpr ⟨nd, by simp, fun x hx y hy e => new (by rw [List.mem_singleton] at hy; exact hy ▸ e ▸ hx)⟩
    have few1 : es1.size < scanBound := by
      have := pm1.length_eq
      rw [List.length_map, List.length_append, Array.length_toList, List.length_singleton] at this
      omega
    have led1 : w.params.followText "set-order" = true ∨ t1.led = true := led.imp id fun z => l1.trans z
    apply wpAny_bind
    refine quiet_way _ _ _ ?_
    split
    · apply wpAny_bind
      rw [hashByValue_scannable 8 scan]
      apply wpAny_pure
      refine words_store (fun b u Z z => quiet_way b u Z z) ho hx hd rows1 pm1 nd1 few1 ?_ ?_ ?_ fun h' same x => wpAny_pure (q2 h' same x)
      · first | (split <;> first | exact f1 | exact SetTable.fits_plain_off f1) | exact f1
      · first | (split <;> exact r1) | exact r1
      · first | (split <;> exact led1) | exact led1
    · apply wpAny_bind
      apply wpAny_pure
      simp only [if_true]
      exact words_store (fun b u Z z => quiet_way b u Z z) ho hx hd rows1 pm1 nd1 few1 f1 r1 led1 fun h' same x => wpAny_pure (q2 h' same x)
/-- the next text is put in -/
theorem words_put {xs : List Str} {i : Nat} {v : Value} {u : Shared} {Q : Bool → Shared → Prop} (few : xs.length + 1 < scanBound) (lt : i < xs.length) (hv : ∃ tk, v = .str (xs.getD i Str.empty) tk) (x : Words w u.heap a (fm (xs.take i)))
    (q : ∀ h' tk b, u.toks ≤ tk → Heap.SameBut a u.heap h' → Words w h' a (fm (xs.take (i + 1))) → Q b { u with heap := h', toks := tk }) : wpAny (model P w) A (setAdd a v) Q E u := by
  obtain ⟨tk, rfl⟩ := hv
  have le := fm_le (xs.take i)
  rw [List.length_take] at le
  unfold setAdd
  apply wpAny_holding
  apply wpAny_bind
  refine (PySem.strKind P w).pyHash (strKind_is _ _ (xs.getD i Str.empty) tk) ?_
  have nx := fm_next lt
  unfold fstep at nx
  have is : ((fm (xs.take i)).any (fun y => decide (y = xs.getD i Str.empty)) = true) ↔ xs.getD i Str.empty ∈ fm (xs.take i) := by
    rw [List.any_eq_true]
    exact ⟨fun ⟨y, h1, h2⟩ => of_decide_eq_true h2 ▸ h1, fun h => ⟨_, h, decide_eq_true rfl⟩⟩
  refine words_add (s := { u with toks := u.toks + 1 }) x (by omega) (fun hk => q u.heap _ false (Nat.le_succ _) (Heap.SameBut.refl a u.heap) ?_) fun hk h' same y => q h' _ true (Nat.le_succ _) same ?_
  · rw [nx, if_pos (is.mpr hk)]
    exact x
  · rw [nx, if_neg fun z => hk (is.mp z)]
    exact y
theorem words_none {h : Heap} {S : Addr} (hs : h.get? S = some (set0 w)) : Words w h S [] := by
  refine ⟨_, #[], 0, _, ⟨hs, ⟨rfl, rfl, rfl⟩, rfl⟩, fun r hr => (by cases hr), .refl _, List.nodup_nil, (by decide), rfl, List.Pairwise.nil, ?_⟩
  show _ ∨ (!w.params.followText "set-order") = true
  cases w.params.followText "set-order" with
  | true => exact .inl rfl
  | false => exact .inr rfl
end
/-- the loop that fills an empty set with these texts -/
theorem words_in {P : Program} {w : World} {its : List Value} {xs : List Str} {S l It : Addr} {A1 : Around} {G : Array GenState → Array GenState → Prop} {St : Nat → Shared → Prop} {u0 : Shared} {R : Result → Shared → Prop} (rv : Vals (sv xs) its) (few : xs.length ≤ 1000)
    (W : WalksS P w A1.in1 It [It, l] [It] G its.toArray.size (fun i v => its.toArray[i]? = some v) St) (off : S ∉ [It, l]) (st : St 0 u0) (none_yet : u0.heap.get? S = some (set0 w)) (fin : ∀ u1, Moved [S, It] G u0 u1 → Words w u1.heap S (fm xs) → R (.ok (.ret .none)) u1) : codeAny (model P w) A1 (.builtin "set.update.loop" ⟨[.ref S, .ref It], []⟩) R u0 := by
  have size : its.toArray.size = xs.length := by rw [List.size_toArray, ← rv.length]; exact List.length_map _
  have room : xs.length + 1 < scanBound := by unfold scanBound; omega
  refine loop_by W off (fun i h => Words w h S (fm (xs.take i))) (fun i h h' x k => x.at fun o z => k S o (fun m => off (List.mem_singleton.mp m ▸ List.mem_cons_self)) z) (fun i v t Q E lt pv x q => words_put room (size ▸ lt) (SS.strs_at (strsOf rv) i v (by simpa using pv)) x q) its.toArray.size 0 u0 (Nat.add_zero _) st (words_none none_yet) fun u1 m z => fin u1 m ?_
  rw [size, List.take_length] at z
  exact z
section
variable {P : Program} {w : World} {A : Around} {E : Value → Shared → Prop} {s : Shared} {a : Addr} {ks : List Str}
/-- sorted(that set) -/
theorem words_sorted {Q : Value → Shared → Prop} (R : Words w s.heap a ks) (hh : A.handled = none) (few : ks.length < 64)
    (fin : ∀ s' p (out : Array Value) (c : Nat) (ys : List Str), (∀ b o, s.heap.get? b = some o → s'.heap.get? b = some o) → (s'.gens = s.gens ∧ s'.os = s.os ∧ s.heap.objs.size ≤ p) → s'.heap.get? p = some (seqObj "list" out c) → StrsAre out.toList ys → ys.Perm ks → sortedS ys = true → Q (.ref p) s') :
    wpAny (model P w) A (call (.builtin "sorted") [.ref a]) Q E s := by
  obtain ⟨o, es, ep, tb, ⟨ho, hx, hd⟩, rows, pm, nd, lt, fit, ris, led⟩ := R
  refine Calls.call_function_entry kind_sorted plain_sorted entry_sorted (args_sorted1 _) ?_
  unfold Builtin.«sorted»
  apply wpAny_bind (m := checkCount "sorted" 1 1 _)
  apply wpAny_pure
  apply wpAny_bind
  refine collect_set (A := A.in1) hh ⟨o, ho, hx.1, hd⟩ fit lt ris led fun s1 vs keep hz g1 o1 pv => ?_
  have many : vs.length = ks.length := by
    have := pm.length_eq
    rw [List.length_map] at this
    rw [pv.length_eq, List.length_map]
    exact this
  have texts : ∀ v ∈ vs, ∃ x t, v = .str x t := fun v hv => by
    obtain ⟨r, hr, e⟩ := List.mem_map.mp (pv.mem_iff.mp hv)
    obtain ⟨k, tk, rfl⟩ := rows r hr
    exact ⟨k, tk, e.symm⟩
  have allS : StrsAre vs (vs.map wordOf) := by
    clear many pv hz keep
    induction vs with
    | nil => exact .nil
    | cons v r ih =>
      obtain ⟨x, t, e⟩ := texts v List.mem_cons_self
      subst e
      exact .cons x t (ih fun u hu => texts u (List.mem_cons_of_mem _ hu))
  have pk : (vs.map wordOf).Perm ks := by
    have := pv.map wordOf
    rw [List.map_map] at this
    exact this.trans pm
  apply wpAny_bind
  refine wpAny_newList ?_ (by rw [many, sizeLine_eq]; omega)
  have oL : (s1.heap.push (seqObj "list" vs.toArray 0)).get? s1.heap.objs.size = some (seqObj "list" vs.toArray 0) := Heap.get?_push_size _ rfl
  apply wpAny_bind
  apply wpAny_holding
  refine wpAny_call_entry slot_list_sort ⟨_, oL, rfl⟩ entry_list_sort (list_sort_treeK strKind_oneLt oL allS.keysOf (fun v₁ v₂ rest e => keyKind_strs (by rw [← e]; exact allS)) (by omega) fun st' a1 a2 => ⟨_, rfl, ?_⟩) (args_list_sort _)
  obtain ⟨ys, b1, b2, b3⟩ := sorted_out_str allS a1 a2
  obtain ⟨c, hc⟩ := sortedHeap_at (vs := vs) (out := (arrOf st').map (·.2)) oL
  refine wpAny_pure ⟨_, rfl, fin _ s1.heap.objs.size _ c ys (fun b u e => ?_) ⟨g1, o1, hz⟩ hc b1 (b2.trans pk) b3⟩
  have q := keep b u e
  have lt := Heap.lt_size q
  exact (sortedHeap_old (Nat.ne_of_lt lt) (by rw [size_push']; exact Nat.lt_succ_of_lt lt)).trans (Heap.get?_push_of_some _ q)
end
def tSortSet (K : PySem.W.Frag) (ta : TE) : TE := fun σ H Q => ta σ H fun x H1 => ∃ (l : Addr) (xs : List Str), x = .ref l ∧ (SqL K H1 l (sv xs) ∨ SqT K H1 l (sv xs)) ∧ xs.length < 64 ∧ ∀ (p : Addr) (ys : List Str), H1 p = none → ys.Perm (fm xs) → sortedS ys = true → Q (.ref p) (upd H1 p (.lst (sv ys)))
theorem pe_sortSet {X : Cx} {a : Expr} {ta : TE} {p p2 q pos : Pos} (hc : X.calm = true) (hm : X.mg "sorted" = none) (hm2 : X.mg "set" = none) (ha : PE X a ta) (hg : Gl X "sorted" := by rfl) (hg2 : Gl X "set" := by rfl)
    (na : starEach [a] X.env = (false, eval a X.env) :: starEach [] X.env := by rfl) : PE X (.Call (.Name "sorted" p) [.Call (.Name "set" p2) [a] [] q] [] pos) (tSortSet X.K ta) where
  run := fun pins s σ H Q I h => by
    have inner : wpAny (model X.prog X.w) X.A (eval (.Call (.Name "set" p2) [a] [] q) X.env) (fun v s2 => wpAny (model X.prog X.w) X.A (call (.builtin "sorted") [v]) (EP X pins σ Q) X.xe s2) X.xe s := by
      refine Call_ (ld_blt I hg2 hm2 PyProof.Rows.boot_set (PyProof.Rows.callWith_type1 (PyProof.Rows.args_cons (thn (ha.run pins s σ H _ I h) fun v s1 got => PyProof.Rows.args_nil ?_) na) na rfl))
      obtain ⟨x, H1, J, rx, l, xs, rfl, seq, few, want⟩ := got
      cases rx
      have full : ∀ (h' : Heap) (tk : Nat), Words X.w h' s1.heap.objs.size (fm xs) → (∀ b o, s1.heap.get? b = some o → h'.get? b = some o) → wpAny (model X.prog X.w) X.A (call (.builtin "sorted") [.ref s1.heap.objs.size]) (EP X pins σ Q) X.xe { s1 with heap := h', toks := tk } := fun h' tk words kept => by
        have J2 : Inv X pins σ H1 { s1 with heap := h', toks := tk } := J.kept kept
        have le := fm_le xs
        refine words_sorted (s := { s1 with heap := h', toks := tk }) words (J2.ok.hd hc) (by omega) fun s' p out c ys keep ⟨g, o, hp⟩ at_p allS pm st => ?_
        have np : H1 p = none := J2.hok.fresh hp
        have hlen : (sv ys).length ≤ sizeLine := by unfold sv; rw [List.length_map, pm.length_eq, sizeLine_eq]; omega
        have J3 : Inv X pins σ (upd H1 p (.lst (sv ys))) { { s1 with heap := h', toks := tk } with heap := s'.heap, gens := s'.gens, drawn := s'.drawn, toks := s'.toks } :=
          J2.call (ch := []) (Un.laid keep hp np) (J2.hok.laid keep hp ⟨hlen, out.toList, c, vals_of_strs allS, at_p⟩) (by rw [g]; exact J2.bare) (fun _ z => nomatch z)
        have e : s' = { { s1 with heap := h', toks := tk } with heap := s'.heap, gens := s'.gens, drawn := s'.drawn, toks := s'.toks } := by
          cases s'
          cases o
          rfl
        rw [e]
        exact ⟨.ref p, _, J3, rfl, want p ys np pm st⟩
      match seq with
      | .inl sl => exact match J.list sl with
          | ⟨its, rv, pl, _⟩ => call_set_list (P := X.prog) (w := X.w) (s := s1) (fun h' => Words X.w h' s1.heap.objs.size (fm xs)) (J.ok.hd hc) pl.isList (fun A1 It _ G St u0 R W off st n _ fin => words_in rv (by omega) W off st n fin) full
      | .inr st => exact match J.tuple st with
          | ⟨its, rv, pl, _⟩ => call_set_tuple (P := X.prog) (w := X.w) (s := s1) (fun h' => Words X.w h' s1.heap.objs.size (fm xs)) (J.ok.hd hc) pl (fun A1 It _ G St u0 R W off st n _ fin => words_in rv (by omega) W off st n fin) full
    exact Call_ (ld_blt I hg hm bo_sorted (PyProof.Rows.callWith_builtin1 (PyProof.Rows.args_cons (wpAny_mono inner (fun _ _ z => PyProof.Rows.args_nil z) fun _ _ z => z) rfl) rfl rfl))
end Kx

set_option Elab.async false
set_option linter.all false
set_option maxRecDepth 100000
set_option maxHeartbeats 400000
namespace Kx
open PySem PySem.Spec PyProof.Rows L2 Evl
/-! ## data of any kind, drawn -/
/-- S hides the state, and all in S is there -/
structure OfS (S : Addr → Prop) (sd sg : Addr) (H : Hp) : Prop where
  d : S sd
  g : S sg
  i : InS S H
theorem OfS.ex {S : Addr → Prop} {sd sg : Addr} {H H' H2 : Hp} (o : OfS S sd sg H) (e : ExS sd sg H' H2) : Ex (hidP S H') (hidP S H2) := fun a u h => by
  obtain ⟨h1, h2⟩ := hidP_get h
  exact hidP_at (e a u h1 (fun z => h2 (z ▸ o.d)) fun z => h2 (z ▸ o.g)) h2
theorem OfS.step {S : Addr → Prop} {sd sg sc : Addr} {b : Nat} {H H' : Hp} (o : OfS S sd sg H) (s : Sta H' sd sg sc b) (e : ExS sd sg H H') : OfS S sd sg H' := ⟨o.d, o.g, fun a ha n => by
  by_cases z : a = sd ∨ a = sg
  · exact s.inS a z n
  · have nn := o.i a ha
    cases h : H a with
    | none => exact nn h
    | some u =>
      have := e a u h (fun w => z (.inl w)) fun w => z (.inr w)
      rw [n] at this
      cases this⟩
theorem OfS.up {S : Addr → Prop} {sd sg : Addr} {H H' : Hp} (o : OfS S sd sg H) (e : Ex H H') : OfS S sd sg H' := ⟨o.d, o.g, o.i.up e⟩
theorem Sta.ofS {H : Hp} {sd sg sc : Addr} {b : Nat} (s : Sta H sd sg sc b) : OfS (stS sd sg) sd sg H := ⟨.inl rfl, .inr rfl, s.inS⟩
/-! ### tuple(reversed(x)), tuple(x), isinstance(x, (tuple, list)) -/
def tTupRevF (K : PySem.W.Frag) (te : TE) : TE := fun σ H Q => te σ H fun v H1 => ∃ (a : Addr) (xs : List V), v = .ref a ∧ SqL K H1 a xs ∧ newT xs.reverse H1 Q
theorem pe_tupRevF {X : Cx} {e : Expr} {te : TE} {p p2 pos pos2 : Pos} (hc : X.calm = true) (hm : X.mg "tuple" = none) (hm2 : X.mg "reversed" = none) (he : PE X e te) (hg : Gl X "tuple" := by rfl) (hg2 : Gl X "reversed" := by rfl)
    (hs : starEach [e] X.env = (false, eval e X.env) :: starEach [] X.env := by rfl) (hs2 : starEach [.Call (.Name "reversed" p2) [e] [] pos2] X.env = (false, eval (.Call (.Name "reversed" p2) [e] [] pos2) X.env) :: starEach [] X.env := by rfl) :
    PE X (.Call (.Name "tuple" p) [.Call (.Name "reversed" p2) [e] [] pos2] [] pos) (tTupRevF X.K te) where
  run := fun pins s σ H Q I h => by
    refine Call_ (ld_blt I hg hm boot_tuple (PyProof.Rows.callWith_type1 (args_cons (Call_ (ld_blt I hg2 hm2 PyProof.Rows.boot_reversed (PyProof.Rows.callWith_type1 (args_cons (thn (he.run pins s σ H _ I h) fun u s1 got => args_nil ?_) hs) hs rfl))) hs2) hs2 rfl))
    obtain ⟨v, H1, J, rel, a, xs, rfl, seq, want⟩ := got
    cases (show u = Value.ref a from rel)
    obtain ⟨its, rv, pl, few⟩ := J.list seq
    have ll := rv.length
    have lst := pl.isList
    have apart : a ≠ s1.heap.objs.size := by
      obtain ⟨ol, hol, _⟩ := lst
      exact Nat.ne_of_lt (Heap.lt_size hol)
    refine call_reversed_list lst (args_nil ?_)
    have J2 : Inv X pins σ H1 { s1 with heap := s1.heap.push (revObj a ((its.toArray.size : Int) - 1)) } := J.kept (t' := s1.toks) fun b o e => Heap.get?_push_of_some _ e
    obtain ⟨f0, f1, f2, f3, f4, f5⟩ := J.fpOk (H' := H1) (b := s1.heap.objs.size) (Nat.le_refl _) (J.hok.fresh (Nat.le_refl _))
    refine RT.call_tuple_rev (s := { s1 with heap := s1.heap.push (revObj a ((its.toArray.size : Int) - 1)) }) (J.ok.hd hc) ⟨_, Heap.get?_push_size _ rfl, rfl, rfl⟩ (lst.push _) apart (by rw [List.size_toArray, ← ll]; exact few) fun h' tk acc keep items => ?_
    have J3 : Inv X pins σ H1 { s1 with heap := h', toks := tk } := J2.turned (t' := tk) (fun b o hb e => keep b o hb e) f0 f1 f3 f4 f5
    have fin := laid_T (s := { s1 with heap := h', toks := tk }) (h' := h') (t' := tk) J3 (RT.vals_rev rv items) (by rw [List.length_reverse]; exact few) want
    rw [Array.toArray_toList] at fin
    exact fin
theorem reps_rev {H : Hp} : ∀ {vs : List V} {ds : List D}, Reps H vs ds → Reps H vs.reverse ds.reverse
  | [], [], .nil => .nil
  | v :: vs, d :: ds, .cons r t => by
    rw [List.reverse_cons, List.reverse_cons]
    exact reps_and (reps_rev t) (.cons r .nil)
section
variable {K : PySem.W.Frag} {S : Addr → Prop} {σ : L2.St} {H : Hp} {te : TE} {d : D} {ds : List D} {v : V}
theorem newT_S {vs : List V} {Q : VK} (i : InS S H) (rs : RepsS S H vs ds) (q : ∀ v H2, Ex H H2 → RepS S H2 v (.tup ds) → Q v H2) : newT vs H Q := fun p o hp ho => q (.ref p) _ (Ex.new hp) (.tup ⟨o, ho, hidP_at upd_same (i.new hp)⟩ (rs.up (hidP_ex (Ex.new hp))))
theorem es_tupRev (i : InS S H) (h : EvS S te σ H (.lst ds)) : EvS S (tTupRevF K te) σ H (.tup ds.reverse) := fun H1 e Q q => h H1 e _ fun v H2 e2 r => by
  obtain ⟨a, vs, rfl, ha, hs⟩ := r.lstD
  exact ⟨a, vs, rfl, .of (hidP_get ha).1, newT_S (i.up (e.trans e2)) (reps_rev hs) fun v H3 e3 r3 => q v H3 (e2.trans e3) r3⟩
theorem es_tupOf (i : InS S H) (h : EvS S te σ H (.lst ds)) : EvS S (tCB (rTupOf K) (tCons te tNil)) σ H (.tup ds) := fun H1 e Q q => h H1 e _ fun v H2 e2 r => by
  obtain ⟨a, vs, rfl, ha, hs⟩ := r.lstD
  exact ⟨a, vs, rfl, .of (hidP_get ha).1, newT_S (i.up (e.trans e2)) hs fun v H3 e3 r3 => q v H3 (e2.trans e3) r3⟩
theorem es_cutL {tlo thi : TO} {lo hi : Option Int} (i : InS S H) (h : EvS S te σ H (.lst ds)) (h1 : EvO tlo σ H lo) (h2 : EvO thi σ H hi) : EvS S (tSl (rSlL K) te tlo thi) σ H (.lst (cutX ds lo hi)) := fun H1 e Q q =>
  h H1 e _ fun v H2 e2 r => h1 H2 (e.trans e2) _ fun H3 e3 => h2 H3 ((e.trans e2).trans e3) _ fun H4 e4 => by
    have E := (e2.trans e3).trans e4
    obtain ⟨a, vs, rfl, ha, hs⟩ := (r.up (hidP_ex (e3.trans e4))).lstD
    exact ⟨a, vs, rfl, .of (hidP_get ha).1, fun p hp => q (.ref p) _ (E.trans (Ex.new hp)) (.lst (hidP_at upd_same ((i.up (e.trans E)).new hp)) ((hs.cut lo hi).up (hidP_ex (Ex.new hp))))⟩
/-- is it a tuple or a list -/
def D.seq (d : D) : Bool := decide (d.ty = "tuple") || decide (d.ty = "list")
theorem kit_two : ∀ t ∈ ["NoneType", "bool", "int", "str", "tuple", "list", "dict"], kitB t "tuple" = some (decide (t = "tuple")) ∧ kitB t "list" = some (decide (t = "list")) := by decide +kernel
theorem kit_seq (d : D) : PySem.W.kitAny K (.type d.ty) [.type "tuple", .type "list"] = some d.seq := by
  obtain ⟨a, b⟩ := kit_two d.ty (by cases d <;> simp [D.ty])
  unfold PySem.W.kitAny PySem.W.kitAny PySem.W.kitAny
  rw [kit_ty a, kit_ty b]
  unfold D.seq
  cases decide (d.ty = "tuple") <;> cases decide (d.ty = "list") <;> rfl
theorem ev_isSeq {ta tb : TE} (h : Ev te σ H v) (r : Rep H v d) (ha : Ev ta σ H (.ty "tuple")) (hb : Ev tb σ H (.ty "list")) : Ev (tCB (rIsiT K) (tCons te (tCons (tTup (tCons ta (tCons tb tNil))) tNil))) σ H (.bl d.seq) := fun H1 e Q q =>
  h H1 e _ fun H2 e2 => ha H2 (e.trans e2) _ fun H3 e3 => hb H3 ((e.trans e2).trans e3) _ fun H4 e4 => ⟨by show 2 ≤ sizeLine; rw [sizeLine_eq]; decide, fun p hp => by
    have E := ((e2.trans e3).trans e4).trans (Ex.new (o := .tup [V.ty "tuple", V.ty "list"]) hp)
    exact ⟨v, p, [.ty "tuple", .ty "list"], .type d.ty, [.type "tuple", .type "list"], d.seq, rfl, upd_same, .cons (.ty _) (.cons (.ty _) .nil), (r.up (e.trans E)).tyX, kit_seq d, q _ E⟩⟩
end
/-! ### _law_any -/
def AnyD (d : D) : Prop := d.deep ≤ 2 ∧ d.Zs 20
def spAnyD : Sp := fun vs H Q _ => ∃ (sd sg sc : Addr) (b : Nat) (S : Addr → Prop), vs = [.ref sd] ∧ OfS S sd sg H ∧ Sta H sd sg sc (b + 2) ∧ ∀ v d H', RepS S H' v d → AnyD d → Sta H' sd sg sc b → ExS sd sg H H' → Q v H'
theorem pickS {sd sg sc : Addr} {b : Nat} {S : Addr → Prop} {H : Hp} {v : V} {ds : List D} {Q : VK} (o : OfS S sd sg H) (s : Sta H sd sg sc (b + 1)) (r : RepS S H v (.lst ds)) (h0 : 0 < ds.length) (h1 : ds.length ≤ 1000) (q : ∀ x d H', d ∈ ds → RepS S H' x d → Sta H' sd sg sc b → ExS sd sg H H' → Q x H') : spPickL [.ref sd, v] H Q E0 := by
  obtain ⟨a, vs, rfl, ha, hs⟩ := r.lstD
  obtain ⟨h2, h3⟩ := hidP_get ha
  have l := hs.length
  refine ⟨sd, sg, sc, b, a, vs, rfl, h2, fun z => h3 (z ▸ o.d), fun z => h3 (z ▸ o.g), by omega, by omega, s, fun j x H' hj s' x' => ?_⟩
  obtain ⟨d, hd, rx⟩ := hs.get hj
  exact q x d H' (List.mem_of_getElem? hd) (rx.up (o.ex x')) s' x'
theorem es_dic {S : Addr → Prop} {σ : L2.St} {H : Hp} (i : InS S H) : EvS S tDNewK σ H .dic := fun H1 e Q q p hp => q (.ref p) _ (Ex.new hp) (.dic (hidP_at upd_same ((i.up e).new hp)))
end Kx

set_option Elab.async false
set_option linter.all false
set_option maxRecDepth 100000
set_option maxHeartbeats 400000
namespace Kx
open PySem PySem.Spec PyProof.Rows L2 Evl
section
variable {P : Program} {w : World} {K : PySem.W.Frag} {mg : Str → Option Value} {base : Heap} (T : Txt K mg)
theorem zs_leaf {m : Nat} {s : Str} (h : s.length ≤ m) : (D.str s).Zs m := by
  unfold D.Zs
  exact h
theorem ok_anyD : FnOk P w K mg base CX0 4 T.a_law_any T.d_law_any ["state"] spAnyD := by
  refine T.F_law_any.ok sc_law_any (fun vs H Q E h => ?_) (fun cdv A outer s H vs Q E hr h => ?_)
  · obtain ⟨sd, sg, sc, b, S, rfl, _⟩ := h
    rfl
  · obtain ⟨sd, sg, sc, b, S, rfl, o0, S0_, q⟩ := h
    have nd := sc_law_any.nd
    refine ⟨_, (pss_cons (ps_set (i := 1) nd rfl (.inl rfl) (pe_call (ok_draw T) (hr.mono (by decide)) (by rfl) T.g_law_draw T.F_law_draw.kp (b_law_draw T) .nil pass0 (pa_cons (pv 0) (pa_cons pe_int pa_nil))))
      (pss_cons (ps_set (i := 2) nd rfl (.inl rfl) (pe_lst (pa_cons pe_non (pa_cons pe_bl (pa_cons pe_bl (pa_cons pe_int (pa_cons pe_int (pa_cons (pe_un un_neg pe_int) (pa_cons pe_int (pa_cons (pv 1) (pa_cons pe_str (pa_cons pe_str (pa_cons pe_str (pa_cons pe_str (pa_cons (pe_tupF pa_nil) (pa_cons (pe_lst pa_nil) (pa_cons pe_dnewK (pa_cons (pe_tupF (pa_cons pe_int pa_nil)) (pa_cons (pe_tupF (pa_cons pe_str pa_nil)) (pa_cons (pe_tupF (pa_cons (pe_tupF pa_nil) pa_nil)) (pa_cons (pe_tupF (pa_cons (pe_tupF pa_nil) (pa_cons (pe_tupF pa_nil) pa_nil))) pa_nil)))))))))))))))))))))
      (pss_one (ps_ret (pe_call (ok_pickL T) (hr.mono (by decide)) (by rfl) T.g_law_pick T.F_law_pick.kp (b_law_pick T) .nil pass0 (pa_cons (pv 0) (pa_cons (pe_op op_cat (pv 2) (pe_lst (pa_cons pe_int (pa_cons (pe_un un_neg pe_int) (pa_cons pe_int (pa_cons pe_int (pa_cons pe_str (pa_cons pe_str (pa_cons pe_str (pa_cons (pe_tupF (pa_cons pe_bl (pa_cons pe_int pa_nil))) (pa_cons (pe_tupF (pa_cons pe_str pa_nil)) (pa_cons (pe_lst (pa_cons pe_int (pa_cons pe_int pa_nil))) pa_nil)))))))))))) pa_nil))))))), ?_⟩
    refine q_asgW (σ := [some (.ref sd), none, none]) ⟨.ref sd, rfl, sd, sg, sc, b + 1, 5, rfl, by decide, by decide, S0_, fun z H1 z0 z5 S1 X1 => ?_⟩
    have o1 := o0.step S1 X1
    refine s_asgS (S := S) (es_lst o1.i (ds := [.non, .bl true, .bl false, .int 0, .int 1, .int (-1), .int 9, .int z, .str "1", .str "", .str "out", .str "hall", .tup [], .lst [], .dic, .tup [.int 1], .tup [.str "hall"], .tup [.tup []], .tup [.tup [], .tup []]]) ?_ (by simp)) fun v H2 e2 r2 => ?_
    · repeat (first | exact eas_nil | refine eas_cons ?_ ?_ | exact es_of ev_c .non | exact es_of ev_c (.bl _) | exact es_of ev_c (.int _) | exact es_of ev_c (.str _) | exact es_of (ev_un ev_c ru_neg) (.int _) | exact es_of (ev_var (i := 1) rfl) (.int _) | exact es_dic o1.i | refine es_tup o1.i ?_ (by decide) | refine es_lst o1.i ?_ (by decide))
    · have o2 := o1.up e2
      refine ⟨.ref sd, rfl, ?_⟩
      refine es_catL (S := S) (ds := [.non, .bl true, .bl false, .int 0, .int 1, .int (-1), .int 9, .int z, .str "1", .str "", .str "out", .str "hall", .tup [], .lst [], .dic, .tup [.int 1], .tup [.str "hall"], .tup [.tup []], .tup [.tup [], .tup []]]) (es := [.int 41, .int (-41), .int 61, .int 13, .str "any", .str "Hall", .str "hallooooo", .tup [.bl true, .int 2], .tup [.str "keep"], .lst [.int 1, .int 2]]) o2.i (es_of (ev_var (i := 2) rfl) r2) (es_lst o2.i ?_ (by simp)) (by simp) H2 (Ex.refl _) _ fun u H3 e3 r3 => ?_
      · repeat (first | exact eas_nil | refine eas_cons ?_ ?_ | exact es_of ev_c .non | exact es_of ev_c (.bl _) | exact es_of ev_c (.int _) | exact es_of ev_c (.str _) | exact es_of (ev_un ev_c ru_neg) (.int _) | refine es_tup o2.i ?_ (by decide) | refine es_lst o2.i ?_ (by decide))
      · refine pickS (o2.up e3) (S1.up (e2.trans e3)) r3 (by simp) (by simp) fun x d H4 hd rx S4 X4 => q x d H4 rx ?_ S4 (X1.trans ((ExS.of (e2.trans e3)).trans X4))
        simp only [List.cons_append, List.nil_append, List.mem_cons, List.not_mem_nil, or_false] at hd
        rcases hd with rfl | rfl | rfl | rfl | rfl | rfl | rfl | rfl | rfl | rfl | rfl | rfl | rfl | rfl | rfl | rfl | rfl | rfl | rfl | rfl | rfl | rfl | rfl | rfl | rfl | rfl | rfl | rfl | rfl <;> (refine ⟨by simp [D.deep, deeps], ?_⟩; simp [D.Zs, Zss]; try decide)
end
end Kx

set_option Elab.async false
set_option linter.all false
set_option maxRecDepth 100000
set_option maxHeartbeats 400000
namespace Kx
open PySem PySem.Spec PyProof.Rows L2 Evl
/-! ## what is spoilt -/
theorem mem_deep {n : Nat} : ∀ {ds : List D}, deeps ds ≤ n ↔ ∀ d ∈ ds, d.deep ≤ n
  | [] => by simp [deeps]
  | d :: r => by
    rw [show deeps (d :: r) = max d.deep (deeps r) from by rw [deeps], Nat.max_le, mem_deep (ds := r)]
    exact ⟨fun ⟨a, b⟩ x hx => (List.mem_cons.mp hx).elim (fun e => e ▸ a) (b x), fun h => ⟨h d List.mem_cons_self, fun x hx => h x (List.mem_cons_of_mem _ hx)⟩⟩
/-- a row of no more than m things that are fine -/
def RowD (n m : Nat) (ds : List D) : Prop := ds.length ≤ m ∧ ∀ d ∈ ds, d.deep ≤ n ∧ d.Zs m
theorem RowD.tup {n m : Nat} {ds : List D} (h : RowD n m ds) : (D.tup ds).deep ≤ n + 1 ∧ (D.tup ds).Zs m := ⟨by unfold D.deep; have := mem_deep.mpr fun d hd => (h.2 d hd).1; omega, by unfold D.Zs; exact ⟨h.1, zss_iff.mpr fun d hd => (h.2 d hd).2⟩⟩
theorem RowD.lst {n m : Nat} {ds : List D} (h : RowD n m ds) : (D.lst ds).deep ≤ n + 1 ∧ (D.lst ds).Zs m := ⟨by unfold D.deep; have := mem_deep.mpr fun d hd => (h.2 d hd).1; omega, by unfold D.Zs; exact ⟨h.1, zss_iff.mpr fun d hd => (h.2 d hd).2⟩⟩
theorem RowD.of {n m : Nat} {ds es : List D} (h : RowD n m ds) (l : es.length ≤ m) (s : ∀ d ∈ es, d ∈ ds) : RowD n m es := ⟨l, fun d hd => h.2 d (s d hd)⟩
theorem mem_cut {α : Type} {xs : List α} {lo hi : Option Int} {x : α} (h : x ∈ cutX xs lo hi) : x ∈ xs := List.mem_of_mem_drop (List.mem_of_mem_take h)
theorem cut_len {α : Type} (xs : List α) (lo hi : Option Int) : (cutX xs lo hi).length ≤ xs.length := by
  unfold cutX
  rw [List.length_take, List.length_drop]
  omega
theorem cut_last {α : Type} (xs : List α) : (cutX xs (some (-1)) none).length ≤ 1 := by
  unfold cutX
  rw [List.length_take, List.length_drop, HT.sIx_none]
  unfold HT.sIx
  simp only
  split <;> omega
theorem cut_swap {α : Type} (xs : List α) : (cutX xs (some 1) none).length + (cutX xs none (some 1)).length ≤ xs.length + 1 := by
  unfold cutX
  rw [List.length_take, List.length_drop, List.length_take, List.length_drop, HT.sIx_none, HT.sIx_none, show (1 : Int) = ((1 : Nat) : Int) from rfl, HT.sIx_nat, HT.sIx_nat]
  omega
theorem reps_set {H : Hp} {v : V} {d : D} (r : Rep H v d) : ∀ {vs : List V} {ds : List D} (k : Nat), Reps H vs ds → Reps H (vs.set k v) (ds.set k d)
  | [], [], _, .nil => .nil
  | _ :: _, _ :: _, 0, .cons _ t => .cons r t
  | _ :: _, _ :: _, k + 1, .cons a t => .cons a (reps_set r k t)
def SeqD (d : D) (ds : List D) : Prop := d = .tup ds ∨ d = .lst ds
theorem seq_is {d : D} (h : d.seq = true) : ∃ ds, SeqD d ds := by
  cases d with
  | tup ds => exact ⟨ds, .inl rfl⟩
  | lst ds => exact ⟨ds, .inr rfl⟩
  | _ => cases h
theorem seqD_row {n m : Nat} {d : D} {ds : List D} (h : SeqD d ds) (a : d.deep ≤ n) (b : d.Zs m) : ∃ k, n = k + 1 ∧ RowD k m ds := by
  rcases h with rfl | rfl
  · unfold D.deep at a
    unfold D.Zs at b
    exact ⟨n - 1, by omega, b.1, fun x hx => ⟨mem_deep.mp (show deeps ds ≤ n - 1 by omega) x hx, zss_iff.mp b.2 x hx⟩⟩
  · unfold D.deep at a
    unfold D.Zs at b
    exact ⟨n - 1, by omega, b.1, fun x hx => ⟨mem_deep.mp (show deeps ds ≤ n - 1 by omega) x hx, zss_iff.mp b.2 x hx⟩⟩
theorem seq_at {K : PySem.W.Frag} {S : Addr → Prop} {H : Hp} {v : V} {d : D} {ds : List D} (h : SeqD d ds) (r : RepS S H v d) : ∃ a vs, v = .ref a ∧ (∀ H', Ex H H' → SqL K H' a vs ∨ SqT K H' a vs) ∧ RepsS S H vs ds := by
  rcases h with rfl | rfl
  · obtain ⟨a, vs, rfl, ha, hs⟩ := r.tupD
    exact ⟨a, vs, rfl, fun H' e => .inr ((ha.up hidP_sub).up e).sq, hs⟩
  · obtain ⟨a, vs, rfl, ha, hs⟩ := r.lstD
    exact ⟨a, vs, rfl, fun H' e => .inl (.of (e _ _ (hidP_get ha).1)), hs⟩
section
variable {K : PySem.W.Frag} {S : Addr → Prop} {σ : L2.St} {H : Hp} {te : TE} {d : D} {ds : List D} {v : V}
theorem ev_lenSq (h : Ev te σ H v) (q : SeqD d ds) (r : RepS S H v d) : Ev (tCB (rLenS K) (tCons te tNil)) σ H (.int (ds.length : Nat)) := fun H1 e Q k => h H1 e _ fun H2 e2 => by
  obtain ⟨a, vs, rfl, hs, rs⟩ := seq_at (K := K) q r
  exact ⟨a, vs, rfl, hs H2 (e.trans e2), by rw [rs.length]; exact k H2 e2⟩
theorem es_listSq (i : InS S H) (h : Ev te σ H v) (q : SeqD d ds) (r : RepS S H v d) : EvS S (tCB (rListS K) (tCons te tNil)) σ H (.lst ds) := fun H1 e Q k => h H1 e _ fun H2 e2 => by
  obtain ⟨a, vs, rfl, hs, rs⟩ := seq_at (K := K) q r
  exact ⟨a, vs, rfl, hs H2 (e.trans e2), fun p hp => k (.ref p) _ (e2.trans (Ex.new hp)) (.lst (hidP_at upd_same ((i.up (e.trans e2)).new hp)) (rs.up (hidP_ex ((e.trans e2).trans (Ex.new hp)))))⟩
theorem s_parQ {i j : Nat} {ta : TA} {tz : TS} {D0 : Ends} (h : ta σ H fun vs H1 => ∃ x y, vs = [x, y] ∧ tz D0 ((σ.set i (some x)).set j (some y)) H1) : tSeq (tPar i j ta) tz D0 σ H := h
end
theorem notTup {d : D} : isi d "tuple" = decide (d.ty = "tuple") := by
  unfold isi
  rw [show decide ("tuple" = "int") = false from by decide +kernel, Bool.and_false, Bool.or_false]
def spSpoilt (n : Nat) : Sp := fun vs H Q _ => ∃ (sd sg sc : Addr) (b m eb : Nat) (S : Addr → Prop) (v : V) (d : D), vs = [.ref sd, v] ∧ OfS S sd sg H ∧ RepS S H v d ∧ d.deep ≤ eb ∧ eb ≤ n ∧ 20 ≤ m ∧ m ≤ 400 ∧ d.Zs m ∧ Sta H sd sg sc (b + 2 * n + 5) ∧
  ∀ v' d' H', RepS S H' v' d' → d'.deep ≤ eb + 2 → d'.Zs (m + 1) → Sta H' sd sg sc b → ExS sd sg H H' → Q v' H'
section
variable {P : Program} {w : World} {K : PySem.W.Frag} {mg : Str → Option Value} {base : Heap} (T : Txt K mg)
theorem ok_spoilt_step (n : Nat) (sp : Sp) (hrec : FnOk P w K mg base CX0 (n + 5) T.a_law_spoilt T.d_law_spoilt ["state", "thing"] sp) (hsp : ∀ m, n = m + 1 → sp = spSpoilt m) : FnOk P w K mg base CX0 (n + 6) T.a_law_spoilt T.d_law_spoilt ["state", "thing"] (spSpoilt n) := by
  refine T.F_law_spoilt.ok sc_law_spoilt (fun vs H Q E h => ?_) (fun cdv A outer s H vs Q E hr h => ?_)
  · obtain ⟨sd, sg, sc, b, m, eb, S, v, d, rfl, _⟩ := h
    rfl
  · obtain ⟨sd, sg, sc, b, m, eb, S, v, d, rfl, o0, hv, hdp, hen, m20, m400, hzs, hS, q⟩ := h
    have nd := sc_law_spoilt.nd
    refine ⟨_, (pss_cons (ps_set (i := 2) nd rfl (.inl rfl) (pe_call (ok_draw T) (hr.mono (by omega)) (by rfl) T.g_law_draw T.F_law_draw.kp (b_law_draw T) .nil pass0 (pa_cons (pv 0) (pa_cons pe_int pa_nil))))
      (pss_cons (ps_if (PW.pt (pw_and (pt_val (pe_callB call_isiT (by rfl) T.z_isinstance bo_isinstance (pa_cons (pv 1) (pa_cons (pe_tup (pa_cons (pe_bltn (v := .ty "tuple") (by rfl) T.z_tuple bo_tuple rfl) (pa_cons (pe_bltn (v := .ty "list") (by rfl) T.z_list bo_list rfl) pa_nil))) pa_nil)))) (pw_and (pt_cmpR op_gt (pe_callB call_len_seq (by rfl) T.z_len bo_len (pa_cons (pv 1) pa_nil)) pe_int (nomark _)) (pw_and1 (pt_cmpR op_gt (pv 2) pe_int (nomark _)))))) (pss_cons (ps_par (i := 3) (j := 4) rfl nd rfl rfl (by decide) rfl rfl (pa_cons (pe_callTy call_list_of (by rfl) T.z_list bo_list (pa_cons (pv 1) pa_nil)) (pa_cons (pe_call (ok_draw T) (hr.mono (by omega)) (by rfl) T.g_law_draw T.F_law_draw.kp (b_law_draw T) .nil pass0 (pa_cons (pv 0) (pa_cons (pe_callB call_len_seq (by rfl) T.z_len bo_len (pa_cons (pv 1) pa_nil)) pa_nil))) pa_nil)) (by rfl))
      (pss_cons (ps_asg (pe_call (hrec) (hr.mono (by omega)) (by rfl) T.g_law_spoilt T.F_law_spoilt.kp (b_law_spoilt T) .nil pass0 (pa_cons (pv 0) (pa_cons (pe_ix (r := rIxL K) ix_list (pv 3) (pv 4) (fun _ _ => rfl)) pa_nil))) (pg_sub (pv 3) (pv 4) set_list))
      (pss_one (ps_ret (pe_ifExp (pt_val (pe_isi T.z_isinstance T.z_tuple bo_tuple (pv 1))) (pe_callTy call_tupF (by rfl) T.z_tuple bo_tuple (pa_cons (pv 3) pa_nil)) (pv 3)))))) pss_nil)
      (pss_cons (ps_if (pt_val (pe_callB call_isiT (by rfl) T.z_isinstance bo_isinstance (pa_cons (pv 1) (pa_cons (pe_tup (pa_cons (pe_bltn (v := .ty "tuple") (by rfl) T.z_tuple bo_tuple rfl) (pa_cons (pe_bltn (v := .ty "list") (by rfl) T.z_list bo_list rfl) pa_nil))) pa_nil)))) (pss_cons (ps_par (i := 3) (j := 5) rfl nd rfl rfl (by decide) rfl rfl (pa_cons (pe_callTy call_list_of (by rfl) T.z_list bo_list (pa_cons (pv 1) pa_nil)) (pa_cons (pe_call (ok_anyD T) (hr.mono (by omega)) (by rfl) T.g_law_any T.F_law_any.kp (b_law_any T) .nil pass0 (pa_cons (pv 0) pa_nil)) pa_nil)) (by rfl))
      (pss_cons (ps_set (i := 6) nd rfl (.inl rfl) (pe_lst (pa_cons (pv 3) (pa_cons (pe_callTy call_tupF (by rfl) T.z_tuple bo_tuple (pa_cons (pv 3) pa_nil)) (pa_cons (pe_callTy call_tupF (by rfl) T.z_tuple bo_tuple (pa_cons (pe_op op_cat (pv 3) (pe_lst (pa_cons (pv 5) pa_nil))) pa_nil)) (pa_cons (pe_callTy call_tupF (by rfl) T.z_tuple bo_tuple (pa_cons (pe_op op_cat (pv 3) (pe_slice sl_list (pv 3) (po_some (pe_un un_neg pe_int)) po_none)) pa_nil)) (pa_cons (pe_tupRevF rfl T.z_tuple T.z_reversed (pv 3)) (pa_cons (pe_callTy call_tupF (by rfl) T.z_tuple bo_tuple (pa_cons (pe_slice sl_list (pv 3) (po_some pe_int) po_none) pa_nil)) pa_nil))))))))
      (pss_one (ps_ret (pe_call (ok_pickL T) (hr.mono (by omega)) (by rfl) T.g_law_pick T.F_law_pick.kp (b_law_pick T) .nil pass0 (pa_cons (pv 0) (pa_cons (pe_op op_cat (pv 6) (pe_lst (pa_cons (pe_callTy call_tupF (by rfl) T.z_tuple bo_tuple (pa_cons (pe_slice sl_list (pv 3) po_none (po_some (pe_un un_neg pe_int))) pa_nil)) (pa_cons (pe_callTy call_tupF (by rfl) T.z_tuple bo_tuple (pa_cons (pe_op op_cat (pe_slice sl_list (pv 3) (po_some pe_int) po_none) (pe_slice sl_list (pv 3) po_none (po_some pe_int))) pa_nil)) (pa_cons (pv 5) pa_nil))))) pa_nil))))))) pss_nil)
      (pss_cons (ps_if (pt_val (pe_call (ok_whole T) (hr.mono (by omega)) (by rfl) T.g_law_whole_number T.F_law_whole_number.kp (b_law_whole_number T) .nil pass0 (pa_cons (pv 1) pa_nil))) (pss_one (ps_ret (pe_call (ok_pickL T) (hr.mono (by omega)) (by rfl) T.g_law_pick T.F_law_pick.kp (b_law_pick T) .nil pass0 (pa_cons (pv 0) (pa_cons (pe_lst (pa_cons (pe_op op_add (pv 1) pe_int) (pa_cons (pe_op op_sub (pv 1) pe_int) (pa_cons (pe_op op_sub pe_int (pv 1)) (pa_cons pe_int (pa_cons pe_int (pa_cons pe_int (pa_cons pe_bl (pa_cons pe_bl (pa_cons pe_non (pa_cons (pe_tupF (pa_cons (pv 1) pa_nil)) (pa_cons pe_str (pa_cons (pe_op op_add (pv 1) pe_int) pa_nil))))))))))))) pa_nil))))) pss_nil)
      (pss_one (ps_ret (pe_call (ok_anyD T) (hr.mono (by omega)) (by rfl) T.g_law_any T.F_law_any.kp (b_law_any T) .nil pass0 (pa_cons (pv 0) pa_nil)))))))), ?_⟩
    refine q_asgW (σ := [some (.ref sd), some (v), none, none, none, none, none]) ⟨.ref sd, rfl, sd, sg, sc, b + 2 * n + 4, 6, rfl, by decide, by decide, hS, fun z H1 z0 z6 hS1 X1 => ?_⟩
    have o1 := o0.step hS1 X1
    have hv1 := hv.up (o0.ex X1)
    have zup : ∀ x : D, x.Zs m → x.Zs (m + 1) := zs_up (by omega)
    have isSq : ∀ (H' : Hp) (σ' : L2.St), σ'[1]? = some (some v) → RepS S H' v d → EvT (fun σ H Q => (tCB (rIsiT K) (tCons (tVar 1) (tCons (tTup (tCons (tC (.ty "tuple")) (tCons (tC (.ty "list")) tNil))) tNil))) σ H fun x H1 => ∃ k, x = .bl k ∧ Q k H1) σ' H' d.seq := fun H' σ' g r => et_val (ev_isSeq (ev_var g) (r.up hidP_sub) ev_c ev_c)
    have okAny : ∀ H4, Sta H4 sd sg sc (b + 2 * n + 4) → ExS sd sg H H4 → Ex (hidP S H1) (hidP S H4) → spAnyD [.ref sd] H4 Q E0 := fun H4 s4 x4 _ => ⟨sd, sg, sc, b + 2 * n + 2, S, rfl, o0.step s4 x4, s4, fun v' d' H5 r5 a5 s5 x5 => q v' d' H5 r5 (by have := a5.1; omega) (zs_up (by omega) _ a5.2) (s5.less (by omega)) (x4.trans x5)⟩
    refine s_ifX (σ := [some (.ref sd), some (v), some (.int z), none, none, none, none]) (b := match d with | .tup ds => decide ((ds.length : Int) > 0) && decide (z > 1) | .lst ds => decide ((ds.length : Int) > 0) && decide (z > 1) | _ => false) ?_ (fun hb H2 e2 => ?_) (fun hb H2 e2 => ?_)
    · cases hq : d.seq with
      | false =>
        refine et_is (et_and (b := true) (isSq H1 _ rfl hv1) fun hc => by rw [hq] at hc; cases hc) ?_
        rw [hq]
        cases d <;> first | rfl | cases hq
      | true =>
        obtain ⟨ds, sd_⟩ := seq_is hq
        refine et_is (et_and (isSq H1 _ rfl hv1) fun _ => et_and (et_test (ev_op (ev_lenSq (ev_var (i := 1) rfl) sd_ hv1) ev_c rv_I0)) fun _ => et_test (ev_op (ev_var (i := 2) rfl) ev_c rv_I0)) ?_
        rw [hq]
        rcases sd_ with rfl | rfl <;> rfl
    · -- one of its things is spoilt
      obtain ⟨ds, sq, l0⟩ : ∃ ds, SeqD d ds ∧ 0 < ds.length := by
        cases d with
        | tup ds =>
          have := (Bool.and_eq_true_iff.mp hb).1
          exact ⟨ds, .inl rfl, by have := of_decide_eq_true this; omega⟩
        | lst ds =>
          have := (Bool.and_eq_true_iff.mp hb).1
          exact ⟨ds, .inr rfl, by have := of_decide_eq_true this; omega⟩
        | _ => cases hb
      obtain ⟨k, rfl, row⟩ := seqD_row sq hdp hzs
      obtain ⟨n1, rfl⟩ : ∃ n1, n = n1 + 1 := ⟨n - 1, by omega⟩
      obtain rfl := hsp n1 rfl
      have hv2 := hv1.up (hidP_ex e2)
      have o2 := o1.up e2
      obtain ⟨a, vs, ea, hs, rs⟩ := seq_at (K := K) sq hv2
      have lv := rs.length
      have lm := row.1
      refine s_parQ ⟨v, rfl, a, vs, by rw [ea], hs _ (Ex.refl _), fun p np => ?_⟩
      have np1 : ¬ S p := o2.i.new np
      have hp3 : upd H2 p (.lst vs) p = some (.lst vs) := upd_same
      have e3 : Ex H2 (upd H2 p (.lst vs)) := Ex.new np
      have lift3 : Ex (hidP S H2) (hidP (also S p) (upd H2 p (.lst vs))) := (hidP_also np).trans (hidP_mut (.inr rfl))
      have nS : p ≠ sd ∧ p ≠ sg := ⟨fun z => np1 (z ▸ o2.d), fun z => np1 (z ▸ o2.g)⟩
      have oA : OfS (also S p) sd sg (upd H2 p (.lst vs)) := ⟨.inl o2.d, .inl o2.g, fun a' h' n' => h'.elim (fun h' => (o2.up e3).i a' h' n') fun h' => by rw [h', hp3] at n'; cases n'⟩
      have S3 := (hS1.up e2).up e3
      generalize upd H2 p (.lst vs) = H3 at hp3 e3 lift3 oA S3
      have rs3 := rs.up lift3
      refine ⟨.ref sd, rfl, v, rfl, a, vs, by rw [ea], hs _ e3, sd, sg, sc, b + 2 * n1 + 5, vs.length, rfl, by omega, by omega, S3.less (by omega), fun z2 H4 z20 z2l S4 X4 => ?_⟩
      obtain ⟨j, rfl⟩ : ∃ j : Nat, z2 = (j : Int) := ⟨z2.toNat, by omega⟩
      have jl : j < vs.length := by omega
      refine ⟨.ref p, .int (j : Int), rfl, ?_⟩
      have hp4 := X4 _ _ hp3 nS.1 nS.2
      have rs4 := rs3.up (oA.ex X4)
      have oA4 := oA.step S4 X4
      obtain ⟨dj, hdj, rj⟩ := rs4.get (List.getElem?_eq_getElem jl)
      have okj := row.2 dj (List.mem_of_getElem? hdj)
      refine ⟨.ref sd, rfl, .ref p, rfl, .int (j : Int), rfl, p, vs, (j : Int), vs[j], rfl, rfl, .of hp4, atI_nat (by simp [List.getElem?_eq_getElem jl]), sd, sg, sc, b, m, k, also S p, vs[j], dj, rfl, oA4, rj, okj.1, by omega, m20, m400, okj.2, S4, fun v' d' H5 r5 dp5 z5 S5 X5 => ?_⟩
      have hp5 := X5 _ _ hp4 nS.1 nS.2
      have rs5 := rs4.up (oA4.ex X5)
      refine ⟨.ref p, rfl, .int (j : Int), rfl, p, vs, (j : Int), j, rfl, rfl, hp5, by unfold ixN; simp; omega, ?_⟩
      have hp6 : upd H5 p (.lst (vs.set j v')) p = some (.lst (vs.set j v')) := upd_same
      have mut6 : Ex (hidP (also S p) H5) (hidP (also S p) (upd H5 p (.lst (vs.set j v')))) := hidP_mut (.inr rfl)
      have rs6 := (reps_set r5 j rs5).up (mut6.trans (hidP_less fun a h => .inl h))
      have rp : RepS S (upd H5 p (.lst (vs.set j v'))) (.ref p) (.lst (ds.set j d')) := .lst (hidP_at hp6 np1) rs6
      have S6 := S5.upd (o := .lst (vs.set j v')) nS.1 nS.2 ((hS1.up e2).off np).2.2
      have X06 : ExS sd sg H (upd H5 p (.lst (vs.set j v'))) := fun a o h n m => (upd_ne (fun z => by
        have := (X1.trans (.of e2)) a o h n m
        rw [z, np] at this
        cases this)).trans (((X1.trans (.of (e2.trans e3))).trans (X4.trans X5)) a o h n m)
      have o6 : OfS S sd sg (upd H5 p (.lst (vs.set j v'))) := ⟨o0.d, o0.g, ((o0.step S5 ((X1.trans (.of (e2.trans e3))).trans (X4.trans X5))).i).mut⟩
      generalize upd H5 p (.lst (vs.set j v')) = H6 at rp S6 X06 o6
      have hv6 : RepS S H6 v d := hv.up (o0.ex X06)
      have row2 : RowD (k + 2) (m + 1) (ds.set j d') := ⟨by rw [List.length_set]; omega, fun x hx => by
        rcases List.mem_or_eq_of_mem_set hx with h | h
        · have := row.2 x h
          exact ⟨by have := this.1; omega, zup x this.2⟩
        · subst h
          exact ⟨dp5, z5⟩⟩
      refine et_val (ev_isi (ev_var (i := 1) rfl) (hv6.up hidP_sub)) H6 (Ex.refl _) _ fun H7 e7 => ite2 (fun ht => ?_) (fun ht => ?_)
      · refine es_tupOf (o6.up e7).i (es_of (ev_var (i := 3) rfl) (rp.up (hidP_ex e7))) H7 (Ex.refl _) _ fun u H8 e8 r8 => q u _ H8 r8 (by have := row2.tup.1; omega) row2.tup.2 (S6.up (e7.trans e8)) (X06.trans (.of (e7.trans e8)))
      · exact ⟨.ref p, rfl, q (.ref p) _ H7 (rp.up (hidP_ex e7)) (by have := row2.lst.1; omega) row2.lst.2 (S6.up e7) (X06.trans (.of e7))⟩
    · have hv2 := hv1.up (hidP_ex e2)
      have o2 := o1.up e2
      have S2 := hS1.up e2
      have X2 : ExS sd sg H H2 := X1.trans (.of e2)
      refine s_ifX (σ := [some (.ref sd), some (v), some (.int z), none, none, none, none]) (b := d.seq) (isSq H2 _ rfl hv2) (fun hq H3 e3 => ?_) (fun hq H3 e3 => ?_)
      · have hv3 := hv2.up (hidP_ex e3)
        have S3 := S2.up e3
        have o3 := o2.up e3
        have X3 := X2.trans (.of e3)
        obtain ⟨ds, sq⟩ := seq_is hq
        obtain ⟨k, hk, row⟩ := seqD_row sq hdp hzs
        subst hk
        have lm := row.1
        refine s_parQ ?_
        refine es_listSq o3.i (ev_var (i := 1) rfl) sq hv3 H3 (Ex.refl _) _ fun u H4 e4 r4 => ?_
        refine ⟨.ref sd, rfl, sd, sg, sc, b + 2 * n + 2, S, rfl, o3.up e4, S3.up e4, fun more dm H5 r5 a5 S5 X5 => ⟨u, more, rfl, ?_⟩⟩
        have o5 := (o3.up e4).step S5 X5
        have X05 := (X3.trans (.of e4)).trans X5
        have eu : EvS S (tVar 3) [some (.ref sd), some (v), some (.int z), some (u), none, some (more), none] H5 (.lst ds) := es_of (ev_var rfl) (r4.up ((o3.up e4).ex X5))
        have R : ∀ es : List D, es.length ≤ m + 1 → (∀ x ∈ es, x ∈ ds ∨ x = dm) → RowD (k + 2) (m + 1) es := fun es le h => ⟨le, fun x hx => (h x hx).elim (fun h => ⟨by have := (row.2 x h).1; omega, zup x (row.2 x h).2⟩) fun h => by
          subst h
          exact ⟨by have := a5.1; omega, zs_up (by omega) _ a5.2⟩⟩
        refine s_asgS (S := S) (σ := [some (.ref sd), some (v), some (.int z), some (u), none, some (more), none]) (es_lst o5.i (ds := [.lst ds, .tup ds, .tup (ds ++ [dm]), .tup (ds ++ cutX ds (some (-1)) none), .tup ds.reverse, .tup (cutX ds (some 1) none)]) (eas_cons eu (eas_cons (es_tupOf o5.i eu) (eas_cons (es_tupOf o5.i (es_catL o5.i eu (es_lst o5.i (eas_cons (es_of (ev_var (i := 5) rfl) r5) eas_nil) (by simp)) (by simp; omega))) (eas_cons (es_tupOf o5.i (es_catL o5.i eu (es_cutL o5.i eu (eo_some (ev_un ev_c ru_neg)) eo_none) (by have := cut_len ds (some (-1)) none; omega))) (eas_cons (es_tupRev o5.i eu) (eas_cons (es_tupOf o5.i (es_cutL o5.i eu (eo_some ev_c) eo_none)) eas_nil)))))) (by simp)) fun u6 H6 e6 r6 => ?_
        have o6 := o5.up e6
        have eu6 : EvS S (tVar 3) [some (.ref sd), some (v), some (.int z), some (u), none, some (more), some (u6)] H6 (.lst ds) := es_of (ev_var rfl) ((r4.up ((o3.up e4).ex X5)).up (hidP_ex e6))
        refine ⟨.ref sd, rfl, ?_⟩
        refine es_catL (S := S) (σ := [some (.ref sd), some (v), some (.int z), some (u), none, some (more), some (u6)]) o6.i (es_of (ev_var (i := 6) rfl) r6) (es_lst o6.i (ds := [.tup (cutX ds none (some (-1))), .tup (cutX ds (some 1) none ++ cutX ds none (some 1)), dm]) (eas_cons (es_tupOf o6.i (es_cutL o6.i eu6 eo_none (eo_some (ev_un ev_c ru_neg)))) (eas_cons (es_tupOf o6.i (es_catL o6.i (es_cutL o6.i eu6 (eo_some ev_c) eo_none) (es_cutL o6.i eu6 eo_none (eo_some ev_c)) (by have := cut_len ds (some 1) none; have := cut_len ds none (some 1); omega))) (eas_cons (es_of (ev_var (i := 5) rfl) (r5.up (hidP_ex e6))) eas_nil))) (by simp)) (by simp) H6 (Ex.refl _) _ fun u7 H7 e7 r7 => ?_
        refine pickS (b := b + 2 * n + 1) (o6.up e7) (S5.up (e6.trans e7)) r7 (by simp) (by simp) fun x d' H8 hd rx S8 X8 => ?_
        have fin : d'.deep ≤ k + 1 + 2 ∧ d'.Zs (m + 1) := by
          have c1 := cut_len ds (some (-1)) none
          have c2 := cut_len ds (some 1) none
          have c3 := cut_len ds none (some (-1))
          have c4 := cut_len ds none (some 1)
          simp only [List.cons_append, List.nil_append, List.mem_cons, List.not_mem_nil, or_false] at hd
          rcases hd with rfl | rfl | rfl | rfl | rfl | rfl | rfl | rfl | rfl
          · exact (R ds (by omega) fun x h => .inl h).lst
          · exact (R ds (by omega) fun x h => .inl h).tup
          · exact (R _ (by rw [List.length_append, List.length_singleton]; omega) fun x h => (List.mem_append.mp h).imp id List.mem_singleton.mp).tup
          · exact (R _ (by rw [List.length_append]; have := cut_last ds; omega) fun x h => .inl ((List.mem_append.mp h).elim id mem_cut)).tup
          · exact (R _ (by rw [List.length_reverse]; omega) fun x h => .inl (List.mem_reverse.mp h)).tup
          · exact (R _ (by omega) fun x h => .inl (mem_cut h)).tup
          · exact (R _ (by omega) fun x h => .inl (mem_cut h)).tup
          · exact (R _ (by rw [List.length_append]; have := cut_swap ds; omega) fun x h => .inl ((List.mem_append.mp h).elim mem_cut mem_cut)).tup
          · exact ⟨by have := a5.1; omega, zs_up (by omega) _ a5.2⟩
        exact q x d' H8 rx fin.1 fin.2 (S8.less (by omega)) ((X05.trans (.of (e6.trans e7))).trans X8)
      · have hv3 := hv2.up (hidP_ex e3)
        have S3 := S2.up e3
        have X3 := X2.trans (.of e3)
        have o3 := o2.up e3
        refine s_ifX (σ := [some (.ref sd), some (v), some (.int z), none, none, none, none]) (b := decide (d.ty = "int")) (et_val (ev_sp stb_whole (ea_cons (ev_var (i := 1) rfl) ea_nil) ⟨v, d, rfl, hv3.up hidP_sub, rfl⟩)) (fun hi H4 e4 => ?_) (fun hi H4 e4 => ?_)
        · obtain ⟨i, rfl⟩ : ∃ i, d = .int i := by
            cases d with
            | int i => exact ⟨i, rfl⟩
            | _ => simp [D.ty] at hi
          obtain rfl := hv.intD
          have o4 := o3.up e4
          refine ⟨.ref sd, rfl, ?_⟩
          refine es_lst (S := S) (σ := [some (.ref sd), some (.int i), some (.int z), none, none, none, none]) o4.i (ds := [.int (i + 1), .int (i - 1), .int (0 - i), .int 0, .int 1, .int 2, .bl true, .bl false, .non, .tup [.int i], .str "0", .int (i + 40)]) (eas_cons (es_of (ev_op (ev_var (i := 1) rfl) ev_c rv_I0) (.int _)) (eas_cons (es_of (ev_op (ev_var (i := 1) rfl) ev_c rv_I0) (.int _)) (eas_cons (es_of (ev_op ev_c (ev_var (i := 1) rfl) rv_I0) (.int _)) (eas_cons (es_of ev_c (.int _)) (eas_cons (es_of ev_c (.int _)) (eas_cons (es_of ev_c (.int _)) (eas_cons (es_of ev_c (.bl _)) (eas_cons (es_of ev_c (.bl _)) (eas_cons (es_of ev_c .non) (eas_cons (es_tup o4.i (eas_cons (es_of (ev_var (i := 1) rfl) (.int _)) eas_nil) (by simp)) (eas_cons (es_of ev_c (.str _)) (eas_cons (es_of (ev_op (ev_var (i := 1) rfl) ev_c rv_I0) (.int _)) eas_nil)))))))))))) (by simp) H4 (Ex.refl _) _ fun u5 H5 e5 r5 => ?_
          refine pickS (b := b + 2 * n + 3) (o4.up e5) ((S3.up e4).up e5) r5 (by simp) (by simp) fun x d' H8 hd rx S8 X8 => ?_
          have fin : d'.deep ≤ 1 ∧ d'.Zs 20 := by
            simp only [List.mem_cons, List.not_mem_nil, or_false] at hd
            rcases hd with rfl | rfl | rfl | rfl | rfl | rfl | rfl | rfl | rfl | rfl | rfl | rfl <;> (refine ⟨by simp [D.deep, deeps], ?_⟩; simp [D.Zs, Zss]; try decide)
          exact q x d' H8 rx (by have := fin.1; omega) (zs_up (by omega) _ fin.2) (S8.less (by omega)) ((X3.trans (.of (e4.trans e5))).trans X8)
        · exact ⟨.ref sd, rfl, okAny H4 (S3.up e4) (X3.trans (.of e4)) (hidP_ex ((e2.trans e3).trans e4))⟩
theorem ok_spoilt : ∀ n : Nat, FnOk P w K mg base CX0 (n + 6) T.a_law_spoilt T.d_law_spoilt ["state", "thing"] (spSpoilt n)
  | 0 => ok_spoilt_step T 0 (fun _ _ _ _ => False) (T.F_law_spoilt.ok sc_law_spoilt (fun vs H Q E h => h.elim) (fun cdv A outer s H vs Q E hr h => h.elim)) fun m h => by omega
  | n + 1 => ok_spoilt_step T (n + 1) (spSpoilt n) (ok_spoilt n) fun m h => by
    obtain rfl : n = m := by omega
    rfl
end
end Kx

set_option Elab.async false
set_option linter.all false
set_option maxRecDepth 100000
set_option maxHeartbeats 400000
namespace Kx
open PySem PySem.Spec PyProof.Rows L2 Evl
/-! ## sorted texts -/
abbrev leS (a b : Str) : Prop := ¬ b.cps.toList < a.cps.toList
theorem risingS_pw : ∀ (l : List Str) (p : Str), risingS p l = true → (p :: l).Pairwise leS
  | [], p, _ => List.pairwise_singleton _ _
  | x :: r, p, h => by
    unfold risingS at h
    rw [Bool.and_eq_true, ltCps_eq, Bool.not_eq_true', decide_eq_false_iff_not] at h
    have ih := risingS_pw r x h.2
    refine List.pairwise_cons.mpr ⟨fun y hy => ?_, ih⟩
    rcases List.mem_cons.mp hy with rfl | hy
    · exact h.1
    · exact List.le_trans h.1 ((List.pairwise_cons.mp ih).1 y hy)
theorem sortedS_pw {l : List Str} (h : sortedS l = true) : l.Pairwise leS := by
  cases l with
  | nil => exact List.Pairwise.nil
  | cons x r => exact risingS_pw r x h
theorem leS_anti {a b : Str} (h : leS a b) (k : leS b a) : a = b := TL.ext_tl (List.le_antisymm h k)
theorem asc_pw {ss : List Str} (h : ascS ss = true) : ss.Pairwise fun a b => a.cps.toList < b.cps.toList := by
  have adj : ∀ j, j + 1 < ss.length → (ss.getD j Str.empty).cps.toList < (ss.getD (j + 1) Str.empty).cps.toList := fun j hj => by
    have := List.all_eq_true.mp h j (List.mem_range.mpr (by omega))
    exact of_decide_eq_true this
  have far : ∀ d i, i + d + 1 < ss.length → (ss.getD i Str.empty).cps.toList < (ss.getD (i + d + 1) Str.empty).cps.toList := fun d => by
    induction d with
    | zero => exact fun i hi => adj i hi
    | succ d ih => exact fun i hi => List.lt_trans (ih i (by omega)) (adj (i + d + 1) (by omega))
  refine List.pairwise_iff_getElem.mpr fun i j hi hj lt => ?_
  have := far (j - i - 1) i (by omega)
  rw [show i + (j - i - 1) + 1 = j by omega, List.getD_eq_getElem?_getD, List.getD_eq_getElem?_getD, List.getElem?_eq_getElem hi, List.getElem?_eq_getElem hj] at this
  exact this
theorem pw_asc {ss : List Str} (h : ss.Pairwise fun a b => a.cps.toList < b.cps.toList) : ascS ss = true := List.all_eq_true.mpr fun j hj => by
  have hj := List.mem_range.mp hj
  have := List.pairwise_iff_getElem.mp h j (j + 1) (by omega) (by omega) (by omega)
  unfold ltS
  rw [List.getD_eq_getElem?_getD, List.getD_eq_getElem?_getD, List.getElem?_eq_getElem (show j < ss.length by omega), List.getElem?_eq_getElem (show j + 1 < ss.length by omega)]
  exact decide_eq_true this
theorem fm_nd (xs : List Str) : (fm xs).Nodup := by
  have go : ∀ (xs σ : List Str), σ.Nodup → (xs.foldl fstep σ).Nodup := fun xs => by
    induction xs with
    | nil => exact fun σ h => h
    | cons x r ih =>
      intro σ h
      rw [List.foldl_cons]
      refine ih _ ?_
      unfold fstep
      split
      · exact h
      · rename_i n
        refine List.nodup_append.mpr ⟨h, by simp, fun a ha b hb e => n ?_⟩
        rw [List.mem_singleton] at hb
        subst hb e
        exact List.any_eq_true.mpr ⟨a, ha, decide_eq_true rfl⟩
  exact go xs [] List.nodup_nil
theorem mem_fm {xs : List Str} {y : Str} : y ∈ fm xs ↔ y ∈ xs := (fm_mem xs [] y).trans ⟨fun h => h.elim (fun h => nomatch h) id, .inr⟩
/-- a row is the sorted row of its texts just where it ascends -/
theorem eq_sorted {ss ys : List Str} (pm : ys.Perm (fm ss)) (st : sortedS ys = true) : decide (ss = ys) = ascS ss := by
  rw [Bool.eq_iff_iff, decide_eq_true_iff]
  constructor
  · rintro rfl
    have nd : ss.Nodup := pm.symm.nodup (fm_nd ss)
    refine pw_asc (List.Pairwise.imp (fun {a b} h => ?_) ((sortedS_pw st).and nd))
    exact Classical.byContradiction fun z => h.2 (leS_anti h.1 z)
  · intro h
    have pw := asc_pw h
    have nd : ss.Nodup := List.Pairwise.imp (S := fun a b => a ≠ b) (fun {a b} (h : a.cps.toList < b.cps.toList) (e : a = b) => List.lt_irrefl a.cps.toList (by rw [← e] at h; exact h)) pw
    have p2 : (fm ss).Perm ss := (List.perm_ext_iff_of_nodup (fm_nd ss) nd).mpr fun y => mem_fm
    exact List.Perm.eq_of_pairwise (fun a b _ _ h k => leS_anti h k) (pw.imp fun {a b} h => (List.le_of_lt h : leS a b)) (sortedS_pw st) (pm.trans p2).symm
theorem strs_eqv : ∀ ss ts : List Str, PyData.eqvAll (ss.map PyData.str) (ts.map PyData.str) = decide (ss = ts)
  | [], [] => by simp [PyData.eqvAll]
  | [], t :: ts => by simp [PyData.eqvAll]
  | s :: ss, [] => by simp [PyData.eqvAll]
  | s :: ss, t :: ts => by
    simp only [List.map_cons, PyData.eqvAll, PyData.eqv, strs_eqv ss ts]
    by_cases h : s = t
    · subst h; simp
    · simp [h]
end Kx

set_option Elab.async false
set_option linter.all false
set_option maxRecDepth 100000
set_option maxHeartbeats 400000
namespace Kx
open PySem PySem.Spec PyProof.Rows L2 Evl
/-! ## good names, good settings -/
def okGN : OkF := fun vs H z => ∃ v d a ns, vs = [.ref a, v] ∧ Rep H v d ∧ d.Zs 60 ∧ Txs H a ns ∧ (∀ n ∈ ns, PyData.strOk n = true) ∧ z = .bl (d.named ns)
theorem stb_gn : Stb okGN := fun _ _ _ _ e ⟨v, d, a, ns, h1, h2, h3, h4, h5, h6⟩ => ⟨v, d, a, ns, h1, h2.up e, h3, h4.up e, h5, h6⟩
def spDNs : Sp := fun vs H Q _ => ∃ (v : V) (da : D), vs = [v] ∧ Rep H v da ∧ da.air = true ∧ ∀ (p : Addr) (ys : List Str) (H' : Hp), H p = none → Ex H H' → ys.Perm (fm (dN da)) → sortedS ys = true → H' p = some (.lst (sv ys)) → Q (.ref p) H'
def okGS : OkF := fun vs H z => ∃ x da v d, vs = [x, v] ∧ Rep H x da ∧ da.air = true ∧ Rep H v d ∧ d.Zs 60 ∧ z = .bl (d.setg (hN da) (dN da))
theorem stb_gs : Stb okGS := fun _ _ _ _ e ⟨x, da, v, d, h1, h2, h3, h4, h5, h6⟩ => ⟨x, da, v, d, h1, h2.up e, h3, h4.up e, h5, h6⟩
theorem amg_same {ns ms : List Str} (h : ∀ x, x ∈ ns ↔ x ∈ ms) (s : Str) : amg s ns = amg s ms := by
  rw [Bool.eq_iff_iff, amg_iff, amg_iff]
  exact h s
theorem named_same {ns ms : List Str} (h : ∀ x, x ∈ ns ↔ x ∈ ms) (d : D) : d.named ns = d.named ms := by
  cases d with
  | tup ds =>
    unfold D.named
    simp only
    congr 1
    congr 1
    funext x
    cases x with
    | str s => exact amg_same h s
    | _ => rfl
  | _ => rfl
theorem pyds_str : ∀ ss : List Str, pyds (ss.map D.str) = ss.map PyData.str
  | [] => by simp [pyds]
  | s :: r => by simp [pyds, D.pyd, pyds_str r]
theorem zs_row {m : Nat} {ds : List D} (h : (D.tup ds).Zs m) : ds.length ≤ m ∧ ∀ d ∈ ds, d.Zs m := by
  unfold D.Zs at h
  exact ⟨h.1, zss_iff.mp h.2⟩
section
variable {P : Program} {w : World} {K : PySem.W.Frag} {mg : Str → Option Value} {base : Heap} (T : Txt K mg)
theorem nm_nmS {d : D} (h : d.nm = true) : nmS d.txt = true := by
  cases d with
  | str s => exact h
  | _ => cases h
theorem hN_ok {da : D} (h : da.air = true) : ∀ n ∈ hN da, PyData.strOk n = true := fun n hn => by
  obtain ⟨rs, ls, hs, m, lo, hi, f, mv, A⟩ := air_is h
  rw [A.hN] at hn
  unfold nmsD at hn
  obtain ⟨d, hd, rfl⟩ := List.mem_map.mp hn
  obtain ⟨n, a, g, rfl, h1, _⟩ := heat_shape (A.ha d hd)
  exact strOk_nm h1
theorem dN_ok {da : D} (h : da.air = true) : ∀ n ∈ dN da, PyData.strOk n = true := fun n hn => by
  obtain ⟨rs, ls, hs, m, lo, hi, f, mv, A⟩ := air_is h
  rw [A.dN] at hn
  unfold dNl at hn
  obtain ⟨d, hd, rfl⟩ := List.mem_map.mp hn
  obtain ⟨hd, hk⟩ := List.mem_filter.mp hd
  obtain ⟨a1, b1, s1, n1, rfl, _, _, _, _, _, hn⟩ := leak_shape (A.la d hd)
  rcases hn with rfl | ⟨y, rfl, hy⟩
  · cases hk
  · exact strOk_nm hy
theorem ok_dnames : FnOk P w K mg base CX0 1 T.a_law_door_names T.d_law_door_names ["air"] spDNs := by
  refine T.F_law_door_names.ok sc_law_door_names (fun vs H Q E h => ?_) (fun cdv A outer s H vs Q E hr h => ?_)
  · obtain ⟨v, da, rfl, _⟩ := h
    rfl
  · obtain ⟨v, da, rfl, hv, hair, q⟩ := h
    have nd := sc_law_door_names.nd
    refine ⟨_, (pss_one (ps_ret (pe_sortSet rfl T.z_sorted T.z_set (pe_lc (own := [("row", 1)]) (g := gName 1)  (by rfl) nd (pi_tup (pe_ix (r := rIxT K) ix_tup (pv 0) pe_int (fun _ _ => rfl))) (blkOk_by (N := ["air", "row"]) (sc := defScope s_law_door_names) (by decide +kernel)) (fun _ _ _ _ _ => (pg_name (i := 1) nd rfl (.inl rfl))) (fun _ _ _ _ _ => (pts_one (pt_cmpR op_notN (pe_ix (r := rIxT K) ix_tup (pv 1) pe_int (fun _ _ => rfl)) pe_non (nomark _)))) (fun _ _ _ _ _ => (pe_ix (r := rIxT K) ix_tup (pv 1) pe_int (fun _ _ => rfl))))))), ?_⟩
    obtain ⟨rs, ls, hs, m, lo, hi, f, mv, A⟩ := air_is hair
    rw [A.dN] at q
    rw [A.eq] at hv
    obtain ⟨a, v0, v1, v2, v3, v4, v5, rfl, ha, r0, r1, r2, r3, r4, r5⟩ := hv.t6
    have shp := fun d hd => leak_shape (A.la d hd)
    have c := lcS (S := S0) (ds := ls) (wi := iTup K (tOp (rIxT K) (tVar 0) (tC (.int 3)))) (g := gName 1) (tt := tTest (tOp (fun x y H Q => y = .non ∧ Q (.bl (!decide (x = .non))) H) (tOp (rIxT K) (tVar 1) (tC (.int 3))) (tC .non))) (te := tOp (rIxT K) (tVar 1) (tC (.int 3))) (own := [1]) (σ := [some (.ref a), none]) (H := H) (fun x => !isN x.dor) (fun x => .str x.dor.txt) in0 (its_tup (es_of (ev_ixT (j := 3) (ev_var rfl) ha rfl) (r3.up hid0))) (by have := A.l6; omega) fun S' y d2 H6 hd2 in6 e6 x6 ry => by
      obtain ⟨a1, b1, s1, n1, rfl, _, _, _, _, _, hn⟩ := shp d2 hd2
      obtain ⟨p, u0, u1, u2, u3, rfl, hp, g0, g1, g2, g3⟩ := ry.t4
      have hp := hp.up hidP_sub
      refine ⟨[some (.ref a), some (.ref p)], fun Q h => h, rfl, et_test (ev_is (ev_op (ev_ixT (j := 3) (ev_var rfl) hp rfl) ev_c rv_notN) (by rw [isN_v g3]; rfl)), fun hk => ?_⟩
      rcases hn with rfl | ⟨y, rfl, _⟩
      · cases hk
      · obtain rfl := g3.strD
        exact es_of (ev_ixT (j := 3) (ev_var rfl) hp rfl) (.str _)
    have lz : (dNl ls).length ≤ 6 := by
      unfold dNl
      rw [List.length_map]
      exact Nat.le_trans (List.length_filter_le _ _) A.l6
    rw [show (ls.filter fun x => !isN x.dor).map (fun x => D.str x.dor.txt) = (dNl ls).map D.str from by unfold dNl; rw [List.map_map]; rfl] at c
    refine s_retW ?_
    refine c H (Ex.refl _) _ fun v H2 e2 rv => ?_
    obtain ⟨p, us, rfl, hp, hus⟩ := (rv.up hidP_sub).lstD
    rw [strs_of_reps hus] at hp
    exact ⟨p, dNl ls, rfl, .inl (.of hp), by omega, fun p2 ys np pm st => q p2 ys _ (fresh_back e2 np) (e2.trans (Ex.new np)) pm st upd_same⟩
theorem ok_gnames : FnOk P w K mg base CX0 1 T.a_law_good_names T.d_law_good_names ["some", "value"] (spX okGN) := by
  refine T.F_law_good_names.ok sc_law_good_names (fun vs H Q E h => ?_) (fun cdv A outer s H vs Q E hr h => ?_)
  · obtain ⟨z, ⟨v, d, a, ns, rfl, _⟩, _⟩ := h
    rfl
  · obtain ⟨z, ⟨v, d, na, ns, rfl, hv, hz, hns, hok, rfl⟩, q⟩ := h
    have nd := sc_law_good_names.nd
    have hu4 : (A.deeper (envOfC "_law_good_names" (defScope s_law_good_names) s.heap.objs.size T.a_law_good_names cdv)).units + 64 < cLine := by have := hr.un; omega
    refine ⟨_, (pss_cons (ps_if (PW.pt (pw_or (pt_not (pt_val (pe_isi T.z_isinstance T.z_tuple bo_tuple (pv 1)))) (pw_or1 (pt_cmpR (op_neD hu4) (pe_lc (own := [("part", 2)]) (g := gName 2)  (by rfl) nd (pi_tup (pv 1)) (blkOk_by (N := ["some", "value", "part"]) (sc := defScope s_law_good_names) (by decide +kernel)) (fun _ _ _ _ _ => (pg_name (i := 2) nd rfl (.inl rfl))) (fun _ _ _ _ _ => (pts_one (PW.pt (pw_or (pt_not (pt_val (pe_callB (r := rIsi K) call_isi (by rfl) T.z_isinstance bo_isinstance (pa_cons (pv 2) (pa_cons (pe_bltn (v := .ty "str") (by rfl) T.z_str bo_str rfl) pa_nil))))) (pw_or1 (pt_cmpR (r := rIn K true) op_notIn_seq (pv 2) (pv 0) (by rfl))))))) (fun _ _ _ _ _ => pe_int)) (pe_lst pa_nil) (nomark _))))) (pss_one (ps_ret pe_bl)) pss_nil)
      (pss_one (ps_ret (pe_cmpR (op_eqD hu4) (pe_callTy call_list_of (by rfl) T.z_list bo_list (pa_cons (pv 1) pa_nil)) (pe_sortSet rfl T.z_sorted T.z_set (pv 1)) (nomark _))))), ?_⟩
    by_cases ht : d.ty = "tuple"
    · obtain ⟨ds, rfl⟩ := ty_tup ht
      obtain ⟨a, vs, rfl, ha, hs⟩ := hv.tupD
      have zr := zs_row hz
      refine s_ifX (σ := [some (.ref na), some (.ref a), none]) (b := !ds.all fun d => amD d ns) (et_is (et_or (et_not (et_val (ev_isi (ev_var (i := 1) rfl) hv))) fun _ => et_test (ev_is (ev_neNilI (S := S0) (lcI (ds := ds) (fun d => !amD d ns) (fun _ => 1) in0 (its_tup (es_of (ev_var (i := 1) rfl) (hv.up hid0))) (by omega) fun S' y d2 H5 hd2 in5 e5 x5 ry => ⟨[some (.ref na), some (.ref a), some (y)], fun Q h => h, rfl, ?_, fun _ => ev_c⟩)) (by rw [none_off]))) ?_) (fun hb H2 e2 => ?_) (fun hb H2 e2 => ?_)
      · cases hi : isi d2 "str" with
        | false =>
          refine et_is (et_or (b := true) (et_not (et_val (ev_isi (ev_var (i := 2) rfl) (ry.up hidP_sub)))) fun hc => by rw [hi] at hc; cases hc) ?_
          rw [hi]
          cases d2 <;> first | rfl | cases hi
        | true =>
          have e2 : d2 = .str d2.txt := by cases d2 <;> first | rfl | cases hi
          rw [e2] at ry
          obtain rfl := ry.strD
          refine et_is (et_or (et_not (et_val (ev_isi (d := d2) (ev_var (i := 2) rfl) (by rw [e2]; exact .str _)))) fun _ => et_test (ev_op (ev_var (i := 2) rfl) (ev_var (i := 0) rfl) (rv_niTx (hns.up e5)))) ?_
          rw [hi, e2]
          rfl
      · rfl
      · refine s_ret (v := .bl false) ev_c fun H3 e3 => ?_
        have : D.named ns (.tup ds) = false := by
          unfold D.named
          simp only
          rw [not_t hb, Bool.false_and]
        rw [this] at q
        exact q H3 (e2.trans e3)
      · have hall := not_f hb
        have es := all_am hall
        have ev : vs = sv (ds.map D.txt) := by
          rw [es] at hs
          exact strs_of_reps hs
        subst ev
        have lz : (ds.map D.txt).length < 64 := by rw [List.length_map]; have := zr.1; omega
        have okT : ∀ s ∈ ds.map D.txt, PyData.strOk s = true := fun s hs2 => by
          obtain ⟨d, hd, rfl⟩ := List.mem_map.mp hs2
          exact hok _ (am_str (List.all_eq_true.mp hall d hd)).2
        have lay : ∀ ss : List Str, (∀ s ∈ ss, PyData.strOk s = true) → SeqAt.shaped (.list (ss.map PyData.str)) = true := fun ss h => by
          have := row_lst h
          have := pyd_shaped this.1 (Nat.le_trans this.2 (by decide))
          rwa [show (D.lst (ss.map D.str)).pyd = .list (ss.map PyData.str) from by rw [D.pyd, pyds_str]] at this
        have dps : ∀ (H : Hp) (ss : List Str), DpAll K H (sv ss) (ss.map PyData.str) := fun H ss => by
          induction ss with
          | nil => exact .nil
          | cons x r ih => exact .cons (.str x) ih
        refine s_retW ⟨.ref a, rfl, a, sv (ds.map D.txt), rfl, .inr (ha.up e2).sq, fun l nl => ⟨.ref a, rfl, a, ds.map D.txt, rfl, .inr ((ha.up e2).up (Ex.new nl)).sq, lz, fun p ys np pm st => ?_⟩⟩
        have okY : ∀ s ∈ ys, PyData.strOk s = true := fun s hs2 => okT s (mem_fm.mp (pm.mem_iff.mp hs2))
        have hl : upd (upd H2 l (.lst (sv (ds.map D.txt)))) p (.lst (sv ys)) l = some (.lst (sv (ds.map D.txt))) := (Ex.new np) _ _ upd_same
        refine ⟨.list ((ds.map D.txt).map PyData.str), .list (ys.map PyData.str), .lst (.of hl) (dps _ _), .lst (.of upd_same) (dps _ _), lay _ okT, lay _ okY, ?_⟩
        have ee : PyData.eqv (.list ((ds.map D.txt).map PyData.str)) (.list (ys.map PyData.str)) = D.named ns (.tup ds) := by
          unfold D.named
          simp only
          rw [hall, Bool.true_and, PyData.eqv, strs_eqv, eq_sorted pm st]
        rw [ee]
        exact q _ ((e2.trans (Ex.new nl)).trans (Ex.new np))
    · refine s_ifX (σ := [some (.ref na), some (v), none]) (b := true) (et_is (et_or (b := true) (et_not (et_val (ev_isi (ev_var (i := 1) rfl) hv))) fun hc => by rw [isi_no ht] at hc; cases hc) (by rw [isi_no ht]; rfl)) (fun hb H2 e2 => ?_) (fun hb H2 e2 => by cases hb)
      refine s_ret (v := .bl false) ev_c fun H3 e3 => ?_
      have : d.named ns = false := by cases d <;> first | rfl | exact absurd rfl ht
      rw [this] at q
      exact q H3 (e2.trans e3)
theorem ok_gset : FnOk P w K mg base CX0 2 T.a_law_good_setting T.d_law_good_setting ["air", "value"] (spX okGS) := by
  refine T.F_law_good_setting.ok sc_law_good_setting (fun vs H Q E h => ?_) (fun cdv A outer s H vs Q E hr h => ?_)
  · obtain ⟨z, ⟨x, da, v, d, rfl, _⟩, _⟩ := h
    rfl
  · obtain ⟨z, ⟨x, da, v, d, rfl, hx, hair, hv, hz, rfl⟩, q⟩ := h
    have nd := sc_law_good_setting.nd
    refine ⟨_, (pss_cons (ps_if (pt_not (pt_val (pe_call (ok_ltup T) (hr.mono (by decide)) (by rfl) T.g_law_is_tuple T.F_law_is_tuple.kp (b_law_is_tuple T) .nil pass0 (pa_cons (pv 1) (pa_cons pe_int (pa_cons pe_int pa_nil)))))) (pss_one (ps_ret pe_bl)) pss_nil)
      (pss_one (ps_ret (pe_and (pe_call (ok_gnames T) (hr.mono (by decide)) (by rfl) T.g_law_good_names T.F_law_good_names.kp (b_law_good_names T) .nil pass0 (pa_cons (pe_call (ok_hnames T) (hr.mono (by decide)) (by rfl) T.g_law_heater_names T.F_law_heater_names.kp (b_law_heater_names T) .nil pass0 (pa_cons (pv 0) pa_nil)) (pa_cons (pe_ix (r := rIxT K) ix_tup (pv 1) pe_int (fun _ _ => rfl)) pa_nil))) (pe_one (pe_call (ok_gnames T) (hr.mono (by decide)) (by rfl) T.g_law_good_names T.F_law_good_names.kp (b_law_good_names T) .nil pass0 (pa_cons (pe_call (ok_dnames T) (hr.mono (by decide)) (by rfl) T.g_law_door_names T.F_law_door_names.kp (b_law_door_names T) .nil pass0 (pa_cons (pv 0) pa_nil)) (pa_cons (pe_ix (r := rIxT K) ix_tup (pv 1) pe_int (fun _ _ => rfl)) pa_nil)))))))), ?_⟩
    refine s_ifX (σ := [some (x), some (v)]) (b := !isTup d 2 2) (et_not (et_B (ev_sp stb_tup (ea_cons (ev_var (i := 1) rfl) (ea_cons ev_c (ea_cons ev_c ea_nil))) ⟨v, d, 2, 2, rfl, hv, rfl⟩))) (fun hb H2 e2 => ?_) (fun hb H2 e2 => ?_)
    · refine s_ret (v := .bl false) ev_c fun H3 e3 => ?_
      have z : d.setg (hN da) (dN da) = false := by
        have hb := not_t hb
        match d, hb with
        | .tup [_, _], h => cases h
        | .tup [], _ => rfl
        | .tup [_], _ => rfl
        | .tup (_ :: _ :: _ :: _), _ => rfl
        | .non, _ | .bl _, _ | .int _, _ | .str _, _ | .lst _, _ | .dic, _ => rfl
      rw [z] at q
      exact q H3 (e2.trans e3)
    · obtain ⟨p0, p1, rfl⟩ := tup2 (not_f hb)
      obtain ⟨b, w0, w1, rfl, hb2, q0, q1⟩ := hv.t2
      rw [setg_2] at q
      have zr := zs_row hz
      refine s_ret (σ := [some (x), some (.ref b)]) (ev_andV (a := p0.named (hN da)) (b := p1.named (dN da)) (fun H1 e Q2 k => ⟨x, rfl, x, da, rfl, hx.up (e2.trans e), hair, fun p ys H3 np e3 pm _ hp => ?_⟩) fun _ => fun H1 e Q2 k => ⟨x, rfl, x, da, rfl, hx.up (e2.trans e), hair, fun p ys H3 np e3 pm st hp => ?_⟩) fun H3 e3 => q H3 (e2.trans e3)
      · have E3 := (e2.trans e).trans e3
        refine ev_ixT (j := 0) (σ := [some (x), some (.ref b)]) (ev_var (i := 1) rfl) (hb2.up E3) rfl H3 (Ex.refl _) _ fun H4 e4 => ⟨.bl (p0.named (hN da)), ⟨w0, p0, p, ys, rfl, q0.up (E3.trans e4), zr.2 p0 (by simp), .inl (e4 _ _ hp), fun n hn => hN_ok hair n (pm.mem_iff.mp hn), by rw [named_same fun x => pm.mem_iff]⟩, fun H5 e5 => k H5 ((e3.trans e4).trans e5)⟩
      · have E3 := (e2.trans e).trans e3
        refine ev_ixT (j := 1) (σ := [some (x), some (.ref b)]) (ev_var (i := 1) rfl) (hb2.up E3) rfl H3 (Ex.refl _) _ fun H4 e4 => ⟨.bl (p1.named (dN da)), ⟨w1, p1, p, ys, rfl, q1.up (E3.trans e4), zr.2 p1 (by simp), .inl (e4 _ _ hp), fun n hn => dN_ok hair n (mem_fm.mp (pm.mem_iff.mp hn)), by rw [named_same fun x => pm.mem_iff.trans mem_fm]⟩, fun H5 e5 => k H5 ((e3.trans e4).trans e5)⟩
end
end Kx

set_option Elab.async false
set_option linter.all false
set_option maxRecDepth 100000
set_option maxHeartbeats 400000
namespace Kx
open PySem PySem.Spec PyProof.Rows L2 Evl
/-! ## good leaks -/
theorem nb1 {a b : Bool} (h : (!a && !b) = true) (k : (a || b) = true) : False := by revert h k; cases a <;> cases b <;> decide
theorem nb2 {a b : Bool} (h : (!a && !b) = false) : (a || b) = true := by cases a <;> cases b <;> first | rfl | cases h
theorem beq_dec (x y : Str) : (x == y) = decide (x = y) := by
  rw [Bool.eq_iff_iff]
  simp
theorem trips_pyd (t u : T4) : PyData.eqv (tripD t).pyd (tripD u).pyd = decide (t = u) := by
  obtain ⟨a, b, c⟩ := t
  obtain ⟨a2, b2, c2⟩ := u
  unfold tripD oD
  cases c <;> cases c2 <;> simp [D.pyd, pyds, PyData.eqv, PyData.eqvAll, beq_dec, Bool.and_assoc]
theorem trips_any (t : T4) : ∀ ts : List T4, ((pyds (ts.map tripD)).any fun z => PyData.eqv z (tripD t).pyd) = decide (t ∈ ts)
  | [] => by simp [pyds]
  | u :: r => by
    rw [List.map_cons, pyds, List.any_cons, trips_pyd, trips_any t r]
    by_cases h : t = u
    · subst h; simp
    · simp [h, Ne.symm h]
def TripOk (t : T4) : Prop := PyData.strOk t.1 = true ∧ PyData.strOk t.2.1 = true ∧ ∀ x, t.2.2 = some x → PyData.strOk x = true
theorem trip_pln {t : T4} (h : TripOk t) : (tripD t).pk = true ∧ (tripD t).deep ≤ 1 := by
  obtain ⟨a, b, c⟩ := t
  obtain ⟨h1, h2, h3⟩ := h
  have h1 : PyData.strOk a = true := h1
  have h2 : PyData.strOk b = true := h2
  unfold tripD oD
  cases c with
  | none => exact ⟨by simp [D.pk, pks, h1, h2], by simp [D.deep, deeps]⟩
  | some x => exact ⟨by simp [D.pk, pks, h1, h2, h3 x rfl], by simp [D.deep, deeps]⟩
theorem pairs_reps {K : PySem.W.Frag} {H : Hp} : ∀ {ns : List Str} {vs : List V}, Reps H vs (ns.map fun n => D.tup [.str n, .int 0]) → ∃ ps : List Addr, vs = ps.map V.ref ∧ Paired (fun p (kv : Key × V) => SqT K H p [kV kv.1, kv.2]) ps (ns.map fun n => ((Sum.inr n : Key), V.int 0))
  | [], _, .nil => ⟨[], rfl, .nil⟩
  | n :: r, _, .cons h t => by
    obtain ⟨ps, rfl, pr⟩ := pairs_reps (K := K) t
    obtain ⟨a, v0, v1, rfl, ha, r0, r1⟩ := h.t2
    obtain rfl := r0.strD
    obtain rfl := r1.intD
    exact ⟨a :: ps, rfl, .cons ha.sq pr⟩
theorem merge_zero (n : Str) : ∀ (ns : List Str) (kvs : List (Key × V)), (n ∈ ns ∨ valV kvs (Sum.inr n) = some (.int 0)) → valV (mergeK kvs (ns.map fun n => ((Sum.inr n : Key), V.int 0))) (Sum.inr n) = some (.int 0)
  | [], kvs, h => h.elim (fun h => nomatch h) id
  | m :: r, kvs, h => by
    refine merge_zero n r (putK kvs (Sum.inr m) (.int 0)) ?_
    by_cases e : n = m
    · subst e
      exact .inr (by rw [valV_put, if_pos rfl])
    · rcases h with h | h
      · exact .inl ((List.mem_cons.mp h).resolve_left e)
      · exact .inr (by rw [valV_put, if_neg fun z => e (Sum.inr.inj z)]; exact h)
theorem leaks_no {ns : List Str} {m : Int} {ds : List D} {i : Nat} {d : D} (h : ds[i]? = some d) (hf : d.leak ns m = false ∨ d.trip ∈ (ds.take i).map D.trip) : D.leaks ns m (.tup ds) = false := by
  rw [leaks_tup]
  rcases hf with hf | hf
  · rw [all_no h hf, Bool.false_and, Bool.and_false]
  · have nd : decide (ds.map D.trip).Nodup = false := decide_eq_false fun z => by
      rw [← List.take_append_drop i ds, List.map_append] at z
      have := (List.nodup_append.mp z).2.2 _ hf d.trip (List.mem_map_of_mem (by
        rw [List.mem_iff_getElem?]
        exact ⟨0, by rw [List.getElem?_drop]; simpa using h⟩))
      exact this rfl
    rw [nd, Bool.false_and, Bool.and_false, Bool.and_false]
theorem nd_nextT {ts : List T4} {i : Nat} {t : T4} (h : ts[i]? = some t) (nd : (ts.take i).Nodup) (m : t ∉ ts.take i) : (ts.take (i + 1)).Nodup := by
  rw [List.take_add_one, h]
  exact List.nodup_append.mpr ⟨nd, by simp, fun a ha b hb e => by
    rw [Option.toList_some, List.mem_singleton] at hb
    exact m (hb ▸ e ▸ ha)⟩
theorem oTxt_n {n : D} (h : (isN n || n.nm) = true) : oD n.oTxt = n := by
  cases n with
  | non => rfl
  | str s => rfl
  | _ => cases h
theorem s_twoQ {te tb : TE} {g : TG} {tz : TS} {D0 : Ends} {σ : L2.St} {H : Hp} (h : te σ H fun x H1 => tb σ H1 fun y H2 => [x, y].length ≤ sizeLine ∧ newT [x, y] H2 fun v H3 => g v σ H3 (tz D0)) : tSeq (tAsg (tTupF (tCons te (tCons tb tNil))) g) tz D0 σ H := h
theorem cb_S {r : List V → Hp → VK → Prop} {te : TE} {σ : L2.St} {H : Hp} {Q : VK} (h : te σ H fun x H1 => r [x] H1 Q) : tCB r (tCons te tNil) σ H Q := h
theorem s_appS {K : PySem.W.Frag} {S : Addr → Prop} {D0 : Ends} {u : TS} {σ : L2.St} {H : Hp} {ta te : TE} {d : D} {l : Addr} {xs : List V} (hl : H l = some (.lst xs)) (ha : Ev ta σ H (.ref l)) (h : EvS S te σ H d) (hz : xs.length < 100000) (k : ∀ v H1, Ex H H1 → RepS S H1 v d → u D0 σ (upd H1 l (.lst (xs ++ [v])))) :
    tSeq (tDrop (tBM K "list" rAppend ta (tCons te tNil))) u D0 σ H := ha H (Ex.refl _) _ fun H1 e1 => ⟨.inl ⟨rfl, _, .of (e1 _ _ hl)⟩, h H1 e1 _ fun v H2 e2 r => ⟨l, xs, v, rfl, rfl, e2 _ _ (e1 _ _ hl), sz_lt hz, k v H2 (e1.trans e2) r⟩⟩
theorem s_dputN {D0 : Ends} {σ : L2.St} {H : Hp} {td ty tv : TE} {x : V} {a : Addr} {k : Str} {kvs : List (Key × V)} (hv : Ev tv σ H x) (hd : Ev td σ H (.ref a)) (hk : Ev ty σ H (.str k)) (ha : H a = some (.dK kvs)) (hz : kvs.length < sizeLine)
    (n : ∀ H1, Ex H H1 → D0.nx σ (upd H1 a (.dK (putK kvs (Sum.inr k) x)))) : sDPut td ty tv D0 σ H := by
  unfold sDPut
  exact hv H (Ex.refl _) _ fun H1 e1 => hd H1 e1 _ fun H2 e2 => hk H2 (e1.trans e2) _ fun H3 e3 => ⟨a, _, rfl, DPut.k (k := .inr k) (((e1.trans e2).trans e3) _ _ ha) hz, n H3 ((e1.trans e2).trans e3)⟩
theorem tripD_of {a b : Str} {n : D} {k : Int} (h : (isN n || n.nm) = true) : tripD (D.trip (.tup [.str a, .str b, .int k, n])) = .tup [.str a, .str b, n] := by
  show D.tup [.str a, .str b, oD n.oTxt] = _
  rw [oTxt_n h]
theorem ev_inT {K : PySem.W.Frag} {S S2 : Addr → Prop} {σ : L2.St} {H : Hp} {te tb : TE} {t : T4} {ts : List T4} {p : Addr} {us : List V} (h1 : EvS S te σ H (tripD t)) (h2 : Ev tb σ H (.ref p)) (hp : H p = some (.lst us)) (rs : RepsS S2 H us (ts.map tripD)) (ok : TripOk t) (oks : ∀ u ∈ ts, TripOk u) : Ev (tOp (rInD K) te tb) σ H (.bl (decide (t ∈ ts))) := fun H1 e Q q =>
  h1 H1 e _ fun v H2 e2 r => h2 H2 (e.trans e2) _ fun H3 e3 => by
    have E := (e.trans e2).trans e3
    have pl : (D.lst (ts.map tripD)).pk = true ∧ (D.lst (ts.map tripD)).deep ≤ 2 := by
      have all : ∀ d ∈ ts.map tripD, d.pk = true ∧ d.deep ≤ 1 := fun d hd => by
        obtain ⟨u, hu, rfl⟩ := List.mem_map.mp hd
        exact trip_pln (oks u hu)
      refine ⟨by unfold D.pk; exact pks_iff.mpr fun d hd => (all d hd).1, ?_⟩
      unfold D.deep
      have := deeps_le (n := 1) fun d hd => (all d hd).2
      omega
    have dp := dp_pyd (K := K) (H := H3) (D.lst (ts.map tripD)) (.ref p) pl.1 (.lst (E _ _ hp) ((rs.up hidP_sub).up E))
    have sh := pyd_shaped pl.1 (Nat.le_trans pl.2 (by decide))
    unfold D.pyd at dp sh
    exact ⟨(tripD t).pyd, pyds (ts.map tripD), dp_pyd _ _ (trip_pln ok).1 ((r.up (hidP_ex e3)).up hidP_sub), dp, pyd_shaped (trip_pln ok).1 (Nat.le_trans (trip_pln ok).2 (by decide)), sh, by rw [trips_any]; exact q H3 (e2.trans e3)⟩
def okLeaksL : OkF := fun vs H z => ∃ v d a ns m, vs = [.ref a, .int m, v] ∧ Rep H v d ∧ d.Sz ∧ H a = some (.lst (sv ns)) ∧ ns.length ≤ 100 ∧ (∀ n ∈ ns, PyData.strOk n = true) ∧ z = .bl (d.leaks ns m)
theorem stb_leaksL : Stb okLeaksL := fun _ _ _ _ e ⟨v, d, a, ns, m, h1, h2, h3, h4, h5, h6, h7⟩ => ⟨v, d, a, ns, m, h1, h2.up e, h3, e _ _ h4, h5, h6, h7⟩
section
variable {P : Program} {w : World} {K : PySem.W.Frag} {mg : Str → Option Value} {base : Heap} (T : Txt K mg)
theorem ok_lleaks : FnOk P w K mg base CX0 4 T.a_law_good_leaks T.d_law_good_leaks ["rooms", "whole", "value"] (spX okLeaksL) := by
  refine T.F_law_good_leaks.ok sc_law_good_leaks (fun vs H Q E h => ?_) (fun cdv A outer s H vs Q E hr h => ?_)
  · obtain ⟨z, ⟨v, d, na, ns, m, rfl, _⟩, _⟩ := h
    rfl
  · obtain ⟨z, ⟨v, d, na, ns, m, rfl, hv, hz, hns, lns, hok, rfl⟩, q⟩ := h
    have nd := sc_law_good_leaks.nd
    have hu : (A.deeper (envOfC "_law_good_leaks" (defScope s_law_good_leaks) s.heap.objs.size T.a_law_good_leaks cdv)).units + 1 < cLine := hu_of hr
    have hu4 : (A.deeper (envOfC "_law_good_leaks" (defScope s_law_good_leaks) s.heap.objs.size T.a_law_good_leaks cdv)).units + 64 < cLine := by have := hr.un; omega
    have hu5 : (A.deeper (envOfC "_law_good_leaks" (defScope s_law_good_leaks) s.heap.objs.size T.a_law_good_leaks cdv)).units + 65 < cLine := by have := hr.un; omega
    refine ⟨_, (pss_cons (ps_asg (pe_tupF (pa_cons (pe_lst pa_nil) (pa_cons (pe_callTy (call_dictP rfl) (by rfl) T.z_dict bo_dict (pa_cons (pe_lc (own := [("name", 6)]) (g := gName 6) (tt := tYes) (by rfl) nd (pi_list (pv 0)) (blkOk_by (N := ["rooms", "whole", "value", "seen", "sums", "row", "name", "part"]) (sc := defScope s_law_good_leaks) (by decide +kernel)) (fun _ _ _ _ _ => (pg_name (i := 6) nd rfl (.inl rfl))) (fun _ _ _ _ _ => pts_nil) (fun _ _ _ _ _ => (pe_tupF (pa_cons (pv 6) (pa_cons pe_int pa_nil))))) pa_nil)) pa_nil))) (pg_tup rfl (pgs_cons (pg_name (i := 3) nd rfl (.inl rfl)) (pgs_cons (pg_name (i := 4) nd rfl (.inr rfl)) pgs_nil))))
      (pss_cons (ps_if (pt_not (pt_val (pe_call (ok_ltup T) (hr.mono (by decide)) (by rfl) T.g_law_is_tuple T.F_law_is_tuple.kp (b_law_is_tuple T) .nil pass0 (pa_cons (pv 2) (pa_cons pe_int (pa_cons pe_int pa_nil)))))) (pss_one (ps_ret pe_bl)) pss_nil)
      (pss_cons (ps_for PassesOwn.never rfl (pi_tup (pv 2)) (pg_name (i := 5) nd rfl (.inl rfl)) (pss_cons (ps_if (PW.pt (pw_or (pt_not (pt_val (pe_call (ok_ltup T) (hr.mono (by decide)) (by rfl) T.g_law_is_tuple T.F_law_is_tuple.kp (b_law_is_tuple T) .nil pass0 (pa_cons (pv 5) (pa_cons pe_int (pa_cons pe_int pa_nil)))))) (pw_or1 (pt_cmpR (op_neD hu4) (pe_lc (own := [("part", 7)]) (g := gName 7)  (by rfl) nd (pi_tup (pe_slice sl_tupF (pv 5) po_none (po_some pe_int))) (blkOk_by (N := ["rooms", "whole", "value", "seen", "sums", "row", "name", "part"]) (sc := defScope s_law_good_leaks) (by decide +kernel)) (fun _ _ _ _ _ => (pg_name (i := 7) nd rfl (.inl rfl))) (fun _ _ _ _ _ => (pts_one (pt_not (pt_val (pe_callB (r := rIsi K) call_isi (by rfl) T.z_isinstance bo_isinstance (pa_cons (pv 7) (pa_cons (pe_bltn (v := .ty "str") (by rfl) T.z_str bo_str rfl) pa_nil))))))) (fun _ _ _ _ _ => pe_int)) (pe_lst pa_nil) (nomark _))))) (pss_one (ps_ret pe_bl)) pss_nil)
      (pss_cons (ps_if (PW.pt (pw_or (pt_cmpR (r := rIn K true) op_notIn_seq (pe_ix (r := rIxT K) ix_tup (pv 5) pe_int (fun _ _ => rfl)) (pv 0) (by rfl)) (pw_or (pt_cmpR (r := rIn K true) op_notIn_seq (pe_ix (r := rIxT K) ix_tup (pv 5) pe_int (fun _ _ => rfl)) (pe_op op_cat (pv 0) (pe_lst (pa_cons pe_str pa_nil))) (by rfl)) (pw_or (pt_cmpR op_eq (pe_ix (r := rIxT K) ix_tup (pv 5) pe_int (fun _ _ => rfl)) (pe_ix (r := rIxT K) ix_tup (pv 5) pe_int (fun _ _ => rfl)) (nomark _)) (pw_or1 (pt_not (pt_val (pe_call (ok_lbetw T) (hr.mono (by decide)) (by rfl) T.g_law_between T.F_law_between.kp (b_law_between T) .nil pass0 (pa_cons (pe_ix (r := rIxT K) ix_tup (pv 5) pe_int (fun _ _ => rfl)) (pa_cons pe_int (pa_cons (pv 1) pa_nil))))))))))) (pss_one (ps_ret pe_bl)) pss_nil)
      (pss_cons (ps_if (PW.pt (pw_and (pt_cmpR op_notN (pe_ix (r := rIxT K) ix_tup (pv 5) pe_int (fun _ _ => rfl)) pe_non (nomark _)) (pw_and1 (pt_not (pt_val (pe_call (ok_lname T) (hr.mono (by decide)) (by rfl) T.g_law_is_name T.F_law_is_name.kp (b_law_is_name T) .nil pass0 (pa_cons (pe_ix (r := rIxT K) ix_tup (pv 5) pe_int (fun _ _ => rfl)) pa_nil))))))) (pss_one (ps_ret pe_bl)) pss_nil)
      (pss_cons (ps_if (pt_cmpR (op_inD hu5) (pe_tupF (pa_cons (pe_ix (r := rIxT K) ix_tup (pv 5) pe_int (fun _ _ => rfl)) (pa_cons (pe_ix (r := rIxT K) ix_tup (pv 5) pe_int (fun _ _ => rfl)) (pa_cons (pe_ix (r := rIxT K) ix_tup (pv 5) pe_int (fun _ _ => rfl)) pa_nil)))) (pv 3) (by rfl)) (pss_one (ps_ret pe_bl)) pss_nil)
      (pss_cons (ps_expr (pe_bm PySem.F.plainAttrs_list PySem.F.slot_list_append PySem.F.type_list_append mt_append (pv 3) (pa_cons (pe_tupF (pa_cons (pe_ix (r := rIxT K) ix_tup (pv 5) pe_int (fun _ _ => rfl)) (pa_cons (pe_ix (r := rIxT K) ix_tup (pv 5) pe_int (fun _ _ => rfl)) (pa_cons (pe_ix (r := rIxT K) ix_tup (pv 5) pe_int (fun _ _ => rfl)) pa_nil)))) pa_nil)))
      (pss_one (ps_dput hu (pv 4) (pe_ix (r := rIxT K) ix_tup (pv 5) pe_int (fun _ _ => rfl)) (pe_op op_add (pe_dget hu (pv 4) (pe_ix (r := rIxT K) ix_tup (pv 5) pe_int (fun _ _ => rfl)) (fun _ _ => rfl)) (pe_ix (r := rIxT K) ix_tup (pv 5) pe_int (fun _ _ => rfl))) rfl))))))))
      (pss_one (ps_ret (pe_cmpR (op_eqD hu4) (pe_lc (own := [("name", 6)]) (g := gName 6)  (by rfl) nd (pi_list (pv 0)) (blkOk_by (N := ["rooms", "whole", "value", "seen", "sums", "row", "name", "part"]) (sc := defScope s_law_good_leaks) (by decide +kernel)) (fun _ _ _ _ _ => (pg_name (i := 6) nd rfl (.inl rfl))) (fun _ _ _ _ _ => (pts_one (pt_cmpR op_gt (pe_dget hu (pv 4) (pv 6) (fun _ _ => rfl)) (pv 1) (nomark _)))) (fun _ _ _ _ _ => pe_int)) (pe_lst pa_nil) (nomark _))))))), ?_⟩
    refine s_twoQ ?_
    refine ⟨Nat.zero_le _, fun p np => ?_⟩
    have e1 : Ex H (upd H p (.lst [])) := Ex.new np
    have hp1 : upd H p (.lst []) p = some (.lst ([] : List V)) := upd_same
    generalize upd H p (.lst []) = H1 at e1 hp1
    have cz := lcS (S := S0) (ds := ns.map D.str) (wi := iList K (tVar 0)) (g := gName 6) (tt := tYes) (te := tTupF (tCons (tVar 6) (tCons (tC (.int 0)) tNil))) (own := [6]) (σ := [some (.ref na), some (.int m), some (v), none, none, none, none, none]) (H := H1) (fun _ => true) (fun d => .tup [d, .int 0]) in0 (its_list (es_of (ev_var rfl) (.lst (hidP_at (e1 _ _ hns) fun z => z) (reps_strs ns)))) (by rw [List.length_map]; omega) fun S' x d H6 hd in6 e6 x6 rx => by
      exact ⟨[some (.ref na), some (.int m), some (v), none, none, none, some (x), none], fun Q h => h, rfl, fun H7 e7 Q q => q H7 (Ex.refl _), fun _ => es_tup in6 (eas_cons (es_of (ev_var (i := 6) rfl) rx) (eas_cons (es_of ev_c (.int 0)) eas_nil)) (by simp)⟩
    rw [List.filter_eq_self.mpr fun _ _ => rfl, List.map_map] at cz
    refine cb_S ?_
    refine cz H1 (Ex.refl _) _ fun vz H2 e2 rz => ?_
    obtain ⟨az, us, rfl, haz, hus⟩ := (rz.up hidP_sub).lstD
    obtain ⟨ps, rfl, hps⟩ := pairs_reps (K := K) hus
    refine ⟨az, ps, _, rfl, .of haz, hps, fun sm nsm => ⟨by show 2 ≤ sizeLine; rw [sizeLine_eq]; decide, fun tt ot ntt hot => ⟨tt, _, rfl, .inl (.inr ⟨ot, upd_same⟩), rfl, _, _, rfl, _, _, rfl, rfl, ?_⟩⟩⟩
    have e3 := (Ex.new (o := .dK (mergeK [] (ns.map fun n => ((Sum.inr n : Key), V.int 0)))) nsm).trans (Ex.new (o := .frz ot (.tup [V.ref p, V.ref sm])) ntt)
    have hsm3 := (Ex.new (o := .frz ot (.tup [V.ref p, V.ref sm])) ntt) sm (.dK (mergeK [] (ns.map fun n => ((Sum.inr n : Key), V.int 0)))) upd_same
    have kz : (mergeK [] (ns.map fun n => ((Sum.inr n : Key), V.int 0))).length ≤ 100 := by
      have := length_mergeK (ns.map fun n => ((Sum.inr n : Key), V.int 0)) []
      rw [List.length_map, List.length_nil] at this
      omega
    have k0 : ∀ n ∈ ns, valV (mergeK [] (ns.map fun n => ((Sum.inr n : Key), V.int 0))) (Sum.inr n) = some (.int 0) := fun n hn => merge_zero n ns [] (.inl hn)
    generalize mergeK [] (ns.map fun n => ((Sum.inr n : Key), V.int 0)) = kvs0 at e3 hsm3 kz k0
    generalize upd (upd H2 sm (.dK kvs0)) tt (.frz ot (.tup [V.ref p, V.ref sm])) = H3 at e3 hsm3
    have E13 := e2.trans e3
    have E03 := e1.trans E13
    have hp3 := E13 _ _ hp1
    have nep : p ≠ sm := fun z => by rw [z] at hp1; rw [e2 _ _ hp1] at nsm; cases nsm
    refine s_ifX (σ := [some (.ref na), some (.int m), some (v), some (.ref p), some (.ref sm), none, none, none]) (b := !isTup d 0 6) (et_not (et_B (ev_sp stb_tup (ea_cons (ev_var (i := 2) rfl) (ea_cons ev_c (ea_cons ev_c ea_nil))) ⟨v, d, 0, 6, rfl, hv.up E03, rfl⟩))) (fun hb H4 e4 => ?_) (fun hb H4 e4 => ?_)
    · refine s_ret (v := .bl false) ev_c fun H5 e5 => ?_
      have z : d.leaks ns m = false := by
        cases d with
        | tup ds => rw [leaks_tup, not_t hb]; rfl
        | _ => rfl
      rw [z] at q
      exact q H5 ((E03.trans e4).trans e5)
    have ht := not_f hb
    obtain ⟨ds, rfl, l1, l3⟩ := isTup_len ht
    obtain ⟨a, vs, rfl, ha, hs⟩ := hv.tupD
    have St : ∀ a', (also (also S0 p) sm) a' ↔ a' = p ∨ a' = sm := fun a' => ⟨fun z => z.elim (fun z => z.elim (fun z => z.elim) .inl) .inr, fun z => z.elim (fun z => .inl (.inr z)) .inr⟩
    have lift0 : Ex H (hidP (also (also S0 p) sm) H3) := fun a' o h => hidP_at (E03 a' o h) fun z => by
      rcases (St _).mp z with z | z
      · rw [z, np] at h; cases h
      · rw [z] at h
        rw [(e1.trans e2) _ _ h] at nsm
        cases nsm
    have lift := lift0.trans (hidP_ex e4)
    have rv : Rep (hidP (also (also S0 p) sm) H4) (.ref a) (.tup ds) := hv.up lift
    have back : ∀ {H' : Hp}, Ex (hidP (also (also S0 p) sm) H4) (hidP (also (also S0 p) sm) H') → Ex H H' := fun {H'} x => (lift.trans x).trans hidP_sub
    have inP : p ≠ sm ∧ also (also S0 p) sm p ∧ also (also S0 p) sm sm := ⟨nep, (St _).mpr (.inl rfl), (St _).mpr (.inr rfl)⟩
    refine q_forS (S := also (also S0 p) sm) (ds := ds) (its_tup (es_of (ev_var (i := 2) rfl) rv)) (fun H5 i σ' H' => Ex (hidP (also (also S0 p) sm) H5) (hidP (also (also S0 p) sm) H') ∧ (∃ us kvs, H' p = some (.lst us) ∧ RepsS (also (also S0 p) sm) H' us (((ds.take i).map D.trip).map tripD) ∧ H' sm = some (.dK kvs) ∧ kvs.length ≤ 100 + i ∧ ∀ n ∈ ns, valV kvs (Sum.inr n) = some (.int (lost (ds.take i) n))) ∧ (∀ j d, j < i → ds[j]? = some d → d.leak ns m = true ∧ TripOk d.trip) ∧ ((ds.map D.trip).take i).Nodup ∧ ∃ z, σ' = [some (.ref na), some (.int m), some (.ref a), some (.ref p), some (.ref sm), z, none, none])
      (fun H5 e5 => ⟨Ex.refl _, ⟨[], kvs0, (e4.trans e5) _ _ hp3, .nil, (e4.trans e5) _ _ hsm3, by omega, fun n hn => (k0 n hn).trans (by simp [lost])⟩, fun j d lt => absurd lt (Nat.not_lt_zero _), by simp, _, rfl⟩) (fun _ _ _ _ _ h => h.1) (fun H5 i d x σ' H' e5 hd ⟨x5, ⟨us2, kvs, hp5, rs5, hsm5, kl, kv⟩, good, ndk, z, es⟩ rx => ?_) (fun H5 σ' H' e5 ⟨x5, ⟨us2, kvs, hp5, rs5, hsm5, kl, kv⟩, good, ndk, z, es⟩ => ?_)
    · subst es
      have X5 := (hidP_ex e5).trans x5
      have E5 := back X5
      have hzd : d.Sz := hz.tup.2.get hd
      have il : i < 6 := by
        have := (List.getElem?_eq_some_iff.mp hd).1
        omega
      have gt : (ds.map D.trip)[i]? = some d.trip := by rw [List.getElem?_map, hd]; rfl
      have hns5 := E5 _ _ hns
      have bad : (d.leak ns m = false ∨ d.trip ∈ (ds.take i).map D.trip) → ∀ H6, Ex H' H6 → Q (.bl false) H6 := fun h H6 e6 => by
        rw [leaks_no hd h] at q
        exact q H6 (E5.trans e6)
      refine s_ifX (σ := [some (.ref na), some (.int m), some (.ref a), some (.ref p), some (.ref sm), some (x), none, none]) (b := !isTup d 4 4 || !(isi d.fst "str" && isi d.snd "str")) (et_or (et_not (et_B (ev_sp stb_tup (ea_cons (ev_var (i := 5) rfl) (ea_cons ev_c (ea_cons ev_c ea_nil))) ⟨x, d, 4, 4, rfl, rx.up hidP_sub, rfl⟩))) fun h4 => ?_) (fun hb1 H6 e6 => ?_) (fun hb1 H6 e6 => ?_)
      · obtain ⟨ar, br, sh, n, rfl⟩ := tup4 (not_f h4)
        obtain ⟨c, v0, v1, v2, v3, rfl, hc, r0, r1, r2, r3⟩ := rx.t4
        have sl := er_slice (er_of (ev_var (i := 5) rfl) (rx.up hidP_sub)) eo_none (eo_some ev_c) (te := tVar 5) (tlo := tNoPart) (thi := tPart (tC (.int 2))) (σ := [some (.ref na), some (.int m), some (.ref a), some (.ref p), some (.ref sm), some (.ref c), none, none])
        rw [show cutX [ar, br, sh, n] none (some 2) = [ar, br] from rfl] at sl
        refine et_test (ev_is (ev_neNilI (S := S0) (lcI (ds := [ar, br]) (fun d => !isi d "str") (fun _ => 1) in0 (its_tup (es_ofR sl)) (by simp) fun S' y d2 H7 hd2 in7 e7 x7 ry => ⟨[some (.ref na), some (.int m), some (.ref a), some (.ref p), some (.ref sm), some (.ref c), none, some (y)], fun Q h => h, rfl, et_not (et_val (ev_isi (ev_var (i := 7) rfl) (ry.up hidP_sub))), fun _ => ev_c⟩)) ?_)
        rw [none_off]
        show V.bl (!(isi ar "str" && (isi br "str" && true))) = _
        rw [Bool.and_true]
        rfl
      · refine s_ret (v := .bl false) ev_c fun H7 e7 => bad (.inl ?_) H7 (e6.trans e7)
        exact Bool.eq_false_iff.mpr fun zz => by
          obtain ⟨a1, b1, s1, n1, rfl, _⟩ := leak_shape zz
          rw [show (!isTup (D.tup [.str a1, .str b1, .int s1, n1]) 4 4 || !(isi (D.tup [.str a1, .str b1, .int s1, n1]).fst "str" && isi (D.tup [.str a1, .str b1, .int s1, n1]).snd "str")) = false from rfl] at hb1
          cases hb1
      have hb2 := hb1
      simp only [Bool.or_eq_false_iff, Bool.not_eq_false', Bool.and_eq_true] at hb2
      obtain ⟨t4, ta, tb⟩ := hb2
      obtain ⟨ar, br, sh, n, rfl⟩ := tup4 t4
      have ea : ar = .str ar.txt := by have ta : isi ar "str" = true := ta; cases ar <;> first | rfl | cases ta
      have eb : br = .str br.txt := by have tb : isi br "str" = true := tb; cases br <;> first | rfl | cases tb
      obtain ⟨c, v0, v1, v2, v3, rfl, hc, r0, r1, r2, r3⟩ := rx.t4
      rw [ea] at r0
      rw [eb] at r1
      obtain rfl := r0.strD
      obtain rfl := r1.strD
      have hc6 := (hc.up hidP_sub).up e6
      have hns6 := e6 _ _ hns5
      obtain ⟨a', rfl⟩ : ∃ a', ar = .str a' := ⟨_, ea⟩
      obtain ⟨b', rfl⟩ : ∃ b', br = .str b' := ⟨_, eb⟩
      have ho : Ev (tOp (rIn K true) (tOp (rIxT K) (tVar 5) (tC (.int 1))) (tOp rCat (tVar 0) (tLst (tCons (tC (.str "out")) tNil)))) [some (.ref na), some (.int m), some (.ref a), some (.ref p), some (.ref sm), some (.ref c), none, none] H6 (.bl (!amg b' (ns ++ [("out" : Str)]))) := fun H7 e7 Q7 q7 =>
        ev_ixT (j := 1) (ev_var (i := 5) rfl) hc6 rfl H7 e7 _ fun H8 e8 => es_catL (S := S0) (ds := ns.map D.str) (es := [.str "out"]) in0 (es_of (ev_var (i := 0) rfl) (.lst (hidP_at hns6 fun z => z) (reps_strs ns))) (es_lst in0 (eas_cons (es_of ev_c (.str _)) eas_nil) (by simp)) (by rw [List.length_map]; simp; omega) H8 (e7.trans e8) _ fun u9 H9 e9 r9 => by
          obtain ⟨p9, us9, rfl, h9, hs9⟩ := (r9.up hidP_sub).lstD
          rw [show ns.map D.str ++ [D.str "out"] = (ns ++ [("out" : Str)]).map D.str from by rw [List.map_append]; rfl] at hs9
          rw [strs_of_reps hs9] at h9
          exact rv_niTx (.inl h9) H9 (Ex.refl _) _ fun H10 e10 => q7 H10 ((e8.trans e9).trans e10)
      refine s_ifX (σ := [some (.ref na), some (.int m), some (.ref a), some (.ref p), some (.ref sm), some (.ref c), none, none]) (b := !amg a' ns || (!amg b' (ns ++ [("out" : Str)]) || (decide (V.str a' = V.str b') || !isBetw sh 1 m))) (et_or (et_test (ev_op (ev_ixT (j := 0) (ev_var (i := 5) rfl) hc6 rfl) (ev_var (i := 0) rfl) (rv_niTx (.inl hns6)))) fun _ => et_or (et_test ho) fun _ => et_or (et_test (ev_op (ev_ixT (j := 0) (ev_var (i := 5) rfl) hc6 rfl) (ev_ixT (j := 1) (ev_var (i := 5) rfl) hc6 rfl) (rv_eq rfl))) fun _ => et_not (et_B (ev_sp stb_betw (ea_cons (ev_ixT (j := 2) (ev_var (i := 5) rfl) hc6 rfl) (ea_cons ev_c (ea_cons (ev_var (i := 1) rfl) ea_nil))) ⟨v2, sh, 1, m, rfl, (r2.up hidP_sub).up e6, rfl⟩))) (fun hb3 H7 e7 => ?_) (fun hb3 H7 e7 => ?_)
      · refine s_ret (v := .bl false) ev_c fun H8 e8 => bad (.inl (Bool.eq_false_iff.mpr fun zz => ?_)) H8 ((e6.trans e7).trans e8)
        obtain ⟨a1, b1, s1, n1, eq, ma, mb, ne, s1a, s1b, _⟩ := leak_shape zz
        injection eq with eq
        injection eq with q1 eq
        injection eq with q2 eq
        injection eq with q3 eq
        cases q1
        cases q2
        subst q3
        rw [amg_iff.mpr ma, amg_iff.mpr (show b' ∈ ns ++ [("out" : Str)] from List.mem_append.mpr (mb.imp id fun z => by rw [z]; exact List.mem_singleton.mpr rfl)), decide_eq_false (show ¬ V.str a' = V.str b' from fun z => ne (V.str.inj z)), show isBetw (.int s1) 1 m = true from by show (decide (1 ≤ s1) && decide (s1 ≤ m)) = true; rw [decide_eq_true s1a, decide_eq_true s1b]; rfl] at hb3
        cases hb3
      simp only [Bool.or_eq_false_iff, Bool.not_eq_false'] at hb3
      obtain ⟨ga, gb, gab, gs⟩ := hb3
      have gab := of_decide_eq_false gab
      obtain ⟨k, rfl⟩ : ∃ k, sh = .int k := ⟨_, (betw_int gs).1⟩
      obtain rfl := r2.intD
      have E67 := e6.trans e7
      refine s_ifX (σ := [some (.ref na), some (.int m), some (.ref a), some (.ref p), some (.ref sm), some (.ref c), none, none]) (b := !isN n && !n.nm) (et_and (et_test (ev_is (ev_op (ev_ixT (j := 3) (ev_var (i := 5) rfl) (hc6.up e7) rfl) ev_c rv_notN) (by rw [isN_v r3]))) fun _ => et_not (et_B (ev_sp stb_name (ea_cons (ev_ixT (j := 3) (ev_var (i := 5) rfl) (hc6.up e7) rfl) ea_nil) ⟨v3, n, rfl, (r3.up hidP_sub).up E67, szD_of (hzd.tup.2.get (j := 3) rfl), rfl⟩))) (fun hb4 H8 e8 => ?_) (fun hb4 H8 e8 => ?_)
      · refine s_ret (v := .bl false) ev_c fun H9 e9 => bad (.inl (Bool.eq_false_iff.mpr fun zz => ?_)) H9 ((E67.trans e8).trans e9)
        rw [leak_4] at zz
        simp only [Bool.and_eq_true] at zz
        exact nb1 hb4 zz.2.2.2
      have gn : (isN n || n.nm) = true := nb2 hb4
      have lk : D.leak ns m (.tup [.str a', .str b', .int k, n]) = true := by
        rw [leak_4, gs, gn, show amD (.str a') ns = true from ga, show decide ((D.str a').txt = (D.str b').txt) = false from decide_eq_false fun z => gab (by show V.str a' = V.str b'; rw [show a' = b' from z])]
        have : (amD (.str b') ns || (D.str b').isS "out") = true := by
          rcases List.mem_append.mp (amg_iff.mp gb) with z | z
          · rw [show amD (.str b') ns = true from amg_iff.mpr z, Bool.true_or]
          · rw [List.mem_singleton.mp z, show (D.str "out").isS "out" = true from beq_self_eq_true _, Bool.or_true]
        rw [this]
        rfl
      have tok : TripOk (D.trip (.tup [.str a', .str b', .int k, n])) := ⟨hok _ (amg_iff.mp ga), (List.mem_append.mp (amg_iff.mp gb)).elim (hok _) fun z => by show PyData.strOk b' = true; rw [List.mem_singleton.mp z]; decide +kernel, fun x hx => by
        cases n with
        | str s =>
          cases hx
          exact strOk_nm gn
        | non => cases hx
        | _ => cases gn⟩
      have E68 := E67.trans e8
      have hp8 := E68 _ _ hp5
      have hsm8 := E68 _ _ hsm5
      have rs8 := rs5.up (hidP_ex E68)
      have r38 := r3.up (hidP_ex E68)
      have okT : ∀ u ∈ (ds.take i).map D.trip, TripOk u := fun u hu => by
        obtain ⟨dd, hdd, rfl⟩ := List.mem_map.mp hu
        obtain ⟨j, hj⟩ := List.mem_iff_getElem?.mp hdd
        have lj : j < i := by
          have := (List.getElem?_eq_some_iff.mp hj).1
          rw [List.length_take] at this
          omega
        rw [List.getElem?_take_of_lt lj] at hj
        exact (good j dd lj hj).2
      have inS : ∀ H9, Ex H8 H9 → InS (also (also S0 p) sm) H9 := fun H9 e9 a' ha' n' => by
        rcases (St _).mp ha' with z | z
        · rw [z, e9 _ _ hp8] at n'; cases n'
        · rw [z, e9 _ _ hsm8] at n'; cases n'
      have et : ∀ H9 (e9 : Ex H8 H9), EvS (also (also S0 p) sm) (tTupF (tCons (tOp (rIxT K) (tVar 5) (tC (.int 0))) (tCons (tOp (rIxT K) (tVar 5) (tC (.int 1))) (tCons (tOp (rIxT K) (tVar 5) (tC (.int 3))) tNil)))) [some (.ref na), some (.int m), some (.ref a), some (.ref p), some (.ref sm), some (.ref c), none, none] H9 (tripD (D.trip (.tup [.str a', .str b', .int k, n]))) := fun H9 e9 => by
        rw [tripD_of gn]
        have hc9 := hc6.up ((e7.trans e8).trans e9)
        exact es_tup (inS H9 e9) (eas_cons (es_of (ev_ixT (j := 0) (ev_var (i := 5) rfl) hc9 rfl) (.str _)) (eas_cons (es_of (ev_ixT (j := 1) (ev_var (i := 5) rfl) hc9 rfl) (.str _)) (eas_cons (es_of (ev_ixT (j := 3) (ev_var (i := 5) rfl) hc9 rfl) (r38.up (hidP_ex e9))) eas_nil))) (by simp)
      refine s_ifX (σ := [some (.ref na), some (.int m), some (.ref a), some (.ref p), some (.ref sm), some (.ref c), none, none]) (b := decide (D.trip (.tup [.str a', .str b', .int k, n]) ∈ (ds.take i).map D.trip)) (et_test (ev_inT (et H8 (Ex.refl _)) (ev_var (i := 3) rfl) hp8 rs8 tok okT)) (fun hb5 H9 e9 => ?_) (fun hb5 H9 e9 => ?_)
      · exact s_ret (v := .bl false) ev_c fun H10 e10 => bad (.inr (of_decide_eq_true hb5)) H10 ((E68.trans e9).trans e10)
      have new := of_decide_eq_false hb5
      have lu : us2.length = i := by
        have := (List.getElem?_eq_some_iff.mp hd).1
        rw [rs8.length, List.length_map, List.length_map, List.length_take]
        omega
      refine s_appS (σ := [some (.ref na), some (.int m), some (.ref a), some (.ref p), some (.ref sm), some (.ref c), none, none]) (e9 _ _ hp8) (ev_var (i := 3) rfl) (et H9 e9) (by omega) fun vt H10 e10 rt => ?_
      have e810 := e9.trans e10
      have rs11 : RepsS (also (also S0 p) sm) (upd H10 p (.lst (us2 ++ [vt]))) (us2 ++ [vt]) (((ds.take (i + 1)).map D.trip).map tripD) := by
        rw [List.take_add_one, hd, List.map_append, List.map_append]
        exact reps_and ((rs8.up (hidP_ex e810)).up (hidP_mut inP.2.1)) (.cons (rt.up (hidP_mut inP.2.1)) .nil)
      have hp11 : upd H10 p (.lst (us2 ++ [vt])) p = some (.lst (us2 ++ [vt])) := upd_same
      have hsm11 : upd H10 p (.lst (us2 ++ [vt])) sm = some (.dK kvs) := (upd_ne inP.1.symm).trans (e810 _ _ hsm8)
      have hc11 : TupS (upd H10 p (.lst (us2 ++ [vt]))) c [.str a', .str b', .int k, v3] := by
        have hcS := (hc.up (hidP_ex (E68.trans e810))).up (hidP_mut (o := .lst (us2 ++ [vt])) inP.2.1)
        exact hcS.up hidP_sub
      have X11 : Ex (hidP (also (also S0 p) sm) H5) (hidP (also (also S0 p) sm) (upd H10 p (.lst (us2 ++ [vt])))) := (x5.trans (hidP_ex (E68.trans e810))).trans (hidP_mut inP.2.1)
      generalize upd H10 p (.lst (us2 ++ [vt])) = H11 at rs11 hp11 hsm11 hc11 X11
      refine s_dputN (σ := [some (.ref na), some (.int m), some (.ref a), some (.ref p), some (.ref sm), some (.ref c), none, none]) (x := .int (lost (ds.take i) a' + k)) (ev_op (ev_dget (ev_var (i := 4) rfl) (ev_ixT (j := 0) (ev_var (i := 5) rfl) hc11 rfl) hsm11 (kv a' (amg_iff.mp ga))) (ev_ixT (j := 2) (ev_var (i := 5) rfl) hc11 rfl) rv_I0) (ev_var (i := 4) rfl) (ev_ixT (j := 0) (ev_var (i := 5) rfl) hc11 rfl) hsm11 (by rw [sizeLine_eq]; omega) fun H12 e12 => ⟨(X11.trans (hidP_ex e12)).trans (hidP_mut inP.2.2), ⟨us2 ++ [vt], putK kvs (Sum.inr a') (.int (lost (ds.take i) a' + k)), (upd_ne inP.1).trans (e12 _ _ hp11), (rs11.up (hidP_ex e12)).up (hidP_mut inP.2.2), upd_same, by have := length_putK kvs (Sum.inr a') (V.int (lost (ds.take i) a' + k)); omega, fun n2 hn2 => ?_⟩, fun j d2 lj hj => ?_, ?_, _, rfl⟩
      · rw [valV_put]
        have nx := sum_next (p := isFrom n2) (f := shareOf) hd
        unfold lost
        rw [nx]
        show (if (Sum.inr n2 : Key) = Sum.inr a' then _ else _) = some (V.int (_ + if decide (a' = n2) = true then k else 0))
        by_cases e : n2 = a'
        · subst e
          rw [if_pos rfl, if_pos (decide_eq_true rfl)]
        · rw [if_neg fun z => e (Sum.inr.inj z), if_neg fun z => e (of_decide_eq_true z).symm, Int.add_zero]
          exact kv n2 hn2
      · rcases Nat.lt_or_ge j i with l | l
        · exact good j d2 l hj
        · have : j = i := by omega
          subst this
          rw [hd] at hj
          cases hj
          exact ⟨lk, tok⟩
      · exact nd_nextT gt ndk (by rw [← List.map_take]; exact new)
    · subst es
      have X5 := (hidP_ex e5).trans x5
      have E5 := back X5
      have ln : (ds.map D.trip).length = ds.length := List.length_map _
      rw [List.take_of_length_le (by omega)] at ndk
      rw [List.take_of_length_le (Nat.le_refl _)] at kv
      have hall : ds.all (D.leak ns m) = true := List.all_eq_true.mpr fun d hd => by
        obtain ⟨j, hj⟩ := List.mem_iff_getElem?.mp hd
        exact (good j d (List.getElem?_eq_some_iff.mp hj).1 hj).1
      rw [leaks_tup, ht, hall, decide_eq_true ndk] at q
      refine s_ret (σ := [some (.ref na), some (.int m), some (.ref a), some (.ref p), some (.ref sm), z, none, none]) (v := .bl (ns.all fun n => decide (lost ds n ≤ m))) (ev_is (ev_eqNilI (S := S0) (lcI (ds := ns.map D.str) (fun d => !decide (lost ds d.txt ≤ m)) (fun _ => 1) in0 (its_list (es_of (ev_var (i := 0) rfl) (.lst (hidP_at (E5 _ _ hns) fun z => z) (reps_strs ns)))) (by rw [List.length_map]; omega) fun S' y d2 H7 hd2 in7 e7 x7 ry => ?_)) ?_) fun H6 e6 => q H6 (E5.trans e6)
      · obtain ⟨n2, hn2, rfl⟩ := List.mem_map.mp hd2
        obtain rfl := ry.strD
        exact ⟨[some (.ref na), some (.int m), some (.ref a), some (.ref p), some (.ref sm), z, some (.str n2), none], fun Q h => h, rfl, et_is (et_test (ev_op (ev_dget (ev_var (i := 4) rfl) (ev_var (i := 6) rfl) (e7 _ _ hsm5) (kv n2 hn2)) (ev_var (i := 1) rfl) rv_I0)) (by rw [Bool.eq_iff_iff, Bool.not_eq_true', decide_eq_true_iff, decide_eq_false_iff_not]; show lost ds n2 > m ↔ ¬ lost ds n2 ≤ m; omega), fun _ => ev_c⟩
      · rw [none_off, List.all_map]
        rfl
end
end Kx

set_option Elab.async false
set_option linter.all false
set_option maxRecDepth 100000
set_option maxHeartbeats 400000
namespace Kx
open PySem PySem.Spec PyProof.Rows L2 Evl
/-! ## good airs -/
theorem sky_no {d : D} (h : isTup d 4 4 = false) : d.sky = false := by
  cases d with
  | tup ds =>
    match ds, h with
    | [_, _, _, _], h => exact absurd h (by simp [isTup])
    | [], _ | [_], _ | [_, _], _ | [_, _, _], _ | _ :: _ :: _ :: _ :: _ :: _, _ => rfl
  | _ => rfl
theorem sky_eq {a b c d : Bool} (h : a = d) : (b && (a && c)) = (b && (d && c)) := by rw [h]
section
variable {P : Program} {w : World} {K : PySem.W.Frag} {mg : Str → Option Value} {base : Heap} (T : Txt K mg)
theorem ok_lair : FnOk P w K mg base CX0 5 T.a_law_good_air T.d_law_good_air ["value"] (spX okAir) := by
  refine T.F_law_good_air.ok sc_law_good_air (fun vs H Q E h => ?_) (fun cdv A outer s H vs Q E hr h => ?_)
  · obtain ⟨z, ⟨v, d, rfl, _⟩, _⟩ := h
    rfl
  · obtain ⟨z, ⟨v, d, rfl, hv, hz, rfl⟩, q⟩ := h
    have nd := sc_law_good_air.nd
    have hu4 : (A.deeper (envOfC "_law_good_air" (defScope s_law_good_air) s.heap.objs.size T.a_law_good_air cdv)).units + 64 < cLine := by have := hr.un; omega
    refine ⟨_, (pss_cons (ps_if (PW.pt (pw_or (pt_not (pt_val (pe_call (ok_ltup T) (hr.mono (by decide)) (by rfl) T.g_law_is_tuple T.F_law_is_tuple.kp (b_law_is_tuple T) .nil pass0 (pa_cons (pv 0) (pa_cons pe_int (pa_cons pe_int pa_nil)))))) (pw_or (pt_not (pt_val (pe_isi T.z_isinstance T.z_str bo_str (pe_ix (r := rIxT K) ix_tup (pv 0) pe_int (fun _ _ => rfl))))) (pw_or1 (pt_cmpR op_ne (pe_ix (r := rIxT K) ix_tup (pv 0) pe_int (fun _ _ => rfl)) pe_str (nomark _)))))) (pss_one (ps_ret pe_bl)) pss_nil)
      (pss_cons (ps_if (PW.pt (pw_or (pt_not (pt_val (pe_call (ok_lrooms T) (hr.mono (by decide)) (by rfl) T.g_law_good_rooms T.F_law_good_rooms.kp (b_law_good_rooms T) .nil pass0 (pa_cons (pe_ix (r := rIxT K) ix_tup (pv 0) pe_int (fun _ _ => rfl)) pa_nil)))) (pw_or1 (pt_not (pt_val (pe_call (ok_lbetw T) (hr.mono (by decide)) (by rfl) T.g_law_between T.F_law_between.kp (b_law_between T) .nil pass0 (pa_cons (pe_ix (r := rIxT K) ix_tup (pv 0) pe_int (fun _ _ => rfl)) (pa_cons pe_int (pa_cons pe_int pa_nil))))))))) (pss_one (ps_ret pe_bl)) pss_nil)
      (pss_cons (ps_par (i := 1) (j := 2) rfl nd rfl rfl (by decide) rfl rfl (pa_cons (pe_lc (own := [("row", 3)]) (g := gName 3) (tt := tYes) (by rfl) nd (pi_tup (pe_ix (r := rIxT K) ix_tup (pv 0) pe_int (fun _ _ => rfl))) (blkOk_by (N := ["value", "rooms", "sky", "row", "number"]) (sc := defScope s_law_good_air) (by decide +kernel)) (fun _ _ _ _ _ => (pg_name (i := 3) nd rfl (.inl rfl))) (fun _ _ _ _ _ => pts_nil) (fun _ _ _ _ _ => (pe_ix (r := rIxT K) ix_tup (pv 3) pe_int (fun _ _ => rfl)))) (pa_cons (pe_ix (r := rIxT K) ix_tup (pv 0) pe_int (fun _ _ => rfl)) pa_nil)) (by rfl))
      (pss_cons (ps_if (PW.pt (pw_or (pt_not (pt_val (pe_call (ok_lleaks T) (hr.mono (by decide)) (by rfl) T.g_law_good_leaks T.F_law_good_leaks.kp (b_law_good_leaks T) .nil pass0 (pa_cons (pv 1) (pa_cons (pe_ix (r := rIxT K) ix_tup (pv 0) pe_int (fun _ _ => rfl)) (pa_cons (pe_ix (r := rIxT K) ix_tup (pv 0) pe_int (fun _ _ => rfl)) pa_nil)))))) (pw_or1 (pt_not (pt_val (pe_call (ok_lheats T) (hr.mono (by decide)) (by rfl) T.g_law_good_heaters T.F_law_good_heaters.kp (b_law_good_heaters T) .nil pass0 (pa_cons (pv 1) (pa_cons (pe_ix (r := rIxT K) ix_tup (pv 0) pe_int (fun _ _ => rfl)) pa_nil)))))))) (pss_one (ps_ret pe_bl)) pss_nil)
      (pss_cons (ps_if (PW.pt (pw_or (pt_not (pt_val (pe_call (ok_ltup T) (hr.mono (by decide)) (by rfl) T.g_law_is_tuple T.F_law_is_tuple.kp (b_law_is_tuple T) .nil pass0 (pa_cons (pv 2) (pa_cons pe_int (pa_cons pe_int pa_nil)))))) (pw_or1 (pt_cmpR (op_neD hu4) (pe_lc (own := [("number", 4)]) (g := gName 4)  (by rfl) nd (pi_tup (pv 2)) (blkOk_by (N := ["value", "rooms", "sky", "row", "number"]) (sc := defScope s_law_good_air) (by decide +kernel)) (fun _ _ _ _ _ => (pg_name (i := 4) nd rfl (.inl rfl))) (fun _ _ _ _ _ => (pts_one (pt_not (pt_val (pe_call (ok_lbetw T) (hr.mono (by decide)) (by rfl) T.g_law_between T.F_law_between.kp (b_law_between T) .nil pass0 (pa_cons (pv 4) (pa_cons (pe_un un_neg pe_int) (pa_cons pe_int pa_nil)))))))) (fun _ _ _ _ _ => pe_int)) (pe_lst pa_nil) (nomark _))))) (pss_one (ps_ret pe_bl)) pss_nil)
      (pss_one (ps_ret (pe_and (pe_chain op_le op_le (pe_ix (r := rIxT K) ix_tup (pv 2) pe_int (fun _ _ => rfl)) (pe_ix (r := rIxT K) ix_tup (pv 2) pe_int (fun _ _ => rfl)) (pe_ix (r := rIxT K) ix_tup (pv 2) pe_int (fun _ _ => rfl))) (pe_and (pe_cmpR op_le (pe_op op_sub (pe_ix (r := rIxT K) ix_tup (pv 2) pe_int (fun _ _ => rfl)) (pe_ix (r := rIxT K) ix_tup (pv 2) pe_int (fun _ _ => rfl))) pe_int (nomark _)) (pe_one (pe_chain op_le op_le pe_int (pe_ix (r := rIxT K) ix_tup (pv 2) pe_int (fun _ _ => rfl)) pe_int))))))))))), ?_⟩
    cases ht : isTup d 6 6 with
    | false =>
      refine s_ifX (σ := [some (v), none, none, none, none]) (b := true) (et_is (et_or (b := true) (et_not (et_B (ev_sp stb_tup (ea_cons (ev_var (i := 0) rfl) (ea_cons ev_c (ea_cons ev_c ea_nil))) ⟨v, d, 6, 6, rfl, hv, rfl⟩))) fun hc => by rw [ht] at hc; cases hc) (by rw [ht]; rfl)) (fun _ H1 e => ?_) (fun hb => by cases hb)
      refine s_ret (v := .bl false) ev_c fun H2 e2 => ?_
      have z : d.air = false := by
        cases d with
        | tup ds =>
          match ds, ht with
          | [_, _, _, _, _, _], h => exact absurd h (by simp [isTup])
          | [], _ | [_], _ | [_, _], _ | [_, _, _], _ | [_, _, _, _], _ | [_, _, _, _, _], _ | _ :: _ :: _ :: _ :: _ :: _ :: _ :: _, _ => rfl
        | _ => rfl
      rw [z] at q
      exact q H2 (e.trans e2)
    | true =>
      obtain ⟨t, r, wd, l, h, sk, rfl⟩ := tup6 ht
      obtain ⟨a, v0, v1, v2, v3, v4, v5, rfl, ha, r0, r1, r2, r3, r4, r5⟩ := hv.t6
      have z1 := hz.tup.2.get (j := 1) rfl
      have z3 := hz.tup.2.get (j := 3) rfl
      have z4 := hz.tup.2.get (j := 4) rfl
      rw [air_6] at q
      refine s_ifX (σ := [some (.ref a), none, none, none, none]) (b := !t.isS "air") ?_ (fun hb H1 e => ?_) (fun hb H1 e => ?_)
      · refine et_is (et_or (a := false) (b := !t.isS "air") (et_is (et_not (et_B (ev_sp stb_tup (ea_cons (ev_var (i := 0) rfl) (ea_cons ev_c (ea_cons ev_c ea_nil))) ⟨_, _, 6, 6, rfl, hv, rfl⟩))) (by rw [ht]; rfl)) fun _ => ?_) rfl
        cases hi : isi t "str" with
        | false =>
          refine et_is (et_or (b := true) (et_not (et_val (ev_isi (ev_ixT (j := 0) (ev_var (i := 0) rfl) ha rfl) r0))) fun hc => by rw [hi] at hc; cases hc) ?_
          rw [hi]
          cases t <;> first | rfl | cases hi
        | true =>
          have et : t = .str t.txt := by cases t <;> first | rfl | cases hi
          have r0' := r0
          rw [et] at r0'
          obtain rfl := r0'.strD
          refine et_is (et_or (et_not (et_val (ev_isi (ev_ixT (j := 0) (ev_var (i := 0) rfl) ha rfl) r0))) fun _ => et_test (ev_is (ev_op (ev_ixT (j := 0) (ev_var (i := 0) rfl) ha rfl) ev_c (rv_ne rfl)) (congrArg (fun b => V.bl !b) (txt_eq _ _)))) ?_
          rw [hi, et]
          show (!true || !decide (t.txt = "air")) = !(t.txt == "air")
          rw [beq_dec]
          rfl
      · rw [show t.isS "air" = false from not_t hb, Bool.false_and, Bool.false_and] at q
        exact s_ret (v := .bl false) ev_c fun H2 e2 => q H2 (e.trans e2)
      rw [show t.isS "air" = true from not_f hb, Bool.true_and] at q
      refine s_ifX (σ := [some (.ref a), none, none, none, none]) (b := !r.rooms || !isBetw wd 1 12) (et_or (et_not (et_B (ev_sp stb_rooms (ea_cons (ev_ixT (j := 1) (ev_var (i := 0) rfl) (ha.up e) rfl) ea_nil) ⟨v1, r, rfl, r1.up e, z1, rfl⟩))) fun _ => et_not (et_B (ev_sp stb_betw (ea_cons (ev_ixT (j := 2) (ev_var (i := 0) rfl) (ha.up e) rfl) (ea_cons ev_c (ea_cons ev_c ea_nil))) ⟨v2, wd, 1, 12, rfl, r2.up e, rfl⟩))) (fun hb2 H2 e2 => ?_) (fun hb2 H2 e2 => ?_)
      · have : (r.rooms && isBetw wd 1 12) = false := by cases h1 : r.rooms <;> cases h2 : isBetw wd 1 12 <;> rw [h1, h2] at hb2 <;> first | rfl | cases hb2
        rw [this, Bool.false_and] at q
        exact s_ret (v := .bl false) ev_c fun H3 e3 => q H3 ((e.trans e2).trans e3)
      simp only [Bool.or_eq_false_iff, Bool.not_eq_false'] at hb2
      obtain ⟨hr1, hw1⟩ := hb2
      rw [hr1, hw1, Bool.true_and, Bool.true_and] at q
      rw [(betw_int hw1).1] at r2
      obtain rfl := r2.intD
      have E2 := e.trans e2
      match r, hr1, r1, z1, q with
      | .tup rs, hr1, r1, z1, q =>
      rw [rooms_tup] at hr1
      obtain ⟨lr, hr2⟩ := (Bool.and_eq_true _ _).mp hr1
      obtain ⟨hall, _⟩ := (Bool.and_eq_true _ _).mp hr2
      obtain ⟨b, ws, rfl, hb3, hs3⟩ := r1.tupD
      have l3 : rs.length ≤ 3 := by
        obtain ⟨_, e1, _, b2⟩ := isTup_len lr
        injection e1 with e1
        subst e1
        omega
      refine s_parQ ?_
      refine el_fsts (i := 3) (σ := [some (.ref a), none, none, none, none]) (ev_ixT (j := 1) (ev_var (i := 0) rfl) (ha.up E2) rfl) (hb3.up E2) (hs3.up E2) z1.tup.1 (show 3 < 5 from by decide) (fun d hd => room_row (List.all_eq_true.mp hall d hd)) H2 (Ex.refl _) _ fun p H3 np e3 hp => ?_
      have E3 := E2.trans e3
      refine ev_ixT (j := 5) (σ := [some (.ref a), none, none, none, none]) (ev_var (i := 0) rfl) (ha.up E3) rfl H3 (Ex.refl _) _ fun H4 e4 => ⟨.ref p, v5, rfl, ?_⟩
      have E4 := E3.trans e4
      have hp4 := e4 _ _ hp
      have ln : (nmsD rs).length ≤ 100 := by unfold nmsD; rw [List.length_map]; omega
      have okN : ∀ n ∈ nmsD rs, PyData.strOk n = true := fun n hn => by
        obtain ⟨d, hd, rfl⟩ := List.mem_map.mp hn
        obtain ⟨n, lo, hi, f, rfl, h1, _⟩ := room_shape (List.all_eq_true.mp hall d hd)
        exact strOk_nm h1
      refine s_ifX (σ := [some (.ref a), some (.ref p), some (v5), none, none]) (b := !l.leaks (nmsD rs) wd.num || !h.heats (nmsD rs)) (et_or (et_not (et_B (ev_sp stb_leaksL (ea_cons (ev_var (i := 1) rfl) (ea_cons (ev_ixT (j := 2) (ev_var (i := 0) rfl) (ha.up E4) rfl) (ea_cons (ev_ixT (j := 3) (ev_var (i := 0) rfl) (ha.up E4) rfl) ea_nil))) ⟨v3, l, p, nmsD rs, wd.num, rfl, r3.up E4, z3, hp4, ln, okN, rfl⟩))) fun _ => et_not (et_B (ev_sp stb_heatsL (ea_cons (ev_var (i := 1) rfl) (ea_cons (ev_ixT (j := 4) (ev_var (i := 0) rfl) (ha.up E4) rfl) ea_nil)) ⟨v4, h, p, nmsD rs, rfl, r4.up E4, z4, .inl hp4, rfl⟩))) (fun hb4 H5 e5 => ?_) (fun hb4 H5 e5 => ?_)
      · refine s_ret (v := .bl false) ev_c fun H6 e6 => ?_
        have : (l.leaks (nmsD rs) wd.num && (h.heats (nmsD rs) && sk.sky)) = false := by cases h1 : l.leaks (nmsD rs) wd.num <;> cases h2 : h.heats (nmsD rs) <;> rw [h1, h2] at hb4 <;> first | rfl | cases hb4
        rw [show (D.tup rs).fsts = nmsD rs from rfl, this] at q
        exact q H6 ((E4.trans e5).trans e6)
      simp only [Bool.or_eq_false_iff, Bool.not_eq_false'] at hb4
      rw [show (D.tup rs).fsts = nmsD rs from rfl, hb4.1, hb4.2, Bool.true_and, Bool.true_and] at q
      have E5 := E4.trans e5
      cases ts : isTup sk 4 4 with
      | false =>
        refine s_ifX (σ := [some (.ref a), some (.ref p), some (v5), none, none]) (b := true) (et_is (et_or (b := true) (et_not (et_B (ev_sp stb_tup (ea_cons (ev_var (i := 2) rfl) (ea_cons ev_c (ea_cons ev_c ea_nil))) ⟨v5, sk, 4, 4, rfl, r5.up E5, rfl⟩))) fun hc => by rw [ts] at hc; cases hc) (by rw [ts]; rfl)) (fun _ H6 e6 => ?_) (fun hb => by cases hb)
        rw [sky_no ts] at q
        exact s_ret (v := .bl false) ev_c fun H7 e7 => q H7 ((E5.trans e6).trans e7)
      | true =>
        obtain ⟨lo, hi, f, mv, rfl⟩ := tup4 ts
        obtain ⟨c, y0, y1, y2, y3, rfl, hc, g0, g1, g2, g3⟩ := r5.t4
        rw [sky_4] at q
        refine s_ifX (σ := [some (.ref a), some (.ref p), some (.ref c), none, none]) (b := ![lo, hi, f, mv].all (fun d => isBetw d (-40) 40)) (et_is (et_or (et_not (et_B (ev_sp stb_tup (ea_cons (ev_var (i := 2) rfl) (ea_cons ev_c (ea_cons ev_c ea_nil))) ⟨.ref c, _, 4, 4, rfl, r5.up E5, rfl⟩))) fun _ => et_test (ev_is (ev_neNilI (S := S0) (lcI (ds := [lo, hi, f, mv]) (fun d => !isBetw d (-40) 40) (fun _ => 1) in0 (its_tup (es_of (ev_var (i := 2) rfl) ((r5.up E5).up hid0))) (by simp) fun S' y d2 H6 hd2 in6 e6 x6 ry => ⟨[some (.ref a), some (.ref p), some (.ref c), none, some (y)], fun Q h => h, rfl, et_not (et_B (ev_sp stb_betw (ea_cons (ev_var (i := 4) rfl) (ea_cons (ev_un ev_c ru_neg) (ea_cons ev_c ea_nil))) ⟨y, d2, -40, 40, rfl, ry.up hidP_sub, rfl⟩)), fun _ => ev_c⟩)) (by rw [none_off]))) (by rw [ts]; rfl)) (fun hb6 H6 e6 => ?_) (fun hb6 H6 e6 => ?_)
        · rw [show [lo, hi, f, mv].all (fun d => isBetw d (-40) 40) = false from not_t hb6, Bool.false_and] at q
          exact s_ret (v := .bl false) ev_c fun H7 e7 => q H7 ((E5.trans e6).trans e7)
        have hw := not_f hb6
        rw [hw, Bool.true_and] at q
        rw [(betw_int (List.all_eq_true.mp hw lo (by simp))).1] at g0
        rw [(betw_int (List.all_eq_true.mp hw hi (by simp))).1] at g1
        rw [(betw_int (List.all_eq_true.mp hw f (by simp))).1] at g2
        rw [(betw_int (List.all_eq_true.mp hw mv (by simp))).1] at g3
        obtain rfl := g0.intD
        obtain rfl := g1.intD
        obtain rfl := g2.intD
        obtain rfl := g3.intD
        have E6 := E5.trans e6
        have hc6 := hc.up E6
        refine s_ret (σ := [some (.ref a), some (.ref p), some (.ref c), none, none]) (v := .bl ((decide (lo.num ≤ f.num) && (decide (f.num ≤ hi.num) && decide (hi.num ≤ lo.num + 8))) && (decide (0 ≤ mv.num) && decide (mv.num ≤ 8)))) (ev_is (ev_andV (a := decide (lo.num ≤ f.num) && decide (f.num ≤ hi.num)) (ev_chain (ev_ixT (j := 0) (ev_var (i := 2) rfl) hc6 rfl) (ev_ixT (j := 2) (ev_var (i := 2) rfl) hc6 rfl) rv_I0 (fun _ => ev_ixT (j := 1) (ev_var (i := 2) rfl) hc6 rfl) fun _ => rv_I0) fun _ => ev_andV (a := decide (hi.num - lo.num ≤ 8)) (ev_op (ev_op (ev_ixT (j := 1) (ev_var (i := 2) rfl) hc6 rfl) (ev_ixT (j := 0) (ev_var (i := 2) rfl) hc6 rfl) rv_I0) ev_c rv_I0) fun _ => ev_chain (b1 := decide (0 ≤ mv.num)) (b2 := decide (mv.num ≤ 8)) ev_c (ev_ixT (j := 3) (ev_var (i := 2) rfl) hc6 rfl) rv_I0 (fun _ => ev_c) fun _ => rv_I0) ?_) fun H7 e7 => q H7 (E6.trans e7)
        rw [show decide (hi.num - lo.num ≤ 8) = decide (hi.num ≤ lo.num + 8) from decide_eq_decide.mpr ⟨fun h => by omega, fun h => by omega⟩]
        congr 1
        cases decide (lo.num ≤ f.num) <;> cases decide (f.num ≤ hi.num) <;> cases decide (hi.num ≤ lo.num + 8) <;> rfl
end
end Kx

set_option Elab.async false
set_option linter.all false
set_option maxRecDepth 100000
set_option maxHeartbeats 400000
namespace Kx
open PySem PySem.Spec PyProof.Rows L2 Evl
/-! ## an air lies apart from the state -/
theorem imm_t {ds : List D} (h : ∀ d ∈ ds, d.imm = true) : (D.tup ds).imm = true := by
  unfold D.imm
  exact imms_iff.mpr h
theorem IsA.imm {d : D} {rs ls hs : List D} {m lo hi f mv : Int} (A : IsA d rs ls hs m lo hi f mv) : d.imm = true := by
  rw [A.eq]
  have lf : ∀ (ds : List D), (∀ x ∈ ds, (∃ s, x = .str s) ∨ (∃ i, x = .int i) ∨ x = .non) → (D.tup ds).imm = true := fun ds h => imm_t fun x hx => by
    rcases h x hx with ⟨s, rfl⟩ | ⟨i, rfl⟩ | rfl <;> (unfold D.imm; rfl)
  refine imm_t fun x hx => ?_
  simp only [List.mem_cons, List.not_mem_nil, or_false] at hx
  rcases hx with rfl | rfl | rfl | rfl | rfl | rfl
  · unfold D.imm; rfl
  · refine imm_t fun y hy => ?_
    obtain ⟨n, a, b, c, rfl, _⟩ := room_shape (A.ra y hy)
    exact lf _ fun z hz => by
      simp only [List.mem_cons, List.not_mem_nil, or_false] at hz
      rcases hz with rfl | rfl | rfl | rfl <;> simp
  · unfold D.imm; rfl
  · refine imm_t fun y hy => ?_
    obtain ⟨a, b, s, n, rfl, _, _, _, _, _, hn⟩ := leak_shape (A.la y hy)
    exact lf _ fun z hz => by
      simp only [List.mem_cons, List.not_mem_nil, or_false] at hz
      rcases hz with rfl | rfl | rfl | rfl
      · simp
      · simp
      · simp
      · rcases hn with rfl | ⟨w, rfl, _⟩ <;> simp
  · refine imm_t fun y hy => ?_
    obtain ⟨n, a, g, rfl, _⟩ := heat_shape (A.ha y hy)
    exact lf _ fun z hz => by
      simp only [List.mem_cons, List.not_mem_nil, or_false] at hz
      rcases hz with rfl | rfl | rfl <;> simp
  · exact lf _ fun z hz => by
      simp only [List.mem_cons, List.not_mem_nil, or_false] at hz
      rcases hz with rfl | rfl | rfl | rfl <;> simp
theorem air_imm {d : D} (h : d.air = true) : d.imm = true := by
  obtain ⟨rs, ls, hs, m, lo, hi, f, mv, A⟩ := air_is h
  exact A.imm
end Kx

set_option Elab.async false
set_option linter.all false
set_option maxRecDepth 100000
set_option maxHeartbeats 400000
namespace Kx
open PySem PySem.Spec PyProof.Rows L2 Evl
/-! ## leaks that are drawn -/
def spLeaks : Sp := fun vs H Q _ => ∃ (sd sg sc : Addr) (b : Nat) (rl : Addr) (ns : List Str) (m : Int), vs = [.ref sd, .ref rl, .int m] ∧ H rl = some (.lst (sv ns)) ∧ rl ≠ sd ∧ rl ≠ sg ∧ ns.length ≤ 3 ∧ ns.Nodup ∧ (∀ n ∈ ns, nmS n = true ∧ n ≠ "out") ∧ 1 ≤ m ∧ m ≤ 12 ∧ Sta H sd sg sc (b + 27) ∧
  ∀ v d H', Rep H' v d → d.leaks ns m = true → Sta H' sd sg sc b → ExS sd sg H H' → Q v H'
/-- what is found so far -/
structure LkS (ns : List Str) (m : Int) (seen : List Str) (n : Nat) (ds : List D) : Prop where
  all : ∀ d ∈ ds, d.leak ns m = true
  nd : (ds.map D.trip).Nodup
  few : ds.length ≤ n
  sums : ∀ x ∈ ns, lost ds x ≤ m
  from_ : ∀ d ∈ ds, d.fst.txt ∈ seen
theorem LkS.zero (ns : List Str) (m : Int) (h : 0 ≤ m) : LkS ns m [] 0 [] := ⟨(fun _ h => nomatch h), List.nodup_nil, Nat.le_refl _, (fun _ _ => h), (fun _ h => nomatch h)⟩
theorem lost_none {ds : List D} {x : Str} {seen : List Str} (h : ∀ d ∈ ds, d.fst.txt ∈ seen) (n : x ∉ seen) (lk : ∀ d ∈ ds, ∃ a b s n, d = .tup [.str a, .str b, .int s, n]) : lost ds x = 0 := by
  unfold lost
  rw [List.filter_eq_nil_iff.mpr fun d hd hk => ?_]
  · rfl
  · obtain ⟨a, b, s, m, rfl⟩ := lk d hd
    have e : a = x := of_decide_eq_true hk
    exact n (e ▸ h _ hd)
theorem lost_app (ds : List D) (d : D) (x : Str) : lost (ds ++ [d]) x = lost ds x + if isFrom x d = true then shareOf d else 0 := by
  unfold lost
  rw [List.filter_append, List.map_append, List.sum_append]
  congr 1
  show ((List.filter (isFrom x) [d]).map shareOf).sum = _
  cases hp : isFrom x d with
  | true => rw [List.filter_cons_of_pos hp]; simp
  | false => rw [List.filter_cons_of_neg (by rw [hp]; decide)]; simp
theorem LkS.put {ns : List Str} {m : Int} {seen : List Str} {n : Nat} {ds : List D} (h : LkS ns m seen n ds) {a b : Str} {s : Int} {x : D} (lk : D.leak ns m (.tup [.str a, .str b, .int s, x]) = true) (new : D.trip (.tup [.str a, .str b, .int s, x]) ∉ ds.map D.trip) (ma : a ∈ seen) (le : lost ds a + s ≤ m) : LkS ns m seen (n + 1) (ds ++ [.tup [.str a, .str b, .int s, x]]) where
  all := fun d hd => (List.mem_append.mp hd).elim (h.all d) fun e => by rw [List.mem_singleton.mp e]; exact lk
  nd := by
    rw [List.map_append]
    exact List.nodup_append.mpr ⟨h.nd, by simp, fun y hy z hz e => new (by rw [List.map_singleton, List.mem_singleton] at hz; rw [← hz, ← e]; exact hy)⟩
  few := by rw [List.length_append, List.length_singleton]; have := h.few; omega
  sums := fun y hy => by
    rw [lost_app]
    by_cases e : a = y
    · subst e
      rw [show isFrom a (.tup [.str a, .str b, .int s, x]) = true from decide_eq_true rfl, if_pos rfl]
      exact le
    · rw [show isFrom y (.tup [.str a, .str b, .int s, x]) = false from decide_eq_false e, if_neg Bool.false_ne_true, Int.add_zero]
      exact h.sums y hy
  from_ := fun d hd => (List.mem_append.mp hd).elim (h.from_ d) fun e => by rw [List.mem_singleton.mp e]; exact ma
theorem LkS.more {ns : List Str} {m : Int} {seen sn2 : List Str} {n n2 : Nat} {ds : List D} (h : LkS ns m seen n ds) (s : ∀ x ∈ seen, x ∈ sn2) (l : n ≤ n2) : LkS ns m sn2 n2 ds := ⟨h.all, h.nd, Nat.le_trans h.few l, h.sums, fun d hd => s _ (h.from_ d hd)⟩
theorem LkS.leaks {ns : List Str} {m : Int} {seen : List Str} {ds : List D} (h : LkS ns m seen 6 ds) : D.leaks ns m (.tup ds) = true := by
  rw [leaks_tup, List.all_eq_true.mpr h.all, decide_eq_true h.nd, List.all_eq_true.mpr fun x hx => decide_eq_true (h.sums x hx)]
  have := h.few
  rw [show isTup (.tup ds) 0 6 = true from by
    show (decide ((0 : Int) ≤ (ds.length : Int)) && decide ((ds.length : Int) ≤ 6)) = true
    rw [decide_eq_true (by omega), decide_eq_true (by omega)]
    rfl]
  rfl
theorem LkS.imm {ns : List Str} {m : Int} {seen : List Str} {n : Nat} {ds : List D} (h : LkS ns m seen n ds) : imms ds = true := imms_iff.mpr fun d hd => by
  obtain ⟨a, b, s, x, rfl, _, _, _, _, _, hx⟩ := leak_shape (h.all d hd)
  refine imm_t fun z hz => ?_
  simp only [List.mem_cons, List.not_mem_nil, or_false] at hz
  rcases hz with rfl | rfl | rfl | rfl
  · unfold D.imm; rfl
  · unfold D.imm; rfl
  · unfold D.imm; rfl
  · rcases hx with rfl | ⟨w, rfl, _⟩ <;> (unfold D.imm; rfl)
theorem s_lstA {te : TE} {g : TG} {tz : TS} {D0 : Ends} {σ : L2.St} {H : Hp} (h : te σ H fun v H3 => g v σ H3 (tz D0)) : tSeq (tAsg te g) tz D0 σ H := h
section
variable {P : Program} {w : World} {K : PySem.W.Frag} {mg : Str → Option Value} {base : Heap} (T : Txt K mg)
theorem ok_leaks_of : FnOk P w K mg base CX0 4 T.a_law_leaks T.d_law_leaks ["state", "rooms", "whole"] spLeaks := by
  refine T.F_law_leaks.ok sc_law_leaks (fun vs H Q E h => ?_) (fun cdv A outer s H vs Q E hr h => ?_)
  · obtain ⟨sd, sg, sc, b, rl, ns, m, rfl, _⟩ := h
    rfl
  · obtain ⟨sd, sg, sc, b, rl, ns, m, rfl, hrl, rl1, rl2, lns, ndn, hnm, m1, m12, hS, q⟩ := h
    have nd := sc_law_leaks.nd
    have hu4 : (A.deeper (envOfC "_law_leaks" (defScope s_law_leaks) s.heap.objs.size T.a_law_leaks cdv)).units + 64 < cLine := by have := hr.un; omega
    refine ⟨_, (pss_cons (ps_set (i := 3) nd rfl (.inl rfl) (pe_lst pa_nil))
      (pss_cons (ps_for PassesOwn.never rfl (pi_enum (by rfl) T.z_enumerate (pa_cons (pv 1) pa_nil)) (pg_tup rfl (pgs_cons (pg_name (i := 4) nd rfl (.inl rfl)) (pgs_cons (pg_name (i := 5) nd rfl (.inr rfl)) pgs_nil))) (pss_cons (ps_par (i := 6) (j := 7) rfl nd rfl rfl (by decide) rfl rfl (pa_cons (pv 2) (pa_cons (pe_op op_cat (pe_op op_cat (pe_lst (pa_cons pe_str pa_nil)) (pe_lc (own := [("name", 11)]) (g := gName 11)  (by rfl) nd (pi_list (pv 1)) (blkOk_by (N := ["state", "rooms", "whole", "found", "at", "area", "left", "ends", "other", "share", "door", "name", "row"]) (sc := defScope s_law_leaks) (by decide +kernel)) (fun _ _ _ _ _ => (pg_name (i := 11) nd rfl (.inl rfl))) (fun _ _ _ _ _ => (pts_one (pt_cmpR op_ne (pv 11) (pv 5) (nomark _)))) (fun _ _ _ _ _ => (pv 11)))) (pe_lst (pa_cons pe_str pa_nil))) pa_nil)) (by rfl))
      (pss_one (ps_for PassesOwn.never rfl (pi_list (pe_slice sl_list (pe_call (ok_shufD T) (hr.mono (by decide)) (by rfl) T.g_law_shuffled T.F_law_shuffled.kp (b_law_shuffled T) .nil pass0 (pa_cons (pv 0) (pa_cons (pv 7) pa_nil))) po_none (po_some pe_int))) (pg_name (i := 8) nd rfl (.inr rfl)) (pss_cons (ps_asg (pe_tupF (pa_cons (pe_op op_add pe_int (pe_call (ok_draw T) (hr.mono (by decide)) (by rfl) T.g_law_draw T.F_law_draw.kp (b_law_draw T) .nil pass0 (pa_cons (pv 0) (pa_cons (pv 2) pa_nil)))) (pa_cons (pe_call (ok_pickL T) (hr.mono (by decide)) (by rfl) T.g_law_pick T.F_law_pick.kp (b_law_pick T) .nil pass0 (pa_cons (pv 0) (pa_cons (pe_lst (pa_cons pe_non (pa_cons pe_non (pa_cons pe_str (pa_cons pe_str pa_nil))))) pa_nil))) pa_nil))) (pg_tup rfl (pgs_cons (pg_name (i := 9) nd rfl (.inl rfl)) (pgs_cons (pg_name (i := 10) nd rfl (.inr rfl)) pgs_nil))))
      (pss_one (ps_if (PW.pt (pw_and (pt_cmpR op_le (pv 9) (pv 6) (nomark _)) (pw_and1 (pt_cmpR (op_eqD hu4) (pe_lc (own := [("row", 12)]) (g := gName 12)  (by rfl) nd (pi_list (pv 3)) (blkOk_by (N := ["state", "rooms", "whole", "found", "at", "area", "left", "ends", "other", "share", "door", "name", "row"]) (sc := defScope s_law_leaks) (by decide +kernel)) (fun _ _ _ _ _ => (pg_name (i := 12) nd rfl (.inl rfl))) (fun _ _ _ _ _ => (pts_one (PW.pt (pw_and (pt_cmpR op_eq (pe_ix (r := rIxT K) ix_tup (pv 12) pe_int (fun _ _ => rfl)) (pv 5) (nomark _)) (pw_and (pt_cmpR op_eq (pe_ix (r := rIxT K) ix_tup (pv 12) pe_int (fun _ _ => rfl)) (pv 8) (nomark _)) (pw_and1 (pt_cmpR op_eq (pe_ix (r := rIxT K) ix_tup (pv 12) pe_int (fun _ _ => rfl)) (pv 10) (nomark _)))))))) (fun _ _ _ _ _ => pe_int)) (pe_lst pa_nil) (nomark _))))) (pss_cons (ps_expr (pe_bm PySem.F.plainAttrs_list PySem.F.slot_list_append PySem.F.type_list_append mt_append (pv 3) (pa_cons (pe_tupF (pa_cons (pv 5) (pa_cons (pv 8) (pa_cons (pv 9) (pa_cons (pv 10) pa_nil))))) pa_nil)))
      (pss_one (ps_set (i := 6) nd rfl (.inl rfl) (pe_op op_sub (pv 6) (pv 9))))) pss_nil)))))))
      (pss_one (ps_ret (pe_callTy call_tupF (by rfl) T.z_tuple bo_tuple (pa_cons (pv 3) pa_nil)))))), ?_⟩
    refine s_asgL (el_lst ea_nil (by simp)) fun p H1 np e1 hp1 => ?_
    obtain ⟨p1, p2, p3⟩ := hS.off np
    have S1 := hS.up e1
    have rlp : rl ≠ p := fun z => by rw [z, np] at hrl; cases hrl
    refine q_forEnum (a := rl) (xs := sv ns) (σ := [some (.ref sd), some (.ref rl), some (.int m), some (.ref p), none, none, none, none, none, none, none, none, none]) (ev_var (i := 1) rfl) (.of (e1 _ _ hrl)) (fun H8 i σ' H' => Sta H' sd sg sc (b + 9 * (3 - i)) ∧ H' rl = some (.lst (sv ns)) ∧ ExS sd sg H H' ∧ (∃ us ds, H' p = some (.lst us) ∧ Reps H' us ds ∧ LkS ns m (ns.take i) (2 * i) ds) ∧ ∃ z4 z5 z6 z7 z8 z9 z10, σ' = [some (.ref sd), some (.ref rl), some (.int m), some (.ref p), z4, z5, z6, z7, z8, z9, z10, none, none])
      (fun H8 e8 => ⟨(S1.up e8).less (by omega), (e1.trans e8) _ _ hrl, .of (e1.trans e8), ⟨[], [], e8 _ _ hp1, .nil, LkS.zero ns m (by omega)⟩, _, _, _, _, _, _, _, rfl⟩) (fun H8 i σ' H' e8 h => .of h.2.1) (fun H8 i x t σ' H' e8 hx ⟨S8, rl8, X8, ⟨us, ds, hp8, rs8, lk8⟩, z4, z5, z6, z7, z8, z9, z10, es⟩ nt => ?_) (fun H8 σ' H' e8 ⟨S8, rl8, X8, ⟨us, ds, hp8, rs8, lk8⟩, z4, z5, z6, z7, z8, z9, z10, es⟩ => ?_)
    · subst es
      obtain ⟨area, ga, rfl⟩ : ∃ n, ns[i]? = some n ∧ x = .str n := by
        unfold sv at hx
        rw [List.getElem?_map] at hx
        cases e : ns[i]? with
        | none => rw [e] at hx; cases hx
        | some n =>
          rw [e] at hx
          exact ⟨n, rfl, (Option.some.inj hx).symm⟩
      have il : i < ns.length := (List.getElem?_eq_some_iff.mp ga).1
      have ma : area ∈ ns := List.mem_of_getElem? ga
      have et : Ex H' (upd H' t (.tup [.int (i : Nat), .str area])) := Ex.new nt
      have ht8 : upd H' t (.tup [.int (i : Nat), .str area]) t = some (.tup [.int (i : Nat), .str area]) := upd_same
      generalize upd H' t (.tup [.int (i : Nat), .str area]) = H9 at et ht8
      refine ⟨t, _, rfl, .inl (.inl ht8), rfl, _, _, rfl, _, _, rfl, rfl, ?_⟩
      have rl9 := et _ _ rl8
      refine s_parQ ?_
      refine ⟨.int m, rfl, ?_⟩
      have cl := lcS (S := S0) (ds := ns.map D.str) (wi := iList K (tVar 1)) (g := gName 11) (tt := tTest (tOp rNe (tVar 11) (tVar 5))) (te := tVar 11) (own := [11]) (σ := [some (.ref sd), some (.ref rl), some (.int m), some (.ref p), some (.int (i : Nat)), some (.str area), z6, z7, z8, z9, z10, none, none]) (H := H9) (fun d => !decide (V.str d.txt = V.str area)) (fun d => d) in0 (its_list (es_of (ev_var (i := 1) rfl) (.lst (hidP_at rl9 fun z => z) (reps_strs ns)))) (by rw [List.length_map]; omega) fun S' y d2 H10 hd2 in10 e10 x10 ry => by
        obtain ⟨n2, hn2, rfl⟩ := List.mem_map.mp hd2
        obtain rfl := ry.strD
        exact ⟨[some (.ref sd), some (.ref rl), some (.int m), some (.ref p), some (.int (i : Nat)), some (.str area), z6, z7, z8, z9, z10, some (.str n2), none], fun Q h => h, rfl, et_test (ev_op (ev_var (i := 11) rfl) (ev_var (i := 5) rfl) (rv_ne rfl)), fun _ => es_of (ev_var (i := 11) rfl) (.str _)⟩
      refine es_catL (S := S0) (σ := [some (.ref sd), some (.ref rl), some (.int m), some (.ref p), some (.int (i : Nat)), some (.str area), z6, z7, z8, z9, z10, none, none]) in0 (es_catL in0 (es_lst in0 (ds := [.str "out"]) (eas_cons (es_of ev_c (.str _)) eas_nil) (by simp)) cl (by have := List.length_filter_le (fun d : D => !decide (V.str d.txt = V.str area)) (ns.map D.str); rw [List.length_map] at this ⊢; simp only [List.length_cons, List.length_nil]; omega)) (es_lst in0 (ds := [.str "out"]) (eas_cons (es_of ev_c (.str _)) eas_nil) (by simp)) (by have := List.length_filter_le (fun d : D => !decide (V.str d.txt = V.str area)) (ns.map D.str); rw [List.length_map] at this; simp only [List.length_append, List.length_map, List.length_cons, List.length_nil]; omega) H9 (Ex.refl _) _ fun u H10 e10 r10 => ⟨.int m, u, rfl, ?_⟩
      have etx : ([D.str "out"] ++ ((ns.map D.str).filter fun d => !decide (V.str d.txt = V.str area)).map (fun d => d)) ++ [D.str "out"] = (([("out" : Str)] ++ ns.filter fun n => !decide (n = area)) ++ [("out" : Str)]).map D.str := by
        rw [List.map_append, List.map_append, List.map_id', List.filter_map]
        congr 1
        congr 1
        congr 1
        refine List.filter_congr fun n _ => ?_
        show (!decide (V.str n = V.str area)) = !decide (n = area)
        congr 1
        exact decide_eq_decide.mpr ⟨V.str.inj, fun h => h ▸ rfl⟩
      rw [etx] at r10
      obtain ⟨l, vs10, rfl, hl10, hs10⟩ := (r10.up hidP_sub).lstD
      rw [strs_of_reps hs10] at hl10
      have ok10 : ∀ o ∈ ([("out" : Str)] ++ ns.filter fun n => !decide (n = area)) ++ [("out" : Str)], o ≠ area ∧ (o ∈ ns ∨ o = "out") ∧ PyData.strOk o = true := fun o ho => by
        have ho2 : o = "out" ∨ (o ∈ ns ∧ o ≠ area) := by
          rcases List.mem_append.mp ho with ho | ho
          · rcases List.mem_append.mp ho with ho | ho
            · exact .inl (List.mem_singleton.mp ho)
            · obtain ⟨h1, h2⟩ := List.mem_filter.mp ho
              rw [Bool.not_eq_true', decide_eq_false_iff_not] at h2
              exact .inr ⟨h1, h2⟩
          · exact .inl (List.mem_singleton.mp ho)
        rcases ho2 with rfl | ⟨h1, h2⟩
        · exact ⟨fun z => (hnm area ma).2 z.symm, .inr rfl, by decide +kernel⟩
        · exact ⟨h2, .inl h1, strOk_nm (hnm o h1).1⟩
      have lz10 : (([("out" : Str)] ++ ns.filter fun n => !decide (n = area)) ++ [("out" : Str)]).length ≤ 5 := by
        have := List.length_filter_le (fun n => !decide (n = area)) ns
        simp only [List.length_append, List.length_cons, List.length_nil]
        omega
      generalize ([("out" : Str)] ++ ns.filter fun n => !decide (n = area)) ++ [("out" : Str)] = tx at r10 hl10 hs10 ok10 lz10
      have E10 := et.trans e10
      have S10 := S8.up E10
      have lsv : (sv tx).length = tx.length := List.length_map _
      refine ⟨.ref sd, rfl, .ref l, rfl, sd, sg, sc, b + 9 * (3 - (i + 1)) + 4, l, sv tx, rfl, hl10, by omega, fun v hv => ?_, S10.less (by omega), fun q1 ts H11 nq1 hq1 pm1 S11 X11 => ⟨2, rfl, q1, ts, rfl, .of hq1, fun f nf => ⟨f, rfl, ⟨_, .of upd_same⟩, ?_⟩⟩⟩
      · obtain ⟨o, ho, rfl⟩ := List.mem_map.mp hv
        exact ⟨.str o, .str o, (leaf_str (ok10 o ho).2.2).1, Nat.le_trans (leaf_str (ok10 o ho).2.2).2 (by decide)⟩
      have E11 : ExS sd sg H' H11 := (ExS.of E10).trans X11
      have e12 : Ex H11 (upd H11 f (.lst (cutV ts none (some 2)))) := Ex.new nf
      have hf12 : upd H11 f (.lst (cutV ts none (some 2))) f = some (.lst (cutV ts none (some 2))) := upd_same
      have S12 := S11.up e12
      have E12 : ExS sd sg H' (upd H11 f (.lst (cutV ts none (some 2)))) := E11.trans (.of e12)
      obtain ⟨f1, f2, f3⟩ := S11.off nf
      have fp_ : f ≠ p := fun z => by
        have := E11 _ _ hp8 p1 p2
        rw [← z, nf] at this
        cases this
      generalize upd H11 f (.lst (cutV ts none (some 2))) = H12 at e12 hf12 S12 E12
      have okc : ∀ v ∈ cutV ts none (some 2), ∃ o, v = .str o ∧ o ≠ area ∧ (o ∈ ns ∨ o = "out") := fun v hv => by
        have m1 : v ∈ ts := List.mem_of_mem_drop (List.mem_of_mem_take hv)
        obtain ⟨o, ho, rfl⟩ := List.mem_map.mp (pm1.mem_iff.mp m1)
        exact ⟨o, rfl, (ok10 o ho).1, (ok10 o ho).2.1⟩
      have lcv : (cutV ts none (some 2)).length ≤ 2 := by
        unfold cutV
        rw [List.length_take, List.length_drop, HT.sIx_none, show (2 : Int) = ((2 : Nat) : Int) from rfl, HT.sIx_nat]
        omega
      generalize cutV ts none (some 2) = cs at hf12 okc lcv
      have z0 : lost ds area = 0 := lost_none lk8.from_ (fun z => by
        obtain ⟨j, hj⟩ := List.mem_iff_getElem?.mp z
        have lj : j < i := by
          have := (List.getElem?_eq_some_iff.mp hj).1
          rw [List.length_take] at this
          omega
        rw [List.getElem?_take_of_lt lj] at hj
        have := idx_nd ndn ga
        have := idx_nd ndn hj
        omega) fun d hd => by
          obtain ⟨a, b2, s2, n2, rfl, _⟩ := leak_shape (lk8.all d hd)
          exact ⟨a, b2, s2, n2, rfl⟩
      refine for_list (xs := cs) (fun k σ' H' => Sta H' sd sg sc (b + 9 * (3 - (i + 1)) + 2 * (2 - k)) ∧ H' rl = some (.lst (sv ns)) ∧ H' f = some (.lst cs) ∧ ExS sd sg H H' ∧ (∃ us ds left, H' p = some (.lst us) ∧ Reps H' us ds ∧ LkS ns m (ns.take (i + 1)) (2 * i + k) ds ∧ left + lost ds area = m ∧ ∃ z7 z8 z9 z10, σ' = [some (.ref sd), some (.ref rl), some (.int m), some (.ref p), some (.int (i : Nat)), some (.str area), some (.int left), z7, z8, z9, z10, none, none]))
        ⟨S12.less (by omega), E12 _ _ rl8 rl1 rl2, hf12, X8.trans E12, us, ds, m, E12 _ _ hp8 p1 p2, rs8.monoT (S8.tp E12) _ _ lk8.imm, lk8.more (fun x hx => by rw [List.take_add_one]; exact List.mem_append_left _ hx) (by omega), by omega, _, _, _, _, rfl⟩ (fun k σ' H' _ h => .of h.2.2.1) (fun k x σ' H13 hx ⟨S13, rl13, hf13, X13, us13, ds13, left, hp13, rs13, lk13, lf, y7, y8, y9, y10, es⟩ => ?_) (fun σ' H13 ⟨S13, rl13, hf13, X13, us13, ds13, left, hp13, rs13, lk13, lf, y7, y8, y9, y10, es⟩ => ⟨S13.less (by omega), rl13, X13, ⟨us13, ds13, hp13, rs13, lk13.more (fun x h => h) (by omega)⟩, _, _, _, _, _, _, _, es⟩)
      subst es
      have kl : k < 2 := by
        have := (List.getElem?_eq_some_iff.mp hx).1
        omega
      obtain ⟨o, rfl, oa, on⟩ := okc x (List.mem_of_getElem? hx)
      refine s_twoQ (σ := [some (.ref sd), some (.ref rl), some (.int m), some (.ref p), some (.int (i : Nat)), some (.str area), some (.int left), y7, some (.str o), y9, y10, none, none]) ?_
      refine ⟨.ref sd, rfl, .int m, rfl, sd, sg, sc, b + 9 * (3 - (i + 1)) + 2 * (2 - k) - 1, m, rfl, by omega, by omega, S13.less (by omega), fun z H14 z0 zl S14 X14 => ⟨1, z, rfl, rfl, ?_⟩⟩
      refine ⟨.ref sd, rfl, by show 4 ≤ sizeLine; rw [sizeLine_eq]; decide, fun l4 nl4 => ?_⟩
      have e15 := Ex.new (o := .lst [V.non, .non, .str "d", .str "e"]) nl4
      obtain ⟨m4, g4, _⟩ := S14.off nl4
      refine ⟨sd, sg, sc, b + 9 * (3 - (i + 1)) + 2 * (2 - k) - 2, l4, [.non, .non, .str "d", .str "e"], rfl, upd_same, m4, g4, by show 0 < 4; decide, by show 4 ≤ 1000; decide, (S14.up e15).less (by omega), fun j x H16 hx4 S16 X16 => ⟨by show 2 ≤ sizeLine; rw [sizeLine_eq]; decide, fun tt ot ntt hot => ⟨tt, _, rfl, .inl (.inr ⟨ot, upd_same⟩), rfl, _, _, rfl, _, _, rfl, rfl, ?_⟩⟩⟩
      obtain ⟨dd, rx, hdn⟩ : ∃ dd, (∀ H, Rep H x dd) ∧ (dd = .non ∨ ∃ y, dd = .str y ∧ nmS y = true) := by
        have := List.mem_of_getElem? hx4
        simp only [List.mem_cons, List.not_mem_nil, or_false] at this
        rcases this with rfl | rfl | rfl | rfl
        · exact ⟨.non, fun H => .non, .inl rfl⟩
        · exact ⟨.non, fun H => .non, .inl rfl⟩
        · exact ⟨.str "d", fun H => .str _, .inr ⟨_, rfl, by decide +kernel⟩⟩
        · exact ⟨.str "e", fun H => .str _, .inr ⟨_, rfl, by decide +kernel⟩⟩
      have X17 : ExS sd sg H13 (upd H16 tt (.frz ot (.tup [V.int (1 + z), x]))) := (X14.trans (.of e15)).trans (X16.trans (.of (Ex.new ntt)))
      have S17 := S16.up (Ex.new (o := .frz ot (.tup [V.int (1 + z), x])) ntt)
      have hp17 := X17 _ _ hp13 p1 p2
      have rs17 := rs13.monoT (S13.tp X17) _ _ lk13.imm
      have rl17 := X17 _ _ rl13 rl1 rl2
      have hf17 := X17 _ _ hf13 f1 f2
      have X017 := X13.trans X17
      show tIfS _ _ _ _ [some (.ref sd), some (.ref rl), some (.int m), some (.ref p), some (.int (i : Nat)), some (.str area), some (.int left), y7, some (.str o), some (.int (1 + z)), some (x), none, none] _
      generalize upd H16 tt (.frz ot (.tup [V.int (1 + z), x])) = H17 at X17 S17 hp17 rs17 rl17 hf17 X017
      clear X17
      have big : ∀ d2 ∈ ds13, ∃ a2 b2 s2 n2, d2 = .tup [.str a2, .str b2, .int s2, n2] ∧ (n2 = .non ∨ ∃ x, n2 = .str x ∧ nmS x = true) := fun d2 hd2 => by
        obtain ⟨a2, b2, s2, n2, e2, _, _, _, _, _, hn2⟩ := leak_shape (lk13.all d2 hd2)
        exact ⟨a2, b2, s2, n2, e2, hn2⟩
      have few := lk13.few
      refine s_if (σ := [some (.ref sd), some (.ref rl), some (.int m), some (.ref p), some (.int (i : Nat)), some (.str area), some (.int left), y7, some (.str o), some (.int (1 + z)), some (x), none, none]) (b := decide (1 + z ≤ left) && ds13.all fun d => !decide (d.trip = (area, o, dd.oTxt))) (et_and (et_test (ev_op (ev_var (i := 9) rfl) (ev_var (i := 6) rfl) rv_I0)) fun _ => et_test (ev_is (ev_eqNilI (S := S0) (lcI (ds := ds13) (fun d => !!decide (d.trip = (area, o, dd.oTxt))) (fun _ => 1) in0 (its_list (es_of (ev_var (i := 3) rfl) (.lst (hidP_at hp17 fun z => z) (rs17.up hid0)))) (by omega) fun S' y d2 H18 hd2 in18 e18 x18 ry => ?_)) (by rw [none_off]))) (fun hb H18 e18 => ?_) (fun hb H18 e18 => ?_)
      · obtain ⟨a2, b2, s2, n2, rfl, hn2⟩ := big d2 hd2
        obtain ⟨c, v0, v1, v2, v3, rfl, hc, r0, r1, r2, r3⟩ := ry.t4
        obtain rfl := r0.strD
        obtain rfl := r1.strD
        have hc := hc.up hidP_sub
        have sc3 : scal v3 x = true ∧ decide (v3 = x) = decide (n2.oTxt = dd.oTxt) := by
          have rx0 := rx H18
          rcases hn2 with rfl | ⟨w2, rfl, _⟩ <;> rcases hdn with rfl | ⟨w3, rfl, _⟩
          · cases r3
            cases rx0
            exact ⟨rfl, rfl⟩
          · cases r3
            cases rx0
            exact ⟨rfl, rfl⟩
          · cases r3
            cases rx0
            exact ⟨rfl, rfl⟩
          · cases r3
            cases rx0
            exact ⟨rfl, decide_eq_decide.mpr ⟨fun h => by cases h; rfl, fun h => by cases h; rfl⟩⟩
        refine ⟨[some (.ref sd), some (.ref rl), some (.int m), some (.ref p), some (.int (i : Nat)), some (.str area), some (.int left), y7, some (.str o), some (.int (1 + z)), some (x), none, some (.ref c)], fun Q h => h, rfl, et_is (et_and (et_test (ev_op (ev_ixT (j := 0) (ev_var (i := 12) rfl) hc rfl) (ev_var (i := 5) rfl) (rv_eq rfl))) fun _ => et_and (et_test (ev_op (ev_ixT (j := 1) (ev_var (i := 12) rfl) hc rfl) (ev_var (i := 8) rfl) (rv_eq rfl))) fun _ => et_test (ev_op (ev_ixT (j := 3) (ev_var (i := 12) rfl) hc rfl) (ev_var (i := 10) rfl) (rv_eq sc3.1))) ?_, fun _ => ev_c⟩
        rw [sc3.2, Bool.not_not]
        show _ = decide ((a2, b2, n2.oTxt) = (area, o, dd.oTxt))
        rw [Bool.eq_iff_iff]
        simp only [Bool.and_eq_true, decide_eq_true_eq, Prod.mk.injEq, V.str.injEq]
      · obtain ⟨hb1, hb2⟩ := (Bool.and_eq_true _ _).mp hb
        have hb1 := of_decide_eq_true hb1
        have dnm : (isN dd || dd.nm) = true := by
          rcases hdn with rfl | ⟨y, rfl, hy⟩
          · rfl
          · show (false || nmS y) = true
            rw [hy]
            rfl
        have lk : D.leak ns m (.tup [.str area, .str o, .int (1 + z), dd]) = true := by
          rw [leak_4, dnm, show amD (.str area) ns = true from amg_iff.mpr ma, show isBetw (.int (1 + z)) 1 m = true from by
            show (decide (1 ≤ 1 + z) && decide (1 + z ≤ m)) = true
            rw [decide_eq_true (by omega), decide_eq_true (by omega)]
            rfl, show decide ((D.str area).txt = (D.str o).txt) = false from decide_eq_false fun h => oa h.symm]
          have : (amD (.str o) ns || (D.str o).isS "out") = true := by
            rcases on with h | h
            · rw [show amD (.str o) ns = true from amg_iff.mpr h, Bool.true_or]
            · rw [h, show (D.str "out").isS "out" = true from beq_self_eq_true _, Bool.or_true]
          rw [this]
          rfl
        have new : D.trip (.tup [.str area, .str o, .int (1 + z), dd]) ∉ ds13.map D.trip := fun h => by
          obtain ⟨d2, hd2, e2⟩ := List.mem_map.mp h
          have := List.all_eq_true.mp hb2 d2 hd2
          rw [e2, decide_eq_true (show D.trip (.tup [.str area, .str o, .int (1 + z), dd]) = (area, o, dd.oTxt) from rfl)] at this
          cases this
        have lu : us13.length = ds13.length := rs13.length
        refine s_appS (S := S0) (σ := [some (.ref sd), some (.ref rl), some (.int m), some (.ref p), some (.int (i : Nat)), some (.str area), some (.int left), y7, some (.str o), some (.int (1 + z)), some (x), none, none]) (d := .tup [.str area, .str o, .int (1 + z), dd]) (e18 _ _ hp17) (ev_var (i := 3) rfl) (es_tup in0 (eas_cons (es_of (ev_var (i := 5) rfl) (.str _)) (eas_cons (es_of (ev_var (i := 8) rfl) (.str _)) (eas_cons (es_of (ev_var (i := 9) rfl) (.int _)) (eas_cons (es_of (ev_var (i := 10) rfl) (rx _)) eas_nil)))) (by simp)) (by omega) fun vt H19 e19 rt => ?_
        have e1719 := e18.trans e19
        have ne : H19 p = some (.lst us13) := e1719 _ _ hp17
        have tp20 : Tp H19 (upd H19 p (.lst (us13 ++ [vt]))) := fun a o2 xs h => (upd_ne fun z => by rw [z, ne] at h; cases h).trans h
        have S20 := (S17.up e1719).upd (o := .lst (us13 ++ [vt])) p1 p2 p3
        have X20 : ExS sd sg H (upd H19 p (.lst (us13 ++ [vt]))) := fun a o2 h n1 n2 => (upd_ne fun z => by rw [z, np] at h; cases h).trans ((X017.trans (.of e1719)) a o2 h n1 n2)
        have lk20 := lk13.put lk new (show area ∈ ns.take (i + 1) from by rw [List.take_add_one, ga]; simp) (by omega)
        have rs20 : Reps (upd H19 p (.lst (us13 ++ [vt]))) (us13 ++ [vt]) (ds13 ++ [.tup [.str area, .str o, .int (1 + z), dd]]) := ((rs17.up e1719).append (.cons (rt.up hidP_sub) .nil)).monoT tp20 _ _ lk20.imm
        have hp20 : upd H19 p (.lst (us13 ++ [vt])) p = some (.lst (us13 ++ [vt])) := upd_same
        have rl20 : upd H19 p (.lst (us13 ++ [vt])) rl = some (.lst (sv ns)) := (upd_ne rlp).trans (e1719 _ _ rl17)
        have hf20 : upd H19 p (.lst (us13 ++ [vt])) f = some (.lst cs) := (upd_ne fp_).trans (e1719 _ _ hf17)
        generalize upd H19 p (.lst (us13 ++ [vt])) = H20 at tp20 S20 X20 rs20 hp20 rl20 hf20
        refine s_asg (σ := [some (.ref sd), some (.ref rl), some (.int m), some (.ref p), some (.int (i : Nat)), some (.str area), some (.int left), y7, some (.str o), some (.int (1 + z)), some (x), none, none]) (v := .int (left - (1 + z))) (ev_op (ev_var (i := 6) rfl) (ev_var (i := 9) rfl) rv_I0) fun H21 e21 => ⟨(S20.up e21).less (by omega), e21 _ _ rl20, e21 _ _ hf20, X20.trans (.of e21), us13 ++ [vt], ds13 ++ [.tup [.str area, .str o, .int (1 + z), dd]], left - (1 + z), e21 _ _ hp20, rs20.up e21, lk20.more (fun x h => h) (by omega), ?_, _, _, _, _, rfl⟩
        rw [lost_app, show isFrom area (.tup [.str area, .str o, .int (1 + z), dd]) = true from decide_eq_true rfl, if_pos rfl]
        show left - (1 + z) + (lost ds13 area + (1 + z)) = m
        omega
      · exact ⟨(S17.up e18).less (by omega), e18 _ _ rl17, e18 _ _ hf17, X017.trans (.of e18), us13, ds13, left, e18 _ _ hp17, rs17.up e18, lk13.more (fun x h => h) (by omega), lf, _, _, _, _, rfl⟩
    · subst es
      have l6 := lk8.more (n2 := 6) (sn2 := ns.take (sv ns).length) (fun x h => h) (by have : (sv ns).length = ns.length := List.length_map _; omega)
      have ls : (sv ns).length = ns.length := List.length_map _
      refine s_retW ⟨.ref p, rfl, p, us, rfl, .of hp8, fun tp o ntp ho => q (.ref tp) (.tup ds) _ (.tup ⟨o, ho, upd_same⟩ (rs8.up (Ex.new ntp))) (LkS.leaks l6) ((S8.less (by omega)).up (Ex.new ntp)) (X8.trans (.of (Ex.new ntp)))⟩
end
end Kx

set_option Elab.async false
set_option linter.all false
set_option maxRecDepth 100000
set_option maxHeartbeats 400000
namespace Kx
open PySem PySem.Spec PyProof.Rows L2 Evl
/-! ## an even gain -/
def spEG : Sp := fun vs H Q _ => ∃ (sd sg sc : Addr) (b : Nat) (v : V) (da : D), vs = [.ref sd, v] ∧ Rep H v da ∧ da.air = true ∧ Sta H sd sg sc (b + 4) ∧
  ∀ z n g H', Rep H' z (.tup [.str n, .int g]) → n ∈ nmsD (da.nth 1).rows → -60 ≤ g → g ≤ 60 → g ≠ 0 → Sta H' sd sg sc b → ExS sd sg H H' → Q z H'
theorem ev_max2 {K : PySem.W.Frag} {σ : L2.St} {H : Hp} {ta tb : TE} {i j : Int} (ha : Ev ta σ H (.int i)) (hb : Ev tb σ H (.int j)) : Ev (tCB (fun xs H Q => ∃ i j, xs = [.int i, .int j] ∧ Q (.int (if j > i then j else i)) H) (tCons ta (tCons tb tNil))) σ H (.int (if j > i then j else i)) := ev_cb (ea_cons ha (ea_cons hb ea_nil)) fun H1 e Q q => ⟨i, j, rfl, q H1 (Ex.refl _)⟩
theorem ev_min2 {K : PySem.W.Frag} {σ : L2.St} {H : Hp} {ta tb : TE} {i j : Int} (ha : Ev ta σ H (.int i)) (hb : Ev tb σ H (.int j)) : Ev (tCB (fun xs H Q => ∃ i j, xs = [.int i, .int j] ∧ Q (.int (if j < i then j else i)) H) (tCons ta (tCons tb tNil))) σ H (.int (if j < i then j else i)) := ev_cb (ea_cons ha (ea_cons hb ea_nil)) fun H1 e Q q => ⟨i, j, rfl, q H1 (Ex.refl _)⟩
theorem room_imm {d : D} (h : d.room = true) : d.imm = true := by
  obtain ⟨n, a, b, c, rfl, _⟩ := room_shape h
  refine imm_t fun z hz => ?_
  simp only [List.mem_cons, List.not_mem_nil, or_false] at hz
  rcases hz with rfl | rfl | rfl | rfl <;> (unfold D.imm; rfl)
section
variable {P : Program} {w : World} {K : PySem.W.Frag} {mg : Str → Option Value} {base : Heap} (T : Txt K mg)
theorem ok_egain : FnOk P w K mg base CX0 4 T.a_law_even_gain T.d_law_even_gain ["state", "air"] spEG := by
  refine T.F_law_even_gain.ok sc_law_even_gain (fun vs H Q E h => ?_) (fun cdv A outer s H vs Q E hr h => ?_)
  · obtain ⟨sd, sg, sc, b, v, da, rfl, _⟩ := h
    rfl
  · obtain ⟨sd, sg, sc, b, v, da, rfl, hv, hair, hS, q⟩ := h
    have nd := sc_law_even_gain.nd
    refine ⟨_, (pss_cons (ps_set (i := 2) nd rfl (.inl rfl) (pe_call (ok_pickL T) (hr.mono (by decide)) (by rfl) T.g_law_pick T.F_law_pick.kp (b_law_pick T) .nil pass0 (pa_cons (pv 0) (pa_cons (pe_callTy call_list_of (by rfl) T.z_list bo_list (pa_cons (pe_ix (r := rIxT K) ix_tup (pv 1) pe_int (fun _ _ => rfl)) pa_nil)) pa_nil))))
      (pss_cons (ps_par (i := 3) (j := 4) rfl nd rfl rfl (by decide) rfl rfl (pa_cons pe_int (pa_cons (pe_op op_fdiv (pe_op op_add (pe_ix (r := rIxT K) ix_tup (pe_ix (r := rIxT K) ix_tup (pv 1) pe_int (fun _ _ => rfl)) pe_int (fun _ _ => rfl)) (pe_ix (r := rIxT K) ix_tup (pe_ix (r := rIxT K) ix_tup (pv 1) pe_int (fun _ _ => rfl)) pe_int (fun _ _ => rfl))) pe_int) pa_nil)) (by rfl))
      (pss_cons (ps_for PassesOwn.never rfl (pi_tup (pe_ix (r := rIxT K) ix_tup (pv 1) pe_int (fun _ _ => rfl))) (pg_tup rfl (pgs_cons (pg_name (i := 5) nd rfl (.inl rfl)) (pgs_cons (pg_name (i := 6) nd rfl (.inl rfl)) (pgs_cons (pg_name (i := 7) nd rfl (.inl rfl)) (pgs_cons (pg_name (i := 8) nd rfl (.inl rfl)) pgs_nil))))) (pss_one (ps_if (PW.pt (pw_and (pt_cmpR op_eq (pv 5) (pe_ix (r := rIxT K) ix_tup (pv 2) pe_int (fun _ _ => rfl)) (nomark _)) (pw_and1 (pt_cmpR op_eq (pv 6) pe_str (nomark _))))) (pss_one (ps_set (i := 3) nd rfl (.inl rfl) (pe_op op_add (pv 3) (pe_op op_mul (pv 7) (pe_op op_sub (pe_op op_fdiv (pe_op op_add (pe_ix (r := rIxT K) ix_tup (pv 2) pe_int (fun _ _ => rfl)) (pe_ix (r := rIxT K) ix_tup (pv 2) pe_int (fun _ _ => rfl))) pe_int) (pv 4)))))) pss_nil)))
      (pss_cons (ps_set (i := 9) nd rfl (.inl rfl) (pe_op op_sub (pe_op op_add (pv 3) (pe_call (ok_draw T) (hr.mono (by decide)) (by rfl) T.g_law_draw T.F_law_draw.kp (b_law_draw T) .nil pass0 (pa_cons (pv 0) (pa_cons (pe_op op_add (pe_op op_mul pe_int (pe_ix (r := rIxT K) ix_tup (pv 1) pe_int (fun _ _ => rfl))) pe_int) pa_nil)))) (pe_ix (r := rIxT K) ix_tup (pv 1) pe_int (fun _ _ => rfl))))
      (pss_cons (ps_if (pt_cmpR op_eq (pe_call (ok_draw T) (hr.mono (by decide)) (by rfl) T.g_law_draw T.F_law_draw.kp (b_law_draw T) .nil pass0 (pa_cons (pv 0) (pa_cons pe_int pa_nil))) pe_int (nomark _)) (pss_one (ps_set (i := 9) nd rfl (.inl rfl) (pe_op op_sub (pe_call (ok_draw T) (hr.mono (by decide)) (by rfl) T.g_law_draw T.F_law_draw.kp (b_law_draw T) .nil pass0 (pa_cons (pv 0) (pa_cons pe_int pa_nil))) pe_int))) pss_nil)
      (pss_cons (ps_set (i := 9) nd rfl (.inl rfl) (pe_callB (call_max2 (by rfl)) (by rfl) T.z_max bo_max (pa_cons (pe_un un_neg pe_int) (pa_cons (pe_callB (call_min2 (by rfl)) (by rfl) T.z_min bo_min (pa_cons pe_int (pa_cons (pv 9) pa_nil))) pa_nil))))
      (pss_one (ps_ret (pe_tupF (pa_cons (pe_ix (r := rIxT K) ix_tup (pv 2) pe_int (fun _ _ => rfl)) (pa_cons (pe_ifExp (pt_cmpR op_ne (pv 9) pe_int (nomark _)) (pv 9) pe_int) pa_nil))))))))))), ?_⟩
    have him := air_imm hair
    obtain ⟨rs, ls, hs, m, lo, hi, f, mv, Ai⟩ := air_is hair
    rw [show (da.nth 1).rows = rs from by rw [Ai.eq]; rfl] at q
    rw [Ai.eq] at hv him
    have hv0 := hv
    obtain ⟨a, v0, v1, v2, v3, v4, v5, rfl, ha, r0, r1, r2, r3, r4, r5⟩ := hv.t6
    obtain rfl := r2.intD
    have i1 : (D.tup rs).imm = true := imm_t fun d hd => room_imm (Ai.ra d hd)
    have m1 := Ai.m1
    have m2 := Ai.m2
    have l3 := Ai.r3
    have l1 := Ai.r1
    refine s_lstA (g := gName 2) ?_
    refine ⟨.ref sd, rfl, ?_⟩
    refine es_listSq (S := stS sd sg) (σ := [some (.ref sd), some (.ref a), none, none, none, none, none, none, none, none]) hS.inS (ev_ixT (j := 1) (ev_var (i := 1) rfl) ha rfl) (.inl rfl) (hS.rep r1 i1) H (Ex.refl _) _ fun u H1 e1 ru => pickS (b := b + 3) (hS.ofS.up e1) (hS.up e1) ru (by omega) (by omega) fun x d H2 hd rx S2 X2 => ?_
    have X02 : ExS sd sg H H2 := (ExS.of e1).trans X2
    obtain ⟨n, rlo, rhi, rf, rfl, hn, no, b1, b2, b3, b4, b5⟩ := room_shape (Ai.ra d hd)
    have hmem : n ∈ nmsD rs := List.mem_map.mpr ⟨_, hd, rfl⟩
    obtain ⟨c, y0, y1, y2, y3, rfl, hc, g0, g1, g2, g3⟩ := (rx.up hidP_sub).t4
    obtain rfl := g0.strD
    obtain rfl := g1.intD
    obtain rfl := g2.intD
    obtain rfl := g3.intD
    have hv2 := hv0.monoT (hS.tp X02) _ _ him
    obtain ⟨a', v0', v1', v2', v3', v4', v5', ea, ha2, r0', r1', r2', r3', r4', r5'⟩ := hv2.t6
    cases ea
    obtain rfl := r2'.intD
    obtain ⟨a5, w0, w1, w2, w3, rfl, h5, k0, k1, k2, k3⟩ := r5'.t4
    obtain rfl := k0.intD
    obtain rfl := k1.intD
    show tSeq _ _ _ [some (.ref sd), some (.ref a), some (.ref c), none, none, none, none, none, none, none] H2
    refine s_par2 (σ := [some (.ref sd), some (.ref a), some (.ref c), none, none, none, none, none, none, none]) (x := .int 0) (y := .int ((lo + hi) / 2)) (ea_cons ev_c (ea_cons (ev_op (ev_op (ev_ixT (j := 0) (ev_ixT (j := 5) (ev_var (i := 1) rfl) ha2 rfl) h5 rfl) (ev_ixT (j := 1) (ev_ixT (j := 5) (ev_var (i := 1) rfl) ha2 rfl) h5 rfl) rv_I0) ev_c (rv_I ⟨by decide, by decide⟩)) ea_nil)) fun H3 e3 => ?_
    have shp := fun d hd => leak_shape (Ai.la d hd)
    refine q_forS (S := S0) (ds := ls) (σ := [some (.ref sd), some (.ref a), some (.ref c), some (.int 0), some (.int ((lo + hi) / 2)), none, none, none, none, none]) (its_tup (es_of (ev_ixT (j := 3) (ev_var (i := 1) rfl) (ha2.up e3) rfl) ((r3'.up e3).up hid0))) (fun H5 i σ' H' => Ex H5 H' ∧ ∃ loss z5 z6 z7 z8, σ' = [some (.ref sd), some (.ref a), some (.ref c), some (.int loss), some (.int ((lo + hi) / 2)), z5, z6, z7, z8, none])
      (fun H5 e5 => ⟨Ex.refl _, _, _, _, _, _, rfl⟩) (fun H5 i σ' H' e5 h => hidP_ex h.1) (fun H5 i d x σ' H' e5 hd2 ⟨x5, loss, z5, z6, z7, z8, es⟩ rx2 => ?_) (fun H5 σ' H' e5 ⟨x5, loss, z5, z6, z7, z8, es⟩ => ?_)
    · subst es
      obtain ⟨la, lb, lsh, ln, rfl, _, _, _, ls1, ls2, _⟩ := shp d (List.mem_of_getElem? hd2)
      obtain ⟨cc, t0, t1, t2, t3, rfl, hcc, j0, j1, j2, j3⟩ := rx2.t4
      obtain rfl := j0.strD
      obtain rfl := j1.strD
      obtain rfl := j2.intD
      refine ⟨cc, _, rfl, (hcc.up hidP_sub).sq, rfl, _, _, rfl, _, _, rfl, _, _, rfl, _, _, rfl, rfl, ?_⟩
      have E5 := (e3.trans e5).trans x5
      have hc5 := hc.up E5
      refine s_if (σ := [some (.ref sd), some (.ref a), some (.ref c), some (.int loss), some (.int ((lo + hi) / 2)), some (.str la), some (.str lb), some (.int lsh), some (t3), none]) (b := decide (V.str la = V.str n) && decide (V.str lb = V.str "out")) (et_and (et_test (ev_op (ev_var (i := 5) rfl) (ev_ixT (j := 0) (ev_var (i := 2) rfl) hc5 rfl) (rv_eq rfl))) fun _ => et_test (ev_op (ev_var (i := 6) rfl) ev_c (rv_eq rfl))) (fun hb H6 e6 => ?_) (fun hb H6 e6 => ⟨x5.trans e6, _, _, _, _, _, rfl⟩)
      refine s_asg (σ := [some (.ref sd), some (.ref a), some (.ref c), some (.int loss), some (.int ((lo + hi) / 2)), some (.str la), some (.str lb), some (.int lsh), some (t3), none]) (v := .int (loss + lsh * ((rlo + rhi) / 2 - (lo + hi) / 2))) (ev_op (ev_var (i := 3) rfl) (ev_op (ev_var (i := 7) rfl) (ev_op (ev_op (ev_op (ev_ixT (j := 1) (ev_var (i := 2) rfl) (hc5.up e6) rfl) (ev_ixT (j := 2) (ev_var (i := 2) rfl) (hc5.up e6) rfl) rv_I0) ev_c (rv_I ⟨by decide, by decide⟩)) (ev_var (i := 4) rfl) rv_I0) (rv_I (.inl ⟨by omega, by omega⟩))) rv_I0) fun H7 e7 => ⟨(x5.trans e6).trans e7, _, _, _, _, _, rfl⟩
    · subst es
      have E5 := (e3.trans e5).trans x5
      have ha5 := ha2.up E5
      have S5 := S2.up E5
      refine s_lstA (g := gName 9) ?_
      refine ⟨.int loss, rfl, .ref sd, rfl, ?_⟩
      refine (ev_op (σ := [some (.ref sd), some (.ref a), some (.ref c), some (.int loss), some (.int ((lo + hi) / 2)), z5, z6, z7, z8, none]) (z := .int (2 * m + 1)) (ev_op ev_c (ev_ixT (j := 2) (ev_var (i := 1) rfl) ha5 rfl) (rv_I (.inl ⟨by decide, by decide⟩))) ev_c rv_I0) H' (Ex.refl _) _ fun H6 e6 => ⟨sd, sg, sc, b + 2, 2 * m + 1, rfl, by omega, by omega, S5.up e6, fun z H7 z0 zl S7 X7 => ⟨loss, z, rfl, rfl, ?_⟩⟩
      have X7' : ExS sd sg H H7 := (X02.trans (.of (E5.trans e6))).trans X7
      have tp7 : Tp H2 H7 := S2.tp ((ExS.of (E5.trans e6)).trans X7)
      have ha7 := ha2.tp tp7
      have hc7 := hc.tp tp7
      refine ev_ixT (j := 2) (σ := [some (.ref sd), some (.ref a), some (.ref c), some (.int loss), some (.int ((lo + hi) / 2)), z5, z6, z7, z8, none]) (ev_var (i := 1) rfl) ha7 rfl H7 (Ex.refl _) _ fun H8 e8 => ⟨loss + z, m, rfl, rfl, ?_⟩
      have S8 := S7.up e8
      have X8 := X7'.trans (.of e8)
      have hc8 := hc7.up e8
      have fin : ∀ (G : Int) (H9 : Hp), Sta H9 sd sg sc b → ExS sd sg H H9 → TupS H9 c [.str n, .int rlo, .int rhi, .int rf] → tSeq (tAsg (tCB (fun xs H Q => ∃ i j, xs = [.int i, .int j] ∧ Q (.int (if j > i then j else i)) H) (tCons (tUn (rU fun i => .int (-i)) (tC (.int 60))) (tCons (tCB (fun xs H Q => ∃ i j, xs = [.int i, .int j] ∧ Q (.int (if j < i then j else i)) H) (tCons (tC (.int 60)) (tCons (tVar 9) tNil))) tNil))) (gName 9)) (tRet (tTupF (tCons (tOp (rIxT K) (tVar 2) (tC (.int 0))) (tCons (tIf (tTest (tOp rNe (tVar 9) (tC (.int 0)))) (tVar 9) (tC (.int 7))) tNil)))) { nx := fun x H' => Q .non H', rt := Q } [some (.ref sd), some (.ref a), some (.ref c), some (.int loss), some (.int ((lo + hi) / 2)), z5, z6, z7, z8, some (.int G)] H9 := fun G H9 S9 X9 hc9 => by
        refine s_asgX (v := .int (if (if G < 60 then G else 60) > -60 then (if G < 60 then G else 60) else -60)) (ev_max2 (K := K) (ev_un ev_c ru_neg) (ev_min2 (K := K) ev_c (ev_var (i := 9) rfl))) fun H10 e10 => ?_
        obtain ⟨G2, hG, g1, g2⟩ : ∃ G2, (if (if G < 60 then G else 60) > -60 then (if G < 60 then G else 60) else -60) = G2 ∧ -60 ≤ G2 ∧ G2 ≤ 60 := ⟨_, rfl, by split <;> split at * <;> omega, by split <;> split <;> omega⟩
        rw [hG]
        refine s_retW ?_
        refine es_tup (S := S0) (σ := [some (.ref sd), some (.ref a), some (.ref c), some (.int loss), some (.int ((lo + hi) / 2)), z5, z6, z7, z8, some (.int G2)]) (ds := [.str n, .int (if G2 ≠ 0 then G2 else 7)]) in0 (eas_cons (es_of (ev_ixT (j := 0) (ev_var (i := 2) rfl) (hc9.up e10) rfl) (.str n)) (eas_cons (es_of (ev_if (b := !decide (V.int G2 = V.int 0)) (et_test (ev_op (ev_var (i := 9) rfl) ev_c (rv_ne rfl))) (fun hb => ?_) fun hb => ?_) (.int _)) eas_nil)) (by simp) H10 (Ex.refl _) _ fun z2 H11 e11 r11 => q z2 n _ H11 (r11.up hidP_sub) hmem (by split <;> omega) (by split <;> omega) (by split <;> omega) (S9.up (e10.trans e11)) (X9.trans (.of (e10.trans e11)))
        · have : G2 ≠ 0 := fun z => by rw [z, decide_eq_true rfl] at hb; cases hb
          rw [if_pos this]
          exact ev_var rfl
        · have : G2 = 0 := by
            have hb := not_f hb
            exact V.int.inj (of_decide_eq_true hb)
          rw [if_neg (fun z => z this)]
          exact ev_c
      show tSeq _ _ _ [some (.ref sd), some (.ref a), some (.ref c), some (.int loss), some (.int ((lo + hi) / 2)), z5, z6, z7, z8, some (.int (loss + z - m))] H8
      refine ⟨.ref sd, rfl, sd, sg, sc, b + 1, 3, rfl, by decide, by decide, S8, fun z3 H9 _ _ S9 X9 => ⟨rfl, _, rfl, ?_⟩⟩
      refine ite2 (fun _ => ?_) (fun _ => ?_)
      · refine ⟨.ref sd, rfl, sd, sg, sc, b, 121, rfl, by decide, by decide, S9, fun z4 H10 _ _ S10 X10 => ⟨z4, 60, rfl, rfl, ?_⟩⟩
        exact fin (z4 - 60) H10 S10 ((X8.trans X9).trans X10) (hc8.tp (S8.tp (X9.trans X10)))
      · exact fin (loss + z - m) H9 (S9.less (by omega)) (X8.trans X9) (hc8.tp (S8.tp X9))
end
end Kx

set_option Elab.async false
set_option linter.all false
set_option maxRecDepth 100000
set_option maxHeartbeats 400000
namespace Kx
open PySem PySem.Spec PyProof.Rows L2 Evl
/-! ## an air that is drawn -/
def spAir : Sp := fun vs H Q _ => ∃ (sd sg sc : Addr) (b : Nat), vs = [.ref sd, .int 3, .int 8] ∧ Sta H sd sg sc (b + 60) ∧ ∀ v d H', Rep H' v d → d.air = true → Sta H' sd sg sc b → ExS sd sg H H' → Q v H'
theorem reps_perm {H : Hp} {ts us : List V} (p : ts.Perm us) : ∀ {ds : List D}, Reps H us ds → ∃ es, es.Perm ds ∧ Reps H ts es := by
  induction p with
  | nil => exact fun r => ⟨_, .refl _, r⟩
  | cons x _ ih =>
    intro ds r
    cases r with
    | cons a t =>
      obtain ⟨es, pm, rs⟩ := ih t
      exact ⟨_, pm.cons _, .cons a rs⟩
  | swap x y l =>
    intro ds r
    cases r with
    | cons a t =>
      cases t with
      | cons b t => exact ⟨_, List.Perm.swap _ _ _, .cons b (.cons a t)⟩
  | trans _ _ h1 h2 =>
    intro ds r
    obtain ⟨es, pm, rs⟩ := h2 r
    obtain ⟨fs, pm2, rs2⟩ := h1 rs
    exact ⟨fs, pm2.trans pm, rs2⟩
theorem heats_imm {ns : List Str} {ds : List D} (h : ∀ d ∈ ds, d.heat ns = true) : imms ds = true := imms_iff.mpr fun d hd => by
  obtain ⟨n, a, g, rfl, _⟩ := heat_shape (h d hd)
  refine imm_t fun z hz => ?_
  simp only [List.mem_cons, List.not_mem_nil, or_false] at hz
  rcases hz with rfl | rfl | rfl <;> (unfold D.imm; rfl)
/-- a list of tuples that draws leave alone -/
structure KeepT (sd sg p : Addr) (us : List V) (rs : List D) (H : Hp) : Prop where
  at_ : H p = some (.lst us)
  rep : Reps H us rs
  n1 : p ≠ sd
  n2 : p ≠ sg
  im : imms rs = true
theorem KeepT.go {sd sg sc p : Addr} {us : List V} {rs : List D} {H H' : Hp} {b : Nat} (k : KeepT sd sg p us rs H) (s : Sta H sd sg sc b) (x : ExS sd sg H H') : KeepT sd sg p us rs H' := ⟨x _ _ k.at_ k.n1 k.n2, k.rep.monoT (s.tp x) _ _ k.im, k.n1, k.n2, k.im⟩
theorem KeepT.put {sd sg p : Addr} {us : List V} {rs : List D} {H : Hp} {v : V} {d : D} (k : KeepT sd sg p us rs H) (r : Rep H v d) (i : d.imm = true) : KeepT sd sg p (us ++ [v]) (rs ++ [d]) (upd H p (.lst (us ++ [v]))) := by
  have im : imms (rs ++ [d]) = true := imms_iff.mpr fun x hx => (List.mem_append.mp hx).elim (imms_iff.mp k.im x) fun e => by rw [List.mem_singleton.mp e]; exact i
  have tp : Tp H (upd H p (.lst (us ++ [v]))) := fun a o xs h => (upd_ne fun z => by rw [z, k.at_] at h; cases h).trans h
  exact ⟨upd_same, (k.rep.append (.cons r .nil)).monoT tp _ _ im, k.n1, k.n2, im⟩
theorem Sta.tpS {H : Hp} {sd sg sc : Addr} {b : Nat} (s : Sta H sd sg sc b) : Tp H (hidP (stS sd sg) H) := fun a o xs e => hidP_at e fun z => by
  obtain ⟨gs, cs, rr, t, w, _, _⟩ := s
  rcases z with rfl | rfl
  · rw [w.d] at e; cases e
  · rw [w.g] at e; cases e
theorem nx_of {f : L2.St → Hp → Prop} {g : VK} {b c : L2.St → Hp → Prop} {σ : L2.St} {H : Hp} (h : f σ H) : ({ nx := f, rt := g, bk := b, ct := c } : Ends).nx σ H := h
theorem bt40 {a b i : Int} (h1 : a ≤ i) (h2 : i ≤ b) : isBetw (.int i) a b = true := by
  show (decide (a ≤ i) && decide (i ≤ b)) = true
  rw [decide_eq_true h1, decide_eq_true h2]
  rfl
theorem isTup_ok {ds : List D} {a b : Int} (h1 : a ≤ (ds.length : Int)) (h2 : (ds.length : Int) ≤ b) : isTup (.tup ds) a b = true := by
  show (decide (a ≤ (ds.length : Int)) && decide ((ds.length : Int) ≤ b)) = true
  rw [decide_eq_true h1, decide_eq_true h2]
  rfl
theorem mk_air {rs hs : List D} {l : D} {m lo hi f mv : Int} (r1 : 1 ≤ rs.length) (r3 : rs.length ≤ 3) (ra : ∀ x ∈ rs, x.room = true) (rn : (nmsD rs).Nodup) (m1 : 1 ≤ m) (m2 : m ≤ 12) (lk : l.leaks (nmsD rs) m = true) (h3 : hs.length ≤ 3) (ha : ∀ x ∈ hs, x.heat (nmsD rs) = true) (hn : (nmsD hs).Nodup)
    (s1 : -40 ≤ lo) (s2 : lo ≤ f) (s3 : f ≤ hi) (s4 : hi ≤ lo + 8) (s5 : hi ≤ 40) (s6 : 0 ≤ mv) (s7 : mv ≤ 8) : D.air (.tup [.str "air", .tup rs, .int m, l, .tup hs, .tup [.int lo, .int hi, .int f, .int mv]]) = true := by
  rw [air_6, show (D.str "air").isS "air" = true from beq_self_eq_true _, rooms_tup, isTup_ok (by omega) (by omega), List.all_eq_true.mpr ra, show decide ((rs.map fun x => x.fst.txt).Nodup) = true from decide_eq_true rn, bt40 m1 m2, show (D.tup rs).fsts = nmsD rs from rfl, show (D.int m).num = m from rfl, lk, heats_tup, isTup_ok (by omega) (by omega), List.all_eq_true.mpr ha, show decide ((hs.map fun x => x.fst.txt).Nodup) = true from decide_eq_true hn, sky_4, List.all_cons, List.all_cons, List.all_cons, List.all_cons, List.all_nil, bt40 s1 (by omega), bt40 (by omega) s5, bt40 (by omega) (by omega), bt40 (by omega) (by omega)]
  show (true && (decide (lo ≤ f) && (decide (f ≤ hi) && decide (hi ≤ lo + 8)) && (decide (0 ≤ mv) && decide (mv ≤ 8)))) = true
  rw [decide_eq_true s2, decide_eq_true s3, decide_eq_true s4, decide_eq_true s6, decide_eq_true s7]
  rfl
theorem cut_sv (ts : List Str) (k : Nat) : cutV (sv ts) none (some (k : Int)) = sv (ts.take k) := by
  unfold cutV sv
  rw [HT.sIx_none, HT.sIx_nat, List.drop_zero, Nat.sub_zero, List.length_map, List.map_take]
  by_cases h : k ≤ ts.length
  · rw [Nat.min_eq_left h]
  · rw [Nat.min_eq_right (by omega), List.take_of_length_le (by rw [List.length_map]; omega), List.take_of_length_le (by rw [List.length_map]; omega)]
section
variable {P : Program} {w : World} {K : PySem.W.Frag} {mg : Str → Option Value} {base : Heap} (T : Txt K mg)
theorem ok_air_of : FnOk P w K mg base CX0 5 T.a_law_air T.d_law_air ["state", "most_rooms", "wide"] spAir := by
  refine T.F_law_air.ok sc_law_air (fun vs H Q E h => ?_) (fun cdv A outer s H vs Q E hr h => ?_)
  · obtain ⟨sd, sg, sc, b, rfl, _⟩ := h
    rfl
  · obtain ⟨sd, sg, sc, b, rfl, hS, q⟩ := h
    have nd := sc_law_air.nd
    refine ⟨_, (pss_cons (ps_par (i := 3) (j := 4) rfl nd rfl rfl (by decide) rfl rfl (pa_cons (pe_lst pa_nil) (pa_cons (pe_op op_sub (pe_call (ok_draw T) (hr.mono (by decide)) (by rfl) T.g_law_draw T.F_law_draw.kp (b_law_draw T) .nil pass0 (pa_cons (pv 0) (pa_cons pe_int pa_nil))) pe_int) pa_nil)) (by rfl))
      (pss_cons (ps_for PassesOwn.never rfl (pi_list (pe_slice sl_list (pe_lst (pa_cons pe_str (pa_cons pe_str (pa_cons pe_str pa_nil)))) po_none (po_some (pe_op op_add pe_int (pe_call (ok_draw T) (hr.mono (by decide)) (by rfl) T.g_law_draw T.F_law_draw.kp (b_law_draw T) .nil pass0 (pa_cons (pv 0) (pa_cons (pv 1) pa_nil))))))) (pg_name (i := 5) nd rfl (.inl rfl)) (pss_cons (ps_par (i := 6) (j := 7) rfl nd rfl rfl (by decide) rfl rfl (pa_cons (pe_op op_add (pv 4) (pe_call (ok_draw T) (hr.mono (by decide)) (by rfl) T.g_law_draw T.F_law_draw.kp (b_law_draw T) .nil pass0 (pa_cons (pv 0) (pa_cons pe_int pa_nil)))) (pa_cons (pe_call (ok_draw T) (hr.mono (by decide)) (by rfl) T.g_law_draw T.F_law_draw.kp (b_law_draw T) .nil pass0 (pa_cons (pv 0) (pa_cons (pe_op op_add (pv 2) pe_int) pa_nil))) pa_nil)) (by rfl))
      (pss_one (ps_expr (pe_bm PySem.F.plainAttrs_list PySem.F.slot_list_append PySem.F.type_list_append mt_append (pv 3) (pa_cons (pe_tupF (pa_cons (pv 5) (pa_cons (pv 6) (pa_cons (pe_op op_add (pv 6) (pv 7)) (pa_cons (pe_op op_add (pv 6) (pe_call (ok_draw T) (hr.mono (by decide)) (by rfl) T.g_law_draw T.F_law_draw.kp (b_law_draw T) .nil pass0 (pa_cons (pv 0) (pa_cons (pe_op op_add (pv 7) pe_int) pa_nil)))) pa_nil))))) pa_nil))))))
      (pss_cons (ps_par (i := 8) (j := 9) rfl nd rfl rfl (by decide) rfl rfl (pa_cons (pe_call (ok_pickL T) (hr.mono (by decide)) (by rfl) T.g_law_pick T.F_law_pick.kp (b_law_pick T) .nil pass0 (pa_cons (pv 0) (pa_cons (pe_lst (pa_cons pe_int (pa_cons pe_int (pa_cons pe_int (pa_cons pe_int (pa_cons pe_int (pa_cons pe_int (pa_cons pe_int (pa_cons pe_int pa_nil))))))))) pa_nil))) (pa_cons (pe_call (ok_draw T) (hr.mono (by decide)) (by rfl) T.g_law_draw T.F_law_draw.kp (b_law_draw T) .nil pass0 (pa_cons (pv 0) (pa_cons (pe_op op_add (pv 2) pe_int) pa_nil))) pa_nil)) (by rfl))
      (pss_cons (ps_set (i := 10) nd rfl (.inl rfl) (pe_callB (call_max2 (by rfl)) (by rfl) T.z_max bo_max (pa_cons (pe_un un_neg pe_int) (pa_cons (pe_callB (call_min2 (by rfl)) (by rfl) T.z_min bo_min (pa_cons (pe_op op_sub pe_int (pv 9)) (pa_cons (pe_op op_sub (pe_op op_add (pv 4) pe_int) (pe_call (ok_draw T) (hr.mono (by decide)) (by rfl) T.g_law_draw T.F_law_draw.kp (b_law_draw T) .nil pass0 (pa_cons (pv 0) (pa_cons pe_int pa_nil)))) pa_nil))) pa_nil))))
      (pss_cons (ps_set (i := 11) nd rfl (.inl rfl) (pe_tupF (pa_cons (pv 10) (pa_cons (pe_op op_add (pv 10) (pv 9)) (pa_cons (pe_op op_add (pv 10) (pe_call (ok_draw T) (hr.mono (by decide)) (by rfl) T.g_law_draw T.F_law_draw.kp (b_law_draw T) .nil pass0 (pa_cons (pv 0) (pa_cons (pe_op op_add (pv 9) pe_int) pa_nil)))) (pa_cons (pe_call (ok_pickL T) (hr.mono (by decide)) (by rfl) T.g_law_pick T.F_law_pick.kp (b_law_pick T) .nil pass0 (pa_cons (pv 0) (pa_cons (pe_lst (pa_cons pe_int (pa_cons pe_int (pa_cons pe_int (pa_cons pe_int (pa_cons pe_int (pa_cons pe_int pa_nil))))))) pa_nil))) pa_nil))))))
      (pss_cons (ps_set (i := 12) nd rfl (.inl rfl) (pe_tupF (pa_cons pe_str (pa_cons (pe_callTy call_tupF (by rfl) T.z_tuple bo_tuple (pa_cons (pv 3) pa_nil)) (pa_cons (pv 8) (pa_cons (pe_call (ok_leaks_of T) (hr.mono (by decide)) (by rfl) T.g_law_leaks T.F_law_leaks.kp (b_law_leaks T) .nil pass0 (pa_cons (pv 0) (pa_cons (pe_lc (own := [("row", 16)]) (g := gName 16) (tt := tYes) (by rfl) nd (pi_list (pv 3)) (blkOk_by (N := ["state", "most_rooms", "wide", "rooms", "middle", "name", "low", "many", "whole", "span", "least", "weather", "air", "heaters", "area", "gain", "row"]) (sc := defScope s_law_air) (by decide +kernel)) (fun _ _ _ _ _ => (pg_name (i := 16) nd rfl (.inl rfl))) (fun _ _ _ _ _ => pts_nil) (fun _ _ _ _ _ => (pe_ix (r := rIxT K) ix_tup (pv 16) pe_int (fun _ _ => rfl)))) (pa_cons (pv 8) pa_nil)))) (pa_cons (pe_tupF pa_nil) (pa_cons (pv 11) pa_nil))))))))
      (pss_cons (ps_set (i := 13) nd rfl (.inl rfl) (pe_lst pa_nil))
      (pss_cons (ps_for PassesOwn.never rfl (pi_list (pe_slice sl_list (pe_lst (pa_cons pe_str (pa_cons pe_str (pa_cons pe_str pa_nil)))) po_none (po_some (pe_call (ok_pickL T) (hr.mono (by decide)) (by rfl) T.g_law_pick T.F_law_pick.kp (b_law_pick T) .nil pass0 (pa_cons (pv 0) (pa_cons (pe_lst (pa_cons pe_int (pa_cons pe_int (pa_cons pe_int (pa_cons pe_int (pa_cons pe_int (pa_cons pe_int pa_nil))))))) pa_nil)))))) (pg_name (i := 5) nd rfl (.inl rfl)) (pss_cons (ps_asg (pe_call (ok_egain T) (hr.mono (by decide)) (by rfl) T.g_law_even_gain T.F_law_even_gain.kp (b_law_even_gain T) .nil pass0 (pa_cons (pv 0) (pa_cons (pv 12) pa_nil))) (pg_tup rfl (pgs_cons (pg_name (i := 14) nd rfl (.inl rfl)) (pgs_cons (pg_name (i := 15) nd rfl (.inl rfl)) pgs_nil))))
      (pss_one (ps_expr (pe_bm PySem.F.plainAttrs_list PySem.F.slot_list_append PySem.F.type_list_append mt_append (pv 13) (pa_cons (pe_tupF (pa_cons (pv 5) (pa_cons (pv 14) (pa_cons (pv 15) pa_nil)))) pa_nil))))))
      (pss_one (ps_ret (pe_tupF (pa_cons pe_str (pa_cons (pe_ix (r := rIxT K) ix_tup (pv 12) pe_int (fun _ _ => rfl)) (pa_cons (pv 8) (pa_cons (pe_ix (r := rIxT K) ix_tup (pv 12) pe_int (fun _ _ => rfl)) (pa_cons (pe_callTy call_tupF (by rfl) T.z_tuple bo_tuple (pa_cons (pe_call (ok_shufD T) (hr.mono (by decide)) (by rfl) T.g_law_shuffled T.F_law_shuffled.kp (b_law_shuffled T) .nil pass0 (pa_cons (pv 0) (pa_cons (pv 13) pa_nil))) pa_nil)) (pa_cons (pv 11) pa_nil))))))))))))))))), ?_⟩
    refine s_parQ ?_
    refine ⟨Nat.zero_le _, fun p np => ?_⟩
    have e1 : Ex H (upd H p (.lst [])) := Ex.new np
    have hp1 : upd H p (.lst []) p = some (.lst ([] : List V)) := upd_same
    obtain ⟨p1, p2, p3⟩ := hS.off np
    have S1 := hS.up e1
    generalize upd H p (.lst []) = H1 at e1 hp1 S1
    refine ⟨.ref sd, rfl, sd, sg, sc, b + 59, 57, rfl, by decide, by decide, S1, fun mid H2 mid0 mid1 S2 X2 => ⟨mid, 32, rfl, rfl, ⟨.ref p, .int (mid - 32), rfl, ?_⟩⟩⟩
    have hp2 := X2 _ _ hp1 p1 p2
    have X02 : ExS sd sg H H2 := (ExS.of e1).trans X2
    refine ⟨by show 3 ≤ sizeLine; rw [sizeLine_eq]; decide, fun l0 nl0 => ?_⟩
    have e3 := Ex.new (o := .lst [V.str "hall", .str "lab", .str "yard"]) nl0
    obtain ⟨l01, l02, _⟩ := S2.off nl0
    refine ⟨.ref sd, rfl, .int 3, rfl, sd, sg, sc, b + 58, 3, rfl, by decide, by decide, S2.up e3, fun zk H4 zk0 zk3 S4 X4 => ⟨1, zk, rfl, rfl, ⟨1 + zk, rfl, l0, _, rfl, .of (X4 _ _ upd_same l01 l02), fun f nf => ⟨f, rfl, ⟨_, .of upd_same⟩, ?_⟩⟩⟩⟩
    obtain ⟨k, rfl⟩ : ∃ k : Nat, zk = (k : Int) := ⟨zk.toNat, by omega⟩
    have hk3 : k < 3 := by omega
    have X14 : ExS sd sg H1 H4 := (X2.trans (.of e3)).trans X4
    obtain ⟨f1, f2, _⟩ := S4.off nf
    rw [show (1 + (k : Int)) = ((k + 1 : Nat) : Int) from by omega, show ([V.str "hall", V.str "lab", V.str "yard"] : List V) = sv ["hall", "lab", "yard"] from rfl, cut_sv]
    have e5 : Ex H4 (upd H4 f (.lst (sv ((["hall", "lab", "yard"] : List Str).take (k + 1))))) := Ex.new nf
    have hf5 : upd H4 f (.lst (sv ((["hall", "lab", "yard"] : List Str).take (k + 1)))) f = some (.lst (sv ((["hall", "lab", "yard"] : List Str).take (k + 1)))) := upd_same
    have nsOk : ((["hall", "lab", "yard"] : List Str).take (k + 1)).Nodup ∧ (∀ n ∈ (["hall", "lab", "yard"] : List Str).take (k + 1), nmS n = true ∧ n ≠ "out") ∧ ((["hall", "lab", "yard"] : List Str).take (k + 1)).length = k + 1 := by
      refine ⟨List.Nodup.sublist (List.take_sublist _ _) (by decide +kernel), fun n hn => ?_, by rw [List.length_take]; simp; omega⟩
      have := List.mem_of_mem_take hn
      simp only [List.mem_cons, List.not_mem_nil, or_false] at this
      rcases this with rfl | rfl | rfl <;> exact ⟨by decide +kernel, by decide +kernel⟩
    generalize (["hall", "lab", "yard"] : List Str).take (k + 1) = NS at e5 hf5 nsOk
    obtain ⟨ns1, ns2, ns3⟩ := nsOk
    have fp_ : f ≠ p := fun z => by
      have := X14 _ _ hp1 p1 p2
      rw [← z, nf] at this
      cases this
    have S5 := S4.up e5
    have X05 : ExS sd sg H (upd H4 f (.lst (sv NS))) := (ExS.of e1).trans (X14.trans (.of e5))
    have K5 : KeepT sd sg p [] [] (upd H4 f (.lst (sv NS))) := ⟨e5 _ _ (X14 _ _ hp1 p1 p2), .nil, p1, p2, by unfold imms; rfl⟩
    generalize upd H4 f (.lst (sv NS)) = H5 at e5 hf5 S5 X05 K5
    have svl : (sv NS).length = NS.length := List.length_map _
    refine for_list (xs := sv NS) (fun i σ' H' => Sta H' sd sg sc (b + 48 + 3 * (3 - i)) ∧ H' f = some (.lst (sv NS)) ∧ ExS sd sg H H' ∧ (∃ us rs, KeepT sd sg p us rs H' ∧ (∀ d ∈ rs, d.room = true) ∧ nmsD rs = NS.take i) ∧ ∃ z5 z6 z7, σ' = [some (.ref sd), some (.int 3), some (.int 8), some (.ref p), some (.int (mid - 32)), z5, z6, z7, none, none, none, none, none, none, none, none, none])
      ⟨S5.less (by omega), hf5, X05, ⟨[], [], K5, (fun _ h => nomatch h), rfl⟩, _, _, _, rfl⟩ (fun i σ' H' _ h => .of h.2.1) (fun i x σ' H6 hx ⟨S6, hf6, X6, ⟨us, rs, K6, rok, rnm⟩, z5, z6, z7, es⟩ => ?_) (fun σ' H6 ⟨S6, hf6, X6, ⟨us, rs, K6, rok, rnm⟩, z5, z6, z7, es⟩ => ?_)
    · subst es
      obtain ⟨n, gn, rfl⟩ : ∃ n, NS[i]? = some n ∧ x = .str n := by
        unfold sv at hx
        rw [List.getElem?_map] at hx
        cases e : NS[i]? with
        | none => rw [e] at hx; cases hx
        | some n =>
          rw [e] at hx
          exact ⟨n, rfl, (Option.some.inj hx).symm⟩
      have il : i < 3 := by
        have := (List.getElem?_eq_some_iff.mp gn).1
        omega
      have nok := ns2 n (List.mem_of_getElem? gn)
      refine s_parQ (σ := [some (.ref sd), some (.int 3), some (.int 8), some (.ref p), some (.int (mid - 32)), some (.str n), z6, z7, none, none, none, none, none, none, none, none, none]) ?_
      refine ⟨.int (mid - 32), rfl, .ref sd, rfl, sd, sg, sc, b + 48 + 3 * (3 - (i + 1)) + 2, 3, rfl, by decide, by decide, S6.less (by omega), fun w1 H7 w10 w11 S7 X7 => ⟨mid - 32, w1, rfl, rfl, ?_⟩⟩
      refine ⟨.ref sd, rfl, .int 8, rfl, 8, 1, rfl, rfl, sd, sg, sc, b + 48 + 3 * (3 - (i + 1)) + 1, 8 + 1, rfl, by decide, by decide, S7, fun w2 H8 w20 w21 S8 X8 => ⟨_, _, rfl, ?_⟩⟩
      refine ⟨.ref p, rfl, .inl ⟨rfl, us, .of ((K6.go S6 (X7.trans X8)).at_)⟩, .str n, rfl, .int (mid - 32 + w1), rfl, .int (mid - 32 + w1), rfl, .int w2, rfl, mid - 32 + w1, w2, rfl, rfl, .int (mid - 32 + w1), rfl, .ref sd, rfl, .int w2, rfl, w2, 1, rfl, rfl, sd, sg, sc, b + 48 + 3 * (3 - (i + 1)), w2 + 1, rfl, by omega, by omega, S8, fun w3 H9 w30 w31 S9 X9 => ⟨mid - 32 + w1, w3, rfl, rfl, ⟨by show 4 ≤ sizeLine; rw [sizeLine_eq]; decide, fun tt ot ntt hot => ?_⟩⟩⟩
      have e10 := Ex.new (o := .frz ot (.tup [V.str n, .int (mid - 32 + w1), .int (mid - 32 + w1 + w2), .int (mid - 32 + w1 + w3)])) ntt
      have K10 := ((K6.go S6 (X7.trans (X8.trans X9))).go S9 (.of e10))
      have rt : Rep (upd H9 tt (.frz ot (.tup [V.str n, .int (mid - 32 + w1), .int (mid - 32 + w1 + w2), .int (mid - 32 + w1 + w3)]))) (.ref tt) (.tup [.str n, .int (mid - 32 + w1), .int (mid - 32 + w1 + w2), .int (mid - 32 + w1 + w3)]) := .tup ⟨ot, hot, upd_same⟩ (.cons (.str _) (.cons (.int _) (.cons (.int _) (.cons (.int _) .nil))))
      have rm : D.room (.tup [.str n, .int (mid - 32 + w1), .int (mid - 32 + w1 + w2), .int (mid - 32 + w1 + w3)]) = true := by
        have bt : ∀ i : Int, -40 ≤ i → i ≤ 40 → isBetw (.int i) (-40) 40 = true := fun i h1 h2 => by
          show (decide (-40 ≤ i) && decide (i ≤ 40)) = true
          rw [decide_eq_true h1, decide_eq_true h2]
          rfl
        rw [room_4, show (D.str n).nm = true from nok.1, show decide ((D.str n).txt = "out") = false from decide_eq_false nok.2, List.all_cons, List.all_cons, List.all_cons, bt _ (by omega) (by omega), bt _ (by omega) (by omega), bt _ (by omega) (by omega)]
        show (true && (true && (decide (mid - 32 + w1 ≤ mid - 32 + w1 + w3) && (decide (mid - 32 + w1 + w3 ≤ mid - 32 + w1 + w2) && decide (mid - 32 + w1 + w2 ≤ mid - 32 + w1 + 8))))) = true
        rw [decide_eq_true (by omega), decide_eq_true (by omega), decide_eq_true (by omega)]
        rfl
      have S10 := S9.up e10
      have X10 : ExS sd sg H6 _ := (X7.trans (X8.trans X9)).trans (.of e10)
      generalize upd H9 tt (.frz ot (.tup [V.str n, .int (mid - 32 + w1), .int (mid - 32 + w1 + w2), .int (mid - 32 + w1 + w3)])) = H10 at e10 K10 rt S10 X10
      have K11 := K10.put rt (room_imm rm)
      have lu : us.length = i := by
        rw [K6.rep.length]
        have := congrArg List.length rnm
        unfold nmsD at this
        rw [List.length_map, List.length_take] at this
        have := (List.getElem?_eq_some_iff.mp gn).1
        omega
      refine ⟨p, us, .ref tt, rfl, rfl, K10.at_, sz_lt (by omega), S10.upd p1 p2 p3, (upd_ne fp_).trans (X10 _ _ hf6 f1 f2), fun a o h m1 m2 => (upd_ne fun z => by rw [z, np] at h; cases h).trans ((X6.trans X10) a o h m1 m2), ⟨_, _, K11, fun d hd => (List.mem_append.mp hd).elim (rok d) fun e => by rw [List.mem_singleton.mp e]; exact rm, ?_⟩, _, _, _, rfl⟩
      unfold nmsD at rnm ⊢
      rw [List.map_append, rnm, List.take_add_one, gn]
      rfl
    · subst es
      rw [svl, List.take_of_length_le (Nat.le_refl _)] at rnm
      have S6 := S6.less (c := b + 48) (by omega)
      have lrs : rs.length = NS.length := by
        have := congrArg List.length rnm
        unfold nmsD at this
        rwa [List.length_map] at this
      refine nx_of ?_
      refine s_parQ (σ := [some (.ref sd), some (.int 3), some (.int 8), some (.ref p), some (.int (mid - 32)), z5, z6, z7, none, none, none, none, none, none, none, none, none]) ?_
      refine ⟨.ref sd, rfl, by show 8 ≤ sizeLine; rw [sizeLine_eq]; decide, fun l1 nl1 => ?_⟩
      obtain ⟨l11, l12, _⟩ := S6.off nl1
      have e7 := Ex.new (o := .lst [V.int 1, .int 2, .int 3, .int 4, .int 5, .int 6, .int 8, .int 12]) nl1
      refine ⟨sd, sg, sc, b + 47, l1, _, rfl, upd_same, l11, l12, by simp, by simp, S6.up e7, fun j xm H8 hxm S8 X8 => ?_⟩
      obtain ⟨m, rfl, mm1, mm2⟩ : ∃ m, xm = .int m ∧ 1 ≤ m ∧ m ≤ 12 := by
        have := List.mem_of_getElem? hxm
        simp only [List.mem_cons, List.not_mem_nil, or_false] at this
        rcases this with rfl | rfl | rfl | rfl | rfl | rfl | rfl | rfl <;> exact ⟨_, rfl, by decide, by decide⟩
      refine ⟨.ref sd, rfl, .int 8, rfl, 8, 1, rfl, rfl, sd, sg, sc, b + 46, 8 + 1, rfl, by decide, by decide, S8, fun sp H9 sp0 sp9 S9 X9 => ⟨_, _, rfl, ?_⟩⟩
      have X69 : ExS sd sg H6 H9 := (ExS.of e7).trans (X8.trans X9)
      show tSeq _ _ _ [some (.ref sd), some (.int 3), some (.int 8), some (.ref p), some (.int (mid - 32)), z5, z6, z7, some (.int m), some (.int sp), none, none, none, none, none, none, none] H9
      refine s_lstA (g := gName 10) ?_
      refine ⟨40, rfl, .int sp, rfl, 40, sp, rfl, rfl, .int (mid - 32), rfl, mid - 32, 4, rfl, rfl, .ref sd, rfl, sd, sg, sc, b + 45, 14, rfl, by decide, by decide, S9, fun w4 H10 w40 w41 S10 X10 => ⟨mid - 32 + 4, w4, rfl, rfl, ⟨40 - sp, _, rfl, ⟨-40, _, rfl, ?_⟩⟩⟩⟩
      obtain ⟨L, hL, L1, L2⟩ : ∃ L : Int, L = (if (if mid - 32 + 4 - w4 < 40 - sp then mid - 32 + 4 - w4 else 40 - sp) > -40 then (if mid - 32 + 4 - w4 < 40 - sp then mid - 32 + 4 - w4 else 40 - sp) else -40) ∧ -40 ≤ L ∧ L + sp ≤ 40 := ⟨_, rfl, by split <;> split at * <;> omega, by split <;> split at * <;> omega⟩
      show tSeq _ _ _ [some (.ref sd), some (.int 3), some (.int 8), some (.ref p), some (.int (mid - 32)), z5, z6, z7, some (.int m), some (.int sp), some (.int (if (if mid - 32 + 4 - w4 < 40 - sp then mid - 32 + 4 - w4 else 40 - sp) > -40 then (if mid - 32 + 4 - w4 < 40 - sp then mid - 32 + 4 - w4 else 40 - sp) else -40)), none, none, none, none, none, none] H10
      rw [← hL]
      refine s_lstA (g := gName 11) ?_
      refine ⟨.int L, rfl, .int L, rfl, .int sp, rfl, L, sp, rfl, rfl, .int L, rfl, .ref sd, rfl, .int sp, rfl, sp, 1, rfl, rfl, sd, sg, sc, b + 44, sp + 1, rfl, by omega, by omega, S10, fun w5 H11 w50 w51 S11 X11 => ⟨L, w5, rfl, rfl, .ref sd, rfl, by show 6 ≤ sizeLine; rw [sizeLine_eq]; decide, fun l2 nl2 => ?_⟩⟩
      obtain ⟨l21, l22, _⟩ := S11.off nl2
      have e12 := Ex.new (o := .lst [V.int 0, .int 1, .int 1, .int 2, .int 3, .int 8]) nl2
      refine ⟨sd, sg, sc, b + 43, l2, _, rfl, upd_same, l21, l22, by simp, by simp, S11.up e12, fun j xv H13 hxv S13 X13 => ⟨by show 4 ≤ sizeLine; rw [sizeLine_eq]; decide, fun tw ow ntw how => ?_⟩⟩
      obtain ⟨mv, rfl, mv1, mv2⟩ : ∃ m, xv = .int m ∧ 0 ≤ m ∧ m ≤ 8 := by
        have := List.mem_of_getElem? hxv
        simp only [List.mem_cons, List.not_mem_nil, or_false] at this
        rcases this with rfl | rfl | rfl | rfl | rfl | rfl <;> exact ⟨_, rfl, by decide, by decide⟩
      have e14 := Ex.new (o := .frz ow (.tup [V.int L, .int (L + sp), .int (L + w5), .int mv])) ntw
      have rw14 : Rep (upd H13 tw (.frz ow (.tup [V.int L, .int (L + sp), .int (L + w5), .int mv]))) (.ref tw) (.tup [.int L, .int (L + sp), .int (L + w5), .int mv]) := .tup ⟨ow, how, upd_same⟩ (.cons (.int _) (.cons (.int _) (.cons (.int _) (.cons (.int _) .nil))))
      have S14 := S13.up e14
      have X614 : ExS sd sg H6 _ := (X69.trans (X10.trans (X11.trans (.of e12)))).trans (X13.trans (.of e14))
      show tSeq _ _ _ [some (.ref sd), some (.int 3), some (.int 8), some (.ref p), some (.int (mid - 32)), z5, z6, z7, some (.int m), some (.int sp), some (.int L), some (.ref tw), none, none, none, none, none] _
      generalize upd H13 tw (.frz ow (.tup [V.int L, .int (L + sp), .int (L + w5), .int mv])) = H14 at rw14 S14 X614
      have K14 := K6.go S6 X614
      have X014 := X6.trans X614
      -- the air without heaters
      refine s_lstA (g := gName 12) ?_
      refine ⟨.ref p, rfl, p, us, rfl, .of K14.at_, fun tr or_ ntr hor => ⟨.int m, rfl, .ref sd, rfl, ?_⟩⟩
      have e15 := Ex.new (o := .frz or_ (.tup us)) ntr
      have rr15 : Rep (upd H14 tr (.frz or_ (.tup us))) (.ref tr) (.tup rs) := .tup ⟨or_, hor, upd_same⟩ (K14.rep.up e15)
      have S15 := S14.up e15
      have K15 := K14.go S14 (.of e15)
      have rw15 := rw14.up e15
      generalize upd H14 tr (.frz or_ (.tup us)) = H15 at e15 rr15 S15 K15 rw15
      have stp : ∀ z, stS sd sg z → z ≠ p := fun z hz e => hz.elim (fun h => p1 (e ▸ h)) fun h => p2 (e ▸ h)
      have cn := lcS (S := stS sd sg) (ds := rs) (wi := iList K (tVar 3)) (g := gName 16) (tt := tYes) (te := tOp (rIxT K) (tVar 16) (tC (.int 0))) (own := [16]) (σ := [some (.ref sd), some (.int 3), some (.int 8), some (.ref p), some (.int (mid - 32)), z5, z6, z7, some (.int m), some (.int sp), some (.int L), some (.ref tw), none, none, none, none, none]) (H := H15) (fun _ => true) (fun d => .str d.fst.txt) S15.inS (its_list (es_of (ev_var (i := 3) rfl) (.lst (hidP_at K15.at_ fun z => stp p z rfl) (K15.rep.monoT S15.tpS _ _ K15.im)))) (by omega) fun S' y d2 H16 hd2 in16 e16 x16 ry => by
        obtain ⟨n2, a2, b2, c2, rfl, _⟩ := room_shape (rok d2 hd2)
        obtain ⟨c, v0, v1, v2, v3, rfl, hc, r0, r1, r2, r3⟩ := ry.t4
        obtain rfl := r0.strD
        exact ⟨[some (.ref sd), some (.int 3), some (.int 8), some (.ref p), some (.int (mid - 32)), z5, z6, z7, some (.int m), some (.int sp), some (.int L), some (.ref tw), none, none, none, none, some (.ref c)], fun Q h => h, rfl, fun H7 e7 Q q => q H7 (Ex.refl _), fun _ => es_of (ev_ixT (j := 0) (ev_var (i := 16) rfl) (hc.up hidP_sub) rfl) (.str _)⟩
      rw [List.filter_eq_self.mpr fun _ _ => rfl, show rs.map (fun d => D.str d.fst.txt) = NS.map D.str from by rw [← rnm]; unfold nmsD; rw [List.map_map]; rfl] at cn
      refine cn H15 (Ex.refl _) _ fun vl H16 e16 r16 => ?_
      obtain ⟨rl, us16, rfl, hrl, hs16⟩ := r16.lstD
      rw [strs_of_reps hs16] at hrl
      obtain ⟨hrl, hrn⟩ := hidP_get hrl
      have S16 := S15.up e16
      have K16 := K15.go S15 (.of e16)
      refine ⟨.int m, rfl, sd, sg, sc, b + 16, rl, NS, m, rfl, hrl, fun z => hrn (.inl z), fun z => hrn (.inr z), by omega, ns1, ns2, mm1, mm2, S16, fun vlk dlk H17 rlk hlk S17 X17 => ⟨Nat.zero_le _, fun te oe nte hoe => ⟨.ref tw, rfl, ⟨by show 6 ≤ sizeLine; rw [sizeLine_eq]; decide, fun ta oa nta hoa => ?_⟩⟩⟩⟩
      have lim : dlk.imm = true := by
        cases dlk with
        | tup ls =>
          rw [leaks_tup] at hlk
          simp only [Bool.and_eq_true] at hlk
          exact imm_t fun x hx => by
            obtain ⟨a, b2, s2, n2, rfl, _, _, _, _, _, hn2⟩ := leak_shape (List.all_eq_true.mp hlk.2.1 x hx)
            refine imm_t fun z hz => ?_
            simp only [List.mem_cons, List.not_mem_nil, or_false] at hz
            rcases hz with rfl | rfl | rfl | rfl
            · unfold D.imm; rfl
            · unfold D.imm; rfl
            · unfold D.imm; rfl
            · rcases hn2 with rfl | ⟨w2, rfl, _⟩ <;> (unfold D.imm; rfl)
        | _ => cases hlk
      have wim : (D.tup [.int L, .int (L + sp), .int (L + w5), .int mv]).imm = true := imm_t fun z hz => by
        simp only [List.mem_cons, List.not_mem_nil, or_false] at hz
        rcases hz with rfl | rfl | rfl | rfl <;> (unfold D.imm; rfl)
      have rim : (D.tup rs).imm = true := imm_t fun d hd => room_imm (rok d hd)
      have e18 := Ex.new (o := .frz oe (.tup [])) nte
      have e19 := Ex.new (o := .frz oa (.tup [V.str "air", .ref tr, .int m, vlk, .ref te, .ref tw])) nta
      have tp17 : Tp H15 H17 := S15.tp ((ExS.of e16).trans X17)
      have S19 := (S17.up e18).up e19
      have X19 : ExS sd sg H15 _ := ((ExS.of e16).trans X17).trans (.of (e18.trans e19))
      have ra19 : Rep (upd (upd H17 te (.frz oe (.tup []))) ta (.frz oa (.tup [V.str "air", .ref tr, .int m, vlk, .ref te, .ref tw]))) (.ref ta) (.tup [.str "air", .tup rs, .int m, dlk, .tup [], .tup [.int L, .int (L + sp), .int (L + w5), .int mv]]) :=
        .tup ⟨oa, hoa, upd_same⟩ (.cons (.str _) (.cons ((rr15.monoT tp17 _ _ rim).up (e18.trans e19)) (.cons (.int _) (.cons (rlk.up (e18.trans e19)) (.cons (Rep.up (.tup ⟨oe, hoe, upd_same⟩ .nil) e19) (.cons ((rw15.monoT tp17 _ _ wim).up (e18.trans e19)) .nil))))))
      show tSeq _ _ _ [some (.ref sd), some (.int 3), some (.int 8), some (.ref p), some (.int (mid - 32)), z5, z6, z7, some (.int m), some (.int sp), some (.int L), some (.ref tw), some (.ref ta), none, none, none, none] _
      have K19 := K15.go S15 X19
      have rw19 := rw15.monoT (S15.tp X19) _ _ wim
      generalize upd (upd H17 te (.frz oe (.tup []))) ta (.frz oa (.tup [V.str "air", .ref tr, .int m, vlk, .ref te, .ref tw])) = H19 at S19 X19 ra19 K19 rw19
      have X019 : ExS sd sg H H19 := (X014.trans (.of e15)).trans X19
      rw [← rnm] at hlk ns1
      have hair : D.air (.tup [.str "air", .tup rs, .int m, dlk, .tup [], .tup [.int L, .int (L + sp), .int (L + w5), .int mv]]) = true := mk_air (by omega) (by omega) rok ns1 mm1 mm2 hlk (by simp) (fun _ h => nomatch h) (by unfold nmsD; simp) (by omega) (by omega) (by omega) (by omega) (by omega) mv1 mv2
      have aim := air_imm hair
      have nms0 : nmsD ((D.tup [.str "air", .tup rs, .int m, dlk, .tup [], .tup [.int L, .int (L + sp), .int (L + w5), .int mv]]).nth 1).rows = nmsD rs := rfl
      refine s_asgL (el_lst ea_nil (by simp)) fun ph H20 nph e20 hph => ?_
      have S20 := S19.up e20
      obtain ⟨q1, q2, q3⟩ := S19.off nph
      refine ⟨by show 3 ≤ sizeLine; rw [sizeLine_eq]; decide, fun l3 nl3 => ⟨.ref sd, rfl, by show 6 ≤ sizeLine; rw [sizeLine_eq]; decide, fun l4 nl4 => ?_⟩⟩
      have e21 := Ex.new (o := .lst [V.str "oven", .str "fan", .str "stove"]) nl3
      have e22 := Ex.new (o := .lst [V.int 1, .int 1, .int 2, .int 2, .int 3, .int 0]) nl4
      obtain ⟨l31, l32, _⟩ := S20.off nl3
      obtain ⟨l41, l42, _⟩ := (S20.up e21).off nl4
      refine ⟨sd, sg, sc, b + 15, l4, _, rfl, upd_same, l41, l42, by simp, by simp, (S20.up e21).up e22, fun j xk H23 hxk S23 X23 => ?_⟩
      obtain ⟨k2, rfl, k2z⟩ : ∃ k2 : Nat, xk = .int (k2 : Int) ∧ k2 ≤ 3 := by
        have := List.mem_of_getElem? hxk
        simp only [List.mem_cons, List.not_mem_nil, or_false] at this
        rcases this with rfl | rfl | rfl | rfl | rfl | rfl
        · exact ⟨1, rfl, by decide⟩
        · exact ⟨1, rfl, by decide⟩
        · exact ⟨2, rfl, by decide⟩
        · exact ⟨2, rfl, by decide⟩
        · exact ⟨3, rfl, by decide⟩
        · exact ⟨0, rfl, by decide⟩
      refine ⟨(k2 : Int), rfl, l3, _, rfl, .of (X23 _ _ (e22 _ _ upd_same) l31 l32), fun f2 nf2 => ⟨f2, rfl, ⟨_, .of upd_same⟩, ?_⟩⟩
      rw [show ([V.str "oven", V.str "fan", V.str "stove"] : List V) = sv ["oven", "fan", "stove"] from rfl, cut_sv]
      have e24 : Ex H23 (upd H23 f2 (.lst (sv ((["oven", "fan", "stove"] : List Str).take k2)))) := Ex.new nf2
      have hf24 : upd H23 f2 (.lst (sv ((["oven", "fan", "stove"] : List Str).take k2))) f2 = some (.lst (sv ((["oven", "fan", "stove"] : List Str).take k2))) := upd_same
      have hsOk : ((["oven", "fan", "stove"] : List Str).take k2).Nodup ∧ (∀ n ∈ (["oven", "fan", "stove"] : List Str).take k2, nmS n = true) ∧ ((["oven", "fan", "stove"] : List Str).take k2).length ≤ 3 := by
        refine ⟨List.Nodup.sublist (List.take_sublist _ _) (by decide +kernel), fun n hn => ?_, by rw [List.length_take]; simp; omega⟩
        have := List.mem_of_mem_take hn
        simp only [List.mem_cons, List.not_mem_nil, or_false] at this
        rcases this with rfl | rfl | rfl <;> decide +kernel
      generalize (["oven", "fan", "stove"] : List Str).take k2 = NT at e24 hf24 hsOk
      obtain ⟨nt1, nt2, nt3⟩ := hsOk
      obtain ⟨f21, f22, _⟩ := S23.off nf2
      have X1923 : ExS sd sg H19 H23 := (ExS.of ((e20.trans e21).trans e22)).trans X23
      have f2p : f2 ≠ ph := fun z => by
        have := ((ExS.of (e21.trans e22)).trans X23) _ _ hph q1 q2
        rw [← z, nf2] at this
        cases this
      have K24 : KeepT sd sg ph [] [] (upd H23 f2 (.lst (sv NT))) := ⟨e24 _ _ (((ExS.of (e21.trans e22)).trans X23) _ _ hph q1 q2), .nil, q1, q2, by unfold imms; rfl⟩
      have S24 := S23.up e24
      have X1924 : ExS sd sg H19 _ := X1923.trans (.of e24)
      generalize upd H23 f2 (.lst (sv NT)) = H24 at e24 hf24 K24 S24 X1924
      have svt : (sv NT).length = NT.length := List.length_map _
      generalize hAD : (.tup [.str "air", .tup rs, .int m, dlk, .tup [], .tup [.int L, .int (L + sp), .int (L + w5), .int mv]] : D) = AD at ra19 hair aim nms0
      refine for_list (xs := sv NT) (fun i σ' H' => Sta H' sd sg sc (b + 3 + 4 * (3 - i)) ∧ H' f2 = some (.lst (sv NT)) ∧ ExS sd sg H19 H' ∧ (∃ us hs, KeepT sd sg ph us hs H' ∧ (∀ d ∈ hs, d.heat (nmsD rs) = true) ∧ nmsD hs = NT.take i) ∧ ∃ y5 y14 y15, σ' = [some (.ref sd), some (.int 3), some (.int 8), some (.ref p), some (.int (mid - 32)), y5, z6, z7, some (.int m), some (.int sp), some (.int L), some (.ref tw), some (.ref ta), some (.ref ph), y14, y15, none])
        ⟨S24.less (by omega), hf24, X1924, ⟨[], [], K24, (fun _ h => nomatch h), rfl⟩, _, _, _, rfl⟩ (fun i σ' H' _ h => .of h.2.1) (fun i x σ' H25 hx ⟨S25, hf25, X25, ⟨us2, hs2, K25, hok, hnm⟩, y5, y14, y15, es⟩ => ?_) (fun σ' H25 ⟨S25, hf25, X25, ⟨us2, hs2, K25, hok, hnm⟩, y5, y14, y15, es⟩ => ?_)
      · subst es
        obtain ⟨n, gn, rfl⟩ : ∃ n, NT[i]? = some n ∧ x = .str n := by
          unfold sv at hx
          rw [List.getElem?_map] at hx
          cases e : NT[i]? with
          | none => rw [e] at hx; cases hx
          | some n =>
            rw [e] at hx
            exact ⟨n, rfl, (Option.some.inj hx).symm⟩
        have il : i < 3 := by
          have := (List.getElem?_eq_some_iff.mp gn).1
          omega
        have ra25 := ra19.monoT (S19.tp X25) _ _ aim
        refine s_lstA (σ := [some (.ref sd), some (.int 3), some (.int 8), some (.ref p), some (.int (mid - 32)), some (.str n), z6, z7, some (.int m), some (.int sp), some (.int L), some (.ref tw), some (.ref ta), some (.ref ph), y14, y15, none]) ?_
        refine ⟨.ref sd, rfl, .ref ta, rfl, sd, sg, sc, b + 3 + 4 * (3 - (i + 1)), .ref ta, AD, rfl, ra25, hair, S25.less (by omega), fun zv an g H26 rz han g1 g2 g3 S26 X26 => ?_⟩
        rw [nms0] at han
        obtain ⟨cz, c0, c1, rfl, hcz, rc0, rc1⟩ := rz.t2
        obtain rfl := rc0.strD
        obtain rfl := rc1.intD
        refine ⟨cz, _, rfl, hcz.sq, rfl, _, _, rfl, _, _, rfl, rfl, ?_⟩
        have K26 := K25.go S25 X26
        refine ⟨.ref ph, rfl, .inl ⟨rfl, us2, .of K26.at_⟩, .str n, rfl, .str an, rfl, .int g, rfl, ⟨by show 3 ≤ sizeLine; rw [sizeLine_eq]; decide, fun tt ot ntt hot => ?_⟩⟩
        have e27 := Ex.new (o := .frz ot (.tup [V.str n, .str an, .int g])) ntt
        have K27 := K26.go S26 (.of e27)
        have rt : Rep (upd H26 tt (.frz ot (.tup [V.str n, .str an, .int g]))) (.ref tt) (.tup [.str n, .str an, .int g]) := .tup ⟨ot, hot, upd_same⟩ (.cons (.str _) (.cons (.str _) (.cons (.int _) .nil)))
        have hh : D.heat (nmsD rs) (.tup [.str n, .str an, .int g]) = true := by
          rw [heat_3, show (D.str n).nm = true from nt2 n (List.mem_of_getElem? gn), show amD (.str an) (nmsD rs) = true from amg_iff.mpr han, bt40 g1 g2, show decide ((D.int g).num = 0) = false from decide_eq_false g3]
          rfl
        have S27 := S26.up e27
        have X27 : ExS sd sg H25 _ := X26.trans (.of e27)
        generalize upd H26 tt (.frz ot (.tup [V.str n, .str an, .int g])) = H27 at e27 K27 rt S27 X27
        have K28 := K27.put rt (imms_iff.mp (heats_imm (ns := nmsD rs) (ds := [.tup [.str n, .str an, .int g]]) fun d hd => by rw [List.mem_singleton.mp hd]; exact hh) _ (List.mem_singleton.mpr rfl))
        have lu : us2.length = i := by
          rw [K25.rep.length]
          have := congrArg List.length hnm
          unfold nmsD at this
          rw [List.length_map, List.length_take] at this
          have := (List.getElem?_eq_some_iff.mp gn).1
          omega
        refine ⟨ph, us2, .ref tt, rfl, rfl, K27.at_, sz_lt (by omega), S27.upd q1 q2 q3, (upd_ne f2p).trans (X27 _ _ hf25 f21 f22), fun a o h m1 m2 => ?_, ⟨_, _, K28, fun d hd => (List.mem_append.mp hd).elim (hok d) fun e => by rw [List.mem_singleton.mp e]; exact hh, ?_⟩, _, _, _, rfl⟩
        · exact (upd_ne fun z => by rw [z, nph] at h; cases h).trans ((X25.trans X27) a o h m1 m2)
        · unfold nmsD at hnm ⊢
          rw [List.map_append, hnm, List.take_add_one, gn]
          rfl
      · subst es
        rw [svt, List.take_of_length_le (Nat.le_refl _)] at hnm
        have S25 := S25.less (c := b + 3) (by omega)
        have ra25 := ra19.monoT (S19.tp X25) _ _ aim
        have rw25 := rw19.monoT (S19.tp X25) _ _ wim
        subst hAD
        obtain ⟨ta', v0, v1, v2, v3, v4, v5, ea, hta, r0, r1, r2, r3, r4, r5⟩ := ra25.t6
        cases ea
        obtain rfl := r2.intD
        refine nx_of ?_
        refine s_retW ?_
        refine ev_ixT (j := 1) (σ := [some (.ref sd), some (.int 3), some (.int 8), some (.ref p), some (.int (mid - 32)), y5, z6, z7, some (.int m), some (.int sp), some (.int L), some (.ref tw), some (.ref ta), some (.ref ph), y14, y15, none]) (ev_var (i := 12) rfl) hta rfl H25 (Ex.refl _) _ fun H26 e26 => ⟨.int m, rfl, ?_⟩
        refine ev_ixT (j := 3) (σ := [some (.ref sd), some (.int 3), some (.int 8), some (.ref p), some (.int (mid - 32)), y5, z6, z7, some (.int m), some (.int sp), some (.int L), some (.ref tw), some (.ref ta), some (.ref ph), y14, y15, none]) (ev_var (i := 12) rfl) (hta.up e26) rfl H26 (Ex.refl _) _ fun H27 e27 => ?_
        have E27 := e26.trans e27
        have S27 := S25.up E27
        have K27 := K25.go S25 (.of E27)
        have lh : hs2.length ≤ 3 := by
          have := congrArg List.length hnm
          unfold nmsD at this
          rw [List.length_map] at this
          omega
        have lu := K27.rep.length
        refine ⟨.ref sd, rfl, .ref ph, rfl, sd, sg, sc, b, ph, us2, rfl, K27.at_, by omega, fun v hv => ?_, S27.less (by omega), fun tl ts H28 ntl htl pm S28 X28 => ⟨tl, ts, rfl, .of htl, fun th oh nth hoh => ⟨.ref tw, rfl, ⟨by show 6 ≤ sizeLine; rw [sizeLine_eq]; decide, fun tf of_ ntf hof => ?_⟩⟩⟩⟩
        · obtain ⟨j, hj⟩ := List.mem_iff_getElem?.mp hv
          obtain ⟨d, hd, rd⟩ := K27.rep.get hj
          have hmem := List.mem_of_getElem? hd
          obtain ⟨n, an, g, rfl, hn, han, _⟩ := heat_shape (hok d hmem)
          rw [rnm] at han
          have k1 := strOk_nm hn
          have k2 := strOk_nm (ns2 an han).1
          exact ⟨_, S27.rep rd (imms_iff.mp K27.im _ hmem), by simp [D.pk, pks, k1, k2], by simp [D.deep, deeps]⟩
        obtain ⟨es2, pm2, rs2⟩ := reps_perm pm (K27.go S27 X28).rep
        have hok2 : ∀ d ∈ es2, d.heat (nmsD rs) = true := fun d hd => hok d (pm2.mem_iff.mp hd)
        have hn2 : (nmsD es2).Nodup := by
          unfold nmsD
          exact (pm2.map _).nodup_iff.mpr (by unfold nmsD at hnm; rw [hnm]; exact nt1)
        have e29 := Ex.new (o := .frz oh (.tup ts)) nth
        have tp28 : Tp H25 H28 := S25.tp ((ExS.of E27).trans X28)
        have e30 := Ex.new (o := .frz of_ (.tup [V.str "air", v1, .int m, v3, .ref th, .ref tw])) ntf
        refine q (.ref tf) (.tup [.str "air", .tup rs, .int m, dlk, .tup es2, .tup [.int L, .int (L + sp), .int (L + w5), .int mv]]) _ (.tup ⟨of_, hof, upd_same⟩ (.cons (.str _) (.cons ((r1.monoT tp28 _ _ rim).up (e29.trans e30)) (.cons (.int _) (.cons ((r3.monoT tp28 _ _ lim).up (e29.trans e30)) (.cons (Rep.up (.tup ⟨oh, hoh, upd_same⟩ (rs2.up e29)) e30) (.cons ((rw25.monoT tp28 _ _ wim).up (e29.trans e30)) .nil))))))) (mk_air (by omega) (by omega) rok ns1 mm1 mm2 hlk (by have := pm2.length_eq; omega) hok2 hn2 (by omega) (by omega) (by omega) (by omega) (by omega) mv1 mv2) ((S28.up e29).up e30) ?_
        exact (X019.trans X25).trans ((ExS.of E27).trans (X28.trans (.of (e29.trans e30))))
end
end Kx

set_option Elab.async false
set_option linter.all false
set_option maxRecDepth 100000
set_option maxHeartbeats 400000
namespace Kx
open PySem PySem.Spec PyProof.Rows L2 Evl
/-! ## a setting that is drawn -/
theorem asc_of {ss : List Str} (st : sortedS ss = true) (nd : ss.Nodup) : ss.Pairwise fun a b => a.cps.toList < b.cps.toList := by
  refine List.Pairwise.imp (fun {a b} h => ?_) ((sortedS_pw st).and nd)
  exact Classical.byContradiction fun z => h.2 (leS_anti h.1 z)
theorem named_sub {ys zs ns : List Str} (s : zs.Sublist ys) (st : sortedS ys = true) (nd : ys.Nodup) (m : ∀ y ∈ ys, y ∈ ns) : D.named ns (.tup (zs.map D.str)) = true := by
  show ((zs.map D.str).all (fun d => amD d ns) && ascS ((zs.map D.str).map D.txt)) = true
  rw [List.map_map, show zs.map (D.txt ∘ D.str) = zs from List.map_id' zs, pw_asc ((asc_of st nd).sublist s), List.all_eq_true.mpr fun d hd => by
    obtain ⟨z, hz, rfl⟩ := List.mem_map.mp hd
    exact amg_iff.mpr (m z (s.subset hz))]
  rfl
def spSet : Sp := fun vs H Q _ => ∃ (sd sg sc : Addr) (b : Nat) (v : V) (da : D), vs = [.ref sd, v] ∧ Rep H v da ∧ da.air = true ∧ Sta H sd sg sc (b + 9) ∧
  ∀ (z : V) (on fr : List Str) (H' : Hp), Rep H' z (.tup [.tup (on.map D.str), .tup (fr.map D.str)]) → D.setg (hN da) (dN da) (.tup [.tup (on.map D.str), .tup (fr.map D.str)]) = true → on.length ≤ 3 → fr.length ≤ 6 → Sta H' sd sg sc b → ExS sd sg H H' → Q z H'
section
variable {P : Program} {w : World} {K : PySem.W.Frag} {mg : Str → Option Value} {base : Heap} (T : Txt K mg)
theorem dN_few {da : D} (h : da.air = true) : (dN da).length ≤ 6 := by
  obtain ⟨rs, ls, hs, m, lo, hi, f, mv, A⟩ := air_is h
  rw [A.dN]
  unfold dNl
  rw [List.length_map]
  exact Nat.le_trans (List.length_filter_le _ _) A.l6
theorem hN_few {da : D} (h : da.air = true) : (hN da).length ≤ 3 ∧ (hN da).Nodup := by
  obtain ⟨rs, ls, hs, m, lo, hi, f, mv, A⟩ := air_is h
  rw [A.hN]
  refine ⟨?_, A.hn⟩
  unfold nmsD
  rw [List.length_map]
  exact A.h3
theorem ok_setting : FnOk P w K mg base CX0 4 T.a_law_setting T.d_law_setting ["state", "air"] spSet := by
  refine T.F_law_setting.ok sc_law_setting (fun vs H Q E h => ?_) (fun cdv A outer s H vs Q E hr h => ?_)
  · obtain ⟨sd, sg, sc, b, v, da, rfl, _⟩ := h
    rfl
  · obtain ⟨sd, sg, sc, b, v, da, rfl, hv, hair, hS, q⟩ := h
    have nd := sc_law_setting.nd
    refine ⟨_, (pss_cons (ps_set (i := 2) nd rfl (.inl rfl) (pe_callTy call_tupF (by rfl) T.z_tuple bo_tuple (pa_cons (pe_call (ok_some T) (hr.mono (by decide)) (by rfl) T.g_law_some T.F_law_some.kp (b_law_some T) .nil pass0 (pa_cons (pv 0) (pa_cons (pe_call (ok_hnames T) (hr.mono (by decide)) (by rfl) T.g_law_heater_names T.F_law_heater_names.kp (b_law_heater_names T) .nil pass0 (pa_cons (pv 1) pa_nil)) (pa_cons pe_int pa_nil)))) pa_nil)))
      (pss_one (ps_ret (pe_tupF (pa_cons (pv 2) (pa_cons (pe_callTy call_tupF (by rfl) T.z_tuple bo_tuple (pa_cons (pe_call (ok_some T) (hr.mono (by decide)) (by rfl) T.g_law_some T.F_law_some.kp (b_law_some T) .nil pass0 (pa_cons (pv 0) (pa_cons (pe_call (ok_dnames T) (hr.mono (by decide)) (by rfl) T.g_law_door_names T.F_law_door_names.kp (b_law_door_names T) .nil pass0 (pa_cons (pv 1) pa_nil)) (pa_cons pe_int pa_nil)))) pa_nil)) pa_nil)))))), ?_⟩
    have him := air_imm hair
    obtain ⟨hn1, hn2⟩ := hN_few hair
    have dn1 := dN_few hair
    refine s_lstA (g := gName 2) ?_
    refine ⟨.ref sd, rfl, v, rfl, v, da, rfl, hv, hair, fun p ys H1 np e1 pm st hp => ?_⟩
    have ly := pm.length_eq
    obtain ⟨p1, p2, _⟩ := hS.off np
    refine ⟨sd, sg, sc, b + 6, p, ys, 2, rfl, hp, p1, p2, by omega, by decide, by decide, (hS.up e1).less (by omega), fun q1 zs H2 nq1 sub hq1 S2 X2 => ⟨q1, sv zs, rfl, .of hq1, fun t o nt ho => ?_⟩⟩
    have e3 := Ex.new (o := .frz o (.tup (sv zs))) nt
    have X03 : ExS sd sg H _ := ((ExS.of e1).trans X2).trans (.of e3)
    have r3 : Rep (upd H2 t (.frz o (.tup (sv zs)))) (.ref t) (.tup (zs.map D.str)) := .tup ⟨o, ho, upd_same⟩ (reps_strs zs)
    have S3 := S2.up e3
    show tRet _ _ [some (.ref sd), some (v), some (.ref t)] _
    generalize upd H2 t (.frz o (.tup (sv zs))) = H3 at e3 X03 r3 S3
    refine s_retW ?_
    refine ⟨.ref t, rfl, .ref sd, rfl, v, rfl, v, da, rfl, hv.monoT (hS.tp X03) _ _ him, hair, fun p4 ds H4 np4 e4 pm4 st4 hp4 => ?_⟩
    have ld := pm4.length_eq
    have lf := fm_le (dN da)
    obtain ⟨m1, m2, _⟩ := S3.off np4
    refine ⟨sd, sg, sc, b, p4, ds, 2, rfl, hp4, m1, m2, by omega, by decide, by decide, (S3.up e4).less (by omega), fun q5 fr H5 nq5 sub5 hq5 S5 X5 => ⟨q5, sv fr, rfl, .of hq5, fun t6 o6 nt6 ho6 => ⟨by show 2 ≤ sizeLine; rw [sizeLine_eq]; decide, fun t7 o7 nt7 ho7 => ?_⟩⟩⟩
    have e6 := Ex.new (o := .frz o6 (.tup (sv fr))) nt6
    have e7 := Ex.new (o := .frz o7 (.tup [V.ref t, .ref t6])) nt7
    have im3 : (D.tup (zs.map D.str)).imm = true := imm_t fun d hd => by
      obtain ⟨x, _, rfl⟩ := List.mem_map.mp hd
      unfold D.imm
      rfl
    refine q (.ref t7) zs fr _ (.tup ⟨o7, ho7, upd_same⟩ (.cons ((r3.monoT (S3.tp ((ExS.of e4).trans X5)) _ _ im3).up (e6.trans e7)) (.cons (Rep.up (.tup ⟨o6, ho6, upd_same⟩ (reps_strs fr)) e7) .nil))) ?_ (by have := sub.length_le; omega) (by have := sub5.length_le; omega) ((S5.up e6).up e7) (((X03.trans (.of e4)).trans X5).trans (.of (e6.trans e7)))
    rw [setg_2, named_sub sub st (pm.symm.nodup hn2) fun y hy => pm.mem_iff.mp hy, named_sub sub5 st4 (pm4.symm.nodup (fm_nd _)) fun y hy => mem_fm.mp (pm4.mem_iff.mp hy)]
    rfl
end
end Kx

set_option Elab.async false
set_option linter.all false
set_option maxRecDepth 100000
set_option maxHeartbeats 400000
namespace Kx
open PySem PySem.Spec PyProof.Rows L2 Evl
open LamX
section
variable {X : Cx} {CX : CXT} {k : Nat} {f : Addr} {fd : FuncData} {ps ks : List Str} {sp : Sp} {E : XK} {x : Str} {p pos : Pos} {kws : List Keyword} {tk : TA} {g : List Value → List Value → List Value} {gV : List V → List V → List V}
/-- a call whose arguments are all told by name -/
theorem pe_named (F : FnOk X.prog X.w X.K X.mg X.base CX k f fd ps sp) (hr : Room k X.A) (hg : Gl X x) (hm : X.mg x = some (.ref f)) (hk : PySem.W.keepIn X.K (.ref f) = true) (hb : KBinds X.K fd ps ks g gV) (hx : Passes CX X E) (hkw : PK X kws tk)
    (all : (backToKw pos (keywordEach kws X.env)).all (·.1.isSome) = true := by rfl) (eks : (backToKw pos (keywordEach kws X.env)).filterMap (·.1) = ks := by rfl) (nd : (x == ("__debug__" : Str)) = false := by decide)
    (pl : ((backTo pos (starEach [] X.env)).any (·.1) || (backToKw pos (keywordEach kws X.env)).any (·.1.isNone)) = false := by rfl) : PE X (.Call (.Name x p) [] kws pos) (tCallK sp gV E tNil tk) where
  run := fun pins s σ H Q I h => wpAny_Call_Name_kw <| ld_glob I hg hm (PySem.W.callWith_KW0 (h₀ := X.base) I.ok.mod.kin hk all (thn (hkw.run pos pins s σ H _ I h) fun ws u hu => by
    obtain ⟨zs, H2, J, rz, q⟩ := hu
    refine ⟨J.kIn, ?_⟩
    rw [eks]
    exact run_fnk F hr hb hx J .nil rz q) pl) nd
end
def gA {α : Type} (us ws : List α) : List α := match us, ws with
  | [], [a] => [a]
  | _, _ => []
def gS {α : Type} (us ws : List α) : List α := match us, ws with
  | [a], [b] => [a, b]
  | _, _ => []
def gN {α : Type} (us ws : List α) : List α := match us, ws with
  | [], [a, b, c, d] => [a, b, c, d]
  | _, _ => []
section
variable {K : PySem.W.Frag} {mg : Str → Option Value}
theorem kb_is_air (T : Txt K mg) : KBinds K T.d_is_air ["value"] ["value"] gA gA where
  to := fun s us ws X hl => by
    obtain ⟨oc, od, kV, doc, pm, an, cdv, ct, osl, ed, lk, hcd⟩ := T.F_is_air.ex
    rw [ed]
    match us, ws, hl with
    | [], [a], _ => exact .of_eq rfl
  rel := fun {vs us zs ws} r rz => by
    cases r with
    | nil => cases rz with
      | nil => exact .nil
      | cons r1 rz => cases rz with
        | nil => exact .cons r1 .nil
        | cons _ _ => exact .nil
    | cons _ _ => exact .nil
theorem kb_is_setting (T : Txt K mg) : KBinds K T.d_is_setting ["air", "value"] ["value"] gS gS where
  to := fun s us ws X hl => by
    obtain ⟨oc, od, kV, doc, pm, an, cdv, ct, osl, ed, lk, hcd⟩ := T.F_is_setting.ex
    rw [ed]
    match us, ws, hl with
    | [a], [b], _ => exact .of_eq rfl
  rel := fun {vs us zs ws} r rz => by
    cases r with
    | nil => exact .nil
    | cons r1 r => cases r with
      | nil => cases rz with
        | nil => exact .nil
        | cons r2 rz => cases rz with
          | nil => exact .cons r1 (.cons r2 .nil)
          | cons _ _ => exact .nil
      | cons _ _ => exact .nil
theorem kb_next_degrees (T : Txt K mg) : KBinds K T.d_next_degrees ["air", "degrees", "weather", "setting"] ["air", "degrees", "weather", "setting"] gN gN where
  to := fun s us ws X hl => by
    obtain ⟨oc, od, kV, doc, pm, an, cdv, ct, osl, ed, lk, hcd⟩ := T.F_next_degrees.ex
    rw [ed]
    match us, ws, hl with
    | [], [a, b, c, d], _ => exact .of_eq rfl
  rel := fun {vs us zs ws} r rz => by
    cases r with
    | nil => cases rz with
      | nil => exact .nil
      | cons r1 rz => cases rz with
        | nil => exact .nil
        | cons r2 rz => cases rz with
          | nil => exact .nil
          | cons r3 rz => cases rz with
            | nil => exact .nil
            | cons r4 rz => cases rz with
              | nil => exact .cons r1 (.cons r2 (.cons r3 (.cons r4 .nil)))
              | cons _ _ => exact .nil
    | cons _ _ => exact .nil
end
section
variable {σ : L2.St} {H H' : Hp} {ta : TA} {z : V} {ok : OkO} {vs : List V} {E : XK}
theorem ev_callO (h : EvA ta σ H vs) (hk : ∀ H1, Ex H H1 → ok vs H1 (.ret z)) : Ev (tCall (spO ok) [] E ta) σ H z := fun H1 e Q q => h H1 e _ fun H2 e2 => by
  rw [List.append_nil]
  exact ⟨.ret z, hk H2 (e.trans e2), fun H3 e3 => q H3 (e2.trans e3)⟩
theorem tabs_exs {Tb : List (Addr × Str)} {sd sg sc : Addr} {b : Nat} (t : Tabs Tb H) (s : Sta H sd sg sc b) (X : ExS sd sg H H') : Tabs Tb H' := fun p hp => by
  obtain ⟨gs, cs, r, tt, w, _, _⟩ := s
  obtain ⟨ps, h1, h2, h3⟩ := t p hp
  refine ⟨ps, X _ _ h1 (ne_of h1 w.d (fun z => by cases z)) (ne_of h1 w.g (fun z => by cases z)), h2, fun pos cv hc => ?_⟩
  obtain ⟨c, e1, e2⟩ := h3 pos cv hc
  exact ⟨c, e1, X _ _ e2 (ne_of e2 w.d (fun z => by unfold CodeO at z; cases z)) (ne_of e2 w.g (fun z => by unfold CodeO at z; cases z))⟩
theorem q_forR1D {tp : TE} {j : Nat} {tu tz : TS} {D0 : Ends} (Sx : Int → Hp → Prop) (h : ∀ Q : VK, (∀ n H1, Sx n H1 → Q (.int n) H1) → tp σ H Q) (k : ∀ n H1, Sx n H1 → tSeq (tFor (iRng1 (tCons (tC (.int n)) tNil)) (gName j) tu) tz D0 σ H1) : tSeq (tFor (iRng1 (tCons tp tNil)) (gName j) tu) tz D0 σ H := h _ fun n H1 s => k n H1 s
theorem tabs_upd {Tb : List (Addr × Str)} {p : Addr} {xs : List V} {o : HO} (t : Tabs Tb H) (hp : H p = some (.lst xs)) : Tabs Tb (upd H p o) := fun q hq => by
  obtain ⟨ps, h1, h2, h3⟩ := t q hq
  refine ⟨ps, (upd_ne (ne_of h1 hp fun z => by cases z)).trans h1, h2, fun pos cv hc => ?_⟩
  obtain ⟨c, e1, e2⟩ := h3 pos cv hc
  exact ⟨c, e1, (upd_ne (ne_of e2 hp fun z => by unfold CodeO at z; cases z)).trans e2⟩
end
def qAsk : Str := (envOfC "_law_ask_errors" (defScope s_law_ask_errors) 0 0 .none).qual ++ ("<lambda>" : Str)
def spAE (Tb : List (Addr × Str)) : Sp := fun vs H Q _ => ∃ (sd sg sc : Addr) (b : Nat) (v0 v1 v2 v3 : V) (d0 d1 d2 d3 : D), vs = [.ref sd, v0, v1, v2, v3] ∧ RepsS (stS sd sg) H [v0, v1, v2, v3] [d0, d1, d2, d3] ∧ (∀ d ∈ [d0, d1, d2, d3], d.deep ≤ 3 ∧ d.Zs 20) ∧ Sta H sd sg sc (b + 61) ∧ Tabs Tb H ∧
  ∀ H', Sta H' sd sg sc b → Tabs Tb H' → Q (.bl true) H'
def outC : OutN → OutC
  | .nums _ => .ok
  | .exc C => .err C none
  | .exf C fs => .err C (some fs)
theorem outC_up {K : PySem.W.Frag} {mg : Str → Option Value} (T : Txt K mg) {g0 g1 g2 g3 : D} {C : Addr} {fs : Option (List (Str × V))} (h : outC (nextO T.c_BadAir T.c_BadDegrees T.c_BadWeather T.c_BadSetting g0 g1 g2 g3) = .err C fs) : PySem.W.subIn K (.ref C) (.ref T.c_KeptError) = some true := by
  unfold nextO at h
  split at h
  · split at h
    · split at h
      · split at h
        · cases h
        · cases h
          exact T.u_BadSetting
      · cases h
        exact T.u_BadWeather
    · cases h
      exact T.u_BadDegrees
  · cases h
    exact T.u_BadAir
section
variable {P : Program} {w : World} {K : PySem.W.Frag} {mg : Str → Option Value} {base : Heap} (T : Txt K mg)
theorem ok_ask {c Pt : Addr} {Tb : List (Addr × Str)} (F : FunC K "_law_ask_errors" s_law_ask_errors T.a_law_ask_errors c T.d_law_ask_errors) (TB : TabB base mg c Pt) (hm : (Pt, qAsk) ∈ Tb) (hu : ∀ p ∈ Tb, p.1 = Pt → p.2 = qAsk) :
    FnOk P w K mg base CX0 15 T.a_law_ask_errors T.d_law_ask_errors ["state", "air", "now", "sky", "setting"] (spAE Tb) := by
  refine F.ok sc_law_ask_errors (fun vs H Q E h => ?_) (fun A outer s H vs Q E hr h => ?_)
  · obtain ⟨sd, sg, sc, b, v0, v1, v2, v3, d0, d1, d2, d3, rfl, _⟩ := h
    rfl
  · obtain ⟨sd, sg, sc, b, v0, v1, v2, v3, d0, d1, d2, d3, rfl, hrs, hok, hS, hT, q⟩ := h
    have nd := sc_law_ask_errors.nd
    obtain ⟨oc, od, kV, doc, pm, an, cdv, ct, osl, ed, lk, hcd⟩ := T.F_law_caught.ex
    have hbd := b_law_caught T
    rw [ed] at hbd lk
    have hu4 : (A.deeper (envOfC "_law_ask_errors" (defScope s_law_ask_errors) s.heap.objs.size T.a_law_ask_errors (.ref c))).units + 64 < cLine := by have := hr.un; omega
    have G1 : GivesTo (cxOf CX0 P w K mg base ["state", "air", "now", "sky", "setting", "given", "lap", "at", "wrong", "degree"] "_law_ask_errors" (defScope s_law_ask_errors) T.a_law_ask_errors (.ref c) A outer s H E).nox ["task", "error"] "_law_caught" (defScope s_law_caught) T.a_law_caught cdv (defBody s_law_caught) "task" qAsk (TCaughtD K T.c_KeptError) := caught_givesD T.E_KeptError.g
    refine ⟨_, (pss_cons (ps_set (i := 5) nd rfl (.inr rfl) (pe_lst (pa_cons (pv 1) (pa_cons (pv 2) (pa_cons (pv 3) (pa_cons (pv 4) pa_nil))))))
      (pss_cons (ps_for PassesOwn.never rfl (pi_range1 (by rfl) T.z_range (pa_cons (pe_op op_add pe_int (pe_call (ok_draw T) (hr.mono (by decide)) (by rfl) T.g_law_draw T.F_law_draw.kp (b_law_draw T) .nil pass0 (pa_cons (pv 0) (pa_cons pe_int pa_nil)))) pa_nil)) (pg_name (i := 6) nd rfl (.inl rfl)) (pss_cons (ps_set (i := 7) nd rfl (.inl rfl) (pe_call (ok_draw T) (hr.mono (by decide)) (by rfl) T.g_law_draw T.F_law_draw.kp (b_law_draw T) .nil pass0 (pa_cons (pv 0) (pa_cons pe_int pa_nil))))
      (pss_one (ps_asg (pe_call (ok_spoilt T 7) (hr.mono (by decide)) (by rfl) T.g_law_spoilt T.F_law_spoilt.kp (b_law_spoilt T) .nil pass0 (pa_cons (pv 0) (pa_cons (pe_ix (r := rIxL K) ix_list (pv 5) (pv 7) (fun _ _ => rfl)) pa_nil))) (pg_sub (pv 5) (pv 7) set_list)))))
      (pss_cons (ps_set (i := 8) nd rfl (.inl rfl) (pe_lamcall (T := Tb) (k := 10) (TT := TCaughtD K T.c_KeptError) (t := fun E1 => tCall (spN (okNext T.c_BadAir T.c_BadDegrees T.c_BadWeather T.c_BadSetting)) [] E1 (tCons (tOp (rIxL K) (tVar 5) (tC (.int 0))) (tCons (tOp (rIxL K) (tVar 5) (tC (.int 1))) (tCons (tOp (rIxL K) (tVar 5) (tC (.int 2))) (tCons (tOp (rIxL K) (tVar 5) (tC (.int 3))) tNil))))) (by rfl) T.g_law_caught T.F_law_caught.kp lk hcd hbd sc_law_caught rfl (.inl rfl) G1 TB rfl hm hu (hr.mono (by decide)) (lamS_by (by show lamSB (defScope s_law_ask_errors) _ = true; decide +kernel)) rfl (fun _ _ _ _ _ => rfl) (fun A outer s H E f c' hr => pe_call (E := E) (ok_next T) (hr.mono (by decide)) (by rfl) T.g_next_degrees T.F_next_degrees.kp (b_next_degrees T) .nil (passes_call (takes_of rfl rfl rfl rfl) fun _ _ _ _ h => h) (pa_cons (pe_ix (r := rIxL K) ix_list (pv 5) pe_int (fun _ _ => rfl)) (pa_cons (pe_ix (r := rIxL K) ix_list (pv 5) pe_int (fun _ _ => rfl)) (pa_cons (pe_ix (r := rIxL K) ix_list (pv 5) pe_int (fun _ _ => rfl)) (pa_cons (pe_ix (r := rIxL K) ix_list (pv 5) pe_int (fun _ _ => rfl)) pa_nil)))))))
      (pss_cons (ps_if (pt_not (pt_val (pe_call (ok_lair T) (hr.mono (by decide)) (by rfl) T.g_law_good_air T.F_law_good_air.kp (b_law_good_air T) .nil pass0 (pa_cons (pe_ix (r := rIxL K) ix_list (pv 5) pe_int (fun _ _ => rfl)) pa_nil)))) (pss_one (ps_ret (pe_and (pe_callB call_is2 (by rfl) T.z_isinstance bo_isinstance (pa_cons (pv 8) (pa_cons (pe_glob (v := .ref T.c_BadAir) (by rfl) T.E_BadAir.g rfl) pa_nil))) (pe_one (pe_callB call_is2 (by rfl) T.z_isinstance bo_isinstance (pa_cons (pe_lamcall (T := Tb) (k := 10) (TT := TCaughtD K T.c_KeptError) (t := fun E1 => tCall (spO (okIS T.c_BadAir)) [] E1 (tCons (tOp (rIxL K) (tVar 5) (tC (.int 0))) (tCons (tOp (rIxL K) (tVar 5) (tC (.int 3))) tNil))) (by rfl) T.g_law_caught T.F_law_caught.kp lk hcd hbd sc_law_caught rfl (.inl rfl) G1 TB rfl hm hu (hr.mono (by decide)) (lamS_by (by show lamSB (defScope s_law_ask_errors) _ = true; decide +kernel)) rfl (fun _ _ _ _ _ => rfl) (fun A outer s H E f c' hr => pe_call (E := E) (ok_is_setting T) (hr.mono (by decide)) (by rfl) T.g_is_setting T.F_is_setting.kp (b_is_setting T) .nil (passes_call (takes_of rfl rfl rfl rfl) fun _ _ _ _ h => h) (pa_cons (pe_ix (r := rIxL K) ix_list (pv 5) pe_int (fun _ _ => rfl)) (pa_cons (pe_ix (r := rIxL K) ix_list (pv 5) pe_int (fun _ _ => rfl)) pa_nil)))) (pa_cons (pe_glob (v := .ref T.c_BadAir) (by rfl) T.E_BadAir.g rfl) pa_nil))))))) pss_nil)
      (pss_cons (ps_if (pt_not (pt_val (pe_call (ok_ltup T) (hr.mono (by decide)) (by rfl) T.g_law_is_tuple T.F_law_is_tuple.kp (b_law_is_tuple T) .nil pass0 (pa_cons (pe_ix (r := rIxL K) ix_list (pv 5) pe_int (fun _ _ => rfl)) (pa_cons (pe_callB call_len_seq (by rfl) T.z_len bo_len (pa_cons (pe_ix (r := rIxT K) ix_tup (pe_ix (r := rIxL K) ix_list (pv 5) pe_int (fun _ _ => rfl)) pe_int (fun _ _ => rfl)) pa_nil)) (pa_cons (pe_callB call_len_seq (by rfl) T.z_len bo_len (pa_cons (pe_ix (r := rIxT K) ix_tup (pe_ix (r := rIxL K) ix_list (pv 5) pe_int (fun _ _ => rfl)) pe_int (fun _ _ => rfl)) pa_nil)) pa_nil)))))) (pss_one (ps_ret (pe_callB call_is2 (by rfl) T.z_isinstance bo_isinstance (pa_cons (pv 8) (pa_cons (pe_glob (v := .ref T.c_BadDegrees) (by rfl) T.E_BadDegrees.g rfl) pa_nil))))) pss_nil)
      (pss_cons (ps_if (pt_cmpR (op_neD hu4) (pe_lc (own := [("degree", 9)]) (g := gName 9)  (by rfl) nd (pi_tup (pe_ix (r := rIxL K) ix_list (pv 5) pe_int (fun _ _ => rfl))) (blkOk_by (N := ["state", "air", "now", "sky", "setting", "given", "lap", "at", "wrong", "degree"]) (sc := defScope s_law_ask_errors) (by decide +kernel)) (fun _ _ _ _ _ => (pg_name (i := 9) nd rfl (.inl rfl))) (fun _ _ _ _ _ => (pts_one (pt_not (pt_val (pe_call (ok_lbetw T) (hr.mono (by decide)) (by rfl) T.g_law_between T.F_law_between.kp (b_law_between T) .nil pass0 (pa_cons (pv 9) (pa_cons (pe_un un_neg pe_int) (pa_cons pe_int pa_nil)))))))) (fun _ _ _ _ _ => pe_int)) (pe_lst pa_nil) (nomark _)) (pss_one (ps_ret (pe_callB call_is2 (by rfl) T.z_isinstance bo_isinstance (pa_cons (pv 8) (pa_cons (pe_glob (v := .ref T.c_BadDegrees) (by rfl) T.E_BadDegrees.g rfl) pa_nil))))) pss_nil)
      (pss_cons (ps_if (pt_not (pt_val (pe_call (ok_lbetw T) (hr.mono (by decide)) (by rfl) T.g_law_between T.F_law_between.kp (b_law_between T) .nil pass0 (pa_cons (pe_ix (r := rIxL K) ix_list (pv 5) pe_int (fun _ _ => rfl)) (pa_cons (pe_ix (r := rIxT K) ix_tup (pe_ix (r := rIxT K) ix_tup (pe_ix (r := rIxL K) ix_list (pv 5) pe_int (fun _ _ => rfl)) pe_int (fun _ _ => rfl)) pe_int (fun _ _ => rfl)) (pa_cons (pe_ix (r := rIxT K) ix_tup (pe_ix (r := rIxT K) ix_tup (pe_ix (r := rIxL K) ix_list (pv 5) pe_int (fun _ _ => rfl)) pe_int (fun _ _ => rfl)) pe_int (fun _ _ => rfl)) pa_nil)))))) (pss_one (ps_ret (pe_and (pe_callB call_is2 (by rfl) T.z_isinstance bo_isinstance (pa_cons (pv 8) (pa_cons (pe_glob (v := .ref T.c_BadWeather) (by rfl) T.G_BadWeather rfl) pa_nil))) (pe_one (pe_cmpR op_eq (pe_at (pv 8)) pe_int (nomark _)))))) pss_nil)
      (pss_cons (ps_if (pt_not (pt_val (pe_call (ok_gset T) (hr.mono (by decide)) (by rfl) T.g_law_good_setting T.F_law_good_setting.kp (b_law_good_setting T) .nil pass0 (pa_cons (pe_ix (r := rIxL K) ix_list (pv 5) pe_int (fun _ _ => rfl)) (pa_cons (pe_ix (r := rIxL K) ix_list (pv 5) pe_int (fun _ _ => rfl)) pa_nil))))) (pss_one (ps_ret (pe_and (pe_callB call_is2 (by rfl) T.z_isinstance bo_isinstance (pa_cons (pv 8) (pa_cons (pe_glob (v := .ref T.c_BadSetting) (by rfl) T.E_BadSetting.g rfl) pa_nil))) (pe_one (pe_cmpR op_is_bl (pe_call (E := fun _ _ _ => False) (ok_is_setting T) (hr.mono (by decide)) (by rfl) T.g_is_setting T.F_is_setting.kp (b_is_setting T) .nil (passes_call L2.takes0 fun _ _ _ _ h => h) (pa_cons (pe_ix (r := rIxL K) ix_list (pv 5) pe_int (fun _ _ => rfl)) (pa_cons (pe_ix (r := rIxL K) ix_list (pv 5) pe_int (fun _ _ => rfl)) pa_nil))) pe_bl (nomark _)))))) pss_nil)
      (pss_cons (ps_if (PW.pt (pw_or (pt_cmpR op_notN (pv 8) pe_non (nomark _)) (pw_or1 (pt_cmpR op_isnot_bl (pe_callK (E := fun _ _ _ => False) (ok_is_setting T) (hr.mono (by decide)) (by rfl) T.g_is_setting T.F_is_setting.kp (kb_is_setting T) (passes_call L2.takes0 fun _ _ _ _ h => h) (pa_cons (pe_ix (r := rIxL K) ix_list (pv 5) pe_int (fun _ _ => rfl)) pa_nil) (pk_cons (pe_ix (r := rIxL K) ix_list (pv 5) pe_int (fun _ _ => rfl)) pk_nil)) pe_bl (nomark _))))) (pss_one (ps_ret pe_bl)) pss_nil)
      (pss_one (ps_ret (pe_cmpR (op_eqD hu4) (pe_call (E := fun _ _ _ => False) (ok_next T) (hr.mono (by decide)) (by rfl) T.g_next_degrees T.F_next_degrees.kp (b_next_degrees T) .nil (passes_call L2.takes0 fun _ _ _ _ h => h) (pa_cons (pe_ix (r := rIxL K) ix_list (pv 5) pe_int (fun _ _ => rfl)) (pa_cons (pe_ix (r := rIxL K) ix_list (pv 5) pe_int (fun _ _ => rfl)) (pa_cons (pe_ix (r := rIxL K) ix_list (pv 5) pe_int (fun _ _ => rfl)) (pa_cons (pe_ix (r := rIxL K) ix_list (pv 5) pe_int (fun _ _ => rfl)) pa_nil))))) (pe_call (ok_later T) (hr.mono (by decide)) (by rfl) T.g_law_later T.F_law_later.kp (b_law_later T) .nil pass0 (pa_cons (pe_ix (r := rIxL K) ix_list (pv 5) pe_int (fun _ _ => rfl)) (pa_cons (pe_ix (r := rIxL K) ix_list (pv 5) pe_int (fun _ _ => rfl)) (pa_cons (pe_ix (r := rIxL K) ix_list (pv 5) pe_int (fun _ _ => rfl)) (pa_cons (pe_ix (r := rIxL K) ix_list (pv 5) pe_int (fun _ _ => rfl)) pa_nil))))) (nomark _))))))))))))), ?_⟩
    have lt4 : [v0, v1, v2, v3].length ≤ sizeLine := by show 4 ≤ sizeLine; rw [sizeLine_eq]; decide
    refine s_lstA (g := gName 5) ?_
    refine ⟨v0, rfl, v1, rfl, v2, rfl, v3, rfl, lt4, fun p np => ?_⟩
    obtain ⟨p1, p2, p3⟩ := hS.off np
    have e1 : Ex H (upd H p (.lst [v0, v1, v2, v3])) := Ex.new np
    have hp1 : upd H p (.lst [v0, v1, v2, v3]) p = some (.lst [v0, v1, v2, v3]) := upd_same
    have r1 : RepsS (also (stS sd sg) p) (upd H p (.lst [v0, v1, v2, v3])) [v0, v1, v2, v3] [d0, d1, d2, d3] := hrs.up ((hidP_also np).trans (hidP_ex e1))
    have S1 := hS.up e1
    have T1 := tabs_exs hT hS (.of e1)
    have o1 : OfS (also (stS sd sg) p) sd sg (upd H p (.lst [v0, v1, v2, v3])) := ⟨.inl (.inl rfl), .inl (.inr rfl), fun a' h' n' => h'.elim (fun h' => S1.inS a' h' n') fun h' => by rw [h', hp1] at n'; cases n'⟩
    show tSeq _ _ _ [some (.ref sd), some (v0), some (v1), some (v2), some (v3), some (.ref p), none, none, none, none] _
    generalize upd H p (.lst [v0, v1, v2, v3]) = H1 at e1 hp1 r1 S1 T1 o1
    refine q_forR1D (fun z H2 => 0 ≤ z ∧ z ≤ 3 ∧ Sta H2 sd sg sc (b + 60) ∧ ExS sd sg H1 H2) (fun Q1 q1 => ⟨.ref sd, rfl, sd, sg, sc, b + 60, 3, rfl, by decide, by decide, S1, fun z H2 z0 z3 S2 X2 => ⟨1, z, rfl, rfl, q1 _ H2 ⟨by omega, by omega, S2, X2⟩⟩⟩) fun n H2 ⟨n0, n3, S2, X2⟩ => ?_
    refine q_forR1 (σ := [some (.ref sd), some (v0), some (v1), some (v2), some (v3), some (.ref p), none, none, none, none]) (ea_cons ev_c ea_nil) ⟨n0, by omega⟩ (fun i σ' H' => Sta H' sd sg sc (b + 20 * (3 - i)) ∧ Tabs Tb H' ∧ OfS (also (stS sd sg) p) sd sg H' ∧ (∃ us ds, H' p = some (.lst us) ∧ RepsS (also (stS sd sg) p) H' us ds ∧ us.length = 4 ∧ ∀ d ∈ ds, d.deep ≤ 3 + 2 * i ∧ d.Zs (20 + i)) ∧ ∃ z6 z7, σ' = [some (.ref sd), some (v0), some (v1), some (v2), some (v3), some (.ref p), z6, z7, none, none])
      (fun H3 e3 => ⟨(S2.up e3).less (by omega), tabs_exs T1 S1 (X2.trans (.of e3)), (o1.step S2 X2).up e3, ⟨_, _, e3 _ _ (X2 _ _ hp1 p1 p2), (r1.up (o1.ex X2)).up (hidP_ex e3), rfl, fun d hd => hok d hd⟩, _, _, rfl⟩) (fun i σ' H3 hi ⟨S3, T3, o3, ⟨us, ds, hp3, r3, l3, ok3⟩, z6, z7, es⟩ => ?_) (fun σ' H3 ⟨S3, T3, o3, ⟨us, ds, hp3, r3, l3, ok3⟩, z6, z7, es⟩ => ?_)
    · subst es
      have i3 : i < 3 := by omega
      show tSeq _ _ _ [some (.ref sd), some (v0), some (v1), some (v2), some (v3), some (.ref p), some (.int (i : Int)), z7, none, none] H3
      refine s_lstA (g := gName 7) ?_
      refine ⟨.ref sd, rfl, sd, sg, sc, b + 20 * (3 - (i + 1)) + 19, 4, rfl, by decide, by decide, S3.less (by omega), fun z H4 z0 z4 S4 X4 => ?_⟩
      obtain ⟨k, rfl⟩ : ∃ k : Nat, z = (k : Int) := ⟨z.toNat, by omega⟩
      have kl : k < us.length := by omega
      have hp4 := X4 _ _ hp3 p1 p2
      have o4 := o3.step S4 X4
      have r4 := r3.up (o3.ex X4)
      obtain ⟨dk, hdk, rk⟩ := r4.get (List.getElem?_eq_getElem kl)
      have okk := ok3 dk (List.mem_of_getElem? hdk)
      refine ⟨.ref sd, rfl, .ref p, rfl, .int (k : Int), rfl, p, us, (k : Int), us[k], rfl, rfl, .of hp4, atI_nat (by simp [List.getElem?_eq_getElem kl]), sd, sg, sc, b + 20 * (3 - (i + 1)), 20 + i, 3 + 2 * i, also (stS sd sg) p, us[k], dk, rfl, o4, rk, okk.1, by omega, by omega, by omega, okk.2, S4.less (by omega), fun v' d' H5 r5 dp5 z5 S5 X5 => ?_⟩
      have hp5 := X5 _ _ hp4 p1 p2
      refine ⟨.ref p, rfl, .int (k : Int), rfl, p, us, (k : Int), k, rfl, rfl, hp5, by unfold ixN; simp; omega, S5.upd p1 p2 p3, tabs_upd (tabs_exs (tabs_exs T3 S3 X4) S4 X5) hp5, ⟨o3.d, o3.g, (o4.step S5 X5).i.mut⟩, ⟨us.set k v', ds.set k d', upd_same, (reps_set r5 k (r4.up (o4.ex X5))).up (hidP_mut (.inr rfl)), by rw [List.length_set]; exact l3, fun d hd => ?_⟩, _, _, rfl⟩
      rcases List.mem_or_eq_of_mem_set hd with h | h
      · have := ok3 d h
        exact ⟨by have := this.1; omega, zs_up (by omega) _ this.2⟩
      · subst h
        exact ⟨by omega, zs_up (by omega) _ z5⟩
    subst es
    have S3 := S3.less (c := b) (by omega)
    have ok3 : ∀ d ∈ ds, d.deep ≤ 9 ∧ d.Zs 23 := fun d hd => by
      have := ok3 d hd
      exact ⟨by have := this.1; omega, zs_up (by omega) _ this.2⟩
    have ld : ds.length = 4 := by rw [← r3.length, l3]
    match us, ds, l3, ld, hp3, r3, ok3 with
    | [x0, x1, x2, x3], [g0, g1, g2, g3], _, _, hp3, r3, ok3 =>
    have R3 : Reps H3 [x0, x1, x2, x3] [g0, g1, g2, g3] := r3.up hidP_sub
    have i0 : ∀ {σ : L2.St} {H9 : Hp}, σ[5]? = some (some (.ref p)) → H9 p = some (.lst [x0, x1, x2, x3]) → Ev (tOp (rIxL K) (tVar 5) (tC (.int 0))) σ H9 x0 := fun h hp => ev_op (ev_var h) ev_c (rv_ixL (.of hp) (atI_nat (j := 0) rfl))
    have i1 : ∀ {σ : L2.St} {H9 : Hp}, σ[5]? = some (some (.ref p)) → H9 p = some (.lst [x0, x1, x2, x3]) → Ev (tOp (rIxL K) (tVar 5) (tC (.int 1))) σ H9 x1 := fun h hp => ev_op (ev_var h) ev_c (rv_ixL (.of hp) (atI_nat (j := 1) rfl))
    have i2 : ∀ {σ : L2.St} {H9 : Hp}, σ[5]? = some (some (.ref p)) → H9 p = some (.lst [x0, x1, x2, x3]) → Ev (tOp (rIxL K) (tVar 5) (tC (.int 2))) σ H9 x2 := fun h hp => ev_op (ev_var h) ev_c (rv_ixL (.of hp) (atI_nat (j := 2) rfl))
    have i3 : ∀ {σ : L2.St} {H9 : Hp}, σ[5]? = some (some (.ref p)) → H9 p = some (.lst [x0, x1, x2, x3]) → Ev (tOp (rIxL K) (tVar 5) (tC (.int 3))) σ H9 x3 := fun h hp => ev_op (ev_var h) ev_c (rv_ixL (.of hp) (atI_nat (j := 3) rfl))
    have rp : ∀ {H9 : Hp}, ExtN H3 H9 → H9 p = some (.lst [x0, x1, x2, x3]) ∧ Rep H9 x0 g0 ∧ Rep H9 x1 g1 ∧ Rep H9 x2 g2 ∧ Rep H9 x3 g3 := fun {H9} e => by
      have R := Reps.xn e _ _ R3
      match R with
      | .cons a0 (.cons a1 (.cons a2 (.cons a3 .nil))) => exact ⟨e _ _ hp3 (fun ps z => by cases z), a0, a1, a2, a3⟩
    have sz0 : g0.Sz := zs_sz (by decide) _ (ok3 g0 (by simp)).2
    have sz1 : g1.Sz := zs_sz (by decide) _ (ok3 g1 (by simp)).2
    have sz2 : g2.Sz := zs_sz (by decide) _ (ok3 g2 (by simp)).2
    have sz3 : g3.Sz := zs_sz (by decide) _ (ok3 g3 (by simp)).2
    have z3s : g3.Zs 60 := zs_up (by decide) _ (ok3 g3 (by simp)).2
    have fin : ∀ H9, ExtN H3 H9 → Tabs Tb H9 → Q (.bl true) H9 := fun H9 e9 T9 => q H9 (S3.xn e9) T9
    clear hok hrs r1 R3 r3 ok3
    -- what next_degrees raises is caught
    let o := outC (nextO T.c_BadAir T.c_BadDegrees T.c_BadWeather T.c_BadSetting g0 g1 g2 g3)
    refine s_lstA (g := gName 8) (σ := [some (.ref sd), some (v0), some (v1), some (v2), some (v3), some (.ref p), z6, z7, none, none]) (lam_anyD (o := o) T3 (fun C fs h => ?_) (fun H4 e4 E1 R k1 k2 k3 => ?_) fun wr H4 e4 T4 kw => ?_)
    · exact T.caught (outC_up T h)
    · obtain ⟨hp4, a0, a1, a2, a3⟩ := rp e4
      refine ea_cons (i0 (σ := [some (.ref sd), some (v0), some (v1), some (v2), some (v3), some (.ref p), z6, z7, none, none]) rfl hp4) (ea_cons (i1 rfl hp4) (ea_cons (i2 rfl hp4) (ea_cons (i3 rfl hp4) ea_nil))) H4 (Ex.refl _) _ fun H5 e5 => ⟨nextO T.c_BadAir T.c_BadDegrees T.c_BadWeather T.c_BadSetting g0 g1 g2 g3, ⟨x0, g0, x1, g1, x2, g2, x3, g3, rfl, a0.up e5, sz0, a1.up e5, sz1, a2.up e5, a3.up e5, sz3, rfl⟩, fun H6 e6 => ?_⟩
      have E := e5.trans e6
      revert k1 k2 k3
      show (o = .ok → _) → _
      simp only [o]
      cases nextO T.c_BadAir T.c_BadDegrees T.c_BadWeather T.c_BadSetting g0 g1 g2 g3 with
      | nums l => exact fun k1 k2 k3 z H7 e7 r7 => k1 rfl z H7 (E.trans e7)
      | exc C => exact fun k1 k2 k3 => k2 C rfl H6 E
      | exf C fs => exact fun k1 k2 k3 dx H7 e7 hd => k3 C fs rfl dx H7 (E.trans e7) hd
    show tSeq _ _ _ [some (.ref sd), some (v0), some (v1), some (v2), some (v3), some (.ref p), z6, z7, some (wr), none] H4
    obtain ⟨hp4, a0, a1, a2, a3⟩ := rp e4
    have ex : ∀ {H9 : Hp}, Ex H4 H9 → ExtN H3 H9 := fun e => e4.trans (ExtN.of e)
    refine s_ifX (σ := [some (.ref sd), some (v0), some (v1), some (v2), some (v3), some (.ref p), z6, z7, some (wr), none]) (b := !g0.air) (et_not (et_B (ev_sp stb_air (ea_cons (i0 rfl hp4) ea_nil) ⟨x0, g0, rfl, a0, sz0, rfl⟩))) (fun hb H5 e5 => ?_) (fun hb H5 e5 => ?_)
    · have ho : o = .err T.c_BadAir none := by
        simp only [o]
        unfold nextO
        rw [if_neg (by rw [not_t hb]; decide)]
        rfl
      rw [ho] at kw
      refine s_retW ?_
      refine ev_isErr (σ := [some (.ref sd), some (v0), some (v1), some (v2), some (v3), some (.ref p), z6, z7, some (wr), none]) (ev_var (i := 8) rfl) (kw.up e5) T.E_BadAir.ex T.q_BadAir H5 (Ex.refl _) _ fun H6 e6 => ⟨true, rfl, iteT ?_⟩
      have E6 := e5.trans e6
      refine lam_anyD (o := .err T.c_BadAir none) (σ := [some (.ref sd), some (v0), some (v1), some (v2), some (v3), some (.ref p), z6, z7, some (wr), none]) (T4.ext E6) (fun C fs h => ?_) (fun H7 e7 E1 R k1 k2 k3 => ?_) fun x H7 e7 T7 k7 => ?_
      · cases h
        exact T.caught T.u_BadAir
      · obtain ⟨hp7, b0, b1, b2, b3⟩ := rp ((ex E6).trans e7)
        refine ea_cons (i0 (σ := [some (.ref sd), some (v0), some (v1), some (v2), some (v3), some (.ref p), z6, z7, some (wr), none]) rfl hp7) (ea_cons (i3 rfl hp7) ea_nil) H7 (Ex.refl _) _ fun H8 e8 => ⟨.exc T.c_BadAir, ⟨x0, g0, x3, g3, rfl, b0.up e8, sz0, b3.up e8, sz3, ?_⟩, fun H9 e9 => k2 _ rfl H9 (e8.trans e9)⟩
        rw [if_neg (by rw [not_t hb]; decide)]
      · obtain ⟨ax, rfl, hax⟩ := k7
        exact .inl ⟨ax, T.c_BadAir, T.c_BadAir, true, none, rfl, .inl rfl, hax, T.E_BadAir.ex, T.q_BadAir, fin H7 ((ex E6).trans e7) T7⟩
    have hair : g0.air = true := not_f hb
    obtain ⟨rs, ls, hs, m, lo, hi, f, mv, Ai⟩ := air_is hair
    have hp5 := e5 _ _ hp4
    have b0 := a0.up e5
    have b0' := b0
    rw [Ai.eq] at b0'
    obtain ⟨aa, w0, w1, w2, w3, w4, w5, ea0, haa, k0, k1, k2, k3, k4, k5⟩ := b0'.t6
    obtain ⟨ra, rvs, rfl, hra, hrvs⟩ := k1.tupD
    obtain ⟨a5, y0, y1, y2, y3, rfl, ha5, l0, l1, l2, l3⟩ := k5.t4
    obtain rfl := l0.intD
    obtain rfl := l1.intD
    have lr : rvs.length = rs.length := hrvs.length
    have nr : (g0.nth 1).rows.length = rs.length := by rw [Ai.eq]; rfl
    have lo5 : loD5 g0 = lo := by rw [Ai.eq]; rfl
    have hi5 : hiD5 g0 = hi := by rw [Ai.eq]; rfl
    have ix0 : ∀ {σ : L2.St} {H9 : Hp}, σ[5]? = some (some (.ref p)) → H9 p = some (.lst [x0, x1, x2, x3]) → Ev (tOp (rIxL K) (tVar 5) (tC (.int 0))) σ H9 (.ref aa) := fun h hp => ea0 ▸ i0 h hp
    have bad1 : (g1.degs rs.length = false) → o = .err T.c_BadDegrees none := fun h => by
      simp only [o]
      unfold nextO
      rw [if_pos hair, nr, if_neg (by rw [h]; decide)]
      rfl
    refine s_ifX (σ := [some (.ref sd), some (v0), some (v1), some (v2), some (v3), some (.ref p), z6, z7, some (wr), none]) (b := !isTup g1 (rs.length : Int) (rs.length : Int)) (et_not (et_B (ev_sp stb_tup (ea_cons (i1 rfl hp5) (ea_cons (ev_is (ev_lenT (ev_ixT (j := 1) (ix0 rfl hp5) haa rfl) (.inr hra.rd)) (by rw [lr])) (ea_cons (ev_is (ev_lenT (ev_ixT (j := 1) (ix0 rfl hp5) haa rfl) (.inr hra.rd)) (by rw [lr])) ea_nil))) ⟨x1, g1, _, _, rfl, a1.up e5, rfl⟩))) (fun hb2 H6 e6 => ?_) (fun hb2 H6 e6 => ?_)
    · have ho := bad1 (by unfold D.degs; rw [not_t hb2, Bool.false_and])
      rw [ho] at kw
      exact s_ret (σ := [some (.ref sd), some (v0), some (v1), some (v2), some (v3), some (.ref p), z6, z7, some (wr), none]) (v := .bl true) (ev_isErr (ev_var (i := 8) rfl) (kw.up (e5.trans e6)) T.E_BadDegrees.ex T.q_BadDegrees) fun H7 e7 => fin H7 (ex ((e5.trans e6).trans e7)) (T4.ext ((e5.trans e6).trans e7))
    have ht := not_f hb2
    obtain ⟨ds1, rfl, t1, t2⟩ := isTup_len ht
    have E6 := e5.trans e6
    have hp6 := e6 _ _ hp5
    refine s_ifX (σ := [some (.ref sd), some (v0), some (v1), some (v2), some (v3), some (.ref p), z6, z7, some (wr), none]) (b := !ds1.all fun d => isBetw d (-1000) 1000) (et_test (ev_is (ev_neNilI (S := S0) (lcI (ds := ds1) (fun d => !isBetw d (-1000) 1000) (fun _ => 1) in0 (its_tup (es_of (i1 rfl hp6) ((a1.up E6).up hid0))) (by have := Ai.r3; omega) fun S' y d2 H7 hd2 in7 e7 x7 ry => ⟨[some (.ref sd), some (v0), some (v1), some (v2), some (v3), some (.ref p), z6, z7, some (wr), some (y)], fun Q h => h, rfl, et_not (et_B (ev_sp stb_betw (ea_cons (ev_var (i := 9) rfl) (ea_cons (ev_un ev_c ru_neg) (ea_cons ev_c ea_nil))) ⟨y, d2, -1000, 1000, rfl, ry.up hidP_sub, rfl⟩)), fun _ => ev_c⟩)) (by rw [none_off]))) (fun hb3 H7 e7 => ?_) (fun hb3 H7 e7 => ?_)
    · have ho := bad1 (by unfold D.degs; rw [show (D.tup ds1).rows = ds1 from rfl, not_t hb3, Bool.and_false])
      rw [ho] at kw
      exact s_ret (σ := [some (.ref sd), some (v0), some (v1), some (v2), some (v3), some (.ref p), z6, z7, some (wr), none]) (v := .bl true) (ev_isErr (ev_var (i := 8) rfl) (kw.up (E6.trans e7)) T.E_BadDegrees.ex T.q_BadDegrees) fun H8 e8 => fin H8 (ex ((E6.trans e7).trans e8)) (T4.ext ((E6.trans e7).trans e8))
    have hdeg : (D.tup ds1).degs rs.length = true := by unfold D.degs; rw [ht, show (D.tup ds1).rows = ds1 from rfl, not_f hb3]; rfl
    have E7 := E6.trans e7
    have e57 := e6.trans e7
    have hp7 := e7 _ _ hp6
    refine s_ifX (σ := [some (.ref sd), some (v0), some (v1), some (v2), some (v3), some (.ref p), z6, z7, some (wr), none]) (b := !isBetw g2 lo hi) (et_not (et_B (ev_sp stb_betw (ea_cons (i2 rfl hp7) (ea_cons (ev_ixT (j := 0) (ev_ixT (j := 5) (ix0 rfl hp7) (haa.up e57) rfl) (ha5.up e57) rfl) (ea_cons (ev_ixT (j := 1) (ev_ixT (j := 5) (ix0 rfl hp7) (haa.up e57) rfl) (ha5.up e57) rfl) ea_nil))) ⟨x2, g2, lo, hi, rfl, a2.up E7, rfl⟩))) (fun hb4 H8 e8 => ?_) (fun hb4 H8 e8 => ?_)
    · have ho : o = .err T.c_BadWeather (some [("at", .int 0)]) := by
        simp only [o]
        unfold nextO
        rw [if_pos hair, nr, if_pos hdeg, lo5, hi5, if_neg (by rw [not_t hb4]; decide)]
        rfl
      rw [ho] at kw
      have kw8 := kw.up (E7.trans e8)
      exact s_ret (σ := [some (.ref sd), some (v0), some (v1), some (v2), some (v3), some (.ref p), z6, z7, some (wr), none]) (v := .bl true) (ev_is (ev_andV (a := true) (ev_isErr (ev_var (i := 8) rfl) kw8 T.K_BadWeather T.q_BadWeather) fun _ => ev_op (ev_at (ev_var (i := 8) rfl) kw8 T.X_BadWeather T.n_BadWeather (v := .int 0) rfl) ev_c (rv_eq rfl)) rfl) fun H9 e9 => fin H9 (ex ((E7.trans e8).trans e9)) (T4.ext ((E7.trans e8).trans e9))
    have hw := not_f hb4
    have E8 := E7.trans e8
    have hp8 := e8 _ _ hp7
    refine s_ifX (σ := [some (.ref sd), some (v0), some (v1), some (v2), some (v3), some (.ref p), z6, z7, some (wr), none]) (b := !g3.setg (hN g0) (dN g0)) (et_not (et_B (ev_sp stb_gs (ea_cons (i0 rfl hp8) (ea_cons (i3 rfl hp8) ea_nil)) ⟨x0, g0, x3, g3, rfl, a0.up E8, hair, a3.up E8, z3s, rfl⟩))) (fun hb5 H9 e9 => ?_) (fun hb5 H9 e9 => ?_)
    · have ho : o = .err T.c_BadSetting none := by
        simp only [o]
        unfold nextO
        rw [if_pos hair, nr, if_pos hdeg, lo5, hi5, if_pos hw, if_neg (by rw [not_t hb5]; decide)]
        rfl
      rw [ho] at kw
      have E9 := E8.trans e9
      have hp9 := e9 _ _ hp8
      exact s_ret (σ := [some (.ref sd), some (v0), some (v1), some (v2), some (v3), some (.ref p), z6, z7, some (wr), none]) (v := .bl true) (ev_is (ev_andV (a := true) (ev_isErr (ev_var (i := 8) rfl) (kw.up E9) T.E_BadSetting.ex T.q_BadSetting) fun _ => ev_op (z := .bl (decide (g3.setg (hN g0) (dN g0) = false))) (ev_callO (ea_cons (i0 rfl hp9) (ea_cons (i3 rfl hp9) ea_nil)) fun H10 e10 => ⟨x0, g0, x3, g3, rfl, (a0.up E9).up e10, sz0, (a3.up E9).up e10, sz3, by rw [if_pos hair]⟩) ev_c fun H1 e Q k => ⟨_, _, rfl, rfl, k H1 (Ex.refl _)⟩) (by rw [not_t hb5]; rfl)) fun H10 e10 => fin H10 (ex (E9.trans e10)) (T4.ext (E9.trans e10))
    have hset := not_f hb5
    have E9 := E8.trans e9
    have hp9 := e9 _ _ hp8
    have hnx : nextO T.c_BadAir T.c_BadDegrees T.c_BadWeather T.c_BadSetting g0 (.tup ds1) g2 g3 = .nums (later g0 (numsD (.tup ds1)) g2.num (txtsD (g3.nth 0)) (txtsD (g3.nth 1))) := by
      unfold nextO
      rw [if_pos hair, nr, if_pos hdeg, lo5, hi5, if_pos hw, if_pos hset]
    have ho : o = .ok := by
      simp only [o]
      rw [hnx]
      rfl
    rw [ho] at kw
    have ew : wr = .non := kw
    subst ew
    refine s_ifX (σ := [some (.ref sd), some (v0), some (v1), some (v2), some (v3), some (.ref p), z6, z7, some (.non), none]) (b := false || !decide (true = true)) (et_or (et_test (ev_is (ev_op (ev_var (i := 8) rfl) ev_c rv_notN) (by rfl))) fun _ => et_test (ev_op (fun H1 e Q k => ?_) ev_c fun H1 e Q k => ⟨_, _, rfl, rfl, k H1 (Ex.refl _)⟩)) (fun h => by cases h) (fun _ H10 e10 => ?_)
    · have EE := E9.trans e
      refine ea_cons (i0 (σ := [some (.ref sd), some (v0), some (v1), some (v2), some (v3), some (.ref p), z6, z7, some (.non), none]) rfl (e _ _ hp9)) ea_nil H1 (Ex.refl _) _ fun H2 e2 => ea_cons (i3 (σ := [some (.ref sd), some (v0), some (v1), some (v2), some (v3), some (.ref p), z6, z7, some (.non), none]) rfl ((e.trans e2) _ _ hp9)) ea_nil H2 (Ex.refl _) _ fun H3' e3 => ⟨.ret (.bl true), ⟨x0, g0, x3, g3, rfl, (a0.up EE).up (e2.trans e3), sz0, (a3.up EE).up (e2.trans e3), sz3, by rw [if_pos hair, hset]⟩, fun H4' e4' => k H4' ((e2.trans e3).trans e4')⟩
    have E10 := E9.trans e10
    have hp10 := e10 _ _ hp9
    obtain ⟨gd, gl, gb⟩ := degs_is hdeg
    obtain ⟨gs, _⟩ := setg_is hset
    have gw := betw_int hw
    have wb : -40 ≤ g2.num ∧ g2.num ≤ 40 := by
      have h1 := gw.2
      have h2 := Ai.s1
      have h3 := Ai.s5
      omega
    have eas : ∀ {H1 : Hp}, H1 p = some (.lst [x0, x1, x2, x3]) → EvA (tCons (tOp (rIxL K) (tVar 5) (tC (.int 0))) (tCons (tOp (rIxL K) (tVar 5) (tC (.int 1))) (tCons (tOp (rIxL K) (tVar 5) (tC (.int 2))) (tCons (tOp (rIxL K) (tVar 5) (tC (.int 3))) tNil)))) [some (.ref sd), some (v0), some (v1), some (v2), some (v3), some (.ref p), z6, z7, some (.non), none] H1 [x0, x1, x2, x3] := fun h => ea_cons (i0 rfl h) (ea_cons (i1 rfl h) (ea_cons (i2 rfl h) (ea_cons (i3 rfl h) ea_nil)))
    refine s_ret (σ := [some (.ref sd), some (v0), some (v1), some (v2), some (v3), some (.ref p), z6, z7, some (.non), none]) (v := .bl true) (ev_eqS (S := S0) (d := itup (later g0 (numsD (.tup ds1)) g2.num (txtsD (g3.nth 0)) (txtsD (g3.nth 1)))) (fun H1 e Q k => ?_) (fun H1 e Q k => ?_) ?_) fun H11 e11 => fin H11 (ex (E10.trans e11)) (T4.ext (E10.trans e11))
    · have EE := E10.trans e
      refine eas (e _ _ hp10) H1 (Ex.refl _) _ fun H2 e2 => ⟨_, ⟨x0, g0, x1, .tup ds1, x2, g2, x3, g3, rfl, (a0.up EE).up e2, sz0, (a1.up EE).up e2, sz1, (a2.up EE).up e2, (a3.up EE).up e2, sz3, rfl⟩, fun H3' e3 => ?_⟩
      rw [hnx]
      exact fun z H4' e4' r4 => k z H4' ((e2.trans e3).trans e4') (r4.up hid0)
    · have EE := E10.trans e
      refine eas (e _ _ hp10) H1 (Ex.refl _) _ fun H2 e2 => ?_
      have c2 := (a2.up EE).up e2
      rw [gw.1] at c2
      obtain rfl := c2.intD
      have c1 := (a1.up EE).up e2
      rw [gd] at c1
      have c3 := (a3.up EE).up e2
      rw [gs] at c3
      exact ⟨x0, g0, x1, numsD (.tup ds1), g2.num, x3, _, _, rfl, (a0.up EE).up e2, hair, c1, by rw [gl, nr], gb, wb.1, wb.2, c3, fun z H' e' r' => k z H' (e2.trans e') (r'.up hid0)⟩
    · refine ⟨?_, ?_⟩
      · unfold itup D.pk
        exact pks_iff.mpr fun d hd => by
          obtain ⟨i, _, rfl⟩ := List.mem_map.mp hd
          exact (leaf_int i).1
      · unfold itup D.deep
        have := deeps_le (n := 0) (ds := (later g0 (numsD (.tup ds1)) g2.num (txtsD (g3.nth 0)) (txtsD (g3.nth 1))).map D.int) fun d hd => by
          obtain ⟨i, _, rfl⟩ := List.mem_map.mp hd
          exact (leaf_int i).2
        omega
end
end Kx

set_option Elab.async false
set_option linter.all false
set_option maxRecDepth 100000
set_option maxHeartbeats 400000
namespace Kx
open PySem PySem.Spec PyProof.Rows L2 Evl
/-! ## what is warmer stays warmer -/
theorem sum_le {f g : D → Int} : ∀ {ls : List D}, (∀ x ∈ ls, f x ≤ g x) → (ls.map f).sum ≤ (ls.map g).sum
  | [], _ => Int.le_refl _
  | x :: r, h => by
    have a := h x List.mem_cons_self
    have b := sum_le (ls := r) fun y hy => h y (List.mem_cons_of_mem _ hy)
    rw [List.map_cons, List.map_cons, List.sum_cons, List.sum_cons]
    omega
theorem part_le {p q : D → Bool} {f : D → Int} (pq : ∀ x, p x = true → q x = true) : ∀ {ls : List D}, (∀ x ∈ ls, 0 ≤ f x) → ((ls.filter p).map f).sum ≤ ((ls.filter q).map f).sum
  | [], _ => Int.le_refl _
  | x :: r, h => by
    have a := h x List.mem_cons_self
    have b := part_le (ls := r) pq fun y hy => h y (List.mem_cons_of_mem _ hy)
    cases hp : p x with
    | true =>
      rw [List.filter_cons_of_pos hp, List.filter_cons_of_pos (pq x hp), List.map_cons, List.map_cons, List.sum_cons, List.sum_cons]
      omega
    | false =>
      rw [List.filter_cons_of_neg (by rw [hp]; decide)]
      cases hq : q x with
      | true =>
        rw [List.filter_cons_of_pos hq, List.map_cons, List.sum_cons]
        omega
      | false =>
        rw [List.filter_cons_of_neg (by rw [hq]; decide)]
        exact b
theorem val_le {ns : List Str} {dg eg : List Int} {w u : Int} (hl : dg.length = eg.length) (h : ∀ (i : Nat) (a b : Int), dg[i]? = some a → eg[i]? = some b → a ≤ b) (wu : w ≤ u) (n : Str) : valA ns dg w n ≤ valA ns eg u n := by
  unfold valA
  split
  · exact wu
  · rw [List.getD_eq_getElem?_getD, List.getD_eq_getElem?_getD]
    by_cases lt : ns.idxOf n < dg.length
    · have e1 : dg[ns.idxOf n]? = some dg[ns.idxOf n] := List.getElem?_eq_getElem lt
      have lt2 : ns.idxOf n < eg.length := by omega
      have e2 : eg[ns.idxOf n]? = some eg[ns.idxOf n] := List.getElem?_eq_getElem lt2
      rw [e1, e2]
      exact h _ _ _ e1 e2
    · rw [List.getElem?_eq_none (by omega), List.getElem?_eq_none (by omega)]
      exact Int.le_refl _
theorem step_le {d : D} {rs ls hs : List D} {m lo hi f mv : Int} (A : IsA d rs ls hs m lo hi f mv) {dg eg : List Int} {w u : Int} {on fr : List Str} (hl : dg.length = eg.length) (h : ∀ (i : Nat) (a b : Int), dg[i]? = some a → eg[i]? = some b → a ≤ b) (wu : w ≤ u) {n : Str} (mn : n ∈ nmsD rs) :
    stepAt (nmsD rs) dg w on fr m ls hs n ≤ stepAt (nmsD rs) eg u on fr m ls hs n := by
  have m1 := A.m1
  have sh : ∀ x ∈ ls, 0 ≤ shareOf x := fun x hx => by
    obtain ⟨a1, b1, s1, n1, rfl, _, _, _, q1, _⟩ := leak_shape (A.la x hx)
    show 0 ≤ s1
    omega
  have le1 : ((lk ls fr n).map fun x => shareOf x * valA (nmsD rs) dg w x.oth).sum ≤ ((lk ls fr n).map fun x => shareOf x * valA (nmsD rs) eg u x.oth).sum := sum_le fun x hx => Int.mul_le_mul_of_nonneg_left (val_le hl h wu _) (sh x (List.mem_filter.mp hx).1)
  have le2 : ((lk ls fr n).map shareOf).sum ≤ m := by
    refine Int.le_trans (part_le (q := isFrom n) (fun x hp => ?_) sh) (A.lo_ n mn)
    unfold fromR at hp
    exact ((Bool.and_eq_true _ _).mp hp).1
  have le3 : valA (nmsD rs) dg w n * (m - ((lk ls fr n).map shareOf).sum) ≤ valA (nmsD rs) eg u n * (m - ((lk ls fr n).map shareOf).sum) := Int.mul_le_mul_of_nonneg_right (val_le hl h wu n) (by omega)
  unfold stepAt
  exact Int.ediv_le_ediv (by omega) (by omega)
theorem later_le {d : D} (hair : d.air = true) {dg eg : List Int} {w u : Int} {on fr : List Str} (hl : dg.length = eg.length) (h : ∀ (i : Nat) (a b : Int), dg[i]? = some a → eg[i]? = some b → a ≤ b) (wu : w ≤ u) :
    (later d dg w on fr).length = (later d eg u on fr).length ∧ ∀ (i : Nat) (a b : Int), (later d dg w on fr)[i]? = some a → (later d eg u on fr)[i]? = some b → a ≤ b := by
  obtain ⟨rs, ls, hs, m, lo, hi, f, mv, A⟩ := air_is hair
  have e1 : ∀ (dg : List Int) (w : Int), later d dg w on fr = (nmsD rs).map (stepAt (nmsD rs) dg w on fr m ls hs) := fun dg w => by rw [A.eq]; rfl
  rw [e1, e1]
  refine ⟨by rw [List.length_map, List.length_map], fun i a b ha hb => ?_⟩
  rw [List.getElem?_map] at ha hb
  cases hn : (nmsD rs)[i]? with
  | none => rw [hn] at ha; cases ha
  | some n =>
    rw [hn] at ha hb
    rw [← Option.some.inj ha, ← Option.some.inj hb]
    exact step_le A hl h wu (List.mem_of_getElem? hn)
end Kx

set_option Elab.async false
set_option linter.all false
set_option maxRecDepth 100000
set_option maxHeartbeats 400000
namespace Kx
open PySem PySem.Spec PyProof.Rows L2 Evl
open LamX
/-! ## for the law itself -/
theorem nms_len {s : Str} (h : nmS s = true) : s.length ≤ 8 := by
  unfold nmS at h
  rw [Bool.and_eq_true, Bool.and_eq_true, Bool.and_eq_true] at h
  exact of_decide_eq_true h.1.1.2
theorem str_zs {s : Str} (h : s.length ≤ 20) : (D.str s).deep ≤ 0 ∧ (D.str s).Zs 20 := ⟨by unfold D.deep; exact Nat.le_refl _, by unfold D.Zs; exact h⟩
theorem int_zs (i : Int) : (D.int i).deep ≤ 0 ∧ (D.int i).Zs 20 := ⟨by unfold D.deep; exact Nat.le_refl _, by unfold D.Zs; trivial⟩
theorem non_zs : (D.non).deep ≤ 0 ∧ (D.non).Zs 20 := ⟨by unfold D.deep; exact Nat.le_refl _, by unfold D.Zs; trivial⟩
theorem air_small {d : D} (h : d.air = true) : d.deep ≤ 3 ∧ d.Zs 20 := by
  obtain ⟨rs, ls, hs, m, lo, hi, f, mv, A⟩ := air_is h
  have up : ∀ {n k : Nat} {x : D}, x.deep ≤ n ∧ x.Zs 20 → n ≤ k → x.deep ≤ k ∧ x.Zs 20 := fun h l => ⟨Nat.le_trans h.1 l, h.2⟩
  have nmR : ∀ n ∈ nmsD rs, n.length ≤ 8 := fun n hn => by
    obtain ⟨x, hx, rfl⟩ := List.mem_map.mp hn
    obtain ⟨n, _, _, _, rfl, hn, _⟩ := room_shape (A.ra x hx)
    exact nms_len hn
  have rr : (D.tup rs).deep ≤ 2 ∧ (D.tup rs).Zs 20 := RowD.tup (n := 1) ⟨by have := A.r3; omega, fun x hx => by
    obtain ⟨n, a, b, c, rfl, hn, _⟩ := room_shape (A.ra x hx)
    exact RowD.tup (n := 0) ⟨by simp, fun y hy => by
      simp only [List.mem_cons, List.not_mem_nil, or_false] at hy
      rcases hy with rfl | rfl | rfl | rfl
      · exact str_zs (by have := nms_len hn; omega)
      · exact int_zs _
      · exact int_zs _
      · exact int_zs _⟩⟩
  have ll : (D.tup ls).deep ≤ 2 ∧ (D.tup ls).Zs 20 := RowD.tup (n := 1) ⟨by have := A.l6; omega, fun x hx => by
    obtain ⟨a, b, s, n, rfl, ma, mb, _, _, _, hn⟩ := leak_shape (A.la x hx)
    exact RowD.tup (n := 0) ⟨by simp, fun y hy => by
      simp only [List.mem_cons, List.not_mem_nil, or_false] at hy
      rcases hy with rfl | rfl | rfl | rfl
      · exact str_zs (by have := nmR a ma; omega)
      · rcases mb with mb | rfl
        · exact str_zs (by have := nmR b mb; omega)
        · exact str_zs (by decide)
      · exact int_zs _
      · rcases hn with rfl | ⟨w, rfl, hw⟩
        · exact non_zs
        · exact str_zs (by have := nms_len hw; omega)⟩⟩
  have hh : (D.tup hs).deep ≤ 2 ∧ (D.tup hs).Zs 20 := RowD.tup (n := 1) ⟨by have := A.h3; omega, fun x hx => by
    obtain ⟨n, a, g, rfl, hn, ma, _⟩ := heat_shape (A.ha x hx)
    exact RowD.tup (n := 0) ⟨by simp, fun y hy => by
      simp only [List.mem_cons, List.not_mem_nil, or_false] at hy
      rcases hy with rfl | rfl | rfl
      · exact str_zs (by have := nms_len hn; omega)
      · exact str_zs (by have := nmR a ma; omega)
      · exact int_zs _⟩⟩
  have ww : (D.tup [.int lo, .int hi, .int f, .int mv]).deep ≤ 1 ∧ (D.tup [.int lo, .int hi, .int f, .int mv]).Zs 20 := RowD.tup (n := 0) ⟨by simp, fun y hy => by
    simp only [List.mem_cons, List.not_mem_nil, or_false] at hy
    rcases hy with rfl | rfl | rfl | rfl <;> exact int_zs _⟩
  rw [A.eq]
  exact RowD.tup (n := 2) ⟨by simp, fun y hy => by
    simp only [List.mem_cons, List.not_mem_nil, or_false] at hy
    rcases hy with rfl | rfl | rfl | rfl | rfl | rfl
    · exact up (str_zs (by decide)) (by decide)
    · exact rr
    · exact up (int_zs _) (by decide)
    · exact ll
    · exact hh
    · exact up ww (by decide)⟩
theorem itup_small {l : List Int} (h : l.length ≤ 20) : (itup l).deep ≤ 3 ∧ (itup l).Zs 20 := by
  have := RowD.tup (n := 0) (m := 20) (ds := l.map D.int) ⟨by rw [List.length_map]; exact h, fun y hy => by
    obtain ⟨i, _, rfl⟩ := List.mem_map.mp hy
    exact int_zs i⟩
  exact ⟨Nat.le_trans this.1 (by decide), this.2⟩
theorem setD_small {on fr hs dn : List Str} (h : D.setg hs dn (.tup [.tup (on.map D.str), .tup (fr.map D.str)]) = true) (l1 : on.length ≤ 3) (l2 : fr.length ≤ 6) (k1 : ∀ n ∈ hs, n.length ≤ 8) (k2 : ∀ n ∈ dn, n.length ≤ 8) : (D.tup [.tup (on.map D.str), .tup (fr.map D.str)]).deep ≤ 3 ∧ (D.tup [.tup (on.map D.str), .tup (fr.map D.str)]).Zs 20 := by
  have row : ∀ (ss ns : List Str), ss.length ≤ 6 → (∀ n ∈ ns, n.length ≤ 8) → D.named ns (.tup (ss.map D.str)) = true → (D.tup (ss.map D.str)).deep ≤ 1 ∧ (D.tup (ss.map D.str)).Zs 20 := fun ss ns l k h => RowD.tup (n := 0) ⟨by rw [List.length_map]; omega, fun y hy => by
    unfold D.named at h
    simp only [Bool.and_eq_true] at h
    have := am_str (List.all_eq_true.mp h.1 y hy)
    rw [this.1]
    exact str_zs (by have := k _ this.2; omega)⟩
  rw [setg_2, Bool.and_eq_true] at h
  have a := row on hs (by omega) k1 h.1
  have b := row fr dn l2 k2 h.2
  have := RowD.tup (n := 1) (m := 20) (ds := [.tup (on.map D.str), .tup (fr.map D.str)]) ⟨by simp, fun y hy => by
    simp only [List.mem_cons, List.not_mem_nil, or_false] at hy
    rcases hy with rfl | rfl
    · exact a
    · exact b⟩
  exact ⟨Nat.le_trans this.1 (by decide), this.2⟩
section
variable {K : PySem.W.Frag} {σ : L2.St} {H : Hp} {t u : TT} {tu tz : TS} {D0 : Ends} {ta tb tl te : TE}
theorem q_ifM (M : L2.St → Hp → Prop) (k : ∀ σ' H', M σ' H' → tz D0 σ' H') (h : ∀ N : L2.St → Hp → Prop, (∀ σ' H', M σ' H' → N σ' H') → t σ H fun b H1 => if b = true then tu { D0 with nx := N } σ H1 else N σ H1) : tSeq (tIfS t tu tNext) tz D0 σ H := h (tz D0) k
theorem ev_spK {ok : OkF} (st : Stb ok) {gV : List V → List V → List V} {tc tk : TA} {E : XK} {vs zs : List V} {z : V} (ha : EvA tc σ H vs) (hb : EvA tk σ H zs) (k : ok (gV vs zs) H z) : Ev (tCallK (spX ok) gV E tc tk) σ H z := fun H1 e Q q => ha H1 e _ fun H2 e2 => hb H2 (e.trans e2) _ fun H3 e3 => ⟨z, st _ _ _ _ ((e.trans e2).trans e3) k, fun H4 e4 => q H4 ((e2.trans e3).trans e4)⟩
/-- [te for .. in a tuple], each item drawn -/
theorem lc_draws {i : Nat} {a : Addr} {vs : List V} {sd sg sc : Addr} {b : Nat} {ok : Nat → Int → Prop} {Q : VK} (h : Ev tl σ H (.ref a)) (ha : TupS H a vs) (hS : Sta H sd sg sc (b + vs.length)) (few : vs.length ≤ 100)
    (each : ∀ (j : Nat) (x : V) (H' : Hp) (b' : Nat), vs[j]? = some x → Sta H' sd sg sc (b' + 1) → ExS sd sg H H' → ∀ Q1 : VK, (∀ z H2, ok j z → Sta H2 sd sg sc b' → ExS sd sg H' H2 → Q1 (.int z) H2) → te ((σ.set i none).set i (some x)) H' Q1)
    (q : ∀ p (zs : List Int) H', H p = none → H' p = some (.lst (zs.map V.int)) → zs.length = vs.length → (∀ j z, zs[j]? = some z → ok j z) → Sta H' sd sg sc b → ExS sd sg H H' → Q (.ref p) H') : tLc (iTup K tl) (gName i) tYes te [i] σ H Q :=
  h H (Ex.refl _) _ fun H1 e1 => ⟨a, rfl, ⟨vs, (ha.up e1).sq⟩, fun l hl => by
    have S1 := hS.up e1
    obtain ⟨l1, l2, l3⟩ := S1.off hl
    have lH : H l = none := fresh_back e1 hl
    refine lc_tup (xs := vs) (fun j H' => ExS sd sg H H' ∧ Sta H' sd sg sc (b + (vs.length - j)) ∧ ∃ zs : List Int, H' l = some (.lst (zs.map V.int)) ∧ zs.length = j ∧ ∀ k z, zs[k]? = some z → ok k z) ⟨.of (e1.trans (Ex.new hl)), (S1.up (Ex.new hl)).less (by omega), [], upd_same, rfl, fun k z h => by simp at h⟩
      (fun j H' _ p => (ha.tp (hS.tp p.1)).sq) (fun j x H' hj p => ⟨by show (((σ.set i none).set i (some x)).set i none) = (σ.set i none); rw [List.set_set, List.set_set], ?_⟩) fun H' p => ?_
    · obtain ⟨X2, S2, zs, hz, lz, oz⟩ := p
      have jl : j < vs.length := (List.getElem?_eq_some_iff.mp hj).1
      refine each j x H' (b + (vs.length - (j + 1))) hj (S2.less (by omega)) X2 _ fun z H3 hok S3 X3 => ⟨zs.map V.int, X3 _ _ hz l1 l2, sz_lt (by rw [List.length_map]; omega), fun a' o h n1 n2 => (upd_ne fun y => by rw [y, lH] at h; cases h).trans ((X2.trans X3) a' o h n1 n2), S3.upd l1 l2 l3, zs ++ [z], by rw [upd_same, List.map_append]; rfl, by rw [List.length_append, lz]; rfl, fun k y hk => ?_⟩
      rw [List.getElem?_append] at hk
      split at hk
      · exact oz k y hk
      · have : k = j := by
          have := (List.getElem?_eq_some_iff.mp hk).1
          rw [List.length_singleton] at this
          omega
        subst this
        rw [lz, Nat.sub_self] at hk
        cases hk
        exact hok
    · obtain ⟨X2, S2, zs, hz, lz, oz⟩ := p
      exact q l zs H' lH hz lz oz (S2.less (by omega)) X2⟩
theorem el_zipNone {i j : Nat} {a b : Addr} {xs ys : List Int} (hw : ∀ x y : V, wipe (((wipe σ [i, j]).set i (some x)).set j (some y)) [i, j] = wipe σ [i, j]) (hx : ∀ x y : V, (((wipe σ [i, j]).set i (some x)).set j (some y))[i]? = some (some x)) (hy : ∀ x y : V, (((wipe σ [i, j]).set i (some x)).set j (some y))[j]? = some (some y))
    (ha : Ev ta σ H (.ref a)) (hb : Ev tb σ H (.ref b)) (ta_ : TupS H a (xs.map V.int)) (tb_ : TupS H b (ys.map V.int)) (hl : xs.length = ys.length) (le : ∀ (k : Nat) (x y : Int), xs[k]? = some x → ys[k]? = some y → x ≤ y) :
    EvL (tLc (RZ.iZipA K (tCons ta (tCons tb tNil))) (gTup K 2 (gCons (gName i) (gCons (gName j) gNil))) (tTest (tOp (rI0 fun i j => .bl (decide (i > j))) (tVar i) (tVar j))) (tC (.int 1)) [i, j]) σ H [] := fun H0 e0 Q q => by
  unfold tLc RZ.iZipA
  refine ea_cons ha (ea_cons hb ea_nil) H0 e0 _ fun H1 e1 => ⟨a, b, xs.map V.int, ys.map V.int, rfl, .inr ⟨((ta_.up e0).up e1).sq, ((tb_.up e0).up e1).sq, fun l fl => ?_⟩⟩
  refine ⟨fun k m H' => m = xs.length - k ∧ k ≤ xs.length ∧ Ex H1 H' ∧ H' l = some (.lst []), ⟨xs.length, rfl, Nat.zero_le _, Ex.new fl, upd_same⟩, ?_⟩
  rintro k m H2 ⟨rfl, hk, e2, h2⟩
  have E := (e0.trans e1).trans e2
  have qa := (ta_.up E).sq (K := K)
  have qb := (tb_.up E).sq (K := K)
  by_cases lt : k < xs.length
  · have lt2 : k < ys.length := by omega
    have gx : (xs.map V.int)[k]? = some (.int xs[k]) := by rw [List.getElem?_map, List.getElem?_eq_getElem lt]; rfl
    have gy : (ys.map V.int)[k]? = some (.int ys[k]) := by rw [List.getElem?_map, List.getElem?_eq_getElem lt2]; rfl
    refine .inr ⟨⟨xs.map V.int, ys.map V.int, _, _, qa, qb, gx, gy⟩, fun H' => k + 1 ≤ xs.length ∧ Ex H1 H' ∧ H' l = some (.lst []), fun H' p' => ⟨xs.length - (k + 1), by omega, rfl, p'⟩, fun x H3 y => ?_⟩
    obtain ⟨t, x0, y0, rfl, ht, rfl, f1, f2⟩ := y
    have g1 := f1 _ qa
    have g2 := f2 _ qb
    rw [gx] at g1
    rw [gy] at g2
    cases g1
    cases g2
    have e3 : Ex H2 (upd H2 t (.tup [.int xs[k], .int ys[k]])) := Ex.new ht
    refine ⟨t, _, rfl, .inl (.inl upd_same), rfl, _, _, rfl, _, _, rfl, rfl, hw _ _, ?_⟩
    refine et_test (ev_op (ev_var (hx _ _)) (ev_var (hy _ _)) rv_I0) _ (Ex.refl _) _ fun H4 e4 => ?_
    have := le k xs[k] ys[k] (List.getElem?_eq_getElem lt) (List.getElem?_eq_getElem lt2)
    rw [show decide (xs[k] > ys[k]) = false from decide_eq_false (by omega)]
    exact iteF ⟨lt, (e2.trans e3).trans e4, e4 _ _ (e3 _ _ h2)⟩
  · exact .inl ⟨⟨xs.map V.int, ys.map V.int, qa, qb, Or.inl (by rw [List.length_map]; omega)⟩, q l H2 (fresh_back e1 fl) (e1.trans e2) h2⟩
end
end Kx

set_option Elab.async false
set_option linter.all false
set_option maxRecDepth 100000
set_option maxHeartbeats 400000
namespace Kx
open PySem PySem.Spec PyProof.Rows L2 Evl
open LamX
def spLaw (K : PySem.W.Frag) (Tb : List (Addr × Str)) : Sp := fun vs H Q _ => ∃ (l : Addr) (cells : List Int), vs = [.ref l] ∧ SqL K H l (iv cells) ∧ cells.length ≤ 63 ∧ Tabs Tb H ∧ ∀ H', Q (.bl true) H'
theorem reps_nums {H : Hp} : ∀ l : List Int, Reps H (l.map V.int) (l.map D.int)
  | [] => .nil
  | i :: r => .cons (.int i) (reps_nums r)
theorem itup_im (l : List Int) : (itup l).imm = true := imm_t fun x hx => by
  obtain ⟨i, _, rfl⟩ := List.mem_map.mp hx
  unfold D.imm
  rfl
theorem setD_im (on fr : List Str) : (D.tup [.tup (on.map D.str), .tup (fr.map D.str)]).imm = true := imm_t fun x hx => by
  have row : ∀ l : List Str, (D.tup (l.map D.str)).imm = true := fun l => imm_t fun y hy => by
    obtain ⟨i, _, rfl⟩ := List.mem_map.mp hy
    unfold D.imm
    rfl
  simp only [List.mem_cons, List.not_mem_nil, or_false] at hx
  rcases hx with rfl | rfl
  · exact row on
  · exact row fr
theorem nums_id (l : List Int) : numsD (itup l) = l := by
  show (l.map D.int).map D.num = l
  rw [List.map_map]
  exact List.map_id l
theorem txts_id (l : List Str) : txtsD (.tup (l.map D.str)) = l := by
  show (l.map D.str).map D.txt = l
  rw [List.map_map]
  exact List.map_id l
theorem nextO_ok {cA cD cW cS : Addr} {d : D} {dg : List Int} {w : Int} {on fr : List Str} (hair : d.air = true) (hl : dg.length = (d.nth 1).rows.length) (hb : ∀ g ∈ dg, -1000 ≤ g ∧ g ≤ 1000) (h1 : loD5 d ≤ w) (h2 : w ≤ hiD5 d) (hs : D.setg (hN d) (dN d) (.tup [.tup (on.map D.str), .tup (fr.map D.str)]) = true) :
    nextO cA cD cW cS d (itup dg) (.int w) (.tup [.tup (on.map D.str), .tup (fr.map D.str)]) = .nums (later d dg w on fr) := by
  have dgs : (itup dg).degs (d.nth 1).rows.length = true := by
    unfold D.degs
    rw [Bool.and_eq_true]
    refine ⟨isTup_ok (by rw [List.length_map]; omega) (by rw [List.length_map]; omega), List.all_eq_true.mpr fun x hx => ?_⟩
    obtain ⟨g, hg, rfl⟩ := List.mem_map.mp hx
    exact bt40 (hb g hg).1 (hb g hg).2
  unfold nextO
  rw [if_pos hair, if_pos dgs, if_pos (bt40 h1 h2), if_pos hs, nums_id]
  show OutN.nums (later d dg w (txtsD (.tup (on.map D.str))) (txtsD (.tup (fr.map D.str)))) = _
  rw [txts_id, txts_id]
theorem nums_pln (l : List Int) : Pln (itup l) := by
  refine ⟨?_, ?_⟩
  · unfold itup D.pk
    exact pks_iff.mpr fun d hd => by
      obtain ⟨i, _, rfl⟩ := List.mem_map.mp hd
      exact (leaf_int i).1
  · unfold itup D.deep
    have := deeps_le (n := 0) (ds := l.map D.int) fun d hd => by
      obtain ⟨i, _, rfl⟩ := List.mem_map.mp hd
      exact (leaf_int i).2
    omega
theorem hN_len {d : D} (h : d.air = true) : ∀ n ∈ hN d, n.length ≤ 8 := fun n hn => by
  obtain ⟨rs, ls, hs, m, lo, hi, f, mv, A⟩ := air_is h
  rw [A.hN] at hn
  obtain ⟨x, hx, rfl⟩ := List.mem_map.mp hn
  obtain ⟨n, a, g, rfl, h1, _⟩ := heat_shape (A.ha x hx)
  exact nms_len h1
theorem dN_len {d : D} (h : d.air = true) : ∀ n ∈ dN d, n.length ≤ 8 := fun n hn => by
  obtain ⟨rs, ls, hs, m, lo, hi, f, mv, A⟩ := air_is h
  rw [A.dN] at hn
  unfold dNl at hn
  obtain ⟨x, hx, rfl⟩ := List.mem_map.mp hn
  obtain ⟨hx, hk⟩ := List.mem_filter.mp hx
  obtain ⟨a1, b1, s1, n1, rfl, _, _, _, _, _, hn⟩ := leak_shape (A.la x hx)
  rcases hn with rfl | ⟨y, rfl, hy⟩
  · cases hk
  · exact nms_len hy
section
variable {P : Program} {w : World} {K : PySem.W.Frag} {mg : Str → Option Value} {base : Heap} (T : Txt K mg)
theorem ok_law {Tb : List (Addr × Str)} (hAE : FnOk P w K mg base CX0 15 T.a_law_ask_errors T.d_law_ask_errors ["state", "air", "now", "sky", "setting"] (spAE Tb)) : FnOk P w K mg base CX0 16 T.a_law T.d_law ["script"] (spLaw K Tb) := by
  refine T.F_law.ok sc_law (fun vs H Q E h => ?_) (fun cdv A outer s H vs Q E hr h => ?_)
  · obtain ⟨l, cells, rfl, _⟩ := h
    rfl
  · obtain ⟨l, cells, rfl, hl, hz, hT, q⟩ := h
    have nd := sc_law.nd
    have hu4 : (A.deeper (envOfC "law" (defScope s_law) s.heap.objs.size T.a_law cdv)).units + 64 < cLine := by have := hr.un; omega
    refine ⟨_, (pss_cons (ps_set (i := 1) nd rfl (.inr rfl) (pe_call (ok_begun T) (hr.mono (by decide)) (by rfl) T.g_law_begun T.F_law_begun.kp (b_law_begun T) .nil pass0 (pa_cons (pv 0) pa_nil)))
      (pss_cons (ps_for PassesOwn.never rfl (pi_range1 (by rfl) T.z_range (pa_cons pe_int pa_nil)) (pg_name (i := 2) nd rfl (.inl rfl)) (pss_cons (ps_set (i := 3) nd rfl (.inl rfl) (pe_call (ok_air_of T) (hr.mono (by decide)) (by rfl) T.g_law_air T.F_law_air.kp (b_law_air T) .nil pass0 (pa_cons (pv 1) (pa_cons pe_int (pa_cons pe_int pa_nil)))))
      (pss_cons (ps_set (i := 4) nd rfl (.inl rfl) (pe_call (ok_spoilt T 5) (hr.mono (by decide)) (by rfl) T.g_law_spoilt T.F_law_spoilt.kp (b_law_spoilt T) .nil pass0 (pa_cons (pv 1) (pa_cons (pv 3) pa_nil))))
      (pss_cons (ps_if (pt_cmpR op_eq (pe_call (ok_draw T) (hr.mono (by decide)) (by rfl) T.g_law_draw T.F_law_draw.kp (b_law_draw T) .nil pass0 (pa_cons (pv 1) (pa_cons pe_int pa_nil))) pe_int (nomark _)) (pss_one (ps_set (i := 4) nd rfl (.inl rfl) (pe_call (ok_spoilt T 5) (hr.mono (by decide)) (by rfl) T.g_law_spoilt T.F_law_spoilt.kp (b_law_spoilt T) .nil pass0 (pa_cons (pv 1) (pa_cons (pv 4) pa_nil))))) pss_nil)
      (pss_cons (ps_if (PW.pt (pw_or (pt_cmpR op_isnot_bl (pe_call (ok_is_air T) (hr.mono (by decide)) (by rfl) T.g_is_air T.F_is_air.kp (b_is_air T) .nil pass0 (pa_cons (pv 3) pa_nil)) pe_bl (nomark _)) (pw_or1 (pt_not (pt_val (pe_call (ok_tells T) (hr.mono (by decide)) (by rfl) T.g_law_tells T.F_law_tells.kp (b_law_tells T) .nil pass0 (pa_cons (pe_named (ok_is_air T) (hr.mono (by decide)) (by rfl) T.g_is_air T.F_is_air.kp (kb_is_air T) pass0 (pk_cons (pv 4) pk_nil)) (pa_cons (pe_call (ok_lair T) (hr.mono (by decide)) (by rfl) T.g_law_good_air T.F_law_good_air.kp (b_law_good_air T) .nil pass0 (pa_cons (pv 4) pa_nil)) pa_nil)))))))) (pss_one (ps_ret pe_bl)) pss_nil)
      (pss_cons (ps_set (i := 5) nd rfl (.inl rfl) (pe_callTy call_tupF (by rfl) T.z_tuple bo_tuple (pa_cons (pe_lc (own := [("row", 12)]) (g := gName 12) (tt := tYes) (by rfl) nd (pi_tup (pe_ix (r := rIxT K) ix_tup (pv 3) pe_int (fun _ _ => rfl))) (blkOk_by (N := ["script", "state", "lap", "air", "bent", "now", "sky", "setting", "later", "more", "warmer", "above", "row", "degree", "low", "high"]) (sc := defScope s_law) (by decide +kernel)) (fun _ _ _ _ _ => (pg_name (i := 12) nd rfl (.inl rfl))) (fun _ _ _ _ _ => pts_nil) (fun _ _ _ _ _ => (pe_op op_add (pe_op op_sub (pe_ix (r := rIxT K) ix_tup (pv 12) pe_int (fun _ _ => rfl)) pe_int) (pe_call (ok_draw T) (hr.mono (by decide)) (by rfl) T.g_law_draw T.F_law_draw.kp (b_law_draw T) .nil pass0 (pa_cons (pv 1) (pa_cons pe_int pa_nil)))))) pa_nil)))
      (pss_cons (ps_if (pt_cmpR op_eq (pe_call (ok_draw T) (hr.mono (by decide)) (by rfl) T.g_law_draw T.F_law_draw.kp (b_law_draw T) .nil pass0 (pa_cons (pv 1) (pa_cons pe_int pa_nil))) pe_int (nomark _)) (pss_one (ps_set (i := 5) nd rfl (.inl rfl) (pe_callTy call_tupF (by rfl) T.z_tuple bo_tuple (pa_cons (pe_lc (own := [("row", 12)]) (g := gName 12) (tt := tYes) (by rfl) nd (pi_tup (pe_ix (r := rIxT K) ix_tup (pv 3) pe_int (fun _ _ => rfl))) (blkOk_by (N := ["script", "state", "lap", "air", "bent", "now", "sky", "setting", "later", "more", "warmer", "above", "row", "degree", "low", "high"]) (sc := defScope s_law) (by decide +kernel)) (fun _ _ _ _ _ => (pg_name (i := 12) nd rfl (.inl rfl))) (fun _ _ _ _ _ => pts_nil) (fun _ _ _ _ _ => (pe_op op_sub (pe_call (ok_draw T) (hr.mono (by decide)) (by rfl) T.g_law_draw T.F_law_draw.kp (b_law_draw T) .nil pass0 (pa_cons (pv 1) (pa_cons pe_int pa_nil))) pe_int))) pa_nil)))) pss_nil)
      (pss_cons (ps_par (i := 6) (j := 7) rfl nd rfl rfl (by decide) rfl rfl (pa_cons (pe_op op_add (pe_ix (r := rIxT K) ix_tup (pe_ix (r := rIxT K) ix_tup (pv 3) pe_int (fun _ _ => rfl)) pe_int (fun _ _ => rfl)) (pe_call (ok_draw T) (hr.mono (by decide)) (by rfl) T.g_law_draw T.F_law_draw.kp (b_law_draw T) .nil pass0 (pa_cons (pv 1) (pa_cons (pe_op op_add (pe_op op_sub (pe_ix (r := rIxT K) ix_tup (pe_ix (r := rIxT K) ix_tup (pv 3) pe_int (fun _ _ => rfl)) pe_int (fun _ _ => rfl)) (pe_ix (r := rIxT K) ix_tup (pe_ix (r := rIxT K) ix_tup (pv 3) pe_int (fun _ _ => rfl)) pe_int (fun _ _ => rfl))) pe_int) pa_nil)))) (pa_cons (pe_call (ok_setting T) (hr.mono (by decide)) (by rfl) T.g_law_setting T.F_law_setting.kp (b_law_setting T) .nil pass0 (pa_cons (pv 1) (pa_cons (pv 3) pa_nil))) pa_nil)) (by rfl))
      (pss_cons (ps_set (i := 8) nd rfl (.inl rfl) (pe_named (E := fun _ _ _ => False) (ok_next T) (hr.mono (by decide)) (by rfl) T.g_next_degrees T.F_next_degrees.kp (kb_next_degrees T) (passes_call L2.takes0 fun _ _ _ _ h => h) (pk_cons (pv 3) (pk_cons (pv 5) (pk_cons (pv 6) (pk_cons (pv 7) pk_nil))))))
      (pss_cons (ps_if (pt_cmpR (op_neD hu4) (pv 8) (pe_call (ok_later T) (hr.mono (by decide)) (by rfl) T.g_law_later T.F_law_later.kp (b_law_later T) .nil pass0 (pa_cons (pv 3) (pa_cons (pv 5) (pa_cons (pv 6) (pa_cons (pv 7) pa_nil))))) (nomark _)) (pss_one (ps_ret pe_bl)) pss_nil)
      (pss_cons (ps_set (i := 9) nd rfl (.inl rfl) (pe_callTy call_tupF (by rfl) T.z_tuple bo_tuple (pa_cons (pe_lc (own := [("degree", 13)]) (g := gName 13) (tt := tYes) (by rfl) nd (pi_tup (pv 5)) (blkOk_by (N := ["script", "state", "lap", "air", "bent", "now", "sky", "setting", "later", "more", "warmer", "above", "row", "degree", "low", "high"]) (sc := defScope s_law) (by decide +kernel)) (fun _ _ _ _ _ => (pg_name (i := 13) nd rfl (.inl rfl))) (fun _ _ _ _ _ => pts_nil) (fun _ _ _ _ _ => (pe_callB (call_min2 (by rfl)) (by rfl) T.z_min bo_min (pa_cons pe_int (pa_cons (pe_op op_add (pv 13) (pe_call (ok_draw T) (hr.mono (by decide)) (by rfl) T.g_law_draw T.F_law_draw.kp (b_law_draw T) .nil pass0 (pa_cons (pv 1) (pa_cons pe_int pa_nil)))) pa_nil))))) pa_nil)))
      (pss_cons (ps_set (i := 10) nd rfl (.inl rfl) (pe_op op_add (pv 6) (pe_call (ok_draw T) (hr.mono (by decide)) (by rfl) T.g_law_draw T.F_law_draw.kp (b_law_draw T) .nil pass0 (pa_cons (pv 1) (pa_cons (pe_op op_add (pe_op op_sub (pe_ix (r := rIxT K) ix_tup (pe_ix (r := rIxT K) ix_tup (pv 3) pe_int (fun _ _ => rfl)) pe_int (fun _ _ => rfl)) (pv 6)) pe_int) pa_nil)))))
      (pss_cons (ps_set (i := 11) nd rfl (.inl rfl) (pe_call (E := fun _ _ _ => False) (ok_next T) (hr.mono (by decide)) (by rfl) T.g_next_degrees T.F_next_degrees.kp (b_next_degrees T) .nil (passes_call L2.takes0 fun _ _ _ _ h => h) (pa_cons (pv 3) (pa_cons (pv 9) (pa_cons (pv 10) (pa_cons (pv 7) pa_nil))))))
      (pss_cons (ps_if (PW.pt (pw_or (pt_cmpR (op_neD hu4) (pe_lc (own := [("low", 14), ("high", 15)]) (g := gTup K 2 (gCons (gName 14) (gCons (gName 15) gNil)))  (by rfl) nd (RZ.pi_zipA (by rfl) T.z_zip (pa_cons (pv 8) (pa_cons (pv 11) pa_nil))) (blkOk_by (N := ["script", "state", "lap", "air", "bent", "now", "sky", "setting", "later", "more", "warmer", "above", "row", "degree", "low", "high"]) (sc := defScope s_law) (by decide +kernel)) (fun _ _ _ _ _ => (pg_tup rfl (pgs_cons (pg_name (i := 14) nd rfl (.inl rfl)) (pgs_cons (pg_name (i := 15) nd rfl (.inl rfl)) pgs_nil)))) (fun _ _ _ _ _ => (pts_one (pt_cmpR op_gt (pv 14) (pv 15) (nomark _)))) (fun _ _ _ _ _ => pe_int)) (pe_lst pa_nil) (nomark _)) (pw_or1 (pt_cmpR op_ne (pe_callB call_len_seq (by rfl) T.z_len bo_len (pa_cons (pv 11) pa_nil)) (pe_callB call_len_seq (by rfl) T.z_len bo_len (pa_cons (pv 8) pa_nil)) (nomark _))))) (pss_one (ps_ret pe_bl)) pss_nil)
      (pss_one (ps_if (pt_not (pt_val (pe_call (hAE) (hr.mono (by decide)) (by rfl) T.g_law_ask_errors T.F_law_ask_errors.kp (b_law_ask_errors T) .nil pass0 (pa_cons (pv 1) (pa_cons (pv 3) (pa_cons (pv 5) (pa_cons (pv 6) (pa_cons (pv 7) pa_nil)))))))) (pss_one (ps_ret pe_bl)) pss_nil))))))))))))))))
      (pss_one (ps_ret pe_bl)))), ?_⟩
    refine q_asgW (σ := [some (.ref l), none, none, none, none, none, none, none, none, none, none, none, none, none, none, none]) ⟨.ref l, rfl, l, cells, rfl, hl, by omega, fun sd sg sc gs H1 w1 e1 n1 n2 => ?_⟩
    have S1 : Sta H1 sd sg sc 8000 := ⟨gs, _, 0, 0, w1, by decide, by decide⟩
    have T1 := hT.ext e1
    refine q_forR1 (σ := [some (.ref l), some (.ref sd), none, none, none, none, none, none, none, none, none, none, none, none, none, none]) (n := 6) (ea_cons ev_c ea_nil) ⟨by decide, by decide⟩ (fun i σ' H' => Sta H' sd sg sc (200 * (6 - i)) ∧ Tabs Tb H' ∧ ∃ y2 y3 y4 y5 y6 y7 y8 y9 y10 y11, σ' = [some (.ref l), some (.ref sd), y2, y3, y4, y5, y6, y7, y8, y9, y10, y11, none, none, none, none])
      (fun H5 e5 => ⟨(S1.up e5).less (by omega), T1.ext e5, _, _, _, _, _, _, _, _, _, _, rfl⟩) (fun i σ' H2 hi ⟨S2, T2, y2, y3, y4, y5, y6, y7, y8, y9, y10, y11, es⟩ => ?_) (fun σ' H' _ => s_ret (v := .bl true) ev_c fun H'' _ => q H'')
    subst es
    have i6 : i < 6 := by omega
    show tSeq _ _ _ [some (.ref l), some (.ref sd), some (.int (i : Int)), y3, y4, y5, y6, y7, y8, y9, y10, y11, none, none, none, none] H2
    refine s_lstA (g := gName 3) ?_
    refine ⟨.ref sd, rfl, sd, sg, sc, 200 * (6 - (i + 1)) + 140, rfl, S2.less (by omega), fun v d H3 hv hair S3 X3 => ?_⟩
    have T3 := tabs_exs T2 S2 X3
    have him := air_imm hair
    obtain ⟨sm1, sm2⟩ := air_small hair
    show tSeq _ _ _ [some (.ref l), some (.ref sd), some (.int (i : Int)), some (v), y4, y5, y6, y7, y8, y9, y10, y11, none, none, none, none] H3
    refine s_lstA (g := gName 4) ?_
    refine ⟨.ref sd, rfl, v, rfl, sd, sg, sc, 200 * (6 - (i + 1)) + 125, 20, 3, stS sd sg, v, d, rfl, S3.ofS, S3.rep hv him, sm1, by decide, by decide, by decide, sm2, S3, fun v4 d4 H4 r4 dp4 z4 S4 X4 => ?_⟩
    show tSeq _ _ _ [some (.ref l), some (.ref sd), some (.int (i : Int)), some (v), some (v4), y5, y6, y7, y8, y9, y10, y11, none, none, none, none] H4
    refine q_ifM (fun σ' H' => ∃ v5 d5, σ' = [some (.ref l), some (.ref sd), some (.int (i : Int)), some (v), some (v5), y5, y6, y7, y8, y9, y10, y11, none, none, none, none] ∧ RepS (stS sd sg) H' v5 d5 ∧ d5.deep ≤ 7 ∧ d5.Zs 22 ∧ Sta H' sd sg sc (200 * (6 - (i + 1)) + 109) ∧ ExS sd sg H3 H') (fun σ' H5 ⟨v5, d5, es, r5, dp5, z5, S5, X5⟩ => ?_) fun N hN => ?_
    · subst es
      have hv5 := hv.monoT (S3.tp X5) _ _ him
      have T5 := tabs_exs T3 S3 X5
      obtain ⟨rs, ls, hs, m, lo, hi, f, mv, Ai⟩ := air_is hair
      have szA : d.Sz := zs_sz (by decide) _ sm2
      have sz5 : d5.Sz := zs_sz (by decide) _ z5
      refine s_ifX (σ := [some (.ref l), some (.ref sd), some (.int (i : Int)), some (v), some (v5), y5, y6, y7, y8, y9, y10, y11, none, none, none, none]) (b := !decide (true = true) || !decide (d5.air = d5.air)) (et_or (et_test (ev_op (ev_sp stb_air (ea_cons (ev_var (i := 3) rfl) ea_nil) ⟨v, d, rfl, hv5, szA, by rw [hair]⟩) ev_c fun H1 e Q k => ⟨_, _, rfl, rfl, k H1 (Ex.refl _)⟩)) fun _ => et_not (et_B (ev_sp stb_tells (ea_cons (ev_spK stb_air ea_nil (ea_cons (ev_var (i := 4) rfl) ea_nil) ⟨v5, d5, rfl, r5.up hidP_sub, sz5, rfl⟩) (ea_cons (ev_sp stb_air (ea_cons (ev_var (i := 4) rfl) ea_nil) ⟨v5, d5, rfl, r5.up hidP_sub, sz5, rfl⟩) ea_nil)) ⟨d5.air, d5.air, rfl, rfl⟩))) (fun hb => by rw [decide_eq_true rfl, decide_eq_true rfl] at hb; cases hb) (fun _ H6 e6 => ?_)
      have S6 := S5.up e6
      have T6 := T5.ext e6
      have hv6 := hv5.up e6
      have X36 : ExS sd sg H3 H6 := X5.trans (.of e6)
      have hv6' := hv6
      rw [Ai.eq] at hv6'
      obtain ⟨aa, w0, w1, w2, w3, w4, w5, rfl, haa, k0, k1, k2, k3, k4, k5⟩ := hv6'.t6
      obtain ⟨ra, rvs, rfl, hra, hrvs⟩ := k1.tupD
      obtain ⟨a5, x0, x1, x2, x3, rfl, ha5, l0, l1, l2, l3⟩ := k5.t4
      obtain rfl := l0.intD
      obtain rfl := l1.intD
      have lr : rvs.length = rs.length := hrvs.length
      have r3 := Ai.r3
      have nr : (d.nth 1).rows.length = rs.length := by rw [Ai.eq]; rfl
      have lo5 : loD5 d = lo := by rw [Ai.eq]; rfl
      have hi5 : hiD5 d = hi := by rw [Ai.eq]; rfl
      have s1 := Ai.s1
      have s2 := Ai.s2
      have s3 := Ai.s3
      have s4 := Ai.s4
      have s5 := Ai.s5
      have rowAt : ∀ (j : Nat) (x : V) (H' : Hp), rvs[j]? = some x → ExS sd sg H6 H' → ∃ c n rlo rhi rf, x = .ref c ∧ TupS H' c [.str n, .int rlo, .int rhi, .int rf] ∧ -40 ≤ rlo ∧ rlo ≤ 40 := fun j x H' hx X' => by
        obtain ⟨dd, hd, rd⟩ := hrvs.get hx
        obtain ⟨n, rlo, rhi, rf, rfl, hn, no, b1, b2, b3, b4, b5⟩ := room_shape (Ai.ra dd (List.mem_of_getElem? hd))
        obtain ⟨c, y0, y1, y2, y3, rfl, hc, g0, g1, g2, g3⟩ := (rd.monoT (S6.tp X') _ _ (room_imm (Ai.ra _ (List.mem_of_getElem? hd)))).t4
        obtain rfl := g0.strD
        obtain rfl := g1.intD
        obtain rfl := g2.intD
        obtain rfl := g3.intD
        exact ⟨c, n, rlo, rhi, rf, rfl, hc, b1, by omega⟩
      show tSeq _ _ _ [some (.ref l), some (.ref sd), some (.int (i : Int)), some (.ref aa), some (v5), y5, y6, y7, y8, y9, y10, y11, none, none, none, none] H6
      refine s_lstA (g := gName 5) ?_
      refine cb_S ?_
      refine lc_draws (σ := [some (.ref l), some (.ref sd), some (.int (i : Int)), some (.ref aa), some (v5), y5, y6, y7, y8, y9, y10, y11, none, none, none, none]) (b := 200 * (6 - (i + 1)) + 106) (ok := fun _ z => -1000 ≤ z ∧ z ≤ 1000) (ev_ixT (j := 1) (ev_var (i := 3) rfl) haa rfl) hra (S6.less (by omega)) (by omega) (fun j x H' b' hx S' X' Q1 q1 => ?_) fun p zs H7 np hp lz oz S7 X7 => ?_
      · obtain ⟨c, n, rlo, rhi, rf, rfl, hc, b1, b2⟩ := rowAt j x H' hx X'
        refine (ev_op (σ := [some (.ref l), some (.ref sd), some (.int (i : Int)), some (.ref aa), some (v5), y5, y6, y7, y8, y9, y10, y11, some (.ref c), none, none, none]) (ev_ixT (j := 1) (ev_var (i := 12) rfl) hc rfl) ev_c rv_I0) H' (Ex.refl _) _ fun H8 e8 => ⟨.ref sd, rfl, sd, sg, sc, b', 9, rfl, by decide, by decide, S'.up e8, fun z H9 z0 z9 S9 X9 => ⟨rlo - 3, z, rfl, rfl, q1 _ H9 ⟨by omega, by omega⟩ S9 ((ExS.of e8).trans X9)⟩⟩
      refine ⟨p, zs.map V.int, rfl, .of hp, fun tn on_ ntn hon => ?_⟩
      have e8 := Ex.new (o := .frz on_ (.tup (zs.map V.int))) ntn
      have hn8 : TupS (upd H7 tn (.frz on_ (.tup (zs.map V.int)))) tn (zs.map V.int) := ⟨on_, hon, upd_same⟩
      have S8 := S7.up e8
      have X68 : ExS sd sg H6 _ := X7.trans (.of e8)
      show tSeq _ _ _ [some (.ref l), some (.ref sd), some (.int (i : Int)), some (.ref aa), some (v5), some (.ref tn), y6, y7, y8, y9, y10, y11, none, none, none, none] _
      generalize upd H7 tn (.frz on_ (.tup (zs.map V.int))) = H8 at e8 hn8 S8 X68
      refine q_ifM (fun σ' H' => ∃ (tn : Addr) (dg : List Int), σ' = [some (.ref l), some (.ref sd), some (.int (i : Int)), some (.ref aa), some (v5), some (.ref tn), y6, y7, y8, y9, y10, y11, none, none, none, none] ∧ TupS H' tn (dg.map V.int) ∧ dg.length = rs.length ∧ (∀ g ∈ dg, -1000 ≤ g ∧ g ≤ 1000) ∧ Sta H' sd sg sc (200 * (6 - (i + 1)) + 102) ∧ ExS sd sg H6 H') (fun σ' H9 ⟨tn, dg, es, hn9, ldg, bdg, S9, X69⟩ => ?_) fun N hN => ?_
      · subst es
        clear hn8 S8 X68
        have tp9 := S6.tp X69
        have haa9 := haa.tp tp9
        have ha59 := ha5.tp tp9
        have hv9 := hv6.monoT tp9 _ _ him
        show tSeq _ _ _ [some (.ref l), some (.ref sd), some (.int (i : Int)), some (.ref aa), some (v5), some (.ref tn), y6, y7, y8, y9, y10, y11, none, none, none, none] H9
        refine s_parQ (σ := [some (.ref l), some (.ref sd), some (.int (i : Int)), some (.ref aa), some (v5), some (.ref tn), y6, y7, y8, y9, y10, y11, none, none, none, none]) ?_
        refine ev_ixT (j := 0) (σ := [some (.ref l), some (.ref sd), some (.int (i : Int)), some (.ref aa), some (v5), some (.ref tn), y6, y7, y8, y9, y10, y11, none, none, none, none]) (ev_ixT (j := 5) (ev_var (i := 3) rfl) haa9 rfl) ha59 rfl H9 (Ex.refl _) _ fun H10 e10 => ⟨.ref sd, rfl, ?_⟩
        have haa10 := haa9.up e10
        have ha510 := ha59.up e10
        refine (ev_op (σ := [some (.ref l), some (.ref sd), some (.int (i : Int)), some (.ref aa), some (v5), some (.ref tn), y6, y7, y8, y9, y10, y11, none, none, none, none]) (z := .int (hi - lo + 1)) (ev_op (ev_ixT (j := 1) (ev_ixT (j := 5) (ev_var (i := 3) rfl) haa10 rfl) ha510 rfl) (ev_ixT (j := 0) (ev_ixT (j := 5) (ev_var (i := 3) rfl) haa10 rfl) ha510 rfl) rv_I0) ev_c rv_I0) H10 (Ex.refl _) _ fun H11 e11 => ⟨sd, sg, sc, 200 * (6 - (i + 1)) + 101, hi - lo + 1, rfl, by omega, by omega, (S9.up e10).up e11, fun zk H12 z0 zl S12 X12 => ⟨lo, zk, rfl, rfl, ?_⟩⟩
        have X912 : ExS sd sg H9 H12 := (ExS.of (e10.trans e11)).trans X12
        have hv12 := hv9.monoT (S9.tp X912) _ _ him
        refine ⟨.ref sd, rfl, .ref aa, rfl, sd, sg, sc, 200 * (6 - (i + 1)) + 92, .ref aa, d, rfl, hv12, hair, S12, fun sv on fr H13 rset hset lon lfr S13 X13 => ⟨.int (lo + zk), sv, rfl, ?_⟩⟩
        have X913 := X912.trans X13
        have hv13 := hv12.monoT (S12.tp X13) _ _ him
        have hn13 := hn9.tp (S9.tp X913)
        have X013 : ExS sd sg H6 H13 := X69.trans X913
        -- the next degrees
        have evN : ∀ (H1 : Hp), Ex H13 H1 → EvS S0 (tCallK (spN (okNext T.c_BadAir T.c_BadDegrees T.c_BadWeather T.c_BadSetting)) gN (fun _ _ _ => False) tNil (tCons (tVar 3) (tCons (tVar 5) (tCons (tVar 6) (tCons (tVar 7) tNil))))) [some (.ref l), some (.ref sd), some (.int (i : Int)), some (.ref aa), some (v5), some (.ref tn), some (.int (lo + zk)), some (sv), y8, y9, y10, y11, none, none, none, none] H1 (itup (later d dg (lo + zk) on fr)) := fun H1 e1' H2 e2' Q2 q2 => by
          have E := e1'.trans e2'
          unfold tCallK tNil
          refine ea_cons (σ := [some (.ref l), some (.ref sd), some (.int (i : Int)), some (.ref aa), some (v5), some (.ref tn), some (.int (lo + zk)), some (sv), y8, y9, y10, y11, none, none, none, none]) (ev_var (i := 3) rfl) (ea_cons (ev_var (i := 5) rfl) (ea_cons (ev_var (i := 6) rfl) (ea_cons (ev_var (i := 7) rfl) ea_nil))) H2 (Ex.refl _) _ fun H3' e3' => ⟨_, ⟨.ref aa, d, .ref tn, itup dg, .int (lo + zk), .int (lo + zk), sv, _, rfl, (hv13.up E).up e3', szA, .tup ((hn13.up E).up e3') (reps_nums dg), zs_sz (by decide) _ (itup_small (by omega)).2, .int _, (rset.up E).up e3', zs_sz (by decide) _ (setD_small hset lon lfr (hN_len hair) (dN_len hair)).2, rfl⟩, fun H4' e4' => ?_⟩
          rw [nextO_ok hair (by omega) bdg (by omega) (by omega) hset]
          exact fun z H5' e5' r5' => q2 z H5' ((e3'.trans e4').trans e5') (r5'.up hid0)
        show tSeq _ _ _ [some (.ref l), some (.ref sd), some (.int (i : Int)), some (.ref aa), some (v5), some (.ref tn), some (.int (lo + zk)), some (sv), y8, y9, y10, y11, none, none, none, none] H13
        refine s_asgS (S := S0) (d := itup (later d dg (lo + zk) on fr)) (evN H13 (Ex.refl _)) fun vl H14 e14 rl => ?_
        have evL : EvS S0 (tCall spStep [] E0 (tCons (tVar 3) (tCons (tVar 5) (tCons (tVar 6) (tCons (tVar 7) tNil))))) [some (.ref l), some (.ref sd), some (.int (i : Int)), some (.ref aa), some (v5), some (.ref tn), some (.int (lo + zk)), some (sv), some (vl), y9, y10, y11, none, none, none, none] H14 (itup (later d dg (lo + zk) on fr)) := fun H2 e2' Q2 q2 => by
          have E := e14.trans e2'
          refine ea_cons (σ := [some (.ref l), some (.ref sd), some (.int (i : Int)), some (.ref aa), some (v5), some (.ref tn), some (.int (lo + zk)), some (sv), some (vl), y9, y10, y11, none, none, none, none]) (ev_var (i := 3) rfl) (ea_cons (ev_var (i := 5) rfl) (ea_cons (ev_var (i := 6) rfl) (ea_cons (ev_var (i := 7) rfl) ea_nil))) H2 (Ex.refl _) _ fun H3' e3' => ⟨.ref aa, d, .ref tn, dg, lo + zk, sv, on, fr, rfl, (hv13.up E).up e3', hair, .tup ((hn13.up E).up e3') (reps_nums dg), by omega, bdg, by omega, by omega, (rset.up E).up e3', fun z H' e' r' => q2 z H' (e3'.trans e') (r'.up hid0)⟩
        refine s_ifX (σ := [some (.ref l), some (.ref sd), some (.int (i : Int)), some (.ref aa), some (v5), some (.ref tn), some (.int (lo + zk)), some (sv), some (vl), y9, y10, y11, none, none, none, none]) (b := false) (et_test (ev_neS (S := S0) (es_of (ev_var (i := 8) rfl) rl) evL (nums_pln _))) (fun hb => by cases hb) (fun _ H15 e15 => ?_)
        obtain ⟨la, rfl, hla⟩ := itup_at ((rl.up hidP_sub).up e15)
        have E15 := e14.trans e15
        have S15 := S13.up E15
        -- where all is warmer
        refine s_lstA (g := gName 9) ?_
        refine cb_S ?_
        refine lc_draws (σ := [some (.ref l), some (.ref sd), some (.int (i : Int)), some (.ref aa), some (v5), some (.ref tn), some (.int (lo + zk)), some (sv), some (.ref la), y9, y10, y11, none, none, none, none]) (b := 200 * (6 - (i + 1)) + 89) (ok := fun j z => ∃ a, dg[j]? = some a ∧ a ≤ z ∧ z ≤ 1000) (ev_var (i := 5) rfl) (hn13.up E15) (S15.less (by rw [List.length_map]; omega)) (by rw [List.length_map]; omega) (fun j x H' b' hx S' X' Q1 q1 => ?_) fun p2 eg H16 np2 hp2 lz2 oz2 S16 X16 => ?_
        · rw [List.getElem?_map] at hx
          cases hj : dg[j]? with
          | none => rw [hj] at hx; cases hx
          | some a =>
            rw [hj] at hx
            cases hx
            have ba := bdg a (List.mem_of_getElem? hj)
            exact ⟨.int a, rfl, .ref sd, rfl, sd, sg, sc, b', 3, rfl, by decide, by decide, S', fun z H17 z0' z3' S17 X17 => ⟨a, z, rfl, rfl, ⟨1000, a + z, rfl, q1 _ H17 ⟨a, hj, by split <;> omega, by split <;> omega⟩ S17 X17⟩⟩⟩
        rw [List.length_map] at lz2
        refine ⟨p2, eg.map V.int, rfl, .of hp2, fun tm om ntm hom => ?_⟩
        have e17 := Ex.new (o := .frz om (.tup (eg.map V.int))) ntm
        have hm17 : TupS (upd H16 tm (.frz om (.tup (eg.map V.int)))) tm (eg.map V.int) := ⟨om, hom, upd_same⟩
        have S17 := S16.up e17
        have X1317 : ExS sd sg H13 _ := (ExS.of E15).trans (X16.trans (.of e17))
        have X1517 : ExS sd sg H15 _ := X16.trans (.of e17)
        show tSeq _ _ _ [some (.ref l), some (.ref sd), some (.int (i : Int)), some (.ref aa), some (v5), some (.ref tn), some (.int (lo + zk)), some (sv), some (.ref la), some (.ref tm), y10, y11, none, none, none, none] _
        generalize upd H16 tm (.frz om (.tup (eg.map V.int))) = H17 at e17 hm17 S17 X1317 X1517
        have beg : ∀ g ∈ eg, -1000 ≤ g ∧ g ≤ 1000 := fun g hg => by
          obtain ⟨j, hj⟩ := List.mem_iff_getElem?.mp hg
          obtain ⟨a, ha, h1, h2⟩ := oz2 j g hj
          have := bdg a (List.mem_of_getElem? ha)
          omega
        have tp17 := S13.tp X1317
        have haa17 := (haa9.tp (S9.tp X913)).tp tp17
        have ha517 := (ha59.tp (S9.tp X913)).tp tp17
        refine s_lstA (g := gName 10) ?_
        refine ⟨.int (lo + zk), rfl, .ref sd, rfl, ?_⟩
        refine (ev_op (σ := [some (.ref l), some (.ref sd), some (.int (i : Int)), some (.ref aa), some (v5), some (.ref tn), some (.int (lo + zk)), some (sv), some (.ref la), some (.ref tm), y10, y11, none, none, none, none]) (z := .int (hi - (lo + zk) + 1)) (ev_op (ev_ixT (j := 1) (ev_ixT (j := 5) (ev_var (i := 3) rfl) haa17 rfl) ha517 rfl) (ev_var (i := 6) rfl) rv_I0) ev_c rv_I0) H17 (Ex.refl _) _ fun H18 e18 => ⟨sd, sg, sc, 200 * (6 - (i + 1)) + 88, hi - (lo + zk) + 1, rfl, by omega, by omega, S17.up e18, fun zw H19 w0' wl S19 X19 => ⟨lo + zk, zw, rfl, rfl, ?_⟩⟩
        have X1719 : ExS sd sg H17 H19 := (ExS.of e18).trans X19
        have X1319 := X1317.trans X1719
        have tp19 := S13.tp X1319
        have hv19 := hv13.monoT tp19 _ _ him
        have rset19 := rset.monoT tp19 _ _ (setD_im on fr)
        have hm19 := hm17.tp (S17.tp X1719)
        have hn19 := hn13.tp tp19
        have hla19 := hla.tp (S15.tp (X1517.trans X1719))
        show tSeq _ _ _ [some (.ref l), some (.ref sd), some (.int (i : Int)), some (.ref aa), some (v5), some (.ref tn), some (.int (lo + zk)), some (sv), some (.ref la), some (.ref tm), some (.int (lo + zk + zw)), y11, none, none, none, none] H19
        have evA : EvS S0 (tCall (spN (okNext T.c_BadAir T.c_BadDegrees T.c_BadWeather T.c_BadSetting)) [] (fun _ _ _ => False) (tCons (tVar 3) (tCons (tVar 9) (tCons (tVar 10) (tCons (tVar 7) tNil))))) [some (.ref l), some (.ref sd), some (.int (i : Int)), some (.ref aa), some (v5), some (.ref tn), some (.int (lo + zk)), some (sv), some (.ref la), some (.ref tm), some (.int (lo + zk + zw)), y11, none, none, none, none] H19 (itup (later d eg (lo + zk + zw) on fr)) := fun H2 e2' Q2 q2 => by
          refine ea_cons (σ := [some (.ref l), some (.ref sd), some (.int (i : Int)), some (.ref aa), some (v5), some (.ref tn), some (.int (lo + zk)), some (sv), some (.ref la), some (.ref tm), some (.int (lo + zk + zw)), y11, none, none, none, none]) (ev_var (i := 3) rfl) (ea_cons (ev_var (i := 9) rfl) (ea_cons (ev_var (i := 10) rfl) (ea_cons (ev_var (i := 7) rfl) ea_nil))) H2 (Ex.refl _) _ fun H3' e3' => ⟨_, ⟨.ref aa, d, .ref tm, itup eg, .int (lo + zk + zw), .int (lo + zk + zw), sv, _, rfl, (hv19.up e2').up e3', szA, .tup ((hm19.up e2').up e3') (reps_nums eg), zs_sz (by decide) _ (itup_small (by omega)).2, .int _, (rset19.up e2').up e3', zs_sz (by decide) _ (setD_small hset lon lfr (hN_len hair) (dN_len hair)).2, rfl⟩, fun H4' e4' => ?_⟩
          rw [nextO_ok hair (by omega) beg (by omega) (by omega) hset]
          exact fun z H5' e5' r5' => q2 z H5' ((e3'.trans e4').trans e5') (r5'.up hid0)
        refine s_asgS (S := S0) (d := itup (later d eg (lo + zk + zw) on fr)) evA fun va H20 e20 rab => ?_
        obtain ⟨ba, rfl, hba⟩ := itup_at (rab.up hidP_sub)
        obtain ⟨ll, lle⟩ := later_le (on := on) (fr := fr) hair (dg := dg) (eg := eg) (w := lo + zk) (u := lo + zk + zw) (by omega) (fun k a b' ha hb' => by
          obtain ⟨a2, ha2, h1, _⟩ := oz2 k b' hb'
          rw [ha] at ha2
          cases ha2
          exact h1) (by omega)
        have hla20 := hla19.up e20
        refine s_ifX (σ := [some (.ref l), some (.ref sd), some (.int (i : Int)), some (.ref aa), some (v5), some (.ref tn), some (.int (lo + zk)), some (sv), some (.ref la), some (.ref tm), some (.int (lo + zk + zw)), some (.ref ba), none, none, none, none]) (b := false || false) (et_or (et_test fun H1 e Q1 q1 => ?_) fun _ => et_test (ev_is (ev_op (ev_lenT (ev_var (i := 11) rfl) (.inr hba.rd)) (ev_lenT (ev_var (i := 8) rfl) (.inr hla20.rd)) (rv_ne rfl)) ?_)) (fun hb => by cases hb) (fun _ H21 e21 => ?_)
        · refine el_zipNone (K := K) (σ := [some (.ref l), some (.ref sd), some (.int (i : Int)), some (.ref aa), some (v5), some (.ref tn), some (.int (lo + zk)), some (sv), some (.ref la), some (.ref tm), some (.int (lo + zk + zw)), some (.ref ba), none, none, none, none]) (i := 14) (j := 15) (fun _ _ => rfl) (fun _ _ => rfl) (fun _ _ => rfl) (ev_var (i := 8) rfl) (ev_var (i := 11) rfl) hla20 hba ll lle H1 e _ fun p3 H2 np3 e2 hp3 => ⟨Nat.zero_le _, fun q3 nq3 => rv_neNil (ns := []) ((Ex.new nq3) _ _ hp3) upd_same _ (Ex.refl _) _ fun H3' e3' => q1 H3' ((e2.trans (Ex.new nq3)).trans e3')⟩
        · rw [List.length_map, List.length_map, ll, decide_eq_true rfl]
          rfl
        have S21 := S19.up (e20.trans e21)
        have hv21 := hv19.up (e20.trans e21)
        have hn21 := hn19.up (e20.trans e21)
        have rset21 := rset19.up (e20.trans e21)
        have T21 : Tabs Tb H21 := tabs_exs T6 S6 ((X013.trans X1319).trans (.of (e20.trans e21)))
        refine ⟨.ref sd, rfl, .ref aa, rfl, .ref tn, rfl, .int (lo + zk), rfl, sv, rfl, sd, sg, sc, 200 * (6 - (i + 1)) + 27, .ref aa, .ref tn, .int (lo + zk), sv, d, itup dg, .int (lo + zk), .tup [.tup (on.map D.str), .tup (fr.map D.str)], rfl, .cons (S21.rep hv21 him) (.cons (S21.rep (.tup hn21 (reps_nums dg)) (itup_im dg)) (.cons (.int _) (.cons (S21.rep rset21 (setD_im on fr)) .nil))), fun x hx => ?_, S21, T21, fun H22 S22 T22 => ⟨true, rfl, iteF ?_⟩⟩
        · simp only [List.mem_cons, List.not_mem_nil, or_false] at hx
          rcases hx with rfl | rfl | rfl | rfl
          · exact ⟨sm1, sm2⟩
          · exact itup_small (by omega)
          · exact ⟨Nat.le_trans (int_zs _).1 (by decide), (int_zs _).2⟩
          · exact setD_small hset lon lfr (hN_len hair) (dN_len hair)
        · exact ⟨S22.less (by omega), T22, _, _, _, _, _, _, _, _, _, _, rfl⟩
      · refine ⟨.ref sd, rfl, sd, sg, sc, 200 * (6 - (i + 1)) + 105, 3, rfl, by decide, by decide, S8, fun z H9 _ _ S9 X9 => ⟨rfl, _, rfl, ?_⟩⟩
        refine ite2 (fun _ => ?_) (fun _ => ?_)
        · have X69 := X68.trans X9
          refine cb_S ?_
          refine lc_draws (σ := [some (.ref l), some (.ref sd), some (.int (i : Int)), some (.ref aa), some (v5), some (.ref tn), y6, y7, y8, y9, y10, y11, none, none, none, none]) (b := 200 * (6 - (i + 1)) + 102) (ok := fun _ z => -1000 ≤ z ∧ z ≤ 1000) (ev_ixT (j := 1) (ev_var (i := 3) rfl) (haa.tp (S6.tp X69)) rfl) (hra.tp (S6.tp X69)) (S9.less (by omega)) (by omega) (fun j x H' b' hx S' X' Q1 q1 => ?_) fun p zs H10 np hp lz oz S10 X10 => ?_
          · exact ⟨.ref sd, rfl, sd, sg, sc, b', 2001, rfl, by decide, by decide, S', fun z H11 z0 z9 S11 X11 => ⟨z, 1000, rfl, rfl, q1 _ H11 ⟨by omega, by omega⟩ S11 X11⟩⟩
          refine ⟨p, zs.map V.int, rfl, .of hp, fun tm om ntm hom => hN _ _ ⟨tm, zs, rfl, ⟨om, hom, upd_same⟩, by omega, fun g hg => ?_, S10.up (Ex.new ntm), (X69.trans X10).trans (.of (Ex.new ntm))⟩⟩
          obtain ⟨j, hj⟩ := List.mem_iff_getElem?.mp hg
          exact oz j g hj
        · refine hN _ _ ⟨tn, zs, rfl, hn8.tp (S8.tp X9), by omega, fun g hg => ?_, S9.less (by omega), X68.trans X9⟩
          obtain ⟨j, hj⟩ := List.mem_iff_getElem?.mp hg
          exact oz j g hj
    · refine ⟨.ref sd, rfl, sd, sg, sc, 200 * (6 - (i + 1)) + 124, 2, rfl, by decide, by decide, S4, fun z H5 _ _ S5 X5 => ⟨rfl, _, rfl, ?_⟩⟩
      have r5 := r4.up (S3.ofS.ex (H' := H4) X5)
      refine ite2 (fun _ => ?_) (fun _ => ?_)
      · refine ⟨.ref sd, rfl, v4, rfl, sd, sg, sc, 200 * (6 - (i + 1)) + 109, 21, 5, stS sd sg, v4, d4, rfl, S5.ofS, r5, dp4, by decide, by decide, by decide, z4, S5, fun v6 d6 H6 r6 dp6 z6 S6 X6 => hN _ _ ⟨v6, d6, rfl, r6, dp6, z6, S6, (X4.trans X5).trans X6⟩⟩
      · exact hN _ _ ⟨v4, d4, rfl, r5, by omega, zs_up (by decide) _ z4, S5.less (by omega), X4.trans X5⟩
end
end Kx

set_option Elab.async false
set_option linter.all false
set_option maxRecDepth 100000
set_option maxHeartbeats 1000000
namespace Kx
open PySem PySem.Spec PyProof.Rows L2 Evl LamX
/-! ## what the text's top has left -/
/-- the def x of the text -/
def TextAt (K : PySem.W.Frag) (x : Str) (st : Stmt) : Prop := ∃ (f : Addr) (oc : Value) (od : Option Addr) (kV doc pm : Value) (an : Option Addr) (cdv ct : Value) (osl : Array (Option Value)), PySem.W.nsIn K mainGlobals x = some (some (.ref f)) ∧
  K.lookup f = some ⟨oc, od, .func (PySem.W.fnOf x x (defArgs st) (defBody st) (defScope st) .none kV doc pm an cdv ct), osl⟩ ∧ PySem.W.codeIn K cdv x = true ∧ PySem.W.keepIn K (.ref f) = true
theorem textAt {K : PySem.W.Frag} {x : Str} {st : Stmt} {f : Addr} {oc : Value} {od : Option Addr} {kV doc pm : Value} {an : Option Addr} {cdv ct : Value} {osl : Array (Option Value)} (a : PySem.W.nsIn K mainGlobals x = some (some (.ref f)))
    (l : K.lookup f = some ⟨oc, od, .func (PySem.W.fnOf x x (defArgs st) (defBody st) (defScope st) .none kV doc pm an cdv ct), osl⟩) (c : PySem.W.codeIn K cdv x = true) (k : PySem.W.keepIn K (.ref f) = true) : TextAt K x st := ⟨f, oc, od, kV, doc, pm, an, cdv, ct, osl, a, l, c, k⟩
theorem TextAt.fn {K : PySem.W.Frag} {x : Str} {st : Stmt} (t : TextAt K x st) : ∃ f fd, Fun K x x st f fd ∧ PySem.W.nsIn K mainGlobals x = some (some (.ref f)) :=
  let ⟨f, _, _, _, _, _, _, _, _, _, a, l, c, k⟩ := t; ⟨f, _, fun_mk l c k, a⟩
/-- the def x of the text, whose code c has its table at P -/
def TabAt (K : PySem.W.Frag) (x : Str) (st : Stmt) (P : Addr) : Prop := ∃ (f : Addr) (oc : Value) (od : Option Addr) (kV doc pm : Value) (an : Option Addr) (c : Addr) (ct : Value) (osl : Array (Option Value)), PySem.W.nsIn K mainGlobals x = some (some (.ref f)) ∧
  K.lookup f = some ⟨oc, od, .func (PySem.W.fnOf x x (defArgs st) (defBody st) (defScope st) .none kV doc pm an (.ref c) ct), osl⟩ ∧ PySem.W.codeIn K (.ref c) x = true ∧ PySem.W.keepIn K (.ref f) = true ∧ K.lookup P = none ∧ PySem.W.codeHdIn K c P = true
theorem tabAt {K : PySem.W.Frag} {x : Str} {st : Stmt} {f P c : Addr} {oc : Value} {od : Option Addr} {kV doc pm : Value} {an : Option Addr} {ct : Value} {osl : Array (Option Value)} (a : PySem.W.nsIn K mainGlobals x = some (some (.ref f)))
    (l : K.lookup f = some ⟨oc, od, .func (PySem.W.fnOf x x (defArgs st) (defBody st) (defScope st) .none kV doc pm an (.ref c) ct), osl⟩) (d : PySem.W.codeIn K (.ref c) x = true) (k : PySem.W.keepIn K (.ref f) = true) (n : K.lookup P = none) (e : PySem.W.codeHdIn K c P = true) : TabAt K x st P :=
  ⟨f, oc, od, kV, doc, pm, an, c, ct, osl, a, l, d, k, n, e⟩
theorem TabAt.fn {K : PySem.W.Frag} {x : Str} {st : Stmt} {P : Addr} (t : TabAt K x st P) : ∃ f fd c, Fun K x x st f fd ∧ PySem.W.nsIn K mainGlobals x = some (some (.ref f)) ∧ FunC K x st f c fd ∧ K.lookup P = none ∧ PySem.W.codeHdIn K c P = true :=
  let ⟨f, oc, od, kV, doc, pm, an, c, ct, osl, a, l, d, k, n, e⟩ := t; ⟨f, _, c, fun_mk l d k, a, ⟨oc, od, kV, doc, pm, an, ct, osl, rfl, l, d⟩, n, e⟩
/-- an own class of errors stands at C -/
structure ErrAt (K : PySem.W.Frag) (x : Str) (R C : Addr) : Prop where
  n : PySem.W.nsIn K mainGlobals x = some (some (.ref C))
  q : PySem.W.excIn K C [.type "ValueError", .type "Exception", .type "BaseException", .type "object"] "ValueError.__new__" = true
  kp : PySem.W.keepIn K (.ref C) = true
  bx : PySem.W.subIn K (.ref C) (.type "BaseException") = some true
  ty : PySem.W.typeIn K (.ref C) = some (.type "type")
  hg : PySem.W.findIn K (.ref C) "__getattribute__" = some (some (.builtin "BaseException.__getattribute__"))
  hk : PySem.W.findIn K (.ref C) "__getattr__" = some none
  hd : PySem.W.hasDictIn K C = true
  ha : PySem.W.findIn K (.ref C) "__class__" = some (some (.builtin "object.__class__"))
  hn : PySem.W.specialIn K (.builtin "object.__class__") "__get__" = some (some (.builtin "getset_descriptor.__get__"))
  ht : PySem.W.takesIn K (.builtin "object.__class__") = some true
  hm : PySem.W.mroIn K C (.type "object") = some true
  up : PySem.W.subIn K (.ref C) (.ref R) = some true
theorem ErrAt.ok {K : PySem.W.Frag} {h : Heap} {mg : Str → Option Value} {x : Str} {R C : Addr} (X : K.In h) (G : h.Ns mainGlobals mg) (e : ErrAt K x R C) : ExK K mg x C := ⟨PySem.W.mg_of X G e.n, e.q, e.kp, e.bx, e.ty, ⟨e.hg, e.hk, e.bx, e.hd, e.ha, e.hn, e.ht, e.hm⟩⟩


/-- the class whose errors have a field, and its method -/
structure WthAt (K : PySem.W.Frag) (R C fI : Addr) : Prop where
  n : PySem.W.nsIn K mainGlobals "BadWeather" = some (some (.ref C))
  e : ExcC K C
  up : PySem.W.subIn K (.ref C) (.ref R) = some true
  o : OexC K C
  x : XfC K C
  at_ : PySem.W.findIn K (.ref C) "at" = some none
  i : PySem.W.findIn K (.ref C) "__init__" = some (some (.ref fI))
  ti : PySem.W.typeIn K (.ref fI) = some (.type "function")
  f : ∃ fd, Fun K "__init__" "BadWeather.__init__" s_init fI fd
theorem wthAt {K : PySem.W.Frag} {R C fI N : Addr} {nm q : Str} {bs bm : List Value} {sn : List Str} {sub : List Value} {ab : Bool} {col : Option Bool} {dd : Option Addr} {m0 m1 m2 m3 m5 : Option Value} {oc kV doc pm cdv ct : Value} {od an : Option Addr} {osl : Array (Option Value)}
    (n : PySem.W.nsIn K mainGlobals "BadWeather" = some (some (.ref C))) (l : K.lookup C = some (excClassObj nm q C N bs bm true sn sub ab col dd m0 m1 m2 m3 m5 "ValueError.__new__")) (v : PySem.HandSPX.refsVE bm = true)
    (sa : PySem.W.findIn K (.ref C) "__setattr__" = some (some (.builtin "object.__setattr__"))) (bx : PySem.W.subIn K (.ref C) (.type "BaseException") = some true) (ty : PySem.W.typeIn K (.ref C) = some (.type "type")) (kp : PySem.W.keepIn K (.ref C) = true)
    (hg : PySem.W.findIn K (.ref C) "__getattribute__" = some (some (.builtin "BaseException.__getattribute__"))) (hk : PySem.W.findIn K (.ref C) "__getattr__" = some none) (hd : PySem.W.hasDictIn K C = true) (ha : PySem.W.findIn K (.ref C) "__class__" = some (some (.builtin "object.__class__")))
    (hn : PySem.W.specialIn K (.builtin "object.__class__") "__get__" = some (some (.builtin "getset_descriptor.__get__"))) (ht : PySem.W.takesIn K (.builtin "object.__class__") = some true) (hm : PySem.W.mroIn K C (.type "object") = some true) (up : PySem.W.subIn K (.ref C) (.ref R) = some true) (na : PySem.W.findIn K (.ref C) "at" = some none)
    (i : PySem.W.findIn K (.ref C) "__init__" = some (some (.ref fI))) (ti : PySem.W.typeIn K (.ref fI) = some (.type "function"))
    (li : K.lookup fI = some ⟨oc, od, .func (PySem.W.fnOf "__init__" "BadWeather.__init__" (defArgs s_init) (defBody s_init) (defScope s_init) .none kV doc pm an cdv ct), osl⟩) (ci : PySem.W.codeIn K cdv "BadWeather.__init__" = true) (ki : PySem.W.keepIn K (.ref fI) = true) : WthAt K R C fI :=
  ⟨n, ⟨hg, hk, bx, hd, ha, hn, ht, hm⟩, up, ⟨⟨nm, q, N, bs, bm, sn, sub, ab, col, dd, m0, m1, m2, m3, m5, l, v⟩, sa, bx, ty, kp⟩, ⟨hg, hk, bx, hd⟩, na, i, ti, ⟨_, fun_mk li ci ki⟩⟩

theorem all_mk {l : PySem.W.OpenLaw} {w : World} {K : PySem.W.Frag} {h : Heap} {mg : Str → Option Value} {fa : Addr} (X : K.In h) (G : h.Ns mainGlobals mg) (hfa : mg "law" = some (.ref fa))
    (t_is_between : TextAt K "is_between" s_is_between)
    (t_is_tuple : TextAt K "is_tuple" s_is_tuple)
    (t_is_among : TextAt K "is_among" s_is_among)
    (t_is_ascending : TextAt K "is_ascending" s_is_ascending)
    (t_are_unlike : TextAt K "are_unlike" s_are_unlike)
    (t_are_wholes : TextAt K "are_wholes" s_are_wholes)
    (t_is_name : TextAt K "is_name" s_is_name)
    (t_is_room : TextAt K "is_room" s_is_room)
    (t_are_rooms : TextAt K "are_rooms" s_are_rooms)
    (t_is_leak : TextAt K "is_leak" s_is_leak)
    (t_are_leaks : TextAt K "are_leaks" s_are_leaks)
    (t_is_heater : TextAt K "is_heater" s_is_heater)
    (t_are_heaters : TextAt K "are_heaters" s_are_heaters)
    (t_is_weather : TextAt K "is_weather" s_is_weather)
    (t_is_air : TextAt K "is_air" s_is_air)
    (t_are_named : TextAt K "are_named" s_are_named)
    (t_is_setting_of : TextAt K "is_setting_of" s_is_setting_of)
    (t_check_air : TextAt K "check_air" s_check_air)
    (t_is_setting : TextAt K "is_setting" s_is_setting)
    (t_check_degrees : TextAt K "check_degrees" s_check_degrees)
    (t_next_degrees : TextAt K "next_degrees" s_next_degrees)
    (t_stepped_degrees : TextAt K "stepped_degrees" s_stepped_degrees)
    (t_law_begun : TextAt K "_law_begun" s_law_begun)
    (t_law_mixed : TextAt K "_law_mixed" s_law_mixed)
    (t_law_draw : TextAt K "_law_draw" s_law_draw)
    (t_law_pick : TextAt K "_law_pick" s_law_pick)
    (t_law_shuffled : TextAt K "_law_shuffled" s_law_shuffled)
    (t_law_some : TextAt K "_law_some" s_law_some)
    (t_law_caught : TextAt K "_law_caught" s_law_caught)
    (t_law_whole_number : TextAt K "_law_whole_number" s_law_whole_number)
    (t_law_tells : TextAt K "_law_tells" s_law_tells)
    (t_law_any : TextAt K "_law_any" s_law_any)
    (t_law_spoilt : TextAt K "_law_spoilt" s_law_spoilt)
    (t_law_leaks : TextAt K "_law_leaks" s_law_leaks)
    (t_law_even_gain : TextAt K "_law_even_gain" s_law_even_gain)
    (t_law_air : TextAt K "_law_air" s_law_air)
    (t_law_heater_names : TextAt K "_law_heater_names" s_law_heater_names)
    (t_law_door_names : TextAt K "_law_door_names" s_law_door_names)
    (t_law_setting : TextAt K "_law_setting" s_law_setting)
    (t_law_later : TextAt K "_law_later" s_law_later)
    (t_law_is_name : TextAt K "_law_is_name" s_law_is_name)
    (t_law_between : TextAt K "_law_between" s_law_between)
    (t_law_is_tuple : TextAt K "_law_is_tuple" s_law_is_tuple)
    (t_law_good_rooms : TextAt K "_law_good_rooms" s_law_good_rooms)
    (t_law_good_leaks : TextAt K "_law_good_leaks" s_law_good_leaks)
    (t_law_good_heaters : TextAt K "_law_good_heaters" s_law_good_heaters)
    (t_law_good_air : TextAt K "_law_good_air" s_law_good_air)
    (t_law_good_names : TextAt K "_law_good_names" s_law_good_names)
    (t_law_good_setting : TextAt K "_law_good_setting" s_law_good_setting)
    (t_law : TextAt K "law" s_law)
    {P1 fI cKeptError cBadAir cBadDegrees cBadSetting cBadWeather : Addr} (t_law_ask_errors : TabAt K "_law_ask_errors" s_law_ask_errors P1) (o1 : h.get? P1 = some { cls := .none, data := .fields #[] })
    (eKeptError : ErrAt K "KeptError" cKeptError cKeptError) (eBadAir : ErrAt K "BadAir" cKeptError cBadAir) (eBadDegrees : ErrAt K "BadDegrees" cKeptError cBadDegrees) (eBadSetting : ErrAt K "BadSetting" cKeptError cBadSetting) (eW : WthAt K cKeptError cBadWeather fI) {tO : PySem.Tok} (nOUT : PySem.W.nsIn K mainGlobals "OUT" = some (some (.str "out" tO)))
    (qBadAir : PySem.W.kitOne K (.ref cBadAir) (.ref cBadAir) = some true) (qBadDegrees : PySem.W.kitOne K (.ref cBadDegrees) (.ref cBadDegrees) = some true) (qBadSetting : PySem.W.kitOne K (.ref cBadSetting) (.ref cBadSetting) = some true) (qBadWeather : PySem.W.kitOne K (.ref cBadWeather) (.ref cBadWeather) = some true)
    (z_type : PySem.W.nsIn K mainGlobals "type" = some none) (z_int : PySem.W.nsIn K mainGlobals "int" = some none) (z_str : PySem.W.nsIn K mainGlobals "str" = some none) (z_bool : PySem.W.nsIn K mainGlobals "bool" = some none) (z_tuple : PySem.W.nsIn K mainGlobals "tuple" = some none) (z_list : PySem.W.nsIn K mainGlobals "list" = some none) (z_len : PySem.W.nsIn K mainGlobals "len" = some none) (z_all : PySem.W.nsIn K mainGlobals "all" = some none) (z_set : PySem.W.nsIn K mainGlobals "set" = some none) (z_range : PySem.W.nsIn K mainGlobals "range" = some none) (z_isinstance : PySem.W.nsIn K mainGlobals "isinstance" = some none) (z_abs : PySem.W.nsIn K mainGlobals "abs" = some none) (z_min : PySem.W.nsIn K mainGlobals "min" = some none) (z_max : PySem.W.nsIn K mainGlobals "max" = some none) (z_sorted : PySem.W.nsIn K mainGlobals "sorted" = some none) (z_sum : PySem.W.nsIn K mainGlobals "sum" = some none) (z_zip : PySem.W.nsIn K mainGlobals "zip" = some none) (z_enumerate : PySem.W.nsIn K mainGlobals "enumerate" = some none) (z_reversed : PySem.W.nsIn K mainGlobals "reversed" = some none) (z_dict : PySem.W.nsIn K mainGlobals "dict" = some none) :
    LawAtS l w K CX0 16 63 "script" mg fa h := by
  obtain ⟨a_is_between, d_is_between, F_is_between, n_is_between⟩ := t_is_between.fn
  obtain ⟨a_is_tuple, d_is_tuple, F_is_tuple, n_is_tuple⟩ := t_is_tuple.fn
  obtain ⟨a_is_among, d_is_among, F_is_among, n_is_among⟩ := t_is_among.fn
  obtain ⟨a_is_ascending, d_is_ascending, F_is_ascending, n_is_ascending⟩ := t_is_ascending.fn
  obtain ⟨a_are_unlike, d_are_unlike, F_are_unlike, n_are_unlike⟩ := t_are_unlike.fn
  obtain ⟨a_are_wholes, d_are_wholes, F_are_wholes, n_are_wholes⟩ := t_are_wholes.fn
  obtain ⟨a_is_name, d_is_name, F_is_name, n_is_name⟩ := t_is_name.fn
  obtain ⟨a_is_room, d_is_room, F_is_room, n_is_room⟩ := t_is_room.fn
  obtain ⟨a_are_rooms, d_are_rooms, F_are_rooms, n_are_rooms⟩ := t_are_rooms.fn
  obtain ⟨a_is_leak, d_is_leak, F_is_leak, n_is_leak⟩ := t_is_leak.fn
  obtain ⟨a_are_leaks, d_are_leaks, F_are_leaks, n_are_leaks⟩ := t_are_leaks.fn
  obtain ⟨a_is_heater, d_is_heater, F_is_heater, n_is_heater⟩ := t_is_heater.fn
  obtain ⟨a_are_heaters, d_are_heaters, F_are_heaters, n_are_heaters⟩ := t_are_heaters.fn
  obtain ⟨a_is_weather, d_is_weather, F_is_weather, n_is_weather⟩ := t_is_weather.fn
  obtain ⟨a_is_air, d_is_air, F_is_air, n_is_air⟩ := t_is_air.fn
  obtain ⟨a_are_named, d_are_named, F_are_named, n_are_named⟩ := t_are_named.fn
  obtain ⟨a_is_setting_of, d_is_setting_of, F_is_setting_of, n_is_setting_of⟩ := t_is_setting_of.fn
  obtain ⟨a_check_air, d_check_air, F_check_air, n_check_air⟩ := t_check_air.fn
  obtain ⟨a_is_setting, d_is_setting, F_is_setting, n_is_setting⟩ := t_is_setting.fn
  obtain ⟨a_check_degrees, d_check_degrees, F_check_degrees, n_check_degrees⟩ := t_check_degrees.fn
  obtain ⟨a_next_degrees, d_next_degrees, F_next_degrees, n_next_degrees⟩ := t_next_degrees.fn
  obtain ⟨a_stepped_degrees, d_stepped_degrees, F_stepped_degrees, n_stepped_degrees⟩ := t_stepped_degrees.fn
  obtain ⟨a_law_begun, d_law_begun, F_law_begun, n_law_begun⟩ := t_law_begun.fn
  obtain ⟨a_law_mixed, d_law_mixed, F_law_mixed, n_law_mixed⟩ := t_law_mixed.fn
  obtain ⟨a_law_draw, d_law_draw, F_law_draw, n_law_draw⟩ := t_law_draw.fn
  obtain ⟨a_law_pick, d_law_pick, F_law_pick, n_law_pick⟩ := t_law_pick.fn
  obtain ⟨a_law_shuffled, d_law_shuffled, F_law_shuffled, n_law_shuffled⟩ := t_law_shuffled.fn
  obtain ⟨a_law_some, d_law_some, F_law_some, n_law_some⟩ := t_law_some.fn
  obtain ⟨a_law_caught, d_law_caught, F_law_caught, n_law_caught⟩ := t_law_caught.fn
  obtain ⟨a_law_whole_number, d_law_whole_number, F_law_whole_number, n_law_whole_number⟩ := t_law_whole_number.fn
  obtain ⟨a_law_tells, d_law_tells, F_law_tells, n_law_tells⟩ := t_law_tells.fn
  obtain ⟨a_law_any, d_law_any, F_law_any, n_law_any⟩ := t_law_any.fn
  obtain ⟨a_law_spoilt, d_law_spoilt, F_law_spoilt, n_law_spoilt⟩ := t_law_spoilt.fn
  obtain ⟨a_law_leaks, d_law_leaks, F_law_leaks, n_law_leaks⟩ := t_law_leaks.fn
  obtain ⟨a_law_even_gain, d_law_even_gain, F_law_even_gain, n_law_even_gain⟩ := t_law_even_gain.fn
  obtain ⟨a_law_air, d_law_air, F_law_air, n_law_air⟩ := t_law_air.fn
  obtain ⟨a_law_heater_names, d_law_heater_names, F_law_heater_names, n_law_heater_names⟩ := t_law_heater_names.fn
  obtain ⟨a_law_door_names, d_law_door_names, F_law_door_names, n_law_door_names⟩ := t_law_door_names.fn
  obtain ⟨a_law_setting, d_law_setting, F_law_setting, n_law_setting⟩ := t_law_setting.fn
  obtain ⟨a_law_later, d_law_later, F_law_later, n_law_later⟩ := t_law_later.fn
  obtain ⟨a_law_is_name, d_law_is_name, F_law_is_name, n_law_is_name⟩ := t_law_is_name.fn
  obtain ⟨a_law_between, d_law_between, F_law_between, n_law_between⟩ := t_law_between.fn
  obtain ⟨a_law_is_tuple, d_law_is_tuple, F_law_is_tuple, n_law_is_tuple⟩ := t_law_is_tuple.fn
  obtain ⟨a_law_good_rooms, d_law_good_rooms, F_law_good_rooms, n_law_good_rooms⟩ := t_law_good_rooms.fn
  obtain ⟨a_law_good_leaks, d_law_good_leaks, F_law_good_leaks, n_law_good_leaks⟩ := t_law_good_leaks.fn
  obtain ⟨a_law_good_heaters, d_law_good_heaters, F_law_good_heaters, n_law_good_heaters⟩ := t_law_good_heaters.fn
  obtain ⟨a_law_good_air, d_law_good_air, F_law_good_air, n_law_good_air⟩ := t_law_good_air.fn
  obtain ⟨a_law_good_names, d_law_good_names, F_law_good_names, n_law_good_names⟩ := t_law_good_names.fn
  obtain ⟨a_law_good_setting, d_law_good_setting, F_law_good_setting, n_law_good_setting⟩ := t_law_good_setting.fn
  obtain ⟨a_law_ask_errors, d_law_ask_errors, c_law_ask_errors, F_law_ask_errors, n_law_ask_errors, C_law_ask_errors, w_law_ask_errors, h_law_ask_errors⟩ := t_law_ask_errors.fn
  obtain ⟨a_law, oc, od, kV, doc, pm, an, cdv, ct, osl, n_law, l_law, c_law, k_law⟩ := t_law
  have F_law := fun_mk (st := s_law) l_law c_law k_law
  obtain ⟨d_init, F_init⟩ := eW.f
  let T : Txt K mg := { a_is_between := a_is_between, d_is_between := d_is_between, F_is_between := F_is_between, g_is_between := PySem.W.mg_of X G n_is_between, a_is_tuple := a_is_tuple, d_is_tuple := d_is_tuple, F_is_tuple := F_is_tuple, g_is_tuple := PySem.W.mg_of X G n_is_tuple, a_is_among := a_is_among, d_is_among := d_is_among, F_is_among := F_is_among, g_is_among := PySem.W.mg_of X G n_is_among, a_is_ascending := a_is_ascending, d_is_ascending := d_is_ascending, F_is_ascending := F_is_ascending, g_is_ascending := PySem.W.mg_of X G n_is_ascending, a_are_unlike := a_are_unlike, d_are_unlike := d_are_unlike, F_are_unlike := F_are_unlike, g_are_unlike := PySem.W.mg_of X G n_are_unlike, a_are_wholes := a_are_wholes, d_are_wholes := d_are_wholes, F_are_wholes := F_are_wholes, g_are_wholes := PySem.W.mg_of X G n_are_wholes, a_is_name := a_is_name, d_is_name := d_is_name, F_is_name := F_is_name, g_is_name := PySem.W.mg_of X G n_is_name, a_is_room := a_is_room, d_is_room := d_is_room, F_is_room := F_is_room, g_is_room := PySem.W.mg_of X G n_is_room, a_are_rooms := a_are_rooms, d_are_rooms := d_are_rooms, F_are_rooms := F_are_rooms, g_are_rooms := PySem.W.mg_of X G n_are_rooms, a_is_leak := a_is_leak, d_is_leak := d_is_leak, F_is_leak := F_is_leak, g_is_leak := PySem.W.mg_of X G n_is_leak, a_are_leaks := a_are_leaks, d_are_leaks := d_are_leaks, F_are_leaks := F_are_leaks, g_are_leaks := PySem.W.mg_of X G n_are_leaks, a_is_heater := a_is_heater, d_is_heater := d_is_heater, F_is_heater := F_is_heater, g_is_heater := PySem.W.mg_of X G n_is_heater, a_are_heaters := a_are_heaters, d_are_heaters := d_are_heaters, F_are_heaters := F_are_heaters, g_are_heaters := PySem.W.mg_of X G n_are_heaters, a_is_weather := a_is_weather, d_is_weather := d_is_weather, F_is_weather := F_is_weather, g_is_weather := PySem.W.mg_of X G n_is_weather, a_is_air := a_is_air, d_is_air := d_is_air, F_is_air := F_is_air, g_is_air := PySem.W.mg_of X G n_is_air, a_are_named := a_are_named, d_are_named := d_are_named, F_are_named := F_are_named, g_are_named := PySem.W.mg_of X G n_are_named, a_is_setting_of := a_is_setting_of, d_is_setting_of := d_is_setting_of, F_is_setting_of := F_is_setting_of, g_is_setting_of := PySem.W.mg_of X G n_is_setting_of, a_check_air := a_check_air, d_check_air := d_check_air, F_check_air := F_check_air, g_check_air := PySem.W.mg_of X G n_check_air, a_is_setting := a_is_setting, d_is_setting := d_is_setting, F_is_setting := F_is_setting, g_is_setting := PySem.W.mg_of X G n_is_setting, a_check_degrees := a_check_degrees, d_check_degrees := d_check_degrees, F_check_degrees := F_check_degrees, g_check_degrees := PySem.W.mg_of X G n_check_degrees, a_next_degrees := a_next_degrees, d_next_degrees := d_next_degrees, F_next_degrees := F_next_degrees, g_next_degrees := PySem.W.mg_of X G n_next_degrees, a_stepped_degrees := a_stepped_degrees, d_stepped_degrees := d_stepped_degrees, F_stepped_degrees := F_stepped_degrees, g_stepped_degrees := PySem.W.mg_of X G n_stepped_degrees, a_law_begun := a_law_begun, d_law_begun := d_law_begun, F_law_begun := F_law_begun, g_law_begun := PySem.W.mg_of X G n_law_begun, a_law_mixed := a_law_mixed, d_law_mixed := d_law_mixed, F_law_mixed := F_law_mixed, g_law_mixed := PySem.W.mg_of X G n_law_mixed, a_law_draw := a_law_draw, d_law_draw := d_law_draw, F_law_draw := F_law_draw, g_law_draw := PySem.W.mg_of X G n_law_draw, a_law_pick := a_law_pick, d_law_pick := d_law_pick, F_law_pick := F_law_pick, g_law_pick := PySem.W.mg_of X G n_law_pick, a_law_shuffled := a_law_shuffled, d_law_shuffled := d_law_shuffled, F_law_shuffled := F_law_shuffled, g_law_shuffled := PySem.W.mg_of X G n_law_shuffled, a_law_some := a_law_some, d_law_some := d_law_some, F_law_some := F_law_some, g_law_some := PySem.W.mg_of X G n_law_some, a_law_caught := a_law_caught, d_law_caught := d_law_caught, F_law_caught := F_law_caught, g_law_caught := PySem.W.mg_of X G n_law_caught, a_law_whole_number := a_law_whole_number, d_law_whole_number := d_law_whole_number, F_law_whole_number := F_law_whole_number, g_law_whole_number := PySem.W.mg_of X G n_law_whole_number, a_law_tells := a_law_tells, d_law_tells := d_law_tells, F_law_tells := F_law_tells, g_law_tells := PySem.W.mg_of X G n_law_tells, a_law_any := a_law_any, d_law_any := d_law_any, F_law_any := F_law_any, g_law_any := PySem.W.mg_of X G n_law_any, a_law_spoilt := a_law_spoilt, d_law_spoilt := d_law_spoilt, F_law_spoilt := F_law_spoilt, g_law_spoilt := PySem.W.mg_of X G n_law_spoilt, a_law_leaks := a_law_leaks, d_law_leaks := d_law_leaks, F_law_leaks := F_law_leaks, g_law_leaks := PySem.W.mg_of X G n_law_leaks, a_law_even_gain := a_law_even_gain, d_law_even_gain := d_law_even_gain, F_law_even_gain := F_law_even_gain, g_law_even_gain := PySem.W.mg_of X G n_law_even_gain, a_law_air := a_law_air, d_law_air := d_law_air, F_law_air := F_law_air, g_law_air := PySem.W.mg_of X G n_law_air, a_law_heater_names := a_law_heater_names, d_law_heater_names := d_law_heater_names, F_law_heater_names := F_law_heater_names, g_law_heater_names := PySem.W.mg_of X G n_law_heater_names, a_law_door_names := a_law_door_names, d_law_door_names := d_law_door_names, F_law_door_names := F_law_door_names, g_law_door_names := PySem.W.mg_of X G n_law_door_names, a_law_setting := a_law_setting, d_law_setting := d_law_setting, F_law_setting := F_law_setting, g_law_setting := PySem.W.mg_of X G n_law_setting, a_law_later := a_law_later, d_law_later := d_law_later, F_law_later := F_law_later, g_law_later := PySem.W.mg_of X G n_law_later, a_law_is_name := a_law_is_name, d_law_is_name := d_law_is_name, F_law_is_name := F_law_is_name, g_law_is_name := PySem.W.mg_of X G n_law_is_name, a_law_between := a_law_between, d_law_between := d_law_between, F_law_between := F_law_between, g_law_between := PySem.W.mg_of X G n_law_between, a_law_is_tuple := a_law_is_tuple, d_law_is_tuple := d_law_is_tuple, F_law_is_tuple := F_law_is_tuple, g_law_is_tuple := PySem.W.mg_of X G n_law_is_tuple, a_law_good_rooms := a_law_good_rooms, d_law_good_rooms := d_law_good_rooms, F_law_good_rooms := F_law_good_rooms, g_law_good_rooms := PySem.W.mg_of X G n_law_good_rooms, a_law_good_leaks := a_law_good_leaks, d_law_good_leaks := d_law_good_leaks, F_law_good_leaks := F_law_good_leaks, g_law_good_leaks := PySem.W.mg_of X G n_law_good_leaks, a_law_good_heaters := a_law_good_heaters, d_law_good_heaters := d_law_good_heaters, F_law_good_heaters := F_law_good_heaters, g_law_good_heaters := PySem.W.mg_of X G n_law_good_heaters, a_law_good_air := a_law_good_air, d_law_good_air := d_law_good_air, F_law_good_air := F_law_good_air, g_law_good_air := PySem.W.mg_of X G n_law_good_air, a_law_good_names := a_law_good_names, d_law_good_names := d_law_good_names, F_law_good_names := F_law_good_names, g_law_good_names := PySem.W.mg_of X G n_law_good_names, a_law_good_setting := a_law_good_setting, d_law_good_setting := d_law_good_setting, F_law_good_setting := F_law_good_setting, g_law_good_setting := PySem.W.mg_of X G n_law_good_setting, a_law_ask_errors := a_law_ask_errors, d_law_ask_errors := d_law_ask_errors, F_law_ask_errors := F_law_ask_errors, g_law_ask_errors := PySem.W.mg_of X G n_law_ask_errors, a_law := a_law, d_law := _, F_law := F_law, g_law := PySem.W.mg_of X G n_law, c_KeptError := cKeptError, E_KeptError := eKeptError.ok X G, u_KeptError := eKeptError.up, c_BadAir := cBadAir, E_BadAir := eBadAir.ok X G, u_BadAir := eBadAir.up, c_BadDegrees := cBadDegrees, E_BadDegrees := eBadDegrees.ok X G, u_BadDegrees := eBadDegrees.up, c_BadSetting := cBadSetting, E_BadSetting := eBadSetting.ok X G, u_BadSetting := eBadSetting.up, c_BadWeather := cBadWeather, G_BadWeather := PySem.W.mg_of X G eW.n, K_BadWeather := eW.e, u_BadWeather := eW.up, a_init := fI, d_init := d_init, F_init := F_init, i_BadWeather := eW.i, ti_BadWeather := eW.ti, O_BadWeather := eW.o, X_BadWeather := eW.x, n_BadWeather := eW.at_, tO := tO, g_OUT := PySem.W.mg_of X G nOUT, q_BadAir := qBadAir, q_BadDegrees := qBadDegrees, q_BadSetting := qBadSetting, q_BadWeather := qBadWeather, z_type := PySem.W.mg_none_of X G z_type, z_int := PySem.W.mg_none_of X G z_int, z_str := PySem.W.mg_none_of X G z_str, z_bool := PySem.W.mg_none_of X G z_bool, z_tuple := PySem.W.mg_none_of X G z_tuple, z_list := PySem.W.mg_none_of X G z_list, z_len := PySem.W.mg_none_of X G z_len, z_all := PySem.W.mg_none_of X G z_all, z_set := PySem.W.mg_none_of X G z_set, z_range := PySem.W.mg_none_of X G z_range, z_isinstance := PySem.W.mg_none_of X G z_isinstance, z_abs := PySem.W.mg_none_of X G z_abs, z_min := PySem.W.mg_none_of X G z_min, z_max := PySem.W.mg_none_of X G z_max, z_sorted := PySem.W.mg_none_of X G z_sorted, z_sum := PySem.W.mg_none_of X G z_sum, z_zip := PySem.W.mg_none_of X G z_zip, z_enumerate := PySem.W.mg_none_of X G z_enumerate, z_reversed := PySem.W.mg_none_of X G z_reversed, z_dict := PySem.W.mg_none_of X G z_dict }
  have e := hfa.symm.trans (PySem.W.mg_of X G n_law)
  cases e
  let Tb : List (Addr × Str) := [(P1, qAsk)]
  refine ⟨_, [(c_law_ask_errors, P1)], spLaw K Tb, fun p hp => ?_, fun p hp => ?_, fun p hp => ?_, fun s u => .of_eq rfl, fun H a ns hl _ hH hS => ?_, fun base KB NB TB => ok_law T ?_⟩
  · rw [List.mem_singleton.mp hp]
    exact o1
  · rw [List.mem_singleton.mp hp]
    exact w_law_ask_errors
  · rw [List.mem_singleton.mp hp]
    exact PySem.W.codeHd_of_K X h_law_ask_errors
  · refine ⟨a, ns, rfl, hS, hl, fun p hp => ?_, fun _ => rfl⟩
    rw [List.mem_singleton.mp hp]
    exact TabS.nil (hH (c_law_ask_errors, P1) List.mem_cons_self)
  · exact ok_ask T C_law_ask_errors (TB (c_law_ask_errors, P1) List.mem_cons_self) List.mem_cons_self (fun p hp ep => by rw [List.mem_singleton.mp hp])
end Kx

set_option Elab.async false
set_option maxRecDepth 100000
open PySem PySem.W PyProof.Rows in
set_option maxRecDepth 100000 in
set_option maxHeartbeats 0 in
theorem PySem.Challenge.cw_housekept_k67_airs_step_by_step_holds : PySem.Challenge.rw_housekept_k67_airs_step_by_step.Holds := by
  w_on; o_law; k_head; (case hw => w_witness2)
  k_fill
  refine LamX.walk_ofTs (l := PySem.Challenge.rw_housekept_k67_airs_step_by_step) (n := 63) (k := 16) (x := "script") (CX := fun _ => L2.CX0) rfl (by decide) rfl ⟨rfl, by decide, by decide⟩ (fun w h Y => PySem.W.km_in_of Y) ?F (fun _ _ _ _ _ z => z)
  case F =>
    intro w mg fa h Y KX G hmg
    have tb := PySem.W.km_tabs_of Y
    refine' Kx.all_mk KX G hmg ?t_is_between ?t_is_tuple ?t_is_among ?t_is_ascending ?t_are_unlike ?t_are_wholes ?t_is_name ?t_is_room ?t_are_rooms ?t_is_leak ?t_are_leaks ?t_is_heater ?t_are_heaters ?t_is_weather ?t_is_air ?t_are_named ?t_is_setting_of ?t_check_air ?t_is_setting ?t_check_degrees ?t_next_degrees ?t_stepped_degrees ?t_law_begun ?t_law_mixed ?t_law_draw ?t_law_pick ?t_law_shuffled ?t_law_some ?t_law_caught ?t_law_whole_number ?t_law_tells ?t_law_any ?t_law_spoilt ?t_law_leaks ?t_law_even_gain ?t_law_air ?t_law_heater_names ?t_law_door_names ?t_law_setting ?t_law_later ?t_law_is_name ?t_law_between ?t_law_is_tuple ?t_law_good_rooms ?t_law_good_leaks ?t_law_good_heaters ?t_law_good_air ?t_law_good_names ?t_law_good_setting ?t_law ?u1 ?o1 ?eKeptError ?eBadAir ?eBadDegrees ?eBadSetting ?eW ?nOUT ?qBadAir ?qBadDegrees ?qBadSetting ?qBadWeather ?z_type ?z_int ?z_str ?z_bool ?z_tuple ?z_list ?z_len ?z_all ?z_set ?z_range ?z_isinstance ?z_abs ?z_min ?z_max ?z_sorted ?z_sum ?z_zip ?z_enumerate ?z_reversed ?z_dict
    case t_is_between => (refine' Kx.textAt ?a ?l ?c ?k; (case a => k_is); (case l => k_is); (case c => k_is); (case k => k_is))
    case t_is_tuple => (refine' Kx.textAt ?a ?l ?c ?k; (case a => k_is); (case l => k_is); (case c => k_is); (case k => k_is))
    case t_is_among => (refine' Kx.textAt ?a ?l ?c ?k; (case a => k_is); (case l => k_is); (case c => k_is); (case k => k_is))
    case t_is_ascending => (refine' Kx.textAt ?a ?l ?c ?k; (case a => k_is); (case l => k_is); (case c => k_is); (case k => k_is))
    case t_are_unlike => (refine' Kx.textAt ?a ?l ?c ?k; (case a => k_is); (case l => k_is); (case c => k_is); (case k => k_is))
    case t_are_wholes => (refine' Kx.textAt ?a ?l ?c ?k; (case a => k_is); (case l => k_is); (case c => k_is); (case k => k_is))
    case t_is_name => (refine' Kx.textAt ?a ?l ?c ?k; (case a => k_is); (case l => k_is); (case c => k_is); (case k => k_is))
    case t_is_room => (refine' Kx.textAt ?a ?l ?c ?k; (case a => k_is); (case l => k_is); (case c => k_is); (case k => k_is))
    case t_are_rooms => (refine' Kx.textAt ?a ?l ?c ?k; (case a => k_is); (case l => k_is); (case c => k_is); (case k => k_is))
    case t_is_leak => (refine' Kx.textAt ?a ?l ?c ?k; (case a => k_is); (case l => k_is); (case c => k_is); (case k => k_is))
    case t_are_leaks => (refine' Kx.textAt ?a ?l ?c ?k; (case a => k_is); (case l => k_is); (case c => k_is); (case k => k_is))
    case t_is_heater => (refine' Kx.textAt ?a ?l ?c ?k; (case a => k_is); (case l => k_is); (case c => k_is); (case k => k_is))
    case t_are_heaters => (refine' Kx.textAt ?a ?l ?c ?k; (case a => k_is); (case l => k_is); (case c => k_is); (case k => k_is))
    case t_is_weather => (refine' Kx.textAt ?a ?l ?c ?k; (case a => k_is); (case l => k_is); (case c => k_is); (case k => k_is))
    case t_is_air => (refine' Kx.textAt ?a ?l ?c ?k; (case a => k_is); (case l => k_is); (case c => k_is); (case k => k_is))
    case t_are_named => (refine' Kx.textAt ?a ?l ?c ?k; (case a => k_is); (case l => k_is); (case c => k_is); (case k => k_is))
    case t_is_setting_of => (refine' Kx.textAt ?a ?l ?c ?k; (case a => k_is); (case l => k_is); (case c => k_is); (case k => k_is))
    case t_check_air => (refine' Kx.textAt ?a ?l ?c ?k; (case a => k_is); (case l => k_is); (case c => k_is); (case k => k_is))
    case t_is_setting => (refine' Kx.textAt ?a ?l ?c ?k; (case a => k_is); (case l => k_is); (case c => k_is); (case k => k_is))
    case t_check_degrees => (refine' Kx.textAt ?a ?l ?c ?k; (case a => k_is); (case l => k_is); (case c => k_is); (case k => k_is))
    case t_next_degrees => (refine' Kx.textAt ?a ?l ?c ?k; (case a => k_is); (case l => k_is); (case c => k_is); (case k => k_is))
    case t_stepped_degrees => (refine' Kx.textAt ?a ?l ?c ?k; (case a => k_is); (case l => k_is); (case c => k_is); (case k => k_is))
    case t_law_begun => (refine' Kx.textAt ?a ?l ?c ?k; (case a => k_is); (case l => k_is); (case c => k_is); (case k => k_is))
    case t_law_mixed => (refine' Kx.textAt ?a ?l ?c ?k; (case a => k_is); (case l => k_is); (case c => k_is); (case k => k_is))
    case t_law_draw => (refine' Kx.textAt ?a ?l ?c ?k; (case a => k_is); (case l => k_is); (case c => k_is); (case k => k_is))
    case t_law_pick => (refine' Kx.textAt ?a ?l ?c ?k; (case a => k_is); (case l => k_is); (case c => k_is); (case k => k_is))
    case t_law_shuffled => (refine' Kx.textAt ?a ?l ?c ?k; (case a => k_is); (case l => k_is); (case c => k_is); (case k => k_is))
    case t_law_some => (refine' Kx.textAt ?a ?l ?c ?k; (case a => k_is); (case l => k_is); (case c => k_is); (case k => k_is))
    case t_law_caught => (refine' Kx.textAt ?a ?l ?c ?k; (case a => k_is); (case l => k_is); (case c => k_is); (case k => k_is))
    case t_law_whole_number => (refine' Kx.textAt ?a ?l ?c ?k; (case a => k_is); (case l => k_is); (case c => k_is); (case k => k_is))
    case t_law_tells => (refine' Kx.textAt ?a ?l ?c ?k; (case a => k_is); (case l => k_is); (case c => k_is); (case k => k_is))
    case t_law_any => (refine' Kx.textAt ?a ?l ?c ?k; (case a => k_is); (case l => k_is); (case c => k_is); (case k => k_is))
    case t_law_spoilt => (refine' Kx.textAt ?a ?l ?c ?k; (case a => k_is); (case l => k_is); (case c => k_is); (case k => k_is))
    case t_law_leaks => (refine' Kx.textAt ?a ?l ?c ?k; (case a => k_is); (case l => k_is); (case c => k_is); (case k => k_is))
    case t_law_even_gain => (refine' Kx.textAt ?a ?l ?c ?k; (case a => k_is); (case l => k_is); (case c => k_is); (case k => k_is))
    case t_law_air => (refine' Kx.textAt ?a ?l ?c ?k; (case a => k_is); (case l => k_is); (case c => k_is); (case k => k_is))
    case t_law_heater_names => (refine' Kx.textAt ?a ?l ?c ?k; (case a => k_is); (case l => k_is); (case c => k_is); (case k => k_is))
    case t_law_door_names => (refine' Kx.textAt ?a ?l ?c ?k; (case a => k_is); (case l => k_is); (case c => k_is); (case k => k_is))
    case t_law_setting => (refine' Kx.textAt ?a ?l ?c ?k; (case a => k_is); (case l => k_is); (case c => k_is); (case k => k_is))
    case t_law_later => (refine' Kx.textAt ?a ?l ?c ?k; (case a => k_is); (case l => k_is); (case c => k_is); (case k => k_is))
    case t_law_is_name => (refine' Kx.textAt ?a ?l ?c ?k; (case a => k_is); (case l => k_is); (case c => k_is); (case k => k_is))
    case t_law_between => (refine' Kx.textAt ?a ?l ?c ?k; (case a => k_is); (case l => k_is); (case c => k_is); (case k => k_is))
    case t_law_is_tuple => (refine' Kx.textAt ?a ?l ?c ?k; (case a => k_is); (case l => k_is); (case c => k_is); (case k => k_is))
    case t_law_good_rooms => (refine' Kx.textAt ?a ?l ?c ?k; (case a => k_is); (case l => k_is); (case c => k_is); (case k => k_is))
    case t_law_good_leaks => (refine' Kx.textAt ?a ?l ?c ?k; (case a => k_is); (case l => k_is); (case c => k_is); (case k => k_is))
    case t_law_good_heaters => (refine' Kx.textAt ?a ?l ?c ?k; (case a => k_is); (case l => k_is); (case c => k_is); (case k => k_is))
    case t_law_good_air => (refine' Kx.textAt ?a ?l ?c ?k; (case a => k_is); (case l => k_is); (case c => k_is); (case k => k_is))
    case t_law_good_names => (refine' Kx.textAt ?a ?l ?c ?k; (case a => k_is); (case l => k_is); (case c => k_is); (case k => k_is))
    case t_law_good_setting => (refine' Kx.textAt ?a ?l ?c ?k; (case a => k_is); (case l => k_is); (case c => k_is); (case k => k_is))
    case t_law => (refine' Kx.textAt ?a ?l ?c ?k; (case a => k_is); (case l => k_is); (case c => k_is); (case k => k_is))
    case u1 => (refine' Kx.tabAt (P := 383) ?a ?l ?d ?k ?n ?e; (case a => k_is); (case l => k_is); (case d => k_is); (case k => k_is); (case n => first | k_is | kernel_rfl); (case e => kernel_rfl))
    case o1 => exact tb _ (by decide)
    case eKeptError => (refine' Kx.ErrAt.mk ?e1 ?e2 ?e3 ?e4 ?e5 ?e6 ?e7 ?e8 ?e9 ?e10 ?e11 ?e12 ?e13; (case e1 => first | k_is | kernel_rfl); (case e2 => first | k_is | kernel_rfl); (case e3 => first | k_is | kernel_rfl); (case e4 => first | k_is | kernel_rfl); (case e5 => first | k_is | kernel_rfl); (case e6 => first | k_is | kernel_rfl); (case e7 => first | k_is | kernel_rfl); (case e8 => first | k_is | kernel_rfl); (case e9 => first | k_is | kernel_rfl); (case e10 => first | k_is | kernel_rfl); (case e11 => first | k_is | kernel_rfl); (case e12 => first | k_is | kernel_rfl); (case e13 => first | k_is | rfl))
    case eBadAir => (refine' Kx.ErrAt.mk ?e1 ?e2 ?e3 ?e4 ?e5 ?e6 ?e7 ?e8 ?e9 ?e10 ?e11 ?e12 ?e13; (case e1 => first | k_is | kernel_rfl); (case e2 => first | k_is | kernel_rfl); (case e3 => first | k_is | kernel_rfl); (case e4 => first | k_is | kernel_rfl); (case e5 => first | k_is | kernel_rfl); (case e6 => first | k_is | kernel_rfl); (case e7 => first | k_is | kernel_rfl); (case e8 => first | k_is | kernel_rfl); (case e9 => first | k_is | kernel_rfl); (case e10 => first | k_is | kernel_rfl); (case e11 => first | k_is | kernel_rfl); (case e12 => first | k_is | kernel_rfl); (case e13 => first | k_is | rfl))
    case eBadDegrees => (refine' Kx.ErrAt.mk ?e1 ?e2 ?e3 ?e4 ?e5 ?e6 ?e7 ?e8 ?e9 ?e10 ?e11 ?e12 ?e13; (case e1 => first | k_is | kernel_rfl); (case e2 => first | k_is | kernel_rfl); (case e3 => first | k_is | kernel_rfl); (case e4 => first | k_is | kernel_rfl); (case e5 => first | k_is | kernel_rfl); (case e6 => first | k_is | kernel_rfl); (case e7 => first | k_is | kernel_rfl); (case e8 => first | k_is | kernel_rfl); (case e9 => first | k_is | kernel_rfl); (case e10 => first | k_is | kernel_rfl); (case e11 => first | k_is | kernel_rfl); (case e12 => first | k_is | kernel_rfl); (case e13 => first | k_is | rfl))
    case eBadSetting => (refine' Kx.ErrAt.mk ?e1 ?e2 ?e3 ?e4 ?e5 ?e6 ?e7 ?e8 ?e9 ?e10 ?e11 ?e12 ?e13; (case e1 => first | k_is | kernel_rfl); (case e2 => first | k_is | kernel_rfl); (case e3 => first | k_is | kernel_rfl); (case e4 => first | k_is | kernel_rfl); (case e5 => first | k_is | kernel_rfl); (case e6 => first | k_is | kernel_rfl); (case e7 => first | k_is | kernel_rfl); (case e8 => first | k_is | kernel_rfl); (case e9 => first | k_is | kernel_rfl); (case e10 => first | k_is | kernel_rfl); (case e11 => first | k_is | kernel_rfl); (case e12 => first | k_is | kernel_rfl); (case e13 => first | k_is | rfl))
    case eW => (refine' Kx.wthAt ?w_n ?w_l ?w_v ?w_sa ?w_bx ?w_ty ?w_kp ?w_hg ?w_hk ?w_hd ?w_ha ?w_hn ?w_ht ?w_hm ?w_up ?w_na ?w_i ?w_ti ?w_li ?w_ci ?w_ki; (case w_n => first | k_is | kernel_rfl | rfl); (case w_l => first | k_is | kernel_rfl | rfl); (case w_sa => first | k_is | kernel_rfl | rfl); (case w_bx => first | k_is | kernel_rfl | rfl); (case w_ty => first | k_is | kernel_rfl | rfl); (case w_kp => first | k_is | kernel_rfl | rfl); (case w_hg => first | k_is | kernel_rfl | rfl); (case w_hk => first | k_is | kernel_rfl | rfl); (case w_hd => first | k_is | kernel_rfl | rfl); (case w_ha => first | k_is | kernel_rfl | rfl); (case w_hn => first | k_is | kernel_rfl | rfl); (case w_ht => first | k_is | kernel_rfl | rfl); (case w_hm => first | k_is | kernel_rfl | rfl); (case w_up => first | k_is | kernel_rfl | rfl); (case w_na => first | k_is | kernel_rfl | rfl); (case w_i => first | k_is | kernel_rfl | rfl); (case w_ti => first | k_is | kernel_rfl | rfl); (case w_li => first | k_is | kernel_rfl | rfl); (case w_ci => first | k_is | kernel_rfl | rfl); (case w_ki => first | k_is | kernel_rfl | rfl); (case w_v => first | rfl | decide +kernel | kernel_rfl))
    case nOUT => k_is
    case qBadAir => first | k_is | rfl
    case qBadDegrees => first | k_is | rfl
    case qBadSetting => first | k_is | rfl
    case qBadWeather => first | k_is | rfl
    case z_type => k_is
    case z_int => k_is
    case z_str => k_is
    case z_bool => k_is
    case z_tuple => k_is
    case z_list => k_is
    case z_len => k_is
    case z_all => k_is
    case z_set => k_is
    case z_range => k_is
    case z_isinstance => k_is
    case z_abs => k_is
    case z_min => k_is
    case z_max => k_is
    case z_sorted => k_is
    case z_sum => k_is
    case z_zip => k_is
    case z_enumerate => k_is
    case z_reversed => k_is
    case z_dict => k_is
