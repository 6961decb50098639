import PyProof.Rows.All
import Wide.All
import OpenK.AllK
import Wide.FinOn
import HandS.Evl
import HandS.More
import HandS.Text
import HandS.Iter
import HandS.Comp
import HandS.Words
import HandS.WordsList
import HandS.Exc
import HandS.ExcOwn
import HandS.ExcIs
import HandS.TupAny
import HandS.Strs
import HandS.IsInst
import HandS.WordsExc
import HandS.Lambda
import HandS.Deep
import HandS.Dict
import HandS.Wide
import HandS.TupLe
import HandS.RaiseMore
import HandS.SetFor
import HandS.TupSets
import HandS.EndTab
import KE.KNestM
import PySem.Challenge.RW_housekept_k80_days_of_all_years
set_option Elab.async false
set_option linter.all false
set_option maxRecDepth 100000
set_option maxHeartbeats 1000000
namespace Kx
open PySem PySem.Spec PyProof.Rows L2 Evl

/-! ## Data: what the law's values are -/
inductive D where
  | non | bl (b : Bool) | int (i : Int) | str (s : Str) | tup (ds : List D) | lst (ds : List D) | dic
/-- a tuple whose object is known to have no dict of its own -/
def TupS (H : Hp) (a : Addr) (vs : List V) : Prop := ∃ o : Obj, o.dict = none ∧ H a = some (.frz o (.tup vs))
theorem TupS.up {H H' : Hp} {a : Addr} {vs : List V} (h : TupS H a vs) (e : Ex H H') : TupS H' a vs := let ⟨o, h1, h2⟩ := h; ⟨o, h1, e _ _ h2⟩
theorem TupS.sq {K : PySem.W.Frag} {H : Hp} {a : Addr} {vs : List V} (h : TupS H a vs) : SqT K H a vs := let ⟨o, _, h2⟩ := h; .inl (.inr ⟨o, h2⟩)
mutual
inductive Rep (H : Hp) : V → D → Prop
  | non : Rep H .non .non
  | bl (b : Bool) : Rep H (.bl b) (.bl b)
  | int (i : Int) : Rep H (.int i) (.int i)
  | str (s : Str) : Rep H (.str s) (.str s)
  | tup {a : Addr} {vs : List V} {ds : List D} : TupS H a vs → Reps H vs ds → Rep H (.ref a) (.tup ds)
  | lst {a : Addr} {vs : List V} {ds : List D} : H a = some (.lst vs) → Reps H vs ds → Rep H (.ref a) (.lst ds)
  | dic {a : Addr} : H a = some (.dK []) → Rep H (.ref a) .dic
inductive Reps (H : Hp) : List V → List D → Prop
  | nil : Reps H [] []
  | cons {v : V} {vs : List V} {d : D} {ds : List D} : Rep H v d → Reps H vs ds → Reps H (v :: vs) (d :: ds)
end
mutual
theorem Rep.mono {H H' : Hp} (e : Ex H H') : ∀ (d : D) (v : V), Rep H v d → Rep H' v d
  | _, _, .non => .non
  | _, _, .bl b => .bl b
  | _, _, .int i => .int i
  | _, _, .str s => .str s
  | _, _, .tup h r => .tup (h.up e) (Reps.mono e _ _ r)
  | _, _, .lst h r => .lst (e _ _ h) (Reps.mono e _ _ r)
  | _, _, .dic h => .dic (e _ _ h)
theorem Reps.mono {H H' : Hp} (e : Ex H H') : ∀ (ds : List D) (vs : List V), Reps H vs ds → Reps H' vs ds
  | _, _, .nil => .nil
  | _, _, .cons r t => .cons (Rep.mono e _ _ r) (Reps.mono e _ _ t)
end
theorem Rep.up {H H' : Hp} {v : V} {d : D} (r : Rep H v d) (e : Ex H H') : Rep H' v d := r.mono e
theorem Reps.up {H H' : Hp} {vs : List V} {ds : List D} (r : Reps H vs ds) (e : Ex H H') : Reps H' vs ds := r.mono e
theorem Reps.length {H : Hp} : ∀ {vs : List V} {ds : List D}, Reps H vs ds → vs.length = ds.length
  | _, _, .nil => rfl
  | _, _, .cons _ t => by rw [List.length_cons, List.length_cons, Reps.length t]
theorem Reps.get {H : Hp} : ∀ {vs : List V} {ds : List D} {j : Nat} {v : V}, Reps H vs ds → vs[j]? = some v → ∃ d, ds[j]? = some d ∧ Rep H v d
  | _, _, _, _, .nil, h => by simp at h
  | _, _, 0, _, .cons r _, h => by
    have h2 := Option.some.inj h
    subst h2
    exact ⟨_, rfl, r⟩
  | _, _, j + 1, _, .cons _ t, h => Reps.get (j := j) t h
theorem Reps.getD {H : Hp} : ∀ {vs : List V} {ds : List D} {j : Nat} {d : D}, Reps H vs ds → ds[j]? = some d → ∃ v, vs[j]? = some v ∧ Rep H v d
  | _, _, _, _, .nil, h => by simp at h
  | _, _, 0, _, .cons r _, h => by
    have h2 := Option.some.inj h
    subst h2
    exact ⟨_, rfl, r⟩
  | _, _, j + 1, _, .cons _ t, h => Reps.getD (j := j) t h
theorem Reps.append {H : Hp} : ∀ {vs ws : List V} {ds es : List D}, Reps H vs ds → Reps H ws es → Reps H (vs ++ ws) (ds ++ es)
  | _, _, _, _, .nil, s => s
  | _, _, _, _, .cons r t, s => .cons r (Reps.append t s)
theorem Reps.take {H : Hp} : ∀ {vs : List V} {ds : List D} (n : Nat), Reps H vs ds → Reps H (vs.take n) (ds.take n)
  | _, _, 0, _ => .nil
  | _, _, _ + 1, .nil => .nil
  | _, _, n + 1, .cons r t => .cons r (Reps.take n t)
theorem Reps.drop {H : Hp} : ∀ {vs : List V} {ds : List D} (n : Nat), Reps H vs ds → Reps H (vs.drop n) (ds.drop n)
  | _, _, 0, r => r
  | _, _, _ + 1, .nil => .nil
  | _, _, n + 1, .cons _ t => Reps.drop n t
def sv (ss : List Str) : List V := ss.map V.str
theorem reps_strs {H : Hp} : ∀ ss : List Str, Reps H (sv ss) (ss.map D.str)
  | [] => .nil
  | s :: r => .cons (.str s) (reps_strs r)
theorem strs_of_reps {H : Hp} : ∀ {ss : List Str} {vs : List V}, Reps H vs (ss.map D.str) → vs = sv ss
  | [], _, .nil => rfl
  | s :: r, _, .cons h t => by
    cases h
    rw [strs_of_reps t]
    rfl

/-- the type's name -/
def D.ty : D → String
  | .non => "NoneType" | .bl _ => "bool" | .int _ => "int" | .str _ => "str" | .tup _ => "tuple" | .lst _ => "list" | .dic => "dict"
theorem Rep.tyB {K : PySem.W.Frag} {H : Hp} {v : V} {d : D} (r : Rep H v d) : TyB K H v d.ty := by
  cases r with
  | non => exact .non
  | bl b => exact .bl b
  | int i => exact .int i
  | str s => exact .str s
  | tup h _ => exact .tup h.sq
  | lst h _ => exact .lst (.of h)
  | dic h => exact .dK h
section
variable {K : PySem.W.Frag} {σ : L2.St} {H H' : Hp} {ta tb tc te tl : TE} {x y z v : V} {r r' : R2}
theorem ev_type {d : D} (h : Ev ta σ H v) (q : Rep H v d) : Ev (tCB (rTyp K) (tCons ta tNil)) σ H (.ty d.ty) :=
  ev_cb (ea_cons h ea_nil) fun H1 e Q k => ⟨v, d.ty, rfl, (q.up e).tyB, k H1 (Ex.refl _)⟩
theorem rv_isTy {a b : String} : RV (fun x y H Q => ∃ a b, x = V.ty a ∧ y = V.ty b ∧ Q (.bl (decide (a = b))) H) (.ty a) (.ty b) H (.bl (decide (a = b))) :=
  fun H1 e Q k => ⟨a, b, rfl, rfl, k H1 (Ex.refl _)⟩
theorem rv_notTy {a b : String} : RV rNT (.ty a) (.ty b) H (.bl (!decide (a = b))) := fun H1 e Q k => ⟨a, b, rfl, rfl, k H1 (Ex.refl _)⟩
/-- a op b op' c -/
theorem ev_chain {b1 b2 : Bool} (ha : Ev ta σ H x) (hb : Ev tb σ H y) (h1 : RV r x y H (.bl b1)) (hc : b1 = true → Ev tc σ H z) (h2 : b1 = true → RV r' y z H (.bl b2)) :
    Ev (tChain r r' ta tb tc) σ H (.bl (b1 && b2)) := fun H1 e1 Q q => ha H1 e1 _ fun H2 e2 => hb H2 (e1.trans e2) _ fun H3 e3 => h1 H3 ((e1.trans e2).trans e3) _ fun H4 e4 => ⟨b1, rfl, by
      have e14 := (e2.trans e3).trans e4
      have E := e1.trans e14
      cases b1 with
      | false => exact q H4 e14
      | true => exact hc rfl H4 E _ fun H5 e5 => h2 rfl H5 (E.trans e5) _ fun H6 e6 => q H6 ((e14.trans e5).trans e6)⟩
theorem et_val {b : Bool} (h : Ev te σ H (.bl b)) : EvT (fun σ H Q => te σ H fun x H1 => ∃ k, x = .bl k ∧ Q k H1) σ H b := fun H1 e Q q => h H1 e _ fun H2 e2 => ⟨b, rfl, q H2 e2⟩
theorem ev_chainT {b : Bool} (h : Ev te σ H (.bl b)) : EvT (tTest te) σ H b := et_test h
/-- all(..) of a new list of truths -/
theorem ev_all {bs : List Bool} (h : EvL te σ H (bs.map V.bl)) : Ev (tCB (rAll K) (tCons te tNil)) σ H (.bl (bs.all id)) := fun H1 e Q q =>
  h H1 e _ fun p H2 _ e2 hp => ⟨p, bs, rfl, .of hp, q H2 e2⟩
/-- [te for x in a tuple] -/
theorem el_lcT {i : Nat} {a : Addr} {xs ys : List V} (h : Ev tl σ H (.ref a)) (hx : SqT K H a xs) (hl : ys.length = xs.length) (hz : xs.length < 100000)
    (hy : ∀ (j : Nat) (x y : V), xs[j]? = some x → ys[j]? = some y → Ev te ((σ.set i none).set i (some x)) H y) : EvL (tLc (iTup K tl) (gName i) tYes te [i]) σ H ys := fun H1 e Q q =>
  h H1 e _ fun H2 e2 => ⟨a, rfl, ⟨xs, ex_t (e.trans e2) hx⟩, fun D hD =>
    lc_tup (xs := xs) (fun j H' => Ex H2 H' ∧ H' D = some (.lst (ys.take j))) ⟨Ex.new hD, upd_same⟩ (fun j H' _ p => ex_t ((e.trans e2).trans p.1) hx)
      (fun j x H' hj p => ⟨by show (((σ.set i none).set i (some x)).set i none) = (σ.set i none); rw [List.set_set, List.set_set], by
        have hlt : j < xs.length := (List.getElem?_eq_some_iff.mp hj).1
        have hlt2 : j < ys.length := by omega
        have gy : ys[j]? = some ys[j] := List.getElem?_eq_getElem hlt2
        refine hy j x _ hj gy H' ((e.trans e2).trans p.1) _ fun H3 e3 => ⟨ys.take j, e3 _ _ p.2, ?_, (p.1.trans e3).mut hD, ?_⟩
        · rw [List.length_take]
          exact sz_lt (Nat.lt_of_le_of_lt (Nat.min_le_right _ _) (by omega))
        · rw [upd_same, List.take_add_one, gy]
          rfl⟩)
      (fun H' p => q D H' (fresh_back e2 hD) (e2.trans p.1) (by rw [p.2, List.take_of_length_le (by omega)]))⟩
theorem el_lcL {i : Nat} {a : Addr} {xs ys : List V} (h : Ev tl σ H (.ref a)) (hx : SqL K H a xs) (hl : ys.length = xs.length) (hz : xs.length < 100000)
    (hy : ∀ (j : Nat) (x y : V), xs[j]? = some x → ys[j]? = some y → Ev te ((σ.set i none).set i (some x)) H y) : EvL (tLc (iList K tl) (gName i) tYes te [i]) σ H ys := fun H1 e Q q =>
  h H1 e _ fun H2 e2 => ⟨a, rfl, ⟨xs, ex_l (e.trans e2) hx⟩, fun D hD =>
    lc_list (xs := xs) (fun j H' => Ex H2 H' ∧ H' D = some (.lst (ys.take j))) ⟨Ex.new hD, upd_same⟩ (fun j H' _ p => ex_l ((e.trans e2).trans p.1) hx)
      (fun j x H' hj p => ⟨by show (((σ.set i none).set i (some x)).set i none) = (σ.set i none); rw [List.set_set, List.set_set], by
        have hlt : j < xs.length := (List.getElem?_eq_some_iff.mp hj).1
        have hlt2 : j < ys.length := by omega
        have gy : ys[j]? = some ys[j] := List.getElem?_eq_getElem hlt2
        refine hy j x _ hj gy H' ((e.trans e2).trans p.1) _ fun H3 e3 => ⟨ys.take j, e3 _ _ p.2, ?_, (p.1.trans e3).mut hD, ?_⟩
        · rw [List.length_take]
          exact sz_lt (Nat.lt_of_le_of_lt (Nat.min_le_right _ _) (by omega))
        · rw [upd_same, List.take_add_one, gy]
          rfl⟩)
      (fun H' p => q D H' (fresh_back e2 hD) (e2.trans p.1) (by rw [p.2, List.take_of_length_le (by omega)]))⟩
end
end Kx

set_option Elab.async false
set_option linter.all false
set_option maxRecDepth 100000
set_option maxHeartbeats 1000000
namespace Kx
open PySem PySem.Spec PyProof.Rows L2 Evl
def topK (i : Nat) : Stmt := PySem.Challenge.pw_housekept_k80_days_of_all_years.main.body.getD i (.Pass ⟨0, 0, 0, 0⟩)
abbrev s_is_between : Stmt := topK 6
abbrev s_is_tuple : Stmt := topK 7
abbrev s_is_leap : Stmt := topK 12
abbrev s_month_length : Stmt := topK 13
abbrev s_is_date : Stmt := topK 14
abbrev s_check_date : Stmt := topK 15
abbrev s_is_year : Stmt := topK 16
abbrev s_days_ahead : Stmt := topK 17
abbrev s_days_to : Stmt := topK 18
abbrev s_weekday_of : Stmt := topK 19
abbrev s_number_of : Stmt := topK 20
abbrev s_date_at : Stmt := topK 21
abbrev s_is_date_number : Stmt := topK 22
abbrev s_date_of : Stmt := topK 23
abbrev s_kind_of : Stmt := topK 24
abbrev s_law_begun : Stmt := topK 26
abbrev s_law_mixed : Stmt := topK 27
abbrev s_law_draw : Stmt := topK 28
abbrev s_law_pick : Stmt := topK 29
abbrev s_law_leap : Stmt := topK 30
abbrev s_law_month : Stmt := topK 31
abbrev s_law_number : Stmt := topK 32
abbrev s_law_year : Stmt := topK 33
abbrev s_law_date : Stmt := topK 34
abbrev s_law_caught : Stmt := topK 35
abbrev s_law_sort : Stmt := topK 36
abbrev s_law_after : Stmt := topK 37
abbrev s_law_days_right : Stmt := topK 38
abbrev s_law_refused_right : Stmt := topK 39
abbrev s_law_again_right : Stmt := topK 40
abbrev s_law : Stmt := topK 41
theorem sc_is_between : FnScope ["value", "low", "high"] ["value", "low", "high"] (defScope s_is_between) := ⟨rfl, rfl, rfl, by decide +kernel, rfl, by decide +kernel, by decide +kernel⟩
theorem sc_is_tuple : FnScope ["value", "least", "most"] ["value", "least", "most"] (defScope s_is_tuple) := ⟨rfl, rfl, rfl, by decide +kernel, rfl, by decide +kernel, by decide +kernel⟩
theorem sc_is_leap : FnScope ["year"] ["year"] (defScope s_is_leap) := ⟨rfl, rfl, rfl, by decide +kernel, rfl, by decide +kernel, by decide +kernel⟩
theorem sc_month_length : FnScope ["year", "month"] ["year", "month"] (defScope s_month_length) := ⟨rfl, rfl, rfl, by decide +kernel, rfl, by decide +kernel, by decide +kernel⟩
theorem sc_is_date : FnScope ["value"] ["value"] (defScope s_is_date) := ⟨rfl, rfl, rfl, by decide +kernel, rfl, by decide +kernel, by decide +kernel⟩
theorem sc_check_date : FnScope ["date"] ["date"] (defScope s_check_date) := ⟨rfl, rfl, rfl, by decide +kernel, rfl, by decide +kernel, by decide +kernel⟩
theorem sc_is_year : FnScope ["value"] ["value"] (defScope s_is_year) := ⟨rfl, rfl, rfl, by decide +kernel, rfl, by decide +kernel, by decide +kernel⟩
theorem sc_days_ahead : FnScope ["year", "whole"] ["year"] (defScope s_days_ahead) := ⟨rfl, rfl, rfl, by decide +kernel, rfl, by decide +kernel, by decide +kernel⟩
theorem sc_days_to : FnScope ["year", "month", "day", "one"] ["year", "month", "day"] (defScope s_days_to) := ⟨rfl, rfl, rfl, by decide +kernel, rfl, by decide +kernel, by decide +kernel⟩
theorem sc_weekday_of : FnScope ["number"] ["number"] (defScope s_weekday_of) := ⟨rfl, rfl, rfl, by decide +kernel, rfl, by decide +kernel, by decide +kernel⟩
theorem sc_number_of : FnScope ["date"] ["date"] (defScope s_number_of) := ⟨rfl, rfl, rfl, by decide +kernel, rfl, by decide +kernel, by decide +kernel⟩
theorem sc_date_at : FnScope ["number", "year", "left", "month"] ["number"] (defScope s_date_at) := ⟨rfl, rfl, rfl, by decide +kernel, rfl, by decide +kernel, by decide +kernel⟩
theorem sc_is_date_number : FnScope ["value"] ["value"] (defScope s_is_date_number) := ⟨rfl, rfl, rfl, by decide +kernel, rfl, by decide +kernel, by decide +kernel⟩
theorem sc_date_of : FnScope ["number"] ["number"] (defScope s_date_of) := ⟨rfl, rfl, rfl, by decide +kernel, rfl, by decide +kernel, by decide +kernel⟩
theorem sc_kind_of : FnScope ["year", "weekday"] ["year"] (defScope s_kind_of) := ⟨rfl, rfl, rfl, by decide +kernel, rfl, by decide +kernel, by decide +kernel⟩
theorem sc_law_begun : FnScope ["script", "great", "cell"] ["script"] (defScope s_law_begun) := ⟨rfl, rfl, rfl, by decide +kernel, rfl, by decide +kernel, by decide +kernel⟩
theorem sc_law_mixed : FnScope ["state", "turn", "found", "prime", "blend", "cell"] ["state"] (defScope s_law_mixed) := ⟨rfl, rfl, rfl, by decide +kernel, rfl, by decide +kernel, by decide +kernel⟩
theorem sc_law_draw : FnScope ["state", "room", "found"] ["state", "room"] (defScope s_law_draw) := ⟨rfl, rfl, rfl, by decide +kernel, rfl, by decide +kernel, by decide +kernel⟩
theorem sc_law_pick : FnScope ["state", "some"] ["state", "some"] (defScope s_law_pick) := ⟨rfl, rfl, rfl, by decide +kernel, rfl, by decide +kernel, by decide +kernel⟩
theorem sc_law_leap : FnScope ["year"] ["year"] (defScope s_law_leap) := ⟨rfl, rfl, rfl, by decide +kernel, rfl, by decide +kernel, by decide +kernel⟩
theorem sc_law_month : FnScope ["year", "month"] ["year", "month"] (defScope s_law_month) := ⟨rfl, rfl, rfl, by decide +kernel, rfl, by decide +kernel, by decide +kernel⟩
theorem sc_law_number : FnScope ["date", "year", "month", "day", "shifted", "place", "era", "rest", "days"] ["date"] (defScope s_law_number) := ⟨rfl, rfl, rfl, by decide +kernel, rfl, by decide +kernel, by decide +kernel⟩
theorem sc_law_year : FnScope ["state", "far", "some"] ["state"] (defScope s_law_year) := ⟨rfl, rfl, rfl, by decide +kernel, rfl, by decide +kernel, by decide +kernel⟩
theorem sc_law_date : FnScope ["state", "year", "month", "last"] ["state"] (defScope s_law_date) := ⟨rfl, rfl, rfl, by decide +kernel, rfl, by decide +kernel, by decide +kernel⟩
theorem sc_law_caught : FnScope ["action", "found", "error"] ["action"] (defScope s_law_caught) := ⟨rfl, rfl, rfl, by decide +kernel, rfl, by decide +kernel, by decide +kernel⟩
theorem sc_law_sort : FnScope ["year", "word"] ["year"] (defScope s_law_sort) := ⟨rfl, rfl, rfl, by decide +kernel, rfl, by decide +kernel, by decide +kernel⟩
theorem sc_law_after : FnScope ["date", "year", "month", "day"] ["date"] (defScope s_law_after) := ⟨rfl, rfl, rfl, by decide +kernel, rfl, by decide +kernel, by decide +kernel⟩
theorem sc_law_days_right : FnScope ["state", "date", "number", "here", "lap"] ["state", "date"] (defScope s_law_days_right) := ⟨rfl, rfl, rfl, by decide +kernel, rfl, by decide +kernel, by decide +kernel⟩
theorem sc_law_refused_right : FnScope ["state", "date", "year", "month", "day", "bad", "last", "odd", "caught"] ["state", "date"] (defScope s_law_refused_right) := ⟨rfl, rfl, rfl, by decide +kernel, rfl, by decide +kernel, by decide +kernel⟩
theorem sc_law_again_right : FnScope ["year", "found", "more"] ["year"] (defScope s_law_again_right) := ⟨rfl, rfl, rfl, by decide +kernel, rfl, by decide +kernel, by decide +kernel⟩
theorem sc_law : FnScope ["script", "state", "lap", "date", "turn", "at"] ["script"] (defScope s_law) := ⟨rfl, rfl, rfl, by decide +kernel, rfl, by decide +kernel, by decide +kernel⟩
/-- an own class of errors at C -/
structure ExK (K : PySem.W.Frag) (mg : Str → Option Value) (x : Str) (C : Addr) : Prop where
  g : mg x = some (.ref C)
  q : PySem.W.excIn K C [.type "ValueError", .type "Exception", .type "BaseException", .type "object"] "ValueError.__new__" = true
  kp : PySem.W.keepIn K (.ref C) = true
  bx : PySem.W.subIn K (.ref C) (.type "BaseException") = some true
  ty : PySem.W.typeIn K (.ref C) = some (.type "type")
  ex : ExcC K C
/-- where the text's defs and classes stand -/
structure Txt (K : PySem.W.Frag) (mg : Str → Option Value) where
  a_is_between : Addr
  d_is_between : FuncData
  F_is_between : Fun K "is_between" "is_between" s_is_between a_is_between d_is_between
  g_is_between : mg "is_between" = some (.ref a_is_between)
  a_is_tuple : Addr
  d_is_tuple : FuncData
  F_is_tuple : Fun K "is_tuple" "is_tuple" s_is_tuple a_is_tuple d_is_tuple
  g_is_tuple : mg "is_tuple" = some (.ref a_is_tuple)
  a_is_leap : Addr
  d_is_leap : FuncData
  F_is_leap : Fun K "is_leap" "is_leap" s_is_leap a_is_leap d_is_leap
  g_is_leap : mg "is_leap" = some (.ref a_is_leap)
  a_month_length : Addr
  d_month_length : FuncData
  F_month_length : Fun K "month_length" "month_length" s_month_length a_month_length d_month_length
  g_month_length : mg "month_length" = some (.ref a_month_length)
  a_is_date : Addr
  d_is_date : FuncData
  F_is_date : Fun K "is_date" "is_date" s_is_date a_is_date d_is_date
  g_is_date : mg "is_date" = some (.ref a_is_date)
  a_check_date : Addr
  d_check_date : FuncData
  F_check_date : Fun K "check_date" "check_date" s_check_date a_check_date d_check_date
  g_check_date : mg "check_date" = some (.ref a_check_date)
  a_is_year : Addr
  d_is_year : FuncData
  F_is_year : Fun K "is_year" "is_year" s_is_year a_is_year d_is_year
  g_is_year : mg "is_year" = some (.ref a_is_year)
  a_days_ahead : Addr
  d_days_ahead : FuncData
  F_days_ahead : Fun K "days_ahead" "days_ahead" s_days_ahead a_days_ahead d_days_ahead
  g_days_ahead : mg "days_ahead" = some (.ref a_days_ahead)
  a_days_to : Addr
  d_days_to : FuncData
  F_days_to : Fun K "days_to" "days_to" s_days_to a_days_to d_days_to
  g_days_to : mg "days_to" = some (.ref a_days_to)
  a_weekday_of : Addr
  d_weekday_of : FuncData
  F_weekday_of : Fun K "weekday_of" "weekday_of" s_weekday_of a_weekday_of d_weekday_of
  g_weekday_of : mg "weekday_of" = some (.ref a_weekday_of)
  a_number_of : Addr
  d_number_of : FuncData
  F_number_of : Fun K "number_of" "number_of" s_number_of a_number_of d_number_of
  g_number_of : mg "number_of" = some (.ref a_number_of)
  a_date_at : Addr
  d_date_at : FuncData
  F_date_at : Fun K "date_at" "date_at" s_date_at a_date_at d_date_at
  g_date_at : mg "date_at" = some (.ref a_date_at)
  a_is_date_number : Addr
  d_is_date_number : FuncData
  F_is_date_number : Fun K "is_date_number" "is_date_number" s_is_date_number a_is_date_number d_is_date_number
  g_is_date_number : mg "is_date_number" = some (.ref a_is_date_number)
  a_date_of : Addr
  d_date_of : FuncData
  F_date_of : Fun K "date_of" "date_of" s_date_of a_date_of d_date_of
  g_date_of : mg "date_of" = some (.ref a_date_of)
  a_kind_of : Addr
  d_kind_of : FuncData
  F_kind_of : Fun K "kind_of" "kind_of" s_kind_of a_kind_of d_kind_of
  g_kind_of : mg "kind_of" = some (.ref a_kind_of)
  a_law_begun : Addr
  d_law_begun : FuncData
  F_law_begun : Fun K "_law_begun" "_law_begun" s_law_begun a_law_begun d_law_begun
  g_law_begun : mg "_law_begun" = some (.ref a_law_begun)
  a_law_mixed : Addr
  d_law_mixed : FuncData
  F_law_mixed : Fun K "_law_mixed" "_law_mixed" s_law_mixed a_law_mixed d_law_mixed
  g_law_mixed : mg "_law_mixed" = some (.ref a_law_mixed)
  a_law_draw : Addr
  d_law_draw : FuncData
  F_law_draw : Fun K "_law_draw" "_law_draw" s_law_draw a_law_draw d_law_draw
  g_law_draw : mg "_law_draw" = some (.ref a_law_draw)
  a_law_pick : Addr
  d_law_pick : FuncData
  F_law_pick : Fun K "_law_pick" "_law_pick" s_law_pick a_law_pick d_law_pick
  g_law_pick : mg "_law_pick" = some (.ref a_law_pick)
  a_law_leap : Addr
  d_law_leap : FuncData
  F_law_leap : Fun K "_law_leap" "_law_leap" s_law_leap a_law_leap d_law_leap
  g_law_leap : mg "_law_leap" = some (.ref a_law_leap)
  a_law_month : Addr
  d_law_month : FuncData
  F_law_month : Fun K "_law_month" "_law_month" s_law_month a_law_month d_law_month
  g_law_month : mg "_law_month" = some (.ref a_law_month)
  a_law_number : Addr
  d_law_number : FuncData
  F_law_number : Fun K "_law_number" "_law_number" s_law_number a_law_number d_law_number
  g_law_number : mg "_law_number" = some (.ref a_law_number)
  a_law_year : Addr
  d_law_year : FuncData
  F_law_year : Fun K "_law_year" "_law_year" s_law_year a_law_year d_law_year
  g_law_year : mg "_law_year" = some (.ref a_law_year)
  a_law_date : Addr
  d_law_date : FuncData
  F_law_date : Fun K "_law_date" "_law_date" s_law_date a_law_date d_law_date
  g_law_date : mg "_law_date" = some (.ref a_law_date)
  a_law_caught : Addr
  d_law_caught : FuncData
  F_law_caught : Fun K "_law_caught" "_law_caught" s_law_caught a_law_caught d_law_caught
  g_law_caught : mg "_law_caught" = some (.ref a_law_caught)
  a_law_sort : Addr
  d_law_sort : FuncData
  F_law_sort : Fun K "_law_sort" "_law_sort" s_law_sort a_law_sort d_law_sort
  g_law_sort : mg "_law_sort" = some (.ref a_law_sort)
  a_law_after : Addr
  d_law_after : FuncData
  F_law_after : Fun K "_law_after" "_law_after" s_law_after a_law_after d_law_after
  g_law_after : mg "_law_after" = some (.ref a_law_after)
  a_law_days_right : Addr
  d_law_days_right : FuncData
  F_law_days_right : Fun K "_law_days_right" "_law_days_right" s_law_days_right a_law_days_right d_law_days_right
  g_law_days_right : mg "_law_days_right" = some (.ref a_law_days_right)
  a_law_refused_right : Addr
  d_law_refused_right : FuncData
  F_law_refused_right : Fun K "_law_refused_right" "_law_refused_right" s_law_refused_right a_law_refused_right d_law_refused_right
  g_law_refused_right : mg "_law_refused_right" = some (.ref a_law_refused_right)
  a_law_again_right : Addr
  d_law_again_right : FuncData
  F_law_again_right : Fun K "_law_again_right" "_law_again_right" s_law_again_right a_law_again_right d_law_again_right
  g_law_again_right : mg "_law_again_right" = some (.ref a_law_again_right)
  a_law : Addr
  d_law : FuncData
  F_law : Fun K "law" "law" s_law a_law d_law
  g_law : mg "law" = some (.ref a_law)
  c_KeptError : Addr
  E_KeptError : ExK K mg "KeptError" c_KeptError
  u_KeptError : PySem.W.subIn K (.ref c_KeptError) (.ref c_KeptError) = some true
  c_BadDate : Addr
  E_BadDate : ExK K mg "BadDate" c_BadDate
  u_BadDate : PySem.W.subIn K (.ref c_BadDate) (.ref c_KeptError) = some true
  c_BadNumber : Addr
  E_BadNumber : ExK K mg "BadNumber" c_BadNumber
  u_BadNumber : PySem.W.subIn K (.ref c_BadNumber) (.ref c_KeptError) = some true
  c_BadYear : Addr
  E_BadYear : ExK K mg "BadYear" c_BadYear
  u_BadYear : PySem.W.subIn K (.ref c_BadYear) (.ref c_KeptError) = some true
  q_DD : PySem.W.kitOne K (.ref c_BadDate) (.ref c_BadDate) = some true
  q_NN : PySem.W.kitOne K (.ref c_BadNumber) (.ref c_BadNumber) = some true
  q_YY : PySem.W.kitOne K (.ref c_BadYear) (.ref c_BadYear) = some true
  z_type : mg "type" = none
  z_int : mg "int" = none
  z_str : mg "str" = none
  z_tuple : mg "tuple" = none
  z_len : mg "len" = none
  z_set : mg "set" = none
  z_range : mg "range" = none
  z_isinstance : mg "isinstance" = none
  z_abs : mg "abs" = none
  z_min : mg "min" = none
  z_sum : mg "sum" = none
  z_repr : mg "repr" = none
theorem bo_type : bootBuiltins "type" = some (.type "type") := by decide +kernel
theorem bo_int : bootBuiltins "int" = some (.type "int") := by decide +kernel
theorem bo_str : bootBuiltins "str" = some (.type "str") := by decide +kernel
theorem bo_tuple : bootBuiltins "tuple" = some (.type "tuple") := by decide +kernel
theorem bo_set : bootBuiltins "set" = some (.type "set") := by decide +kernel
theorem bo_range : bootBuiltins "range" = some (.type "range") := by decide +kernel
theorem bo_len : bootBuiltins "len" = some (.builtin "len") := by decide +kernel
theorem bo_isinstance : bootBuiltins "isinstance" = some (.builtin "isinstance") := by decide +kernel
theorem bo_abs : bootBuiltins "abs" = some (.builtin "abs") := by decide +kernel
theorem bo_min : bootBuiltins "min" = some (.builtin "min") := by decide +kernel
theorem bo_sum : bootBuiltins "sum" = some (.builtin "sum") := by decide +kernel
theorem bo_repr : bootBuiltins "repr" = some (.builtin "repr") := by decide +kernel
variable {K : PySem.W.Frag} {mg : Str → Option Value}
theorem b_is_between (T : Txt K mg) : Binds K T.d_is_between ["value", "low", "high"] [] := T.F_is_between.binds (ps := ["value", "low", "high"]) fun _ _ _ _ _ _ us hl => match us, hl with | [_, _, _], _ => rfl
theorem b_is_tuple (T : Txt K mg) : Binds K T.d_is_tuple ["value", "least", "most"] [] := T.F_is_tuple.binds (ps := ["value", "least", "most"]) fun _ _ _ _ _ _ us hl => match us, hl with | [_, _, _], _ => rfl
theorem b_is_leap (T : Txt K mg) : Binds K T.d_is_leap ["year"] [] := T.F_is_leap.binds (ps := ["year"]) fun _ _ _ _ _ _ us hl => match us, hl with | [_], _ => rfl
theorem b_month_length (T : Txt K mg) : Binds K T.d_month_length ["year", "month"] [] := T.F_month_length.binds (ps := ["year", "month"]) fun _ _ _ _ _ _ us hl => match us, hl with | [_, _], _ => rfl
theorem b_is_date (T : Txt K mg) : Binds K T.d_is_date ["value"] [] := T.F_is_date.binds (ps := ["value"]) fun _ _ _ _ _ _ us hl => match us, hl with | [_], _ => rfl
theorem b_check_date (T : Txt K mg) : Binds K T.d_check_date ["date"] [] := T.F_check_date.binds (ps := ["date"]) fun _ _ _ _ _ _ us hl => match us, hl with | [_], _ => rfl
theorem b_is_year (T : Txt K mg) : Binds K T.d_is_year ["value"] [] := T.F_is_year.binds (ps := ["value"]) fun _ _ _ _ _ _ us hl => match us, hl with | [_], _ => rfl
theorem b_days_ahead (T : Txt K mg) : Binds K T.d_days_ahead ["year"] [] := T.F_days_ahead.binds (ps := ["year"]) fun _ _ _ _ _ _ us hl => match us, hl with | [_], _ => rfl
theorem b_days_to (T : Txt K mg) : Binds K T.d_days_to ["year", "month", "day"] [] := T.F_days_to.binds (ps := ["year", "month", "day"]) fun _ _ _ _ _ _ us hl => match us, hl with | [_, _, _], _ => rfl
theorem b_weekday_of (T : Txt K mg) : Binds K T.d_weekday_of ["number"] [] := T.F_weekday_of.binds (ps := ["number"]) fun _ _ _ _ _ _ us hl => match us, hl with | [_], _ => rfl
theorem b_number_of (T : Txt K mg) : Binds K T.d_number_of ["date"] [] := T.F_number_of.binds (ps := ["date"]) fun _ _ _ _ _ _ us hl => match us, hl with | [_], _ => rfl
theorem b_date_at (T : Txt K mg) : Binds K T.d_date_at ["number"] [] := T.F_date_at.binds (ps := ["number"]) fun _ _ _ _ _ _ us hl => match us, hl with | [_], _ => rfl
theorem b_is_date_number (T : Txt K mg) : Binds K T.d_is_date_number ["value"] [] := T.F_is_date_number.binds (ps := ["value"]) fun _ _ _ _ _ _ us hl => match us, hl with | [_], _ => rfl
theorem b_date_of (T : Txt K mg) : Binds K T.d_date_of ["number"] [] := T.F_date_of.binds (ps := ["number"]) fun _ _ _ _ _ _ us hl => match us, hl with | [_], _ => rfl
theorem b_kind_of (T : Txt K mg) : Binds K T.d_kind_of ["year"] [] := T.F_kind_of.binds (ps := ["year"]) fun _ _ _ _ _ _ us hl => match us, hl with | [_], _ => rfl
theorem b_law_begun (T : Txt K mg) : Binds K T.d_law_begun ["script"] [] := T.F_law_begun.binds (ps := ["script"]) fun _ _ _ _ _ _ us hl => match us, hl with | [_], _ => rfl
theorem b_law_mixed (T : Txt K mg) : Binds K T.d_law_mixed ["state"] [] := T.F_law_mixed.binds (ps := ["state"]) fun _ _ _ _ _ _ us hl => match us, hl with | [_], _ => rfl
theorem b_law_draw (T : Txt K mg) : Binds K T.d_law_draw ["state", "room"] [] := T.F_law_draw.binds (ps := ["state", "room"]) fun _ _ _ _ _ _ us hl => match us, hl with | [_, _], _ => rfl
theorem b_law_pick (T : Txt K mg) : Binds K T.d_law_pick ["state", "some"] [] := T.F_law_pick.binds (ps := ["state", "some"]) fun _ _ _ _ _ _ us hl => match us, hl with | [_, _], _ => rfl
theorem b_law_leap (T : Txt K mg) : Binds K T.d_law_leap ["year"] [] := T.F_law_leap.binds (ps := ["year"]) fun _ _ _ _ _ _ us hl => match us, hl with | [_], _ => rfl
theorem b_law_month (T : Txt K mg) : Binds K T.d_law_month ["year", "month"] [] := T.F_law_month.binds (ps := ["year", "month"]) fun _ _ _ _ _ _ us hl => match us, hl with | [_, _], _ => rfl
theorem b_law_number (T : Txt K mg) : Binds K T.d_law_number ["date"] [] := T.F_law_number.binds (ps := ["date"]) fun _ _ _ _ _ _ us hl => match us, hl with | [_], _ => rfl
theorem b_law_year (T : Txt K mg) : Binds K T.d_law_year ["state"] [] := T.F_law_year.binds (ps := ["state"]) fun _ _ _ _ _ _ us hl => match us, hl with | [_], _ => rfl
theorem b_law_date (T : Txt K mg) : Binds K T.d_law_date ["state"] [] := T.F_law_date.binds (ps := ["state"]) fun _ _ _ _ _ _ us hl => match us, hl with | [_], _ => rfl
theorem b_law_caught (T : Txt K mg) : Binds K T.d_law_caught ["action"] [] := T.F_law_caught.binds (ps := ["action"]) fun _ _ _ _ _ _ us hl => match us, hl with | [_], _ => rfl
theorem b_law_sort (T : Txt K mg) : Binds K T.d_law_sort ["year"] [] := T.F_law_sort.binds (ps := ["year"]) fun _ _ _ _ _ _ us hl => match us, hl with | [_], _ => rfl
theorem b_law_after (T : Txt K mg) : Binds K T.d_law_after ["date"] [] := T.F_law_after.binds (ps := ["date"]) fun _ _ _ _ _ _ us hl => match us, hl with | [_], _ => rfl
theorem b_law_days_right (T : Txt K mg) : Binds K T.d_law_days_right ["state", "date"] [] := T.F_law_days_right.binds (ps := ["state", "date"]) fun _ _ _ _ _ _ us hl => match us, hl with | [_, _], _ => rfl
theorem b_law_refused_right (T : Txt K mg) : Binds K T.d_law_refused_right ["state", "date"] [] := T.F_law_refused_right.binds (ps := ["state", "date"]) fun _ _ _ _ _ _ us hl => match us, hl with | [_, _], _ => rfl
theorem b_law_again_right (T : Txt K mg) : Binds K T.d_law_again_right ["year"] [] := T.F_law_again_right.binds (ps := ["year"]) fun _ _ _ _ _ _ us hl => match us, hl with | [_], _ => rfl
theorem b_law (T : Txt K mg) : Binds K T.d_law ["script"] [] := T.F_law.binds (ps := ["script"]) fun _ _ _ _ _ _ us hl => match us, hl with | [_], _ => rfl
end Kx

set_option Elab.async false
set_option linter.all false
set_option maxRecDepth 100000
set_option maxHeartbeats 1000000
namespace Kx
open PySem PySem.Spec PyProof.Rows L2 Evl
/-! ## promises of defs that only read -/
abbrev OkF := List V → Hp → V → Prop
def spX (ok : OkF) : Sp := fun vs H Q _ => ∃ z, ok vs H z ∧ ∀ H', Ex H H' → Q z H'
def Stb (ok : OkF) : Prop := ∀ (vs : List V) (H H' : Hp) (z : V), Ex H H' → ok vs H z → ok vs H' z
theorem spv {ok : OkF} (st : Stb ok) {vs : List V} {H : Hp} {z : V} (h : ok vs H z) : SpV (spX ok) vs H z := fun _ e Q q E => ⟨z, st _ _ _ _ e h, fun H2 e2 => q H2 e2⟩
/-- type(e) is T -/
abbrev tTyIs (K : PySem.W.Frag) (te : TE) (T : String) : TE := tOp (fun x y H Q => ∃ a b, x = V.ty a ∧ y = V.ty b ∧ Q (.bl (decide (a = b))) H) (tCB (rTyp K) (tCons te tNil)) (tC (.ty T))
abbrev tTyNo (K : PySem.W.Frag) (te : TE) (T : String) : TE := tOp rNT (tCB (rTyp K) (tCons te tNil)) (tC (.ty T))
section
variable {X : Cx} {e : Expr} {te : TE} {n : Str} {N : String} {p1 p2 p3 pos : Pos}
theorem pe_tyIs (hz : X.mg "type" = none) (hn : X.mg n = none) (hb : bootBuiltins n = some (.type N)) (he : PE X e te) (g1 : Gl X "type" := by rfl) (g2 : Gl X n := by rfl)
    (na : starEach [e] X.env = (false, eval e X.env) :: starEach [] X.env := by rfl) (nm : n ≠ "__name__" := by decide) (nd : (n == ("__debug__" : Str)) = false := by decide) :
    PE X (.Compare (.Call (.Name "type" p1) [e] [] p2) [.Is] [.Name n p3] pos) (tTyIs X.K te N) :=
  pe_cmpR op_isTyB (pe_callTy call_type1 g1 hz bo_type (pa_cons he pa_nil na) (he := na)) (pe_bltn g2 hn hb rfl nm nd) (nomark _)
theorem pe_tyNo (hz : X.mg "type" = none) (hn : X.mg n = none) (hb : bootBuiltins n = some (.type N)) (he : PE X e te) (g1 : Gl X "type" := by rfl) (g2 : Gl X n := by rfl)
    (na : starEach [e] X.env = (false, eval e X.env) :: starEach [] X.env := by rfl) (nm : n ≠ "__name__" := by decide) (nd : (n == ("__debug__" : Str)) = false := by decide) :
    PE X (.Compare (.Call (.Name "type" p1) [e] [] p2) [.IsNot] [.Name n p3] pos) (tTyNo X.K te N) :=
  pe_cmpR op_notTyB (pe_callTy call_type1 g1 hz bo_type (pa_cons he pa_nil na) (he := na)) (pe_bltn g2 hn hb rfl nm nd) (nomark _)
theorem pt_tyIs (hz : X.mg "type" = none) (hn : X.mg n = none) (hb : bootBuiltins n = some (.type N)) (he : PE X e te) (g1 : Gl X "type" := by rfl) (g2 : Gl X n := by rfl)
    (na : starEach [e] X.env = (false, eval e X.env) :: starEach [] X.env := by rfl) (nm : n ≠ "__name__" := by decide) (nd : (n == ("__debug__" : Str)) = false := by decide) :
    PT X (.Compare (.Call (.Name "type" p1) [e] [] p2) [.Is] [.Name n p3] pos) (tTest (tTyIs X.K te N)) :=
  pt_cmpR op_isTyB (pe_callTy call_type1 g1 hz bo_type (pa_cons he pa_nil na) (he := na)) (pe_bltn g2 hn hb rfl nm nd) (nomark _)
theorem pt_tyNo (hz : X.mg "type" = none) (hn : X.mg n = none) (hb : bootBuiltins n = some (.type N)) (he : PE X e te) (g1 : Gl X "type" := by rfl) (g2 : Gl X n := by rfl)
    (na : starEach [e] X.env = (false, eval e X.env) :: starEach [] X.env := by rfl) (nm : n ≠ "__name__" := by decide) (nd : (n == ("__debug__" : Str)) = false := by decide) :
    PT X (.Compare (.Call (.Name "type" p1) [e] [] p2) [.IsNot] [.Name n p3] pos) (tTest (tTyNo X.K te N)) :=
  pt_cmpR op_notTyB (pe_callTy call_type1 g1 hz bo_type (pa_cons he pa_nil na) (he := na)) (pe_bltn g2 hn hb rfl nm nd) (nomark _)
end
section
variable {K : PySem.W.Frag} {σ : L2.St} {H : Hp} {te : TE} {v : V} {d : D} {T : String}
theorem ev_tyIs (h : Ev te σ H v) (q : Rep H v d) : Ev (tTyIs K te T) σ H (.bl (decide (d.ty = T))) := ev_op (ev_type h q) ev_c rv_isTy
theorem ev_tyNo (h : Ev te σ H v) (q : Rep H v d) : Ev (tTyNo K te T) σ H (.bl (!decide (d.ty = T))) := ev_op (ev_type h q) ev_c rv_notTy
end
theorem ty_int : ∀ {d : D}, d.ty = "int" → ∃ i, d = .int i
  | .int i, _ => ⟨i, rfl⟩
  | .non, h | .bl _, h | .str _, h | .tup _, h | .lst _, h | .dic, h => by simp [D.ty] at h
theorem ty_tup : ∀ {d : D}, d.ty = "tuple" → ∃ ds, d = .tup ds
  | .tup ds, _ => ⟨ds, rfl⟩
  | .non, h | .bl _, h | .str _, h | .int _, h | .lst _, h | .dic, h => by simp [D.ty] at h
theorem ty_str : ∀ {d : D}, d.ty = "str" → ∃ s, d = .str s
  | .str s, _ => ⟨s, rfl⟩
  | .non, h | .bl _, h | .tup _, h | .int _, h | .lst _, h | .dic, h => by simp [D.ty] at h
theorem Rep.tupD {H : Hp} {v : V} {ds : List D} (r : Rep H v (.tup ds)) : ∃ a vs, v = .ref a ∧ TupS H a vs ∧ Reps H vs ds := by
  cases r with
  | tup h s => exact ⟨_, _, rfl, h, s⟩
theorem Rep.lstD {H : Hp} {v : V} {ds : List D} (r : Rep H v (.lst ds)) : ∃ a vs, v = .ref a ∧ H a = some (.lst vs) ∧ Reps H vs ds := by
  cases r with
  | lst h s => exact ⟨_, _, rfl, h, s⟩
theorem Rep.strD {H : Hp} {v : V} {s : Str} (r : Rep H v (.str s)) : v = .str s := by
  cases r
  rfl
theorem Rep.intD {H : Hp} {v : V} {i : Int} (r : Rep H v (.int i)) : v = .int i := by
  cases r
  rfl
/-! ## mirrors -/
def isBetw (d : D) (lo hi : Int) : Bool := match d with
  | .int i => decide (lo ≤ i) && decide (i ≤ hi)
  | _ => false
def isTup (d : D) (lo hi : Int) : Bool := match d with
  | .tup ds => decide (lo ≤ (ds.length : Int)) && decide ((ds.length : Int) ≤ hi)
  | _ => false
def isAmong (d : D) (ns : List Str) : Bool := match d with
  | .str s => ns.contains s
  | _ => false
def okBetw : OkF := fun vs H z => ∃ v d lo hi, vs = [v, .int lo, .int hi] ∧ Rep H v d ∧ z = .bl (isBetw d lo hi)
def okTup : OkF := fun vs H z => ∃ v d lo hi, vs = [v, .int lo, .int hi] ∧ Rep H v d ∧ z = .bl (isTup d lo hi)
theorem stb_betw : Stb okBetw := fun _ _ _ _ e ⟨v, d, lo, hi, h1, h2, h3⟩ => ⟨v, d, lo, hi, h1, h2.up e, h3⟩
theorem stb_tup : Stb okTup := fun _ _ _ _ e ⟨v, d, lo, hi, h1, h2, h3⟩ => ⟨v, d, lo, hi, h1, h2.up e, h3⟩
section
variable {P : Program} {w : World} {K : PySem.W.Frag} {mg : Str → Option Value} {base : Heap} (T : Txt K mg)
theorem ok_is_between : FnOk P w K mg base CX0 1 T.a_is_between T.d_is_between ["value", "low", "high"] (spX okBetw) := by
  refine T.F_is_between.ok sc_is_between (fun vs H Q E h => ?_) (fun cdv A outer s H vs Q E hr h => ?_)
  · obtain ⟨z, ⟨v, d, lo, hi, rfl, _⟩, _⟩ := h
    rfl
  · obtain ⟨z, ⟨v, d, lo, hi, rfl, hv, rfl⟩, q⟩ := h
    refine ⟨_, pss_one (ps_ret (pe_and (pe_tyIs T.z_type T.z_int bo_int (pv 0)) (pe_one (pe_chain op_le op_le (pv 1) (pv 0) (pv 2))))), ?_⟩
    refine s_ret (v := .bl (isBetw d lo hi)) ?_ q
    refine ev_is (ev_andV (b := isBetw d lo hi) (ev_tyIs (ev_var rfl) hv) fun ht => ?_) ?_
    · obtain ⟨i, rfl⟩ := ty_int (of_decide_eq_true ht)
      cases hv
      exact ev_chain (ev_var rfl) (ev_var rfl) rv_I0 (fun _ => ev_var rfl) (fun _ => rv_I0)
    · cases d <;> first | rfl | (simp [D.ty, isBetw])
theorem ok_is_tuple : FnOk P w K mg base CX0 1 T.a_is_tuple T.d_is_tuple ["value", "least", "most"] (spX okTup) := by
  refine T.F_is_tuple.ok sc_is_tuple (fun vs H Q E h => ?_) (fun cdv A outer s H vs Q E hr h => ?_)
  · obtain ⟨z, ⟨v, d, lo, hi, rfl, _⟩, _⟩ := h
    rfl
  · obtain ⟨z, ⟨v, d, lo, hi, rfl, hv, rfl⟩, q⟩ := h
    refine ⟨_, pss_one (ps_ret (pe_and (pe_tyIs T.z_type T.z_tuple bo_tuple (pv 0)) (pe_one (pe_chain op_le op_le (pv 1) (pe_callB call_len_seq (by rfl) T.z_len bo_len (pa_cons (pv 0) pa_nil)) (pv 2))))), ?_⟩
    refine s_ret (v := .bl (isTup d lo hi)) ?_ q
    refine ev_is (ev_andV (b := isTup d lo hi) (ev_tyIs (ev_var rfl) hv) fun ht => ?_) ?_
    · obtain ⟨ds, rfl⟩ := ty_tup (of_decide_eq_true ht)
      obtain ⟨a, vs, rfl, ha, hs⟩ := hv.tupD
      refine ev_chain (ev_var rfl) (ev_cb (ea_cons (ev_var rfl) ea_nil) fun H1 e Q k => ⟨a, vs, rfl, .inr (ha.up e).sq, by rw [hs.length]; exact k H1 (Ex.refl _)⟩) rv_I0 (fun _ => ev_var rfl) (fun _ => rv_I0)
    · cases d <;> first | rfl | (simp [D.ty, isTup])
end
end Kx

set_option Elab.async false
set_option linter.all false
set_option maxRecDepth 100000
set_option maxHeartbeats 1000000
namespace Kx
open PySem PySem.Spec PyProof.Rows L2 Evl
/-! ## more of evaluation -/
section
variable {K : PySem.W.Frag} {σ : L2.St} {H : Hp} {ta tb te tl : TE} {v : V}
/-- [te for sign in a text] -/
theorem el_lcS {i : Nat} {s : Str} {ys : List V} (h : Ev tl σ H (.str s)) (hl : ys.length = s.cps.size) (hz : s.cps.size < 100000)
    (hy : ∀ (j : Nat) (c : Nat) (y : V), s.cps[j]? = some c → ys[j]? = some y → Ev te ((σ.set i none).set i (some (.str ⟨#[c]⟩))) H y) : EvL (tLc (iStr tl) (gName i) tYes te [i]) σ H ys := fun H1 e Q q =>
  h H1 e _ fun H2 e2 => ⟨s, rfl, fun D hD => ⟨fun j m H' => m = ys.length - j ∧ j ≤ ys.length ∧ Ex H2 H' ∧ H' D = some (.lst (ys.take j)), ⟨ys.length, by simp, Nat.zero_le _, Ex.new hD, upd_same⟩, fun j m H' p => by
    obtain ⟨rfl, hj, x1, x2⟩ := p
    by_cases hlt : j < ys.length
    · refine .inr ⟨by show j < s.cps.size; omega, fun H'' => Ex H2 H'' ∧ H'' D = some (.lst (ys.take (j + 1))), fun H'' p => ⟨ys.length - (j + 1), by omega, rfl, hlt, p⟩, fun x H'' y => ?_⟩
      obtain ⟨rfl, c, hc, rfl⟩ := y
      refine ⟨by show (((σ.set i none).set i (some (.str ⟨#[c]⟩))).set i none) = (σ.set i none); rw [List.set_set, List.set_set], ?_⟩
      have gy : ys[j]? = some ys[j] := List.getElem?_eq_getElem hlt
      refine hy j c _ hc gy H'' ((e.trans e2).trans x1) _ fun H3 e3 => ⟨ys.take j, e3 _ _ x2, ?_, (x1.trans e3).mut hD, ?_⟩
      · rw [List.length_take]
        exact sz_lt (Nat.lt_of_le_of_lt (Nat.min_le_right _ _) (by omega))
      · rw [upd_same, List.take_add_one, gy]
        rfl
    · refine .inl ⟨by show s.cps.size ≤ j; omega, q D H' (fresh_back e2 hD) (e2.trans x1) (by rw [x2, List.take_of_length_le (by omega)])⟩⟩⟩
theorem rv_leS {a b : Str} : RV (fun x y H Q => ∃ i j, x = V.str i ∧ y = V.str j ∧ Q (.bl (!decide (j.cps.toList < i.cps.toList))) H) (.str a) (.str b) H (.bl (!decide (b.cps.toList < a.cps.toList))) :=
  fun H1 e Q k => ⟨a, b, rfl, rfl, k H1 (Ex.refl _)⟩
def amg (s : Str) (ns : List Str) : Bool := ns.any fun y => y == s
theorem amg_iff {s : Str} {ns : List Str} : amg s ns = true ↔ s ∈ ns := by
  unfold amg
  rw [List.any_eq_true]
  exact ⟨fun ⟨y, hy, e⟩ => (eq_of_beq e) ▸ hy, fun h => ⟨s, h, beq_self_eq_true s⟩⟩
theorem inV_sv (s : Str) (ns : List Str) : inV (.str s) (sv ns) = amg s ns := by
  unfold inV sv amg
  rw [List.any_map]
  rfl
theorem flat_sv (ns : List Str) : (sv ns).all flatV = true := by
  unfold sv
  rw [List.all_map, List.all_eq_true]
  exact fun _ _ => rfl
/-- the address holds these texts, as a list or as a tuple -/
def Txs (H : Hp) (a : Addr) (ns : List Str) : Prop := H a = some (.lst (sv ns)) ∨ Rd H a (.tup (sv ns))
theorem Txs.up {H H' : Hp} {a : Addr} {ns : List Str} (h : Txs H a ns) (e : Ex H H') : Txs H' a ns := h.elim (fun z => .inl (e _ _ z)) (fun z => .inr (ex_rd e z))
theorem Txs.sq {H : Hp} {a : Addr} {ns : List Str} (h : Txs H a ns) : SqL K H a (sv ns) ∨ SqT K H a (sv ns) := h.elim (fun z => .inl (.of z)) (fun z => .inr (.inl z))
theorem _root_.Kx.TupS.rd {a : Addr} {vs : List V} (h : TupS H a vs) : Rd H a (.tup vs) := let ⟨o, _, h2⟩ := h; .inr ⟨o, h2⟩
theorem rv_inTx {a : Addr} {s : Str} {ns : List Str} (h : Txs H a ns) : RV (rIn K false) (.str s) (.ref a) H (.bl (amg s ns)) := fun H1 e Q q =>
  ⟨a, sv ns, rfl, (h.up e).sq, rfl, flat_sv ns, by rw [inV_sv]; exact q H1 (Ex.refl _)⟩
theorem rv_niTx {a : Addr} {s : Str} {ns : List Str} (h : Txs H a ns) : RV (rIn K true) (.str s) (.ref a) H (.bl (!amg s ns)) := fun H1 e Q q =>
  ⟨a, sv ns, rfl, (h.up e).sq, rfl, flat_sv ns, by rw [inV_sv]; exact q H1 (Ex.refl _)⟩
theorem ev_lenT {a : Addr} {xs : List V} (h : Ev ta σ H (.ref a)) (hx : H a = some (.lst xs) ∨ Rd H a (.tup xs)) : Ev (tCB (rLenS K) (tCons ta tNil)) σ H (.int (xs.length : Int)) :=
  ev_cb (ea_cons h ea_nil) fun H1 e Q q => ⟨a, xs, rfl, hx.elim (fun z => .inl (.of (e _ _ z))) (fun z => .inr (.inl (ex_rd e z))), q H1 (Ex.refl _)⟩
theorem ev_lenS {s : Str} (h : Ev ta σ H (.str s)) (hz : s.length ≤ 100000) : Ev (tCB (fun xs H Q => ∃ x n, xs = [x] ∧ LenV K x H n ∧ Q (.int n) H) (tCons ta tNil)) σ H (.int (s.length : Int)) :=
  ev_cb (ea_cons h ea_nil) fun H1 e Q q => ⟨.str s, s.length, rfl, ⟨sz_of hz, rfl⟩, q H1 (Ex.refl _)⟩
end
/-! ## mirrors -/
def lowc (c : Nat) : Bool := decide (97 ≤ c) && decide (c ≤ 122)
def nmS (s : Str) : Bool := (decide (1 ≤ s.length) && decide (s.length ≤ 8)) && !decide (s = "any") && s.cps.toList.all lowc
def D.nm : D → Bool
  | .str s => nmS s
  | _ => false
def amD (d : D) (ns : List Str) : Bool := match d with
  | .str s => amg s ns
  | _ => false
def okUnlike : OkF := fun vs H z => ∃ a xs, vs = [.ref a] ∧ Txs H a xs ∧ xs.length ≤ 1000 ∧ z = .bl (decide xs.Nodup)
def okRow : OkF := fun vs H z => ∃ v d, vs = [v] ∧ Rep H v d ∧ z = .bl (decide (d.ty = "list") || decide (d.ty = "tuple"))
def okAmong : OkF := fun vs H z => ∃ v d a ns, vs = [v, .ref a] ∧ Rep H v d ∧ Txs H a ns ∧ z = .bl (amD d ns)
def szD : D → Nat
  | .str s => s.length
  | _ => 0
def okName : OkF := fun vs H z => ∃ v d, vs = [v] ∧ Rep H v d ∧ szD d ≤ 1000 ∧ z = .bl d.nm
theorem stb_unlike : Stb okUnlike := fun _ _ _ _ e ⟨a, xs, h1, h2, h3, h4⟩ => ⟨a, xs, h1, h2.up e, h3, h4⟩
theorem stb_row : Stb okRow := fun _ _ _ _ e ⟨v, d, h1, h2, h3⟩ => ⟨v, d, h1, h2.up e, h3⟩
theorem stb_among : Stb okAmong := fun _ _ _ _ e ⟨v, d, a, ns, h1, h2, h3, h4⟩ => ⟨v, d, a, ns, h1, h2.up e, h3.up e, h4⟩
theorem stb_name : Stb okName := fun _ _ _ _ e ⟨v, d, h1, h2, h3, h4⟩ => ⟨v, d, h1, h2.up e, h3, h4⟩
theorem sign_lo (c : Nat) : (!decide (([c] : List Nat) < [97])) = decide (97 ≤ c) := by
  have h : (([c] : List Nat) < [97]) ↔ c < 97 := by simp [List.cons_lt_cons_iff]
  rw [decide_eq_decide.mpr h]
  by_cases q : c < 97
  · rw [decide_eq_true q, decide_eq_false (by omega)]; rfl
  · rw [decide_eq_false q, decide_eq_true (by omega)]; rfl
theorem sign_hi (c : Nat) : (!decide (([122] : List Nat) < [c])) = decide (c ≤ 122) := by
  have h : (([122] : List Nat) < [c]) ↔ 122 < c := by simp [List.cons_lt_cons_iff]
  rw [decide_eq_decide.mpr h]
  by_cases q : 122 < c
  · rw [decide_eq_true q, decide_eq_false (by omega)]; rfl
  · rw [decide_eq_false q, decide_eq_true (by omega)]; rfl
section
variable {P : Program} {w : World} {K : PySem.W.Frag} {mg : Str → Option Value} {base : Heap} (T : Txt K mg)
end
end Kx

set_option Elab.async false
set_option linter.all false
set_option maxRecDepth 100000
set_option maxHeartbeats 1000000
namespace Kx
open PySem PySem.Spec PyProof.Rows L2 Evl
/-! ## sizes -/
mutual
def D.Sz : D → Prop
  | .str s => s.length ≤ 1000
  | .tup ds => ds.length ≤ 1000 ∧ Szs ds
  | .lst ds => ds.length ≤ 1000 ∧ Szs ds
  | _ => True
def Szs : List D → Prop
  | [] => True
  | d :: r => d.Sz ∧ Szs r
end
theorem szD_of {d : D} (h : d.Sz) : szD d ≤ 1000 := by
  cases d <;> first | exact Nat.zero_le _ | (unfold D.Sz at h; exact h)
theorem Szs.get : ∀ {ds : List D} {j : Nat} {d : D}, Szs ds → ds[j]? = some d → d.Sz
  | [], _, _, _, h => by simp at h
  | x :: r, 0, d, h, e => by
    have := Option.some.inj e
    subst this
    unfold Szs at h
    exact h.1
  | x :: r, j + 1, d, h, e => by
    unfold Szs at h
    exact Szs.get (j := j) h.2 e
theorem Szs.mem {ds : List D} {d : D} (h : Szs ds) (m : d ∈ ds) : d.Sz := by
  obtain ⟨j, hj⟩ := List.mem_iff_getElem?.mp m
  exact h.get hj
theorem D.Sz.tup {ds : List D} (h : (D.tup ds).Sz) : ds.length ≤ 1000 ∧ Szs ds := by
  unfold D.Sz at h
  exact h
theorem not_t {b : Bool} (h : (!b) = true) : b = false := by cases b <;> first | rfl | cases h
theorem not_f {b : Bool} (h : (!b) = false) : b = true := by cases b <;> first | rfl | cases h
section
variable {K : PySem.W.Frag} {σ : L2.St} {H : Hp} {ta tb te tl : TE} {v x z : V}
theorem ev_sp {ok : OkF} (st : Stb ok) {ta : TA} {vs : List V} {E : XK} (h : EvA ta σ H vs) (k : ok vs H z) : Ev (tCall (spX ok) [] E ta) σ H z :=
  ev_call h (by rw [List.append_nil]; exact spv st k)
theorem s_ifX {D : Ends} {t : TT} {tu u : TS} {b : Bool} (h : EvT t σ H b) (h1 : b = true → ∀ H1, Ex H H1 → tu { D with nx := u D } σ H1) (h2 : b = false → ∀ H1, Ex H H1 → u D σ H1) : tSeq (tIfS t tu tNext) u D σ H := s_if h h1 h2
/-- a call whose last argument is a new tuple, a new list -/
theorem ev_spU {ok : OkF} {xs : List V} {E : XK} (ha : Ev ta σ H x) (hb : EvU tb σ H xs) (k : ∀ p H1, H1 p = some (.tup xs) → Ex H H1 → ok [x, .ref p] H1 z) : Ev (tCall (spX ok) [] E (tCons ta (tCons tb tNil))) σ H z :=
  fun H1 e Q q => ha H1 e _ fun H2 e2 => hb H2 (e.trans e2) _ fun p H3 _ e3 hp => ⟨z, k p H3 hp ((e.trans e2).trans e3), fun H4 e4 => q H4 ((e2.trans e3).trans e4)⟩
theorem ev_spL {ok : OkF} {xs : List V} {E : XK} (hb : EvL tb σ H xs) (k : ∀ p H1, H1 p = some (.lst xs) → Ex H H1 → ok [.ref p] H1 z) : Ev (tCall (spX ok) [] E (tCons tb tNil)) σ H z :=
  fun H1 e Q q => hb H1 e _ fun p H3 _ e3 hp => ⟨z, k p H3 hp (e.trans e3), fun H4 e4 => q H4 (e3.trans e4)⟩
theorem ev_ixT {a : Addr} {vs : List V} {j : Nat} (h : Ev ta σ H (.ref a)) (ha : TupS H a vs) (hj : vs[j]? = some v) : Ev (tOp (rIxT K) ta (tC (.int (j : Int)))) σ H v :=
  ev_op h ev_c (rv_ixT ha.sq (atI_nat hj))
/-- all([f(item) for item in a tuple]) -/
theorem ev_allT {i : Nat} {a : Addr} {vs : List V} {ds : List D} {f : D → Bool} (h : Ev tl σ H (.ref a)) (ha : TupS H a vs) (hs : Reps H vs ds) (hz : ds.length ≤ 1000)
    (hf : ∀ (j : Nat) (v : V) (d : D), ds[j]? = some d → Rep H v d → Ev te ((σ.set i none).set i (some v)) H (.bl (f d))) :
    Ev (tCB (rAll K) (tCons (tLc (iTup K tl) (gName i) tYes te [i]) tNil)) σ H (.bl (ds.all f)) := by
  refine ev_is (ev_all (bs := ds.map f) (el_lcT h ha.sq (by rw [List.length_map, List.length_map, hs.length]) (by rw [hs.length]; omega) fun j x y hx hy => ?_)) (by rw [List.all_map]; rfl)
  obtain ⟨d, hd, r⟩ := hs.get hx
  rw [List.getElem?_map, List.getElem?_map, hd] at hy
  have ey : y = .bl (f d) := (Option.some.inj hy).symm
  subst ey
  exact hf j x d hd r
end
/-! ## mirrors -/
def D.txt : D → Str
  | .str s => s
  | _ => Str.empty
def D.fst : D → D
  | .tup (x :: _) => x
  | _ => .non
def leafs : List Str := ["leaf", "gate"]
theorem nm_str : ∀ {d : D}, d.nm = true → d = .str d.txt
  | .str s, _ => rfl
  | .non, h | .bl _, h | .tup _, h | .int _, h | .lst _, h | .dic, h => by simp [D.nm] at h
theorem am_str : ∀ {d : D} {ns : List Str}, amD d ns = true → d = .str d.txt ∧ d.txt ∈ ns
  | .str s, ns, h => ⟨rfl, amg_iff.mp h⟩
  | .non, _, h | .bl _, _, h | .tup _, _, h | .int _, _, h | .lst _, _, h | .dic, _, h => by simp [amD] at h
theorem all_nm {ds : List D} (h : ds.all D.nm = true) : ds = (ds.map D.txt).map D.str := by
  rw [List.map_map]
  have : ∀ d ∈ ds, (D.str ∘ D.txt) d = d := fun d hd => (nm_str (List.all_eq_true.mp h d hd)).symm
  exact (List.map_id ds).symm.trans (List.map_congr_left fun d hd => (this d hd).symm)
section
variable {P : Program} {w : World} {K : PySem.W.Frag} {mg : Str → Option Value} {base : Heap} (T : Txt K mg)
end
end Kx

set_option Elab.async false
set_option linter.all false
set_option maxRecDepth 100000
set_option maxHeartbeats 1000000
namespace Kx
open PySem PySem.Spec PyProof.Rows L2 Evl
section
variable {K : PySem.W.Frag} {σ : L2.St} {H : Hp} {ta tb te tl : TE} {v x z : V}
/-- [te for i in range(n)] -/
theorem el_lcR {i : Nat} {ra : TA} {n : Int} {ys : List V} (h : EvA ra σ H [.int n]) (hl : ys.length = n.toNat) (hz : n ≤ 10000) (hz0 : -10000 ≤ n)
    (hy : ∀ (j : Nat) (y : V), ys[j]? = some y → Ev te ((σ.set i none).set i (some (.int (0 + (j : Int))))) H y) : EvL (tLc (iRng1 ra) (gName i) tYes te [i]) σ H ys := fun H1 e Q q =>
  h H1 e _ fun H2 e2 => ⟨n, rfl, by omega, by omega, fun D hD =>
    lc_range (lo := 0) (n := n.toNat) (fun j H' => Ex H2 H' ∧ H' D = some (.lst (ys.take j))) ⟨Ex.new hD, upd_same⟩
      (fun j H' hj p => ⟨by show (((σ.set i none).set i (some (.int (0 + (j : Int))))).set i none) = (σ.set i none); rw [List.set_set, List.set_set], by
        have hlt2 : j < ys.length := by omega
        have gy : ys[j]? = some ys[j] := List.getElem?_eq_getElem hlt2
        refine hy j _ gy H' ((e.trans e2).trans p.1) _ fun H3 e3 => ⟨ys.take j, e3 _ _ p.2, ?_, (p.1.trans e3).mut hD, ?_⟩
        · rw [List.length_take]
          exact sz_lt (Nat.lt_of_le_of_lt (Nat.min_le_right _ _) (by omega))
        · rw [upd_same, List.take_add_one, gy]
          rfl⟩)
      (fun H' p => q D H' (fresh_back e2 hD) (e2.trans p.1) (by rw [p.2, List.take_of_length_le (by omega)]))⟩
theorem ev_ixL {a : Addr} {vs : List V} {j : Nat} {k : Int} (h : Ev ta σ H (.ref a)) (hk : Ev tb σ H (.int k)) (ha : H a = some (.lst vs)) (e : k = (j : Int)) (hj : vs[j]? = some v) : Ev (tOp (rIxL K) ta tb) σ H v :=
  ev_op h hk (rv_ixL (.of ha) (by rw [e]; exact atI_nat hj))
end
/-! ## rows of numbers -/
def itup (t : List Int) : D := .tup (t.map D.int)
theorem reps_ints {H : Hp} : ∀ {t : List Int} {vs : List V}, Reps H vs (t.map D.int) → vs = t.map V.int
  | [], _, .nil => rfl
  | i :: r, _, .cons h t => by
    cases h
    rw [reps_ints t]
    rfl
theorem reps_of_ints {H : Hp} : ∀ t : List Int, Reps H (t.map V.int) (t.map D.int)
  | [] => .nil
  | i :: r => .cons (.int i) (reps_of_ints r)
theorem itup_at {H : Hp} {v : V} {t : List Int} (r : Rep H v (itup t)) : ∃ a, v = .ref a ∧ TupS H a (t.map V.int) := by
  obtain ⟨a, vs, h1, h2, h3⟩ := r.tupD
  rw [reps_ints h3] at h2
  exact ⟨a, h1, h2⟩
def ascB (ts : List (List Int)) : List Bool := (List.range (ts.length - 1)).map fun j => HT.lexLt (ts.getD j []) (ts.getD (j + 1) [])
def ascT (ts : List (List Int)) : Bool := (ascB ts).all id
def okAsc : OkF := fun vs H z => ∃ a us ts, vs = [.ref a] ∧ H a = some (.lst us) ∧ Reps H us (ts.map itup) ∧ ts.length ≤ 1000 ∧ z = .bl (ascT ts)
theorem stb_asc : Stb okAsc := fun _ _ _ _ e ⟨a, us, ts, h1, h2, h3, h4, h5⟩ => ⟨a, us, ts, h1, e _ _ h2, h3.up e, h4, h5⟩
section
variable {P : Program} {w : World} {K : PySem.W.Frag} {mg : Str → Option Value} {base : Heap} (T : Txt K mg)
end
end Kx

set_option Elab.async false
set_option linter.all false
set_option maxRecDepth 100000
set_option maxHeartbeats 1000000
namespace Kx
open PySem PySem.Spec PyProof.Rows L2 Evl
/-! ## tuples whose object is known -/
/-- a new tuple, its object known -/
def newT (xs : List V) (H : Hp) (Q : VK) : Prop := ∀ (p : Addr) (o : Obj), H p = none → o.dict = none → Q (.ref p) (upd H p (.frz o (.tup xs)))
section
variable {X : Cx}
theorem laid_T {pins : List (Addr × Obj)} {σ : L2.St} {H : Hp} {s : Shared} {xs : List V} {us : List Value} {Q : VK} {h' : Heap} {t' : Nat} (I : Inv X pins σ H { s with heap := h' }) (r : Vals xs us) (hz : xs.length ≤ sizeLine) (q : newT xs H Q) :
    EP X pins σ Q (.ref h'.objs.size) { s with heap := h'.push { cls := .type "tuple", data := .seq us.toArray }, toks := t' } := by
  have hg : (h'.push { cls := .type "tuple", data := .seq us.toArray }).get? h'.objs.size = some { cls := .type "tuple", data := .seq us.toArray } := Heap.get?_push_size _ rfl
  exact ⟨.ref h'.objs.size, _, I.laid (t' := t') (o := .frz { cls := .type "tuple", data := .seq us.toArray } (.tup xs)) (fun b ob e => Heap.get?_push_of_some _ e) (Nat.le_refl _) ⟨hg, hz, us, r, ⟨_, hg, rfl, _, rfl⟩⟩, rfl, q _ _ (I.hok.fresh (Nat.le_refl _)) rfl⟩
def tTupF (t : TA) : TE := fun σ H Q => t σ H fun xs H1 => xs.length ≤ sizeLine ∧ newT xs H1 Q
theorem pe_tupF {es : List Expr} {t : TA} {k : Nat} {pos : Pos} (h : PA X es t) : PE X (.Tuple es k pos) (tTupF t) := by
  refine ⟨fun pins s σ H Q I hq => wpAny_Tuple_spliced (thn (h.run pos pins s σ H _ I hq) fun us s1 hh => ?_)⟩
  obtain ⟨xs, H1, I1, r, z, q⟩ := hh
  refine ⟨by rw [← r.length]; exact z, ?_⟩
  exact laid_T (s := s1) (h' := s1.heap) (t' := s1.toks) I1 r z q
def rTupOf (K : PySem.W.Frag) : List V → Hp → VK → Prop := fun xs H Q => ∃ p ys, xs = [.ref p] ∧ SqL K H p ys ∧ newT ys H Q
theorem call_tupF : CallR X (.type "tuple") (rTupOf X.K) := by
  intro pins s σ H xs us Q I r h
  obtain ⟨p, ys, rfl, hq, q⟩ := h
  obtain ⟨u, rfl, rx⟩ := vals1 r
  cases rx
  obtain ⟨its, r', pl, hz⟩ := I.list hq
  have hlen := r'.length
  refine call_tuple_list pl.isList (fun h' kp => ?_) (by simp only [List.size_toArray] <;> omega)
  exact laid_T (s := s) (t' := s.toks) (I.kept (t' := s.toks) kp) r' hz q
def rCatF : R2 := fun x y H Q => ∃ a b xs ys, x = .ref a ∧ y = .ref b ∧ TupS H a xs ∧ TupS H b ys ∧ xs.length + ys.length ≤ sizeLine ∧
  (xs = [] → Q (.ref b) H) ∧ (xs ≠ [] → ys = [] → Q (.ref a) H) ∧ (xs ≠ [] → ys ≠ [] → newT (xs ++ ys) H Q)
theorem op_catF : OpR X (binaryOp .Add) rCatF := by
  intro pins s σ H x y v u Q I rx ry h
  obtain ⟨a, b, xs, ys, rfl, rfl, ha, hb, hz, q0, q1, q2⟩ := h
  cases rx
  cases ry
  obtain ⟨its, r1, p1, _⟩ := I.tuple ha.sq
  obtain ⟨its2, r2, p2, _⟩ := I.tuple hb.sq
  by_cases hx : xs = []
  · subst hx
    cases r1
    exact cat_tup0 p1 p2 ⟨.ref b, H, I, rfl, q0 rfl⟩
  · refine HT.cat_tup p1 p2 (fun z => hx (r1.nil_iff.mp z)) (fun z => ⟨.ref a, H, I, rfl, q1 hx (r2.nil_iff.mp z)⟩) (fun z => ?_) (by rw [← r1.length, ← r2.length]; exact hz)
    exact laid_T (s := s) (h' := s.heap) (t' := s.toks) I (r1.append r2) (by rw [List.length_append]; exact hz) (q2 hx fun w => z (r2.nil_iff.mpr w))
def rSlF : V → Option Int → Option Int → Hp → VK → Prop := fun x lo hi H Q => ∃ a xs, x = .ref a ∧ TupS H a xs ∧
  (HT.sIx xs.length 0 lo = 0 ∧ HT.sIx xs.length xs.length hi = xs.length → Q (.ref a) H) ∧ (¬ (HT.sIx xs.length 0 lo = 0 ∧ HT.sIx xs.length xs.length hi = xs.length) → newT (cutV xs lo hi) H Q)
theorem sl_tupF : SlR X rSlF := by
  intro pins s σ H x v vl vu lo hi sl Q I rx hs pl pu h
  obtain ⟨a, xs, rfl, hx, q1, q2⟩ := h
  cases rx
  obtain ⟨its, r, ht, hz⟩ := I.tuple hx.sq
  have hlen : its.toArray.size = xs.length := by rw [List.size_toArray]; exact r.length.symm
  refine ⟨"tuple", _, PyProof.Rows.slot_tuple_getitem.lookup, ht.typeIs, ?_⟩
  by_cases hw : HT.sIx xs.length 0 lo = 0 ∧ HT.sIx xs.length xs.length hi = xs.length
  · exact getItem_tuple_whole ht hs pl pu (by rw [hlen]; exact hw) ⟨.ref a, H, I, rfl, q1 hw⟩
  · refine HT.getItem_tuple_cut ht hs pl pu (by rw [hlen]; exact hw) ?_ (by rw [hlen]; exact hz)
    rw [hlen]
    exact laid_T (s := s) (h' := s.heap) (t' := s.toks) I ((r.drop (HT.sIx xs.length 0 lo)).take (HT.sIx xs.length xs.length hi - HT.sIx xs.length 0 lo)) (Nat.le_trans (cutV_length xs lo hi) hz) (q2 hw)
/-- t.index(x), t a tuple of texts -/
def tTix (to : TE) (t : TA) : TE := fun σ H Q => to σ H fun x H1 => ∃ a ys, x = .ref a ∧ TupS H1 a (sv ys) ∧ t σ H1 fun vs H2 => TupS H2 a (sv ys) ∧ ∃ z j, vs = [.str z] ∧ ys[j]? = some z ∧ (∀ m, m < j → ys[m]? ≠ some z) ∧ Q (.int (j : Nat)) H2
theorem pe_tix {o e : Expr} {to : TE} {t : TA} {apos cpos : Pos} (ho : PE X o to) (ha : PA X [e] t)
    (hbase : attributeBase o "index" X.env (eval o X.env) = eval o X.env := by rfl)
    (hfew : ((backTo cpos (starEach [e] X.env)).all (fun x => !x.1) && (backToKw cpos (keywordEach [] X.env)).all (fun x => x.1.isSome)
      && decide ([e].length + ([] : List Keyword).length + (if ([] : List Keyword).isEmpty then 0 else 1) < 30)) = true := by rfl)
    (hline : (apos.endLine == cpos.line) = true := by rfl) (hs : starEach [e] X.env = (false, eval e X.env) :: starEach [] X.env := by rfl) (hplain : (backTo cpos (starEach [] X.env)).any (·.1) = false := by rfl) :
    PE X (.Call (.Attribute o "index" apos) [e] [] cpos) (tTix to t) := by
  refine ⟨fun pins s σ H Q I h => wpAny_Call_method_late hbase hfew hline rfl (thn (ho.run pins s σ H _ I h) fun v s1 hh => ?_)⟩
  obtain ⟨x, H1, I1, r1, a, ys, rfl, ht, q1⟩ := hh
  cases r1
  obtain ⟨ob, hd, hb⟩ := id ht
  obtain ⟨hg, _⟩ := (show ObjOk X.prog X.w H1 s1.heap a (.frz ob (.tup (sv ys))) from I1.hok a _ hb)
  obtain ⟨its, _, pl, _⟩ := I1.tuple ht.sq
  refine ⟨"tuple", "tuple.index", PySem.F.plainAttrs_tuple, PySem.F.slot_tuple_index, PySem.F.type_tuple_index, pl.typeIs, fun b eb => ?_, ?_⟩
  · cases eb
    exact ⟨ob, hg, hd⟩
  · have hA := ha.run cpos pins s1 σ H1 _ I1 q1
    rw [hs] at hA ⊢
    refine Calls.callWith_builtin (by show (false || (backTo cpos (starEach [] X.env)).any (·.1)) = false; rw [hplain] <;> rfl) (Calls.evalArgs_plain (thn hA fun us s2 hh => ?_))
    obtain ⟨vs, H2, I2, r2, ht2, z, j, rfl, hj, hno, q⟩ := hh
    exact mt_tup_index pins s2 σ H2 (.ref a) [.str z] (.ref a) us Q I2 rfl r2 ⟨a, ys, z, j, rfl, rfl, ht2.sq, hj, hno, q⟩
end
/-! ## what an expression stands for -/
section
variable {K : PySem.W.Frag} {σ : L2.St} {H H' : Hp} {ta tb te tl : TE} {v x z : V}
/-- te gives a value that stands for d -/
def EvR (te : TE) (σ : L2.St) (H : Hp) (d : D) : Prop := ∀ H1, Ex H H1 → ∀ Q : VK, (∀ v H2, Ex H1 H2 → Rep H2 v d → Q v H2) → te σ H1 Q
def EvAR (ta : TA) (σ : L2.St) (H : Hp) (ds : List D) : Prop := ∀ H1, Ex H H1 → ∀ Q : List V → Hp → Prop, (∀ vs H2, Ex H1 H2 → Reps H2 vs ds → Q vs H2) → ta σ H1 Q
theorem EvR.mono {d : D} (e : Ex H H') (h : EvR te σ H d) : EvR te σ H' d := fun H1 e1 Q q => h H1 (e.trans e1) Q q
theorem er_of {d : D} (h : Ev te σ H v) (r : Rep H v d) : EvR te σ H d := fun H1 e Q q => h H1 e _ fun H2 e2 => q v H2 e2 (r.up (e.trans e2))
theorem ear_nil : EvAR tNil σ H [] := fun H1 _ _ q => q [] H1 (Ex.refl _) .nil
theorem ear_cons {tr : TA} {d : D} {ds : List D} (h : EvR te σ H d) (hr : EvAR tr σ H ds) : EvAR (tCons te tr) σ H (d :: ds) := fun H1 e Q q =>
  h H1 e _ fun v H2 e2 r => hr H2 (e.trans e2) _ fun vs H3 e3 rs => q (v :: vs) H3 (e2.trans e3) (.cons (r.up e3) rs)
theorem newT_rep {xs : List V} {ds : List D} {Q : VK} (r : Reps H xs ds) (q : ∀ v H2, Ex H H2 → Rep H2 v (.tup ds) → Q v H2) : newT xs H Q := fun p o hp ho =>
  q (.ref p) _ (Ex.new hp) (.tup ⟨o, ho, upd_same⟩ (r.up (Ex.new hp)))
theorem er_tup {ta : TA} {ds : List D} (h : EvAR ta σ H ds) (hz : ds.length ≤ 100000) : EvR (tTupF ta) σ H (.tup ds) := fun H1 e Q q =>
  h H1 e _ fun vs H2 e2 rs => ⟨by rw [rs.length]; exact sz_of hz, newT_rep rs fun v H3 e3 r => q v H3 (e2.trans e3) r⟩
theorem er_if {t : TT} {b : Bool} {d : D} (h : EvT t σ H b) (h1 : b = true → EvR ta σ H d) (h2 : b = false → EvR tb σ H d) : EvR (tIf t ta tb) σ H d := fun H1 e Q q => h H1 e _ fun H2 e2 => by
  cases b with
  | true => exact h1 rfl H2 (e.trans e2) Q fun v H3 e3 r => q v H3 (e2.trans e3) r
  | false => exact h2 rfl H2 (e.trans e2) Q fun v H3 e3 r => q v H3 (e2.trans e3) r
/-- t + u by what they stand for -/
theorem er_cat {ds es : List D} (ha : EvR ta σ H (.tup ds)) (hb : EvR tb σ H (.tup es)) (hz : ds.length + es.length ≤ 100000) : EvR (tOp rCatF ta tb) σ H (.tup (ds ++ es)) := fun H1 e Q q =>
  ha H1 e _ fun v H2 e2 r => hb H2 (e.trans e2) _ fun u H3 e3 r2 => by
    obtain ⟨a, xs, rfl, h1, s1⟩ := (r.up e3).tupD
    obtain ⟨b, ys, rfl, h2, s2⟩ := r2.tupD
    refine ⟨a, b, xs, ys, rfl, rfl, h1, h2, by rw [s1.length, s2.length]; exact sz_of hz, fun e0 => ?_, fun _ e0 => ?_, fun _ _ => newT_rep (s1.append s2) fun v H4 e4 r => q v H4 ((e2.trans e3).trans e4) r⟩
    · subst e0
      cases s1
      exact q _ H3 (e2.trans e3) (.tup h2 s2)
    · subst e0
      cases s2
      rw [List.append_nil] at q
      exact q _ H3 (e2.trans e3) (.tup h1 s1)
end
end Kx

set_option Elab.async false
set_option linter.all false
set_option maxRecDepth 100000
set_option maxHeartbeats 1000000
namespace Kx
open PySem PySem.Spec PyProof.Rows L2 Evl
/-! ## data without lists and dicts stay whatever lists do -/
mutual
def D.imm : D → Bool
  | .tup ds => imms ds
  | .lst _ => false
  | .dic => false
  | _ => true
def imms : List D → Bool
  | [] => true
  | d :: r => d.imm && imms r
end
theorem imms_iff : ∀ {ds : List D}, imms ds = true ↔ ∀ d ∈ ds, d.imm = true
  | [] => ⟨fun _ d h => by simp at h, fun _ => rfl⟩
  | x :: r => by
    unfold imms
    rw [Bool.and_eq_true, imms_iff (ds := r)]
    constructor
    · rintro ⟨a, b⟩ d hd
      rcases List.mem_cons.mp hd with rfl | hd
      · exact a
      · exact b d hd
    · intro h
      exact ⟨h x List.mem_cons_self, fun d hd => h d (List.mem_cons_of_mem _ hd)⟩
def Tp (H H' : Hp) : Prop := ∀ a o xs, H a = some (.frz o (.tup xs)) → H' a = some (.frz o (.tup xs))
theorem TupS.tp {H H' : Hp} {a : Addr} {vs : List V} (h : TupS H a vs) (e : Tp H H') : TupS H' a vs := let ⟨o, h1, h2⟩ := h; ⟨o, h1, e _ _ _ h2⟩
mutual
theorem Rep.monoT {H H' : Hp} (e : Tp H H') : ∀ (d : D) (v : V), d.imm = true → Rep H v d → Rep H' v d
  | _, _, _, .non => .non
  | _, _, _, .bl b => .bl b
  | _, _, _, .int i => .int i
  | _, _, _, .str s => .str s
  | .tup ds, _, h, .tup t r => .tup (t.tp e) (Reps.monoT e ds _ (by unfold D.imm at h; exact h) r)
  | .lst ds, _, h, .lst t r => absurd h (by unfold D.imm; exact Bool.false_ne_true)
  | .dic, _, h, .dic t => absurd h (by unfold D.imm; exact Bool.false_ne_true)
theorem Reps.monoT {H H' : Hp} (e : Tp H H') : ∀ (ds : List D) (vs : List V), imms ds = true → Reps H vs ds → Reps H' vs ds
  | [], _, _, .nil => .nil
  | d :: ds, _, h, .cons r t => by
    unfold imms at h
    rw [Bool.and_eq_true] at h
    exact .cons (Rep.monoT e d _ h.1 r) (Reps.monoT e ds _ h.2 t)
end
theorem Ex.tp {H H' : Hp} (e : Ex H H') : Tp H H' := fun a o xs h => e _ _ h
theorem Tp.trans {H H1 H2 : Hp} (a : Tp H H1) (b : Tp H1 H2) : Tp H H2 := fun c o xs h => b c o xs (a c o xs h)
theorem Tp.lst {H : Hp} {p : Addr} {xs ys : List V} (h : H p = some (.lst xs)) : Tp H (upd H p (.lst ys)) := fun a o zs e => by
  rw [upd_ne (ne_of e h (fun z => by cases z))]
  exact e
theorem imm_itup (t : List Int) : (itup t).imm = true := by
  unfold itup D.imm
  refine imms_iff.mpr fun d hd => ?_
  obtain ⟨i, _, rfl⟩ := List.mem_map.mp hd
  rfl
section
variable {K : PySem.W.Frag} {σ : L2.St} {H H' : Hp} {ta tb te tl : TE} {v x z : V}
/-- te gives a new list of what stands for ds -/
def EvLR (te : TE) (σ : L2.St) (H : Hp) (ds : List D) : Prop := ∀ H1, Ex H H1 → ∀ Q : VK, (∀ p us H2, H1 p = none → Ex H1 H2 → H2 p = some (.lst us) → Reps H2 us ds → Q (.ref p) H2) → te σ H1 Q
theorem wipe_of {σ σ2 : L2.St} {ws : List Nat} (h : σ2 = wipe σ ws) : wipe σ2 ws = wipe (wipe σ ws) ws := by rw [h]
/-- [te for g in a tuple], of what stands for data without lists -/
theorem el_lcTR {g : TG} {ws : List Nat} {a : Addr} {xs : List V} {ds : List D} (h : Ev tl σ H (.ref a)) (hx : SqT K H a xs) (hl : ds.length = xs.length) (hz : xs.length < 100000) (him : imms ds = true)
    (hy : ∀ (j : Nat) (x : V) (d : D), xs[j]? = some x → ds[j]? = some d → ∀ H1, Ex H H1 → ∀ Q' : L2.St → Hp → Prop, (∀ σ2, wipe σ2 ws = wipe σ ws → EvR te σ2 H1 d → Q' σ2 H1) → g x (wipe σ ws) H1 Q') : EvLR (tLc (iTup K tl) g tYes te ws) σ H ds := fun H1 e Q q =>
  h H1 e _ fun H2 e2 => ⟨a, rfl, ⟨xs, ex_t (e.trans e2) hx⟩, fun C hC =>
    lc_tup (xs := xs) (fun j H' => Ex H2 H' ∧ ∃ us, H' C = some (.lst us) ∧ Reps H' us (ds.take j)) ⟨Ex.new hC, [], upd_same, .nil⟩ (fun j H' _ p => ex_t ((e.trans e2).trans p.1) hx)
      (fun j x H' hj p => by
        have hlt : j < ds.length := by have := (List.getElem?_eq_some_iff.mp hj).1; omega
        have gd : ds[j]? = some ds[j] := List.getElem?_eq_getElem hlt
        have hg := hy j x _ hj gd H' ((e.trans e2).trans p.1)
        obtain ⟨p1, us, p2, p3⟩ := p
        refine hg _ fun σ2 w1 w3 => ⟨w1, ?_⟩
        show te σ2 H' _
        refine w3 H' (Ex.refl _) _ fun v H4 e4 r => ⟨us, e4 _ _ p2, ?_, (p1.trans e4).mut hC, us ++ [v], upd_same, ?_⟩
        · have := p3.length
          rw [List.length_take] at this
          exact sz_lt (by omega)
        · rw [List.take_add_one, gd]
          have t : Tp H4 (upd H4 C (.lst (us ++ [v]))) := Tp.lst (e4 _ _ p2)
          have i1 : imms (ds.take j) = true := imms_iff.mpr fun d hd => imms_iff.mp him d (List.mem_of_mem_take hd)
          exact ((p3.up e4).monoT t _ _ i1).append (.cons (r.monoT t _ _ (imms_iff.mp him _ (List.getElem_mem hlt))) .nil))
      (fun H' p => by
        obtain ⟨p1, us, p2, p3⟩ := p
        rw [List.take_of_length_le (by omega)] at p3
        exact q C us H' (fresh_back e2 hC) (e2.trans p1) p2 p3)⟩
end
/-! ## rights -/
def rkey (ns ks : List Str) (d : D) : List Int := match d with
  | .tup [.str k, .str n, .int s] => [(ks.idxOf k : Int), (ns.idxOf n : Int), s]
  | _ => []
theorem idx_at {xs : List Str} {x : Str} (h : x ∈ xs) : xs[xs.idxOf x]? = some x ∧ ∀ m, m < xs.idxOf x → xs[m]? ≠ some x := by
  constructor
  · rw [List.getElem?_eq_getElem (List.idxOf_lt_length_of_mem h)]
    exact congrArg some (List.getElem_idxOf _)
  · intro m hm e
    obtain ⟨hl, e2⟩ := List.getElem?_eq_some_iff.mp e
    have h3 := List.not_of_lt_findIdx (p := (· == x)) hm
    exact absurd (beq_iff_eq.mpr e2) (by first | exact h3 | (rw [h3]; exact Bool.false_ne_true))
theorem s_asgLX {σ : L2.St} {H : Hp} {te : TE} {D : Ends} {u : TS} {i : Nat} {xs : List V} (h : EvL te σ H xs) (k : ∀ p H1, H p = none → Ex H H1 → H1 p = some (.lst xs) → u D (σ.set i (some (.ref p))) H1) : tSeq (tAsg te (gName i)) u D σ H := s_asgL h k
theorem ev_spLR {σ : L2.St} {H : Hp} {tb : TE} {z : V} {ok : OkF} {ds : List D} {E : XK} (hb : EvLR tb σ H ds) (k : ∀ p us H1, H1 p = some (.lst us) → Reps H1 us ds → Ex H H1 → ok [.ref p] H1 z) : Ev (tCall (spX ok) [] E (tCons tb tNil)) σ H z :=
  fun H1 e Q q => hb H1 e _ fun p us H3 _ e3 hp hr => ⟨z, k p us H3 hp hr (e.trans e3), fun H4 e4 => q H4 (e3.trans e4)⟩
theorem ev_tix {K : PySem.W.Frag} {σ : L2.St} {H : Hp} {ta te : TE} {a : Addr} {ys : List Str} {x : Str} (h : Ev ta σ H (.ref a)) (ha : TupS H a (sv ys)) (hx : Ev te σ H (.str x)) (hm : x ∈ ys) : Ev (tTix ta (tCons te tNil)) σ H (.int (ys.idxOf x : Nat)) := fun H1 e Q q =>
  h H1 e _ fun H2 e2 => ⟨a, ys, rfl, ha.up (e.trans e2), hx H2 (e.trans e2) _ fun H3 e3 => ⟨ha.up ((e.trans e2).trans e3), x, _, rfl, (idx_at hm).1, (idx_at hm).2, q H3 (e2.trans e3)⟩⟩
theorem ev_lix {K : PySem.W.Frag} {σ : L2.St} {H : Hp} {ta te : TE} {a : Addr} {ys : List Str} {x : Str} (h : Ev ta σ H (.ref a)) (ha : H a = some (.lst (sv ys))) (hx : Ev te σ H (.str x)) (hm : x ∈ ys) : Ev (tBM K "list" (rIndex K) ta (tCons te tNil)) σ H (.int (ys.idxOf x : Nat)) := fun H1 e Q q =>
  h H1 e _ fun H2 e2 => ⟨.inl ⟨rfl, _, .of ((e.trans e2) _ _ ha)⟩, hx H2 (e.trans e2) _ fun H3 e3 => ⟨a, sv ys, .str x, ys.idxOf x, .str x, rfl, rfl, .of (((e.trans e2).trans e3) _ _ ha), rfl, flat_sv ys,
    by unfold sv; rw [List.getElem?_map, (idx_at hm).1]; rfl, beq_self_eq_true x, fun m z hl hz => by
      unfold sv at hz
      rw [List.getElem?_map] at hz
      cases e4 : ys[m]? with
      | none => rw [e4] at hz; cases hz
      | some y =>
        rw [e4] at hz
        have ez : z = .str y := (Option.some.inj hz).symm
        subst ez
        show (y == x) = false
        refine beq_eq_false_iff_ne.mpr fun e5 => ?_
        subst e5
        exact (idx_at hm).2 m hl e4, q H3 (e2.trans e3)⟩⟩
section
variable {P : Program} {w : World} {K : PySem.W.Frag} {mg : Str → Option Value} {base : Heap} (T : Txt K mg)
end
end Kx

set_option Elab.async false
set_option linter.all false
set_option maxRecDepth 100000
set_option maxHeartbeats 1000000
namespace Kx
open PySem PySem.Spec PyProof.Rows L2 Evl
def cutX {α : Type} (xs : List α) (lo hi : Option Int) : List α := (xs.drop (HT.sIx xs.length 0 lo)).take (HT.sIx xs.length xs.length hi - HT.sIx xs.length 0 lo)
theorem Reps.cut {H : Hp} {vs : List V} {ds : List D} (r : Reps H vs ds) (lo hi : Option Int) : Reps H (cutV vs lo hi) (cutX ds lo hi) := by
  unfold cutV cutX
  rw [r.length]
  exact (r.drop _).take _
section
variable {K : PySem.W.Frag} {σ : L2.St} {H H' : Hp} {ta tb te tl : TE} {v x z : V}
theorem er_slice {tlo thi : TO} {ds : List D} {lo hi : Option Int} (h : EvR te σ H (.tup ds)) (h1 : EvO tlo σ H lo) (h2 : EvO thi σ H hi) : EvR (tSl rSlF te tlo thi) σ H (.tup (cutX ds lo hi)) := fun H1 e Q q =>
  h H1 e _ fun v H2 e2 r => h1 H2 (e.trans e2) _ fun H3 e3 => h2 H3 ((e.trans e2).trans e3) _ fun H4 e4 => by
    obtain ⟨a, vs, rfl, ha, hs⟩ := (r.up (e3.trans e4)).tupD
    have E := (e2.trans e3).trans e4
    refine ⟨a, vs, rfl, ha, fun hw => ?_, fun _ => newT_rep (hs.cut lo hi) fun v H5 e5 r5 => q v H5 (E.trans e5) r5⟩
    have ew : cutX ds lo hi = ds := by
      unfold cutX
      rw [← hs.length, hw.1, hw.2, List.drop_zero, Nat.sub_zero, hs.length, List.take_length]
    rw [ew] at q
    exact q _ H4 E (.tup ha hs)
theorem s_unp {D0 : Ends} {gs : TGs} {u : TS} {n : Nat} {ds : List D} (h : EvR te σ H (.tup ds)) (hn : ds.length = n) (k : ∀ vs H1, Ex H H1 → Reps H1 vs ds → gs vs σ H1 (fun σ2 H2 => u D0 σ2 H2)) : tSeq (tAsg te (gTup K n gs)) u D0 σ H :=
  h H (Ex.refl H) _ fun v H1 e r => by
    obtain ⟨a, vs, rfl, ha, hs⟩ := r.tupD
    exact ⟨a, vs, rfl, ha.sq, by rw [hs.length, hn], k vs H1 e hs⟩
end
theorem cut1 {α : Type} (xs : List α) : cutX xs (some 1) none = xs.drop 1 := by
  unfold cutX
  rw [show HT.sIx xs.length 0 (some 1) = min 1 xs.length from HT.sIx_nat xs.length 0 1, HT.sIx_none]
  cases xs with
  | nil => rfl
  | cons x r =>
    rw [show min 1 (x :: r).length = 1 by rw [List.length_cons]; omega]
    show List.take ((x :: r).length - 1) r = r
    rw [List.length_cons, Nat.add_sub_cancel]
    exact List.take_length
def D.txts : D → List Str
  | .tup ds => ds.map D.txt
  | _ => []
def D.fsts : D → List Str
  | .tup ds => ds.map fun x => x.fst.txt
  | _ => []
theorem Rep.txs {H : Hp} {v : V} {ss : List Str} (r : Rep H v (.tup (ss.map D.str))) : ∃ a, v = .ref a ∧ TupS H a (sv ss) := by
  obtain ⟨a, vs, h1, h2, h3⟩ := r.tupD
  rw [strs_of_reps h3] at h2
  exact ⟨a, h1, h2⟩
theorem Rep.size {d0 d1 d2 d3 d4 : D} (h : (D.tup [d0, d1, d2, d3, d4]).Sz) : d0.Sz ∧ d1.Sz ∧ d2.Sz ∧ d3.Sz ∧ d4.Sz :=
  ⟨h.tup.2.get (j := 0) rfl, h.tup.2.get (j := 1) rfl, h.tup.2.get (j := 2) rfl, h.tup.2.get (j := 3) rfl, h.tup.2.get (j := 4) rfl⟩
section
variable {P : Program} {w : World} {K : PySem.W.Frag} {mg : Str → Option Value} {base : Heap} (T : Txt K mg)
end
end Kx

set_option Elab.async false
set_option linter.all false
set_option maxRecDepth 100000
set_option maxHeartbeats 1000000
namespace Kx
open PySem PySem.Spec PyProof.Rows L2 Evl
/-! ## an exception that is kept -/
/-- at a stands an exception object of the class cls -/
def ExR (cls : Value) (a : Addr) : HO := .ext fun h => ∃ (oe : Obj) (vs : Array Value), h.get? a = some oe ∧ Zc cls none oe ∧ oe.data = .fields vs
section
variable {X : Cx} {pins : List (Addr × Obj)} {σ : L2.St} {H : Hp} {s : Shared}
/-- what was pinned is tracked from now on -/
theorem track {cls : Value} {a : Addr} {oe : Obj} {vs : Array Value} (I : Inv X pins σ H s) (hg : s.heap.get? a = some oe) (hz : Zc cls none oe) (hd : oe.data = .fields vs) (hn : H a = none) (n0 : X.s_0.heap.get? a = none)
    (nL : a ≠ X.env.locals) (np : ∀ p ∈ X.pn ++ pins, p.1 ≠ a) : Inv X pins σ (upd H a (ExR cls a)) s := by
  have old : ∀ b o, X.s_0.heap.get? b = some o → b ≠ a := fun b o e q => by rw [q, n0] at e; cases e
  have ne : ∀ b u, H b = some u → b ≠ a := fun b u e q => by rw [q, hn] at e; cases e
  have at_ : ∀ b u, H b = some u → upd H a (ExR cls a) b = some u := fun b u e => (upd_ne (ne b u e)).trans e
  refine ⟨I.ok, I.os, I.bare, ⟨I.base.keep, I.base.slot, ?_, I.base.there, ?_, ?_, ?_⟩, I.loc, I.cell, (upd_ne nL.symm).trans I.free, ?_, ?_, ?_, I.len⟩
  · intro b o e n hx
    exact (upd_ne (old b o e)).trans (I.base.free b o e n hx)
  · intro b xs e
    exact at_ _ _ (I.base.tups b xs e)
  · intro b o u e
    exact at_ _ _ (I.base.frzs b o u e)
  · intro b ps e
    obtain ⟨m, q⟩ := I.base.tbls b ps e
    exact ⟨m, at_ _ _ q⟩
  · intro x c e
    refine (upd_ne fun q => ?_).trans (I.freeC x c e)
    obtain ⟨w, o, ho, hc⟩ := I.cell x c e
    rw [q, hg] at ho
    cases ho
    rw [hd] at hc
    cases hc
  · intro p hp
    obtain ⟨h1, h2, h3⟩ := I.pin p hp
    exact ⟨h1, (upd_ne (np p hp)).trans h2, h3⟩
  · intro b u e
    by_cases hb : b = a
    · subst hb
      rw [upd_same] at e
      cases e
      exact ⟨⟨oe, vs, hg, hz, hd⟩, ⟨oe, hg⟩, fun h1 h2 k st => let ⟨o, w, k1, k2, k3⟩ := k; ⟨o, w, st o k1, k2, k3⟩⟩
    · rw [upd_ne hb] at e
      exact (I.hok b u e).stay (fun _ _ _ q => q) (fun _ q => at_ _ _ q) fun _ _ q => at_ _ _ q
end
/-- the wish of «except c as n» whose suite keeps what it got -/
def wKeep (K : PySem.W.Frag) (c : Value) (i n : Nat) (ts : Addr → TS) (D : Ends) : WX := fun cls d σ H => PySem.W.exmOne K cls c = some true ∧ d = none ∧
  ∀ a, H a = none → σ.length = n → ts a { nx := fun σ' H' => H' a = none → D.nx (σ'.set i none) (upd H' a (ExR cls a)), rt := fun _ _ => False } (σ.set i (some (.ref a))) H
section
variable {X : Cx} {x n : Str} {c : Value} {i : Nat} {body suite : List Stmt} {b₀ : Stmt} {np pos pos' : Pos} {tb : WX → TS} {ts : Addr → TS}
/-- a stands apart from what was there at the entry, from the frames and from what is pinned -/
structure Off (X : Cx) (pins : List (Addr × Obj)) (a : Addr) : Prop where
  loc : a ≠ X.env.locals
  out : a ∉ X.fs
  new : X.s_0.heap.get? a = none
  pin : ∀ p ∈ X.pn ++ pins, p.1 ≠ a
/-- an object with fields that the heap B, in which the body began to fall, did not have -/
theorem Off.of {pins : List (Addr × Obj)} {σ : L2.St} {H : Hp} {s : Shared} {a : Addr} {B h : Heap} {o : Obj} {vs : Array Value} (J : Inv X pins σ H s) (st : X.stack = X.env :: X.outer) (fr : X.env.frame = some X.env.locals) (ex : X.ex = [])
    (ff : h.FunFrames B (X.env :: X.outer)) (at_a : h.get? a = some o) (da : o.data = .fields vs) (gone : B.get? a = none) (kept : ∀ b u, s.heap.get? b = some u → b ∉ frs X.stack → B.get? b = some u) : Off X pins a := by
  have far : a ∉ frs (X.env :: X.outer) := fun m => match ff.mem m with
    | ⟨_, u, eu, no⟩ => no vs (by rw [at_a] at eu; cases eu; exact da)
  have none_s : s.heap.get? a = none := Option.eq_none_iff_forall_ne_some.mpr fun u eu => by
    have := kept a u eu (st ▸ far)
    rw [gone] at this
    cases this
  exact {
    loc := fun z => far (List.mem_filterMap.mpr ⟨X.env, List.mem_cons_self, fr.trans (congrArg some z.symm)⟩)
    out := fun m => far (match List.mem_filterMap.mp m with | ⟨e, he, q⟩ => List.mem_filterMap.mpr ⟨e, List.mem_cons_of_mem _ he, q⟩)
    new := Option.eq_none_iff_forall_ne_some.mpr fun u eu => match J.base.there a u eu (by rw [ex]; exact fun z => nomatch z) with
      | ⟨u', q⟩ => by rw [none_s] at q; cases q
    pin := fun p hp z => by
      have := (J.pin p hp).1
      rw [z, none_s] at this
      cases this }
/-- the suite is through: its name goes, its object is tracked from here on -/
theorem suite_kept {pins : List (Addr × Obj)} {D : Ends} {a : Addr} {oe : Obj} {vs : Array Value} {f : Flow} {s : Shared} (off : Off X pins a) (ok : X.Ok) (z : Zc c none oe) (d : oe.data = .fields vs) (hN : X.N.Nodup) (hi : X.N[i]? = some n) (hln : X.env.kindOf n = some .local)
    (h : SP (X.suite a ((a, oe) :: (X.pn ++ pins))) [] { nx := fun σ' H' => H' a = none → D.nx (σ'.set i none) (upd H' a (ExR c a)), rt := fun _ _ => False } f s) :
    match f with
    | .next => wpAny (model X.prog X.w) X.A (do bindName X.env n .none; unbindBehindTheSuite X.env n pos) (fun _ s' => SP X pins D .next s') X.xe s
    | _ => False := by
  cases f with
  | next =>
    obtain ⟨σ1, H1, I1, q1⟩ := h
    have hp := I1.pin (a, oe) (List.mem_append_left _ List.mem_cons_self)
    exact gone_ok (track (I1.unsuite ok) hp.1 z d hp.2.1 off.new off.loc off.pin) hN hi hln fun s2 I2 => ⟨_, _, I2, q1 hp.2.1⟩
  | ret u => exact match h with | ⟨_, _, _, _, _, q⟩ => q
  | brk => exact match h with | ⟨_, _, _, q⟩ => q
  | cont => exact match h with | ⟨_, _, _, q⟩ => q
theorem ps_try_keep (hs : X.stack = X.env :: X.outer) (hf : X.env.frame = some X.env.locals) (hex : X.ex = []) (hN : X.N.Nodup) (hi : X.N[i]? = some n) (hln : X.env.kindOf n = some .local) (hc : Names X x c)
    (hb : ∀ (W : WX) (pn : List (Addr × Obj)) (xe : Value → Shared → Prop), Takes (X.tr pn xe) W → PSs (X.tr pn xe) body (tb W))
    (hsu : ∀ (a : Addr) (oe : Obj) (pn : List (Addr × Obj)), PSs (X.suite a ((a, oe) :: pn)) (b₀ :: suite) (ts a)) :
    PS X (.Try body [.ExceptHandler (some (.Name x np)) (some n) (b₀ :: suite) pos'] [] [] pos) (fun D σ H => tb (wKeep X.K c i X.N.length ts D) D σ H) := by
  refine ⟨fun pins s σ H D I h => ?_⟩
  have frames : X.A.frames = some (X.env :: X.outer) := hs ▸ I.ok.frames
  refine wpAny_Try_except (wpAny_mono ((hb (wKeep X.K c i X.N.length ts D) (X.pn ++ pins) _ fun u t fall => ?_).run [] s σ H D (I.toTry _) h) (fun f t ft => ?_) fun _ _ x => x)
  · obtain ⟨a, B, t0, p1, τ, G, cls, d, rfl, J0, kept, slots, sky, na, os, bare, found, rfl, go⟩ := fall
    have J := J0.ofTry (X := X) I.ok
    show wpAny (model X.prog X.w) X.A (noteFrame (.ref a) X.env) _ _ _
    refine Sky.land (B := B) Zc.steady frames hf (hs ▸ sky) fun h1 fly up1 => ?_
    obtain ⟨o1, v1, at1, z1, d1⟩ := fly.there
    have off : Off X pins a := Off.of J hs hf hex fly.2.2.1 at1 d1 fly.2.1 kept
    have J1 : Inv X pins τ G { t with heap := h1 } := J.landed kept fly.1 (slots.trans up1) os bare
    have I1 := J1.suite at1 d1 na off.loc off.out
    refine wpAny_handleBy_cons (codeAny_handlers_test ?_) fun z => nomatch z
    have hit := PySem.W.exm_one (M := model X.prog X.w) J1.kIn (fun A Q E u k q => wpAny_typeOf_ref (k _ _ at1) (z1.1.symm ▸ q)) found
    have look : ∀ {Q E : Value → Shared → Prop}, Q c { t with heap := h1 } → wpAny (model X.prog X.w) (X.A.mark (some (.ref a))) (eval (.Name x np) X.env) Q E { t with heap := h1 } := fun {Q E} q => match hc with
      | ⟨g, nd, .inl m⟩ => ld_glob (X := X.suite a ((a, o1) :: (X.pn ++ pins))) I1 g m q nd
      | ⟨g, nd, .inr ⟨m, bt, nn⟩⟩ => ld_blt (X := X.suite a ((a, o1) :: (X.pn ++ pins))) I1 g m bt q nn nd
    refine look (hit.here (codeAny_handlers_suite_as (HandSPX.lands_againZ fly fun h2 fly2 up2 => ?_)))
    obtain ⟨o2, v2, at2, z2, d2⟩ := fly2.there
    have I2 := (J.landed (s' := { t with heap := h2 }) kept fly2.1 ((slots.trans up1).trans up2) os bare).suite at2 d2 na off.loc off.out
    refine store_ok (X := X.suite a ((a, o2) :: (X.pn ++ pins))) (v := .ref a) I2 hN hi (.inl hln) rfl (fun t3 I3 => ?_) (.inr hln)
    refine wpAny_mono ((hsu a o2 (X.pn ++ pins)).run [] t3 _ G _ I3 (go a na J.len)) (fun f t4 e4 => ?_) fun _ _ z => z.elim
    have e5 := fun p => suite_kept (c := cls) (pos := p) off I.ok z2 d2 hN hi hln e4
    cases f with
    | next => exact e5 _
    | _ => exact (e5 pos).elim
  · cases f with
    | next => exact match ft with | ⟨_, _, J, q⟩ => wpAny_execs_nil ⟨_, _, J.ofTry I.ok, q⟩
    | ret u => exact match ft with | ⟨_, _, _, J, r, q⟩ => ⟨_, _, _, J.ofTry I.ok, r, q⟩
    | _ => exact match ft with | ⟨_, _, J, q⟩ => ⟨_, _, J.ofTry I.ok, q⟩
end
end Kx

set_option Elab.async false
set_option linter.all false
set_option maxRecDepth 100000
set_option maxHeartbeats 1000000
namespace Kx
open PySem PySem.Spec PyProof.Rows L2 Evl
/-! ## what a building is -/
def D.item (d : D) (j : Nat) : D := match d with
  | .tup ds => ds.getD j .non
  | _ => .non
def D.areas (d : D) : List Str := (d.item 1).txts
/-! ## defs that may raise -/
inductive Out where
  | ret (z : V)
  | exc (C : Addr)
abbrev OkO := List V → Hp → Out → Prop
def outOk (o : Out) (H : Hp) (Q : VK) (E : XK) : Prop := match o with
  | .ret z => Q z H
  | .exc C => E (.ref C) none H
def spO (ok : OkO) : Sp := fun vs H Q E => ∃ o, ok vs H o ∧ ∀ H', Ex H H' → outOk o H' Q E
section
variable {K : PySem.W.Frag} {σ : L2.St} {H H' : Hp} {ta tb te tl : TE} {v x z : V}
def EvP (te : TE) (σ : L2.St) (H : Hp) (xs : List V) : Prop := ∀ H1, Ex H H1 → ∀ Q : VK, (∀ p H2, Ex H1 H2 → TupS H2 p xs → Q (.ref p) H2) → te σ H1 Q
theorem ep_tupOf {xs : List V} (h : EvL te σ H xs) : EvP (tCB (rTupOf K) (tCons te tNil)) σ H xs := fun H1 e Q q =>
  h H1 e _ fun p H2 _ e2 hp => ⟨p, xs, rfl, .of hp, fun r o hr ho => q r _ (e2.trans (Ex.new hr)) ⟨o, ho, upd_same⟩⟩
theorem ev_tixP {ys : List Str} {y : Str} (h : EvP ta σ H (sv ys)) (hx : Ev te σ H (.str y)) (hm : y ∈ ys) : Ev (tTix ta (tCons te tNil)) σ H (.int (ys.idxOf y : Nat)) := fun H1 e Q q =>
  h H1 e _ fun p H2 e2 hp => ⟨p, ys, rfl, hp, hx H2 (e.trans e2) _ fun H3 e3 => ⟨hp.up e3, y, _, rfl, (idx_at hm).1, (idx_at hm).2, q H3 (e2.trans e3)⟩⟩
theorem ev_ixTi {a : Addr} {vs : List V} {j : Nat} {k : Int} (h : Ev ta σ H (.ref a)) (hk : Ev tb σ H (.int k)) (ha : TupS H a vs) (e : k = (j : Int)) (hj : vs[j]? = some v) : Ev (tOp (rIxT K) ta tb) σ H v :=
  ev_op h hk (rv_ixT ha.sq (by rw [e]; exact atI_nat hj))
end
section
variable {P : Program} {w : World} {K : PySem.W.Frag} {mg : Str → Option Value} {base : Heap} (T : Txt K mg)
/-! ## the errors -/
end
end Kx

set_option Elab.async false
set_option linter.all false
set_option maxRecDepth 100000
set_option maxHeartbeats 1000000
namespace Kx
open PySem PySem.Spec PyProof.Rows L2 Evl
section
variable {K : PySem.W.Frag} {σ : L2.St} {H H' : Hp} {ta tb te tl : TE} {v x z : V}
theorem ev_spP {ok : OkF} {xs : List V} {E : XK} (ha : Ev ta σ H x) (hb : EvP tb σ H xs) (k : ∀ p H1, TupS H1 p xs → Ex H H1 → ok [x, .ref p] H1 z) : Ev (tCall (spX ok) [] E (tCons ta (tCons tb tNil))) σ H z :=
  fun H1 e Q q => ha H1 e _ fun H2 e2 => hb H2 (e.trans e2) _ fun p H3 e3 hp => ⟨z, k p H3 hp ((e.trans e2).trans e3), fun H4 e4 => q H4 ((e2.trans e3).trans e4)⟩
/-- a call as a statement of a def that may raise -/
theorem s_callO {ok : OkO} {o : Out} {D : Ends} {E : XK} {u : TS} {ta : TA} {vs : List V} (h : EvA ta σ H vs) (hk : ∀ H1, Ex H H1 → ok vs H1 o) (k : ∀ H2, Ex H H2 → outOk o H2 (fun _ H' => u D σ H') E) : tSeq (tDrop (tCall (spO ok) [] E ta)) u D σ H :=
  h H (Ex.refl H) _ fun H1 e => by
    rw [List.append_nil]
    exact ⟨o, hk H1 e, fun H2 e2 => k H2 (e.trans e2)⟩
end
def okCS (C : Addr) : OkO := fun vs H o => ∃ y f, vs = [y] ∧ Rep H y f ∧ o = if isBetw f 0 1 = true then .ret .non else .exc C
section
variable {P : Program} {w : World} {K : PySem.W.Frag} {mg : Str → Option Value} {base : Heap} (T : Txt K mg)
end
end Kx

set_option Elab.async false
set_option linter.all false
set_option maxRecDepth 100000
set_option maxHeartbeats 1000000
namespace Kx
open PySem PySem.Spec PyProof.Rows L2 Evl
section
variable {K : PySem.W.Frag} {σ : L2.St} {H H' : Hp} {ta tb te tl : TE} {v x z : V}
/-- [x for x in a tuple if t] -/
theorem el_lcTif {i : Nat} {tt : TT} {a : Addr} {xs : List V} {p : V → Bool} (h : Ev tl σ H (.ref a)) (hx : SqT K H a xs) (hz : xs.length < 100000)
    (ht : ∀ (j : Nat) (x : V), xs[j]? = some x → EvT tt ((σ.set i none).set i (some x)) H (p x)) (he : ∀ (j : Nat) (x : V), xs[j]? = some x → Ev te ((σ.set i none).set i (some x)) H x) : EvL (tLc (iTup K tl) (gName i) tt te [i]) σ H (xs.filter p) := fun H1 e Q q =>
  h H1 e _ fun H2 e2 => ⟨a, rfl, ⟨xs, ex_t (e.trans e2) hx⟩, fun D hD =>
    lc_tup (xs := xs) (fun j H' => Ex H2 H' ∧ H' D = some (.lst ((xs.take j).filter p))) ⟨Ex.new hD, upd_same⟩ (fun j H' _ p => ex_t ((e.trans e2).trans p.1) hx)
      (fun j x H' hj pv => ⟨by show (((σ.set i none).set i (some x)).set i none) = (σ.set i none); rw [List.set_set, List.set_set], by
        refine ht j x hj H' ((e.trans e2).trans pv.1) _ fun H3 e3 => ?_
        have step : (xs.take (j + 1)).filter p = (xs.take j).filter p ++ (if p x = true then [x] else []) := by
          rw [List.take_add_one, hj, List.filter_append]
          show _ ++ List.filter p [x] = _
          by_cases hp : p x = true
          · rw [if_pos hp, List.filter_cons_of_pos hp, List.filter_nil]
          · rw [if_neg hp, List.filter_cons_of_neg hp, List.filter_nil]
        by_cases hp : p x = true
        · rw [if_pos hp]
          rw [if_pos hp] at step
          refine he j x hj H3 (((e.trans e2).trans pv.1).trans e3) _ fun H4 e4 => ⟨(xs.take j).filter p, e4 _ _ (e3 _ _ pv.2), ?_, ((pv.1.trans e3).trans e4).mut hD, ?_⟩
          · refine sz_lt (Nat.lt_of_le_of_lt (List.length_filter_le _ _) ?_)
            rw [List.length_take]
            exact Nat.lt_of_le_of_lt (Nat.min_le_right _ _) hz
          · rw [upd_same, step]
        · rw [if_neg hp]
          rw [if_neg hp, List.append_nil] at step
          exact ⟨pv.1.trans e3, by rw [step]; exact e3 _ _ pv.2⟩⟩)
      (fun H' pv => q D H' (fresh_back e2 hD) (e2.trans pv.1) (by rw [pv.2, List.take_of_length_le (Nat.le_refl _)]))⟩
theorem s_asgX {D0 : Ends} {u : TS} {i : Nat} (h : Ev te σ H v) (k : ∀ H1, Ex H H1 → u D0 (σ.set i (some v)) H1) : tSeq (tAsg te (gName i)) u D0 σ H := s_asg h k
end
/-- a part of a building, by its place -/
def okItem (j : Nat) : OkF := fun vs H z => ∃ a us, vs = [.ref a] ∧ TupS H a us ∧ us[j]? = some z
theorem stb_item (j : Nat) : Stb (okItem j) := fun _ _ _ _ e ⟨a, us, h1, h2, h3⟩ => ⟨a, us, h1, h2.up e, h3⟩
section
variable {P : Program} {w : World} {K : PySem.W.Frag} {mg : Str → Option Value} {base : Heap} (T : Txt K mg)
end
end Kx

set_option Elab.async false
set_option linter.all false
set_option maxRecDepth 100000
set_option maxHeartbeats 1000000
namespace Kx
open PySem PySem.Spec PyProof.Rows L2 Evl
/-! ## the state that draws are taken from -/
def kG : Key := Sum.inr "great"
def kC : Key := Sum.inr "cells"
def kR : Key := Sum.inr "rest"
def kT : Key := Sum.inr "turn"
theorem nGR : (kG = kR) = False := eq_false (by unfold kG kR; decide +kernel)
theorem nGC : (kG = kC) = False := eq_false (by unfold kG kC; decide +kernel)
theorem nGT : (kG = kT) = False := eq_false (by unfold kG kT; decide +kernel)
theorem nCR : (kC = kR) = False := eq_false (by unfold kC kR; decide +kernel)
theorem nCT : (kC = kT) = False := eq_false (by unfold kC kT; decide +kernel)
theorem nRT : (kR = kT) = False := eq_false (by unfold kR kT; decide +kernel)
theorem nTR : (kT = kR) = False := eq_false (by unfold kR kT; decide +kernel)
def stK (sg sc : Addr) (r t : Int) : List (Key × V) := [(kG, .ref sg), (kC, .ref sc), (kR, .int r), (kT, .int t)]
theorem stG (sg sc : Addr) (r t : Int) : valV (stK sg sc r t) kG = some (.ref sg) := by simp [valV, stK]
theorem stC (sg sc : Addr) (r t : Int) : valV (stK sg sc r t) kC = some (.ref sc) := by simp [valV, stK, List.find?, nGC]
theorem stR (sg sc : Addr) (r t : Int) : valV (stK sg sc r t) kR = some (.int r) := by simp [valV, stK, List.find?, nGR, nCR]
theorem stT (sg sc : Addr) (r t : Int) : valV (stK sg sc r t) kT = some (.int t) := by simp [valV, stK, List.find?, nGT, nCT, nRT]
theorem putT (sg sc : Addr) (r t t' : Int) : putK (stK sg sc r t) kT (.int t') = stK sg sc r t' := by simp [putK, stK, nGT, nCT, nRT]
theorem putR (sg sc : Addr) (r t r' : Int) : putK (stK sg sc r t) kR (.int r') = stK sg sc r' t := by simp [putK, stK, nGR, nCR, nTR]
def iv (ns : List Int) : List V := ns.map V.int
/-- the state at sd: its list of great numbers at sg; at least b draws are left -/
structure StW (H : Hp) (sd sg sc : Addr) (gs cs : List Int) (r t : Int) : Prop where
  d : H sd = some (.dK (stK sg sc r t))
  g : H sg = some (.lst (iv gs))
  c : H sc = some (.lst (iv cs))
  ne : sc ≠ sg
theorem StW.sdg {H : Hp} {sd sg sc : Addr} {gs cs : List Int} {r t : Int} (s : StW H sd sg sc gs cs r t) : sd ≠ sg := ne_of s.d s.g (fun z => by cases z)
theorem StW.sdc {H : Hp} {sd sg sc : Addr} {gs cs : List Int} {r t : Int} (s : StW H sd sg sc gs cs r t) : sd ≠ sc := ne_of s.d s.c (fun z => by cases z)
def Sta (H : Hp) (sd sg sc : Addr) (b : Nat) : Prop := ∃ gs cs r t, StW H sd sg sc gs cs r t ∧ 0 ≤ t ∧ t + (b : Int) ≤ 2 ^ 40
/-- all but the state is as it was -/
def ExS (sd sg : Addr) (H H' : Hp) : Prop := ∀ a o, H a = some o → a ≠ sd → a ≠ sg → H' a = some o
theorem ExS.refl {sd sg : Addr} (H : Hp) : ExS sd sg H H := fun _ _ h _ _ => h
theorem ExS.trans {sd sg : Addr} {H H1 H2 : Hp} (a : ExS sd sg H H1) (b : ExS sd sg H1 H2) : ExS sd sg H H2 := fun c o h n m => b c o (a c o h n m) n m
theorem ExS.of {sd sg : Addr} {H H' : Hp} (e : Ex H H') : ExS sd sg H H' := fun a o h _ _ => e a o h
theorem Sta.up {H H' : Hp} {sd sg sc : Addr} {b : Nat} (s : Sta H sd sg sc b) (e : Ex H H') : Sta H' sd sg sc b :=
  let ⟨gs, cs, r, t, w, h1, h2⟩ := s; ⟨gs, cs, r, t, ⟨e _ _ w.d, e _ _ w.g, e _ _ w.c, w.ne⟩, h1, h2⟩
theorem Sta.less {H : Hp} {sd sg sc : Addr} {b c : Nat} (s : Sta H sd sg sc b) (h : c ≤ b) : Sta H sd sg sc c :=
  let ⟨gs, cs, r, t, w, h1, h2⟩ := s; ⟨gs, cs, r, t, w, h1, by omega⟩
theorem Sta.upd {H : Hp} {sd sg sc : Addr} {b : Nat} {C : Addr} {o : HO} (s : Sta H sd sg sc b) (n1 : C ≠ sd) (n2 : C ≠ sg) (n3 : C ≠ sc) : Sta (upd H C o) sd sg sc b :=
  let ⟨gs, cs, r, t, w, h1, h2⟩ := s; ⟨gs, cs, r, t, ⟨(upd_ne n1.symm).trans w.d, (upd_ne n2.symm).trans w.g, (upd_ne n3.symm).trans w.c, w.ne⟩, h1, h2⟩
theorem Sta.off {H : Hp} {sd sg sc : Addr} {b : Nat} {C : Addr} (s : Sta H sd sg sc b) (h : H C = none) : C ≠ sd ∧ C ≠ sg ∧ C ≠ sc :=
  let ⟨gs, cs, r, t, w, h1, h2⟩ := s; ⟨(ne_of_none w.d h).symm, (ne_of_none w.g h).symm, (ne_of_none w.c h).symm⟩
/-- what is neither the state's dict nor its list -/
def hid (H : Hp) (sd sg : Addr) : Hp := fun a => if a = sd ∨ a = sg then none else H a
theorem hid_ex {H : Hp} {sd sg : Addr} : Ex (hid H sd sg) H := fun a o h => by
  unfold hid at h
  split at h
  · cases h
  · exact h
theorem hid_mono {H H' : Hp} {sd sg : Addr} (e : ExS sd sg H H') : Ex (hid H sd sg) (hid H' sd sg) := fun a o h => by
  unfold hid at h ⊢
  split at h
  · cases h
  · rename_i n
    rw [if_neg n]
    exact e a o h (fun z => n (.inl z)) (fun z => n (.inr z))
section
variable {K : PySem.W.Frag} {σ : L2.St} {H : Hp} {ta tb te tl td ty : TE} {v : V}
theorem ev_dget {a : Addr} {k : Str} {kvs : List (Key × V)} (h : Ev td σ H (.ref a)) (hk : Ev ty σ H (.str k)) (hd : H a = some (.dK kvs)) (hv : valV kvs (Sum.inr k) = some v) : Ev (tDGet td ty) σ H v := fun H1 e Q q =>
  h H1 e _ fun H2 e2 => hk H2 (e.trans e2) _ fun H3 e3 => ⟨a, v, rfl, by rw [← hv]; exact DGet.k (k := Sum.inr k) (((e.trans e2).trans e3) _ _ hd), q H3 (e2.trans e3)⟩
theorem ev_int1 {i : Int} (h : Ev te σ H (.int i)) : Ev (tCB (fun xs H Q => (∃ i, xs = [.int i] ∧ Q (.int i) H) ∨ ∃ k, xs = [.bl k] ∧ Q (.int (if k then 1 else 0)) H) (tCons te tNil)) σ H (.int i) :=
  ev_cb (ea_cons h ea_nil) fun H1 e Q q => .inl ⟨i, rfl, q H1 (Ex.refl _)⟩
end
def spMixed : Sp := fun vs H Q _ => ∃ sd sg sc b, vs = [.ref sd] ∧ Sta H sd sg sc (b + 1) ∧ ∀ z H', Sta H' sd sg sc b → ExS sd sg H H' → Q (.int z) H'
def spDraw : Sp := fun vs H Q _ => ∃ sd sg sc b m, vs = [.ref sd, .int m] ∧ 0 < m ∧ m ≤ 10 ^ 31 ∧ Sta H sd sg sc (b + 1) ∧ ∀ z H', 0 ≤ z → z < m → Sta H' sd sg sc b → ExS sd sg H H' → Q (.int z) H'
def primes : List Int := [2147483629, 2147483647, 2147483563, 2147483587]
theorem prime_ok {p : Int} (h : p ∈ primes) : 0 < p ∧ p < 2147483648 := by
  unfold primes at h
  simp only [List.mem_cons, List.not_mem_nil, or_false] at h
  rcases h with rfl | rfl | rfl | rfl <;> decide
section
variable {P : Program} {w : World} {K : PySem.W.Frag} {mg : Str → Option Value} {base : Heap} (T : Txt K mg)
theorem ok_mixed : FnOk P w K mg base CX0 1 T.a_law_mixed T.d_law_mixed ["state"] spMixed := by
  refine T.F_law_mixed.ok sc_law_mixed (fun vs H Q E h => ?_) (fun cdv A outer s H vs Q E hr h => ?_)
  · obtain ⟨sd, sg, sc, b, rfl, _⟩ := h
    rfl
  · obtain ⟨sd, sg, sc, b, rfl, ⟨gs, cs, r, t, W, h1, h2⟩, q⟩ := h
    have hu : (A.deeper (envOfC "_law_mixed" (defScope s_law_mixed) s.heap.objs.size T.a_law_mixed cdv)).units + 1 < cLine := hu_of hr
    refine ⟨_, pss_cons (ps_par (i := 1) (j := 2) rfl sc_law_mixed.nd rfl rfl (by decide) rfl rfl (pa_cons (pe_op op_add (pe_dget hu (pv 0) pe_str (fun _ _ => rfl)) pe_int) (pa_cons pe_int pa_nil)) (by rfl))
      (pss_cons (ps_dput hu (pv 0) pe_str (pv 1) rfl)
      (pss_cons (ps_for PassesOwn.never rfl (pi_list (pe_lst (pa_cons pe_int (pa_cons pe_int (pa_cons pe_int (pa_cons pe_int pa_nil)))))) (pg_name (i := 3) sc_law_mixed.nd rfl (.inl rfl))
        (pss_cons (ps_set (i := 4) sc_law_mixed.nd rfl (.inl rfl) (pe_op op_add (pe_op op_mul pe_int (pv 1)) (pe_op op_fdiv (pv 3) pe_int)))
        (pss_cons (ps_for PassesOwn.never rfl (pi_list (pe_dget hu (pv 0) pe_str (fun _ _ => rfl))) (pg_name (i := 5) sc_law_mixed.nd rfl (.inl rfl))
          (pss_one (ps_set (i := 4) sc_law_mixed.nd rfl (.inl rfl) (pe_op op_mod (pe_callTy call_int1 (by rfl) T.z_int bo_int (pa_cons (pe_op op_add (pe_op op_add (pe_op op_mul (pv 4) pe_int) (pv 5)) (pv 1)) pa_nil)) (pv 3)))))
        (pss_one (ps_set (i := 2) sc_law_mixed.nd rfl (.inl rfl) (pe_op op_add (pe_op op_mul (pv 2) pe_int) (pe_op op_mod (pe_callTy call_int1 (by rfl) T.z_int bo_int (pa_cons (pe_op op_pow (pv 4) pe_int) pa_nil)) (pv 3))))))))
      (pss_one (ps_ret (pv 2))))), ?_⟩
    refine ⟨.ref sd, rfl, sd, .int t, rfl, by rw [← stT sg sc r t]; exact DGet.k (k := kT) W.d, t, 1, rfl, rfl, .int (t + 1), .int 0, rfl, ?_⟩
    refine ⟨.int (t + 1), rfl, .ref sd, rfl, sd, _, rfl, DPut.k (k := kT) W.d (by show 4 < sizeLine; rw [sizeLine_eq]; decide), ?_⟩
    rw [putT]
    refine ⟨by show 4 ≤ sizeLine; rw [sizeLine_eq]; decide, fun p np => ⟨p, rfl, ⟨_, .of upd_same⟩, ?_⟩⟩
    -- the heap of the loops
    have W2 : StW (upd (upd H sd (.dK (stK sg sc r (t + 1)))) p (.lst (iv primes))) sd sg sc gs cs r (t + 1) := by
      have nsd : sd ≠ p := fun z => by rw [← z, upd_same] at np; cases np
      have hg : upd H sd (.dK (stK sg sc r (t + 1))) sg = some (.lst (iv gs)) := (upd_ne W.sdg.symm).trans W.g
      have hc : upd H sd (.dK (stK sg sc r (t + 1))) sc = some (.lst (iv cs)) := (upd_ne W.sdc.symm).trans W.c
      exact ⟨(upd_ne nsd).trans upd_same, (upd_ne (ne_of_none hg np)).trans hg, (upd_ne (ne_of_none hc np)).trans hc, W.ne⟩
    have hp2 : (upd (upd H sd (.dK (stK sg sc r (t + 1)))) p (.lst (iv primes))) p = some (.lst (iv primes)) := upd_same
    have X2 : ExS sd sg H (upd (upd H sd (.dK (stK sg sc r (t + 1)))) p (.lst (iv primes))) := fun a o h n m => by
      have h1 : upd H sd (.dK (stK sg sc r (t + 1))) a = some o := (upd_ne n).trans h
      exact (upd_ne (ne_of_none h1 np)).trans h1
    rw [show ([V.int 2147483629, V.int 2147483647, V.int 2147483563, V.int 2147483587] : List V) = iv primes from rfl]
    generalize upd (upd H sd (.dK (stK sg sc r (t + 1)))) p (.lst (iv primes)) = H2 at W2 hp2 X2
    refine for_list (xs := iv primes) (fun i σ' H' => Ex H2 H' ∧ ∃ f y3 y4 y5, σ' = [some (.ref sd), some (.int (t + 1)), some (.int f), y3, y4, y5]) ⟨Ex.refl _, 0, none, none, none, rfl⟩ (fun i σ' H' _ h => .of (h.1 _ _ hp2)) (fun i x σ' H' hx h => ?_) (fun σ' H' h => ?_)
    · obtain ⟨e2, f, y3, y4, y5, rfl⟩ := h
      obtain ⟨pr, hpr, rfl⟩ : ∃ pr ∈ primes, x = .int pr := by
        obtain ⟨pr, h1, h2⟩ := List.mem_map.mp (List.mem_of_getElem? hx)
        exact ⟨pr, h1, h2.symm⟩
      obtain ⟨p1, p2⟩ := prime_ok hpr
      -- blend = 69621 * turn + prime // 41
      refine s_asgX (v := .int (69621 * (t + 1) + pr / 41)) (ev_op (ev_op ev_c (ev_var rfl) (rv_I (.inl ⟨by decide, by decide⟩))) (ev_op (ev_var rfl) ev_c (rv_I ⟨by decide, by decide⟩)) rv_I0) fun H3 e3 => ?_
      have E3 := e2.trans e3
      -- for cell in state['cells']
      refine q_forL (xs := iv cs) (ev_dget (k := "cells") (ev_var rfl) ev_c (E3 _ _ W2.d) (stC _ _ _ _)) (.of (E3 _ _ W2.c)) (fun j σ4 H4 => Ex H2 H4 ∧ ∃ bl y5, σ4 = [some (.ref sd), some (.int (t + 1)), some (.int f), some (.int pr), some (.int bl), y5] ∧ bl.natAbs < 2 ^ 64)
        (fun H4 e4 => ⟨E3.trans e4, _, y5, rfl, ?_⟩) (fun j σ4 H4 _ h4 => .of (h4.1 _ _ W2.c)) (fun j x σ4 H4 hx4 h4 => ?_) (fun σ4 H4 h4 => ?_)
      · have : 0 ≤ pr / 41 := Int.ediv_nonneg (by omega) (by decide)
        have : pr / 41 < 2147483648 := Int.lt_of_le_of_lt (Int.ediv_le_self _ (by omega)) p2
        omega
      · obtain ⟨e4, bl, y5, rfl, hb⟩ := h4
        obtain ⟨c, _, rfl⟩ : ∃ c ∈ cs, x = .int c := by
          obtain ⟨c, h1, h2⟩ := List.mem_map.mp (List.mem_of_getElem? hx4)
          exact ⟨c, h1, h2.symm⟩
        refine s_asg (v := .int ((bl * 48271 + c + (t + 1)) % pr)) (ev_op (ev_int1 (ev_op (ev_op (ev_op (ev_var rfl) ev_c (rv_I (.inr ⟨by decide, by decide⟩))) (ev_var rfl) rv_I0) (ev_var rfl) rv_I0)) (ev_var rfl) (rv_I p1)) fun H5 e5 => ⟨e4.trans e5, _, _, rfl, ?_⟩
        have h1 := Int.emod_nonneg (bl * 48271 + c + (t + 1)) (show pr ≠ 0 by omega)
        have h2 := Int.emod_lt_of_pos (bl * 48271 + c + (t + 1)) p1
        omega
      · obtain ⟨e4, bl, y5, rfl, hb⟩ := h4
        exact s_asg (v := .int (f * 2147483659 + bl ^ (5 : Int).toNat % pr)) (ev_op (ev_op (ev_var rfl) ev_c (rv_I (.inr ⟨by decide, by decide⟩))) (ev_op (ev_int1 (ev_op (ev_var rfl) ev_c (rv_I ⟨by decide, by decide, hb⟩))) (ev_var rfl) (rv_I p1)) rv_I0) fun H5 e5 => ⟨e4.trans e5, _, _, _, _, rfl⟩
    · obtain ⟨e2, f, y3, y4, y5, rfl⟩ := h
      exact ⟨.int f, rfl, q f H' (Sta.up ⟨gs, cs, r, t + 1, W2, by omega, by omega⟩ e2) (X2.trans (.of e2))⟩
end
end Kx

set_option Elab.async false
set_option linter.all false
set_option maxRecDepth 100000
set_option maxHeartbeats 1000000
namespace Kx
open PySem PySem.Spec PyProof.Rows L2 Evl
theorem dp_iv {K : PySem.W.Frag} {H : Hp} : ∀ ns : List Int, DpAll K H (iv ns) (ns.map PyData.int)
  | [] => .nil
  | i :: r => .cons (.int i) (dp_iv r)
theorem ivL_lay : ∀ ns : List Int, PyData.canLayAll0 (ns.map PyData.int) = true
  | [] => by simp [PyData.canLayAll0]
  | i :: r => by simp [PyData.canLayAll0, PyData.canLay0, ivL_lay r]
theorem ivL_dep : ∀ ns : List Int, PyData.depthAll (ns.map PyData.int) ≤ 1
  | [] => by simp [PyData.depthAll]
  | i :: r => by
    have h := ivL_dep r
    simp only [List.map_cons, PyData.depthAll, PyData.depth]
    omega
theorem iv_shaped (ns : List Int) : SeqAt.shaped (.list (ns.map PyData.int)) = true := by
  have h := ivL_dep ns
  show (PyData.canLay0 (.list (ns.map PyData.int)) && decide (PyData.depth (.list (ns.map PyData.int)) ≤ 64)) = true
  rw [Bool.and_eq_true]
  exact ⟨by simp only [PyData.canLay0]; exact ivL_lay ns, decide_eq_true (by simp only [PyData.depth]; omega)⟩
theorem eqv_nil : PyData.eqv (.list []) (.list []) = true := by simp [PyData.eqv, PyData.eqvAll]
theorem eqv_cons (d : PyData) (ds : List PyData) : PyData.eqv (.list (d :: ds)) (.list []) = false := by simp [PyData.eqv, PyData.eqvAll]
theorem log_small {m : Int} (h0 : 0 < m) (h : m ≤ 10 ^ 31) : m.natAbs.log2 < 9000 := by
  have h2 : m.natAbs ≤ 10 ^ 31 := by omega
  exact (Nat.log2_lt (by omega)).mpr (Nat.lt_of_le_of_lt h2 (by decide +kernel))
/-- what the state is behind the first statement of a draw -/
def Mid (H : Hp) (sd sg sc : Addr) (b : Nat) (H1 : Hp) : Prop := ExS sd sg H H1 ∧ Sta H1 sd sg sc b
section
variable {P : Program} {w : World} {K : PySem.W.Frag} {mg : Str → Option Value} {base : Heap} (T : Txt K mg)
theorem ok_draw : FnOk P w K mg base CX0 2 T.a_law_draw T.d_law_draw ["state", "room"] spDraw := by
  refine T.F_law_draw.ok sc_law_draw (fun vs H Q E h => ?_) (fun cdv A outer s H vs Q E hr h => ?_)
  · obtain ⟨sd, sg, sc, b, m, rfl, _⟩ := h
    rfl
  · obtain ⟨sd, sg, sc, b, m, rfl, m0, m1, hS, q⟩ := h
    have hu : (A.deeper (envOfC "_law_draw" (defScope s_law_draw) s.heap.objs.size T.a_law_draw cdv)).units + 1 < cLine := hu_of hr
    have hu4 : (A.deeper (envOfC "_law_draw" (defScope s_law_draw) s.heap.objs.size T.a_law_draw cdv)).units + 64 < cLine := by have := hr.un; omega
    refine ⟨_, pss_cons (ps_if (pt_cmpR op_eq (pe_dget hu (pv 0) pe_str (fun _ _ => rfl)) pe_int (nomark _))
        (pss_one (ps_dput hu (pv 0) pe_str (pe_ifExp (pt_cmpR (op_neD hu4) (pe_dget hu (pv 0) pe_str (fun _ _ => rfl)) (pe_lst pa_nil) (nomark _))
          (pe_bm PySem.F.plainAttrs_list PySem.F.slot_list_pop PySem.F.type_list_pop mt_popAt (pe_dget hu (pv 0) pe_str (fun _ _ => rfl)) (pa_cons pe_int pa_nil))
          (pe_call (ok_mixed T) hr (by rfl) T.g_law_mixed T.F_law_mixed.kp (b_law_mixed T) .nil pass0 (pa_cons (pv 0) pa_nil))) rfl)) pss_nil)
      (pss_cons (ps_set (i := 2) sc_law_draw.nd rfl (.inl rfl) (pe_op op_mod (pe_callTy call_int1 (by rfl) T.z_int bo_int (pa_cons (pe_dget hu (pv 0) pe_str (fun _ _ => rfl)) pa_nil)) (pv 1)))
      (pss_cons (ps_dput hu (pv 0) pe_str (pe_op op_fdivW (pe_dget hu (pv 0) pe_str (fun _ _ => rfl)) (pv 1)) rfl)
      (pss_one (ps_ret (pv 2))))), ?_⟩
    obtain ⟨gs, cs, r, t, W, h1, h2⟩ := hS
    -- behind the first statement
    have fin : ∀ H1, Mid H sd sg sc b H1 → tSeq (tAsg (tOp (rI (fun _ j => 0 < j) fun i j => .int (i % j)) (tCB (fun xs H Q => (∃ i, xs = [.int i] ∧ Q (.int i) H) ∨ ∃ k, xs = [.bl k] ∧ Q (.int (if k then 1 else 0)) H) (tCons (tDGet (tVar 0) (tC (.str "rest"))) tNil)) (tVar 1)) (gName 2))
        (tSeq (sDPut (tVar 0) (tC (.str "rest")) (tOp (rI CDivW fun i j => .int (i / j)) (tDGet (tVar 0) (tC (.str "rest"))) (tVar 1))) (tRet (tVar 2))) { nx := fun _ H' => Q .non H', rt := Q } [some (.ref sd), some (.int m), none] H1 := fun H1 hm => by
      obtain ⟨e1, gs, cs, r, t, W, h1, h2⟩ := hm
      refine s_asgX (v := .int (r % m)) (ev_op (ev_int1 (ev_dget (k := "rest") (ev_var rfl) ev_c W.d (stR _ _ _ _))) (ev_var rfl) (rv_I m0)) fun H2 e2 => ?_
      refine (ev_op (r := rI CDivW fun i j => .int (i / j)) (z := .int (r / m)) (ev_dget (k := "rest") (ev_var rfl) ev_c (e2 _ _ W.d) (stR _ _ _ _)) (ev_var rfl) (rv_I ⟨m0, log_small m0 m1⟩) : Ev _ [some (.ref sd), some (.int m), some (.int (r % m))] H2 _) H2 (Ex.refl _) _ fun H3 e3 => ?_
      have E3 := e2.trans e3
      refine ⟨.ref sd, rfl, sd, _, rfl, DPut.k (k := kR) (E3 _ _ W.d) (by show 4 < sizeLine; rw [sizeLine_eq]; decide), ?_⟩
      rw [putR]
      refine ⟨.int (r % m), rfl, q _ _ (Int.emod_nonneg _ (by omega)) (Int.emod_lt_of_pos _ m0) ⟨gs, cs, r / m, t, ⟨upd_same, ?_, ?_, W.ne⟩, h1, h2⟩ fun a o ha n1 n2 => ?_⟩
      · rw [upd_ne W.sdg.symm]
        exact E3 _ _ W.g
      · rw [upd_ne W.sdc.symm]
        exact E3 _ _ W.c
      · rw [upd_ne n1]
        exact E3 _ _ (e1 _ _ ha n1 n2)
    refine et_test (ev_op (ev_dget (k := "rest") (ev_var rfl) ev_c W.d (stR _ _ _ _)) ev_c (rv_eq rfl)) H (Ex.refl H) _ fun H1 e1 => ?_
    refine ite2 (fun _ => ?_) (fun _ => ?_)
    · -- rest is 0
      have W1 : StW H1 sd sg sc gs cs r t := ⟨e1 _ _ W.d, e1 _ _ W.g, e1 _ _ W.c, W.ne⟩
      refine ev_dget (k := "great") (ev_var rfl) ev_c W1.d (stG _ _ _ _) H1 (Ex.refl _) _ fun H2 e2 => ⟨Nat.zero_le _, fun p np => ?_⟩
      have E2 : Ex H1 (upd H2 p (.lst [])) := e2.trans (Ex.new np)
      have W2 : StW (upd H2 p (.lst [])) sd sg sc gs cs r t := ⟨E2 _ _ W1.d, E2 _ _ W1.g, E2 _ _ W1.c, W.ne⟩
      refine ⟨.list (gs.map PyData.int), .list [], .lst (.of W2.g) (dp_iv gs), .lst (.of upd_same) .nil, iv_shaped gs, iv_shaped [], _, rfl, ?_⟩
      generalize upd H2 p (.lst []) = H3 at E2 W2
      cases gs with
      | nil =>
        rw [show PyData.eqv (.list (([] : List Int).map PyData.int)) (.list []) = true from eqv_nil]
        refine iteF ?_
        refine ⟨.ref sd, rfl, sd, sg, sc, b, rfl, ⟨[], cs, r, t, W2, h1, h2⟩, fun z H4 hS4 e4 => ?_⟩
        obtain ⟨gs', cs', r', t', W4, k1, k2⟩ := hS4
        refine ⟨.ref sd, rfl, sd, _, rfl, DPut.k (k := kR) W4.d (by show 4 < sizeLine; rw [sizeLine_eq]; decide), ?_⟩
        rw [putR]
        refine fin _ ⟨fun a o ha n1 n2 => ?_, gs', cs', z, t', ⟨upd_same, ?_, ?_, W4.ne⟩, k1, k2⟩
        · rw [upd_ne n1]
          exact e4 _ _ ((e1.trans E2) _ _ ha) n1 n2
        · rw [upd_ne W4.sdg.symm]
          exact W4.g
        · rw [upd_ne W4.sdc.symm]
          exact W4.c
      | cons g gr =>
        rw [show PyData.eqv (.list ((g :: gr).map PyData.int)) (.list []) = false from eqv_cons _ _]
        refine iteT ?_
        refine ev_dget (k := "great") (ev_var rfl) ev_c W2.d (stG _ _ _ _) H3 (Ex.refl _) _ fun H4 e4 => ?_
        have W4 : StW H4 sd sg sc (g :: gr) cs r t := ⟨e4 _ _ W2.d, e4 _ _ W2.g, e4 _ _ W2.c, W.ne⟩
        refine ⟨.inl ⟨rfl, _, .of W4.g⟩, sg, iv (g :: gr), 0, 0, .int g, rfl, rfl, W4.g, by decide, by decide, ?_, rfl, ?_⟩
        · unfold iv
          rw [List.length_map, List.length_cons]
          simp [seqIndex?]
        · have hd : upd H4 sg (.lst ((iv (g :: gr)).eraseIdx 0)) sd = some (.dK (stK sg sc r t)) := (upd_ne W4.sdg).trans W4.d
          refine ⟨.ref sd, rfl, sd, _, rfl, DPut.k (k := kR) hd (by show 4 < sizeLine; rw [sizeLine_eq]; decide), ?_⟩
          rw [putR]
          refine fin _ ⟨fun a o ha n1 n2 => ?_, gr, cs, g, t, ⟨upd_same, ?_, ?_, W4.ne⟩, h1, by omega⟩
          · rw [upd_ne n1, upd_ne n2]
            exact ((e1.trans E2).trans e4) _ _ ha
          · rw [upd_ne W4.sdg.symm]
            exact upd_same
          · rw [upd_ne W4.sdc.symm, upd_ne W4.ne]
            exact W4.c
    · exact fin H1 ⟨.of e1, gs, cs, r, t, ⟨e1 _ _ W.d, e1 _ _ W.g, e1 _ _ W.c, W.ne⟩, h1, by omega⟩
end
end Kx

set_option Elab.async false
set_option linter.all false
set_option maxRecDepth 100000
set_option maxHeartbeats 1000000
namespace Kx
open PySem PySem.Spec PyProof.Rows L2 Evl
/-! ## texts -/
def tx (cs : List Nat) : Str := ⟨cs.toArray⟩
theorem tx_len (cs : List Nat) : (tx cs).length = cs.length := by simp [tx, Str.length]
theorem tx_codes (cs : List Nat) : (tx cs).cps.toList = cs := by simp [tx]
theorem joinL_nil : ∀ cs : List Nat, TL.joinL [] (cs.map fun c => [c]) = cs
  | [] => rfl
  | [c] => rfl
  | c :: d :: r => by
    show [c] ++ ([] ++ TL.joinL [] ((d :: r).map fun c => [c])) = c :: d :: r
    rw [joinL_nil (d :: r)]
    rfl
theorem join_signs (cs : List Nat) : Txt.join (tx []) (cs.map fun c => tx [c]) = tx cs := by
  have e := TL.tl_join (tx []) (cs.map fun c => tx [c])
  rw [List.map_map] at e
  have e2 : TL.joinL (TL.tl (tx [])) (cs.map (TL.tl ∘ fun c => tx [c])) = cs := joinL_nil cs
  rw [e2] at e
  rw [TL.join_eq]
  exact TL.ext_tl (e.trans (tx_codes cs).symm)
theorem sum_ones : ∀ cs : List Nat, (cs.map fun _ => 1).sum = cs.length
  | [] => rfl
  | c :: r => by
    rw [List.map_cons, List.sum_cons, sum_ones r, List.length_cons]
    omega
def abc : Str := "abcdefghijklmnopqrstuvwxyz"
theorem abc_codes : abc.cps.toList = (List.range 26).map (· + 97) := by unfold abc; decide +kernel
theorem abc_len : abc.length = 26 := by
  have h := congrArg List.length abc_codes
  simpa [Str.length] using h
theorem abc_lowc {c : Nat} : c ∈ abc.cps.toList ↔ lowc c = true := by
  rw [abc_codes]
  unfold lowc
  simp only [List.mem_map, List.mem_range, Bool.and_eq_true, decide_eq_true_eq]
  constructor
  · rintro ⟨a, h, rfl⟩
    omega
  · rintro ⟨h1, h2⟩
    exact ⟨c - 97, by omega, by omega⟩
def spPickL : Sp := fun vs H Q _ => ∃ (sd sg sc : Addr) (b : Nat) (l : Addr) (xs : List V), vs = [.ref sd, .ref l] ∧ H l = some (.lst xs) ∧ l ≠ sd ∧ l ≠ sg ∧ 0 < xs.length ∧ xs.length ≤ 1000 ∧ Sta H sd sg sc (b + 1) ∧ ∀ (j : Nat) (x : V) (H' : Hp), xs[j]? = some x → Sta H' sd sg sc b → ExS sd sg H H' → Q x H'
def spPickS : Sp := fun vs H Q _ => ∃ (sd sg sc : Addr) (b : Nat) (z : Str), vs = [.ref sd, .str z] ∧ 0 < z.length ∧ z.length ≤ 1000 ∧ Sta H sd sg sc (b + 1) ∧ ∀ (c : Nat) (H' : Hp), c ∈ z.cps.toList → Sta H' sd sg sc b → ExS sd sg H H' → Q (.str (tx [c])) H'
def okTells : OkF := fun vs H z => ∃ a b, vs = [.bl a, .bl b] ∧ z = .bl (decide (a = b))
theorem stb_tells : Stb okTells := fun _ _ _ _ _ h => h
def spLetters : Sp := fun vs H Q _ => ∃ (sd sg sc : Addr) (b m : Nat), vs = [.ref sd, .int (m : Nat)] ∧ m ≤ 20 ∧ Sta H sd sg sc (b + m) ∧ ∀ (cs : List Nat) (H' : Hp), cs.length = m → (∀ c ∈ cs, lowc c = true) → Sta H' sd sg sc b → ExS sd sg H H' → Q (.str (tx cs)) H'
section
variable {P : Program} {w : World} {K : PySem.W.Frag} {mg : Str → Option Value} {base : Heap} (T : Txt K mg)
theorem ok_pickL : FnOk P w K mg base CX0 3 T.a_law_pick T.d_law_pick ["state", "some"] spPickL := by
  refine T.F_law_pick.ok sc_law_pick (fun vs H Q E h => ?_) (fun cdv A outer s H vs Q E hr h => ?_)
  · obtain ⟨sd, sg, sc, b, l, xs, rfl, _⟩ := h
    rfl
  · obtain ⟨sd, sg, sc, b, l, xs, rfl, hl, n1, n2, h0, h1, hS, q⟩ := h
    refine ⟨_, pss_one (ps_ret (pe_ix ix_list (pv 1) (pe_call (ok_draw T) hr (by rfl) T.g_law_draw T.F_law_draw.kp (b_law_draw T) .nil pass0 (pa_cons (pv 0) (pa_cons (pe_callB call_len_seq (by rfl) T.z_len bo_len (pa_cons (pv 1) pa_nil)) pa_nil))) (fun _ _ => rfl))), ?_⟩
    refine ⟨.ref l, rfl, .ref sd, rfl, .ref l, rfl, l, xs, rfl, .inl (.of hl), sd, sg, sc, b, xs.length, rfl, by omega, by omega, hS, fun z H' z0 z1 hS' e' => ?_⟩
    obtain ⟨k, rfl⟩ : ∃ k : Nat, z = (k : Int) := ⟨z.toNat, by omega⟩
    have hj : k < xs.length := by omega
    exact ⟨l, xs, (k : Int), xs[k], rfl, rfl, .of (e' _ _ hl n1 n2), atI_nat (by simp [List.getElem?_eq_getElem hj]), q k _ H' (List.getElem?_eq_getElem hj) hS' e'⟩
theorem ok_pickS : FnOk P w K mg base CX0 3 T.a_law_pick T.d_law_pick ["state", "some"] spPickS := by
  refine T.F_law_pick.ok sc_law_pick (fun vs H Q E h => ?_) (fun cdv A outer s H vs Q E hr h => ?_)
  · obtain ⟨sd, sg, sc, b, z, rfl, _⟩ := h
    rfl
  · obtain ⟨sd, sg, sc, b, y, rfl, h0, h1, hS, q⟩ := h
    refine ⟨_, pss_one (ps_ret (pe_ix ix_str (pv 1) (pe_call (ok_draw T) hr (by rfl) T.g_law_draw T.F_law_draw.kp (b_law_draw T) .nil pass0 (pa_cons (pv 0) (pa_cons (pe_callB call_len (by rfl) T.z_len bo_len (pa_cons (pv 1) pa_nil)) pa_nil))) (fun _ _ => rfl))), ?_⟩
    refine ⟨.str y, rfl, .ref sd, rfl, .str y, rfl, .str y, y.length, rfl, ⟨sz_of (by omega), rfl⟩, sd, sg, sc, b, y.length, rfl, by omega, by omega, hS, fun z H' z0 z1 hS' e' => ?_⟩
    obtain ⟨k, rfl⟩ : ∃ k : Nat, z = (k : Int) := ⟨z.toNat, by omega⟩
    have hj : k < y.cps.toList.length := by
      have : y.cps.toList.length = y.length := by simp [Str.length]
      omega
    exact ⟨y, (k : Int), y.cps.toList[k], rfl, rfl, sz_of (by omega), atI_nat (by simp [List.getElem?_eq_getElem hj]), q _ H' (List.getElem_mem hj) hS' e'⟩
end
end Kx

set_option Elab.async false
set_option linter.all false
set_option maxRecDepth 100000
set_option maxHeartbeats 1000000
namespace Kx
open PySem PySem.Spec PyProof.Rows L2 Evl
theorem given_iv (n : Nat) (f : Nat → Bool) (w : Nat → Int) : given n f (fun i => .int (w i)) = iv (((List.range n).filter f).map w) := by
  unfold given iv
  rw [List.map_map]
  rfl
def ab (i : Int) : Int := if i < 0 then -i else i
def spBegun (K : PySem.W.Frag) : Sp := fun vs H Q _ => ∃ (l : Addr) (cells : List Int), vs = [.ref l] ∧ SqL K H l (iv cells) ∧ cells.length ≤ 1000 ∧ ∀ (sd sg sc : Addr) (gs : List Int) (H' : Hp), StW H' sd sg sc gs (cells.map ab) 0 0 → Ex H H' → H sd = none → H sg = none → Q (.ref sd) H'
theorem pair_go {k : V} {tv : TE} {r : List (TE × TE)} {σ : L2.St} {H : Hp} {Q : List (V × V) → Hp → Prop} (h : tv σ H fun y H2 => tPairs r σ H2 fun ps H3 => Q ((k, y) :: ps) H3) : tPairs ((tC k, tv) :: r) σ H Q := h
section
variable {P : Program} {w : World} {K : PySem.W.Frag} {mg : Str → Option Value} {base : Heap} (T : Txt K mg)
theorem ok_begun : FnOk P w K mg base CX0 1 T.a_law_begun T.d_law_begun ["script"] (spBegun K) := by
  refine T.F_law_begun.ok sc_law_begun (fun vs H Q E h => ?_) (fun cdv A outer s H vs Q E hr h => ?_)
  · obtain ⟨l, cells, rfl, _⟩ := h
    rfl
  · obtain ⟨l, cells, rfl, hl, hz, q⟩ := h
    have nd := sc_law_begun.nd
    refine ⟨_, pss_cons (ps_setLc (i := 1) (own := [("cell", 2)]) (g := gName 2) (by rfl) nd rfl rfl (by rfl) (pi_list (pv 0)) (blkOk_by (N := ["script", "great", "cell"]) (sc := defScope s_law_begun) (by decide +kernel))
        (fun _ _ _ _ _ => pg_name (i := 2) nd rfl (.inl rfl)) (fun _ _ _ _ _ => pts_one (pt_cmpR op_ge (pe_callB call_abs (by rfl) T.z_abs bo_abs (pa_cons (pv 2) pa_nil)) (pe_op op_pow pe_int pe_int) (by rfl)))
        (fun _ _ _ _ _ => pe_op op_sub (pe_callB call_abs (by rfl) T.z_abs bo_abs (pa_cons (pv 2) pa_nil)) (pe_op op_pow pe_int pe_int)))
      (pss_one (ps_ret (pe_disp (pps_cons pe_str (pv 1) (pps_cons pe_str (pe_lc (own := [("cell", 2)]) (g := gName 2) (tt := tYes) (by rfl) nd (pi_list (pv 0)) (blkOk_by (N := ["script", "great", "cell"]) (sc := defScope s_law_begun) (by decide +kernel))
        (fun _ _ _ _ _ => pg_name (i := 2) nd rfl (.inl rfl)) (fun _ _ _ _ _ => pts_nil) (fun _ _ _ _ _ => pe_callB call_abs (by rfl) T.z_abs bo_abs (pa_cons (pv 2) pa_nil))) (pps_cons pe_str pe_int (pps_cons pe_str pe_int pps_nil)))) (by decide +kernel) rfl (by simp) (by simp)))), ?_⟩
    have il : (iv cells).length = cells.length := List.length_map _
    have at_ : ∀ {i : Nat} {x : V}, (iv cells)[i]? = some x → x = .int (cells.getD i 0) := fun {i x} h => by
      unfold iv at h
      rw [List.getElem?_map] at h
      cases e : cells[i]? with
      | none =>
        rw [e] at h
        cases h
      | some c =>
        rw [e] at h
        rw [List.getD, e]
        exact (Option.some.inj h).symm
    have ev_ab : ∀ {σ : L2.St} {H : Hp} {i : Int}, σ[2]? = some (some (.int i)) → Ev (tCB (fun xs H Q => ∃ i, xs = [V.int i] ∧ Q (.int (if i < 0 then -i else i)) H) (tCons (tVar 2) tNil)) σ H (.int (ab i)) := fun {σ H i} h =>
      ev_cb (ea_cons (ev_var h) ea_nil) fun H1 e Q q => ⟨i, rfl, q H1 (Ex.refl _)⟩
    have ev_p : ∀ {σ : L2.St} {H : Hp}, Ev (tOp (rI CPow fun i j => .int (i ^ j.toNat)) (tC (.int 10)) (tC (.int 18))) σ H (.int ((10 : Int) ^ (18 : Int).toNat)) := fun {σ H} => ev_op ev_c ev_c (rv_I ⟨by decide, by decide, by decide⟩)
    have L1 := Evl.el_lcL (K := K) (σ := [some (.ref l), none, none]) (H := H) (tl := tVar 0) (j := 2) (vs := [2]) (xs := iv cells)
      (t := tTest (tOp (rI0 fun i j => .bl (decide (j ≤ i))) (tCB (fun xs H Q => ∃ i, xs = [V.int i] ∧ Q (.int (if i < 0 then -i else i)) H) (tCons (tVar 2) tNil)) (tOp (rI CPow fun i j => .int (i ^ j.toNat)) (tC (.int 10)) (tC (.int 18)))))
      (te := tOp (rI0 fun i j => .int (i - j)) (tCB (fun xs H Q => ∃ i, xs = [V.int i] ∧ Q (.int (if i < 0 then -i else i)) H) (tCons (tVar 2) tNil)) (tOp (rI CPow fun i j => .int (i ^ j.toNat)) (tC (.int 10)) (tC (.int 18))))
      (fun i => decide ((10 : Int) ^ (18 : Int).toNat ≤ ab (cells.getD i 0))) (fun i => .int (ab (cells.getD i 0) - (10 : Int) ^ (18 : Int).toNat)) (ev_var rfl) hl (by omega) (fun _ => rfl) (fun i x H1 e1 hx => by
        rw [at_ hx]
        exact et_test (ev_op (ev_ab rfl) ev_p rv_I0)) (fun i x H1 e1 hx _ => by
        rw [at_ hx]
        exact ev_op (ev_ab rfl) ev_p rv_I0)
    rw [given_iv] at L1
    refine q_asgL (σ := [some (.ref l), none, none]) L1 fun sg H1 nsg e1 h1 => fun sd nsd => ⟨.ref sg, rfl, ?_⟩
    have e2 : Ex H1 (upd H1 sd (.dK [])) := Ex.new nsd
    have h2 : (upd H1 sd (.dK [])) sd = some (.dK []) := upd_same
    generalize upd H1 sd (.dK []) = H2 at e2 h2
    have L2 : EvL (tLc (iList K (tVar 0)) (gName 2) tYes (tCB (fun xs H Q => ∃ i, xs = [V.int i] ∧ Q (.int (if i < 0 then -i else i)) H) (tCons (tVar 2) tNil)) [2]) [some (.ref l), some (.ref sg), none] H2 (iv (cells.map ab)) := el_lcL (K := K) (i := 2) (xs := iv cells) (ev_var rfl) (ex_l (e1.trans e2) hl) (by unfold iv; simp) (by omega) fun j x y hx hy => by
      rw [at_ hx]
      unfold iv at hx hy
      rw [List.getElem?_map, List.getElem?_map] at hy
      cases e : cells[j]? with
      | none =>
        rw [e] at hy
        cases hy
      | some c =>
        rw [e] at hy
        obtain rfl := Option.some.inj hy
        rw [List.getD, e]
        exact ev_ab rfl
    refine pair_go ?_
    refine L2 H2 (Ex.refl _) _ fun sc H3 nsc e3 h3 => ⟨e3 _ _ h2, stK sg sc 0 0, rfl, by show 4 ≤ 15; decide, ?_⟩
    · have em : mergeK [] (stK sg sc 0 0) = stK sg sc 0 0 := by
        simp [mergeK, putK, stK, nGR, nGC, nGT, nCR, nCT, nRT]
      rw [em]
      have n1 : sg ≠ sd := ne_of_none h1 nsd
      have n2 : sc ≠ sd := fun z => by
        rw [z] at nsc
        rw [h2] at nsc
        cases nsc
      have n3 : sc ≠ sg := fun z => by
        rw [z] at nsc
        have := e2 _ _ h1
        rw [nsc] at this
        cases this
      refine q sd sg sc _ _ ⟨upd_same, (upd_ne n1).trans (e3 _ _ (e2 _ _ h1)), (upd_ne n2).trans h3, n3⟩ (fun a o h => ?_) (fresh_back e1 nsd) nsg
      exact (upd_ne (ne_of_none h (fresh_back e1 nsd))).trans (((e1.trans e2).trans e3) _ _ h)
end
end Kx

set_option Elab.async false
set_option linter.all false
set_option maxRecDepth 100000
set_option maxHeartbeats 1000000
namespace Kx
open PySem PySem.Spec PyProof.Rows L2 Evl LamX
/-- an action is tried: what it raises is kept, else None -/
def TCaught (K : PySem.W.Frag) (CS : Addr) : (XK → Hp → VK → Prop) → Hp → VK → Prop := fun tl H Q => ∀ R : VK, (∀ v H', Q .non H' → R v H') →
  tl (fun cls d H' => PySem.W.exmOne K cls (.ref CS) = some true ∧ d = none ∧ ∀ a, H' a = none → Q (.ref a) (upd H' a (ExR cls a))) H R
theorem caught_gives {X : Cx} {x q : Str} {g CS : Addr} {cdg : Value} (hme : X.mg "KeptError" = some (.ref CS)) {j : Nat} {p0 p1 p2 p3 p4 p5 p6 p7 p8 p9 pa pb pc pd : Pos} :
    GivesTo X ["action", "found", "error"] x (defScope s_law_caught) g cdg [.Assign [.Name "found" p0] (.Constant .none j p1) p2, .Try [.Expr (.Call (.Name "action" p3) [] [] p4) p5] [.ExceptHandler (some (.Name "KeptError" p6)) (some "error") [.Assign [.Name "found" p7] (.Name "error" p8) p9] pa] [] [] pb, .Return (some (.Name "found" pc)) pd] "action" q (TCaught X.K CS) := by
  intro f c' s H Q tl act hc h
  have nd := sc_law_caught.nd
  have hgl : Gl (cxOf C8.CX0 X.prog X.w X.K X.mg X.base ["action", "found", "error"] x (defScope s_law_caught) g cdg X.A X.stack s H C8.E0).nox "KeptError" := by rfl
  refine ⟨_, pss_cons (ps_set (i := 1) nd rfl (.inl rfl) pe_non) (pss_cons (ps_try_keep (X := (cxOf C8.CX0 X.prog X.w X.K X.mg X.base ["action", "found", "error"] x (defScope s_law_caught) g cdg X.A X.stack s H C8.E0).nox) (i := 2) (n := "error") (c := .ref CS)
      (tb := fun W D σ H' => ∃ Ech : XK, (∀ cls d σ' H', Ech cls d H' → W cls d σ' H') ∧ σ[0]? = some (some (.ref f)) ∧ H' c' = some (CodeO c' q) ∧ tl Ech H' (fun _ H2 => D.nx σ H2)) (ts := fun a => tAsg (tVar 2) (gName 1))
      rfl rfl rfl nd rfl rfl ⟨hgl, by decide, .inl hme⟩ (fun W pn xe tk => ?_) (fun a oe pn => pss_one (ps_set (i := 1) nd rfl (.inl rfl) (pv 2)))) (pss_one (ps_ret (pv 1)))), ?_⟩
  · refine ⟨fun pins s' σ H' D I h' => ?_⟩
    obtain ⟨Ech, hW, h1, h2, h3⟩ := h'
    have hp := act W pn xe Ech p3 p4 tk hW
    exact (pss_one (ps_expr (pos := p5) hp)).run pins s' σ H' D I ⟨h1, h2, h3⟩
  · refine ⟨fun cls d H' => PySem.W.exmOne X.K cls (.ref CS) = some true ∧ d = none ∧ ∀ a, H' a = none → Q (.ref a) (upd H' a (ExR cls a)), fun cls d σ' H' ⟨e1, e2, e3⟩ => ⟨e1, e2, fun a ha hlen => ?_⟩, rfl, hc, ?_⟩
    · match σ', hlen with
      | [x0, x1, x2], _ => exact ⟨.ref a, rfl, fun hn => ⟨.ref a, rfl, e3 a ha⟩⟩
    · exact h _ fun v H' hq => ⟨.non, rfl, hq⟩
end Kx

set_option Elab.async false
set_option linter.all false
set_option maxRecDepth 100000
set_option maxHeartbeats 1000000
namespace Kx
open PySem PySem.Spec PyProof.Rows L2 Evl LamX
/-! ## defs whose code is known: lambdas stand in them -/
def FunC (K : PySem.W.Frag) (x : Str) (st : Stmt) (f c : Addr) (fd : FuncData) : Prop := ∃ (o1 : Value) (o2 : Option Addr) (kv dv mv : Value) (a1 : Option Addr) (t1 : Value) (sl : Array (Option Value)),
  fd = PySem.W.fnOf x x (defArgs st) (defBody st) (defScope st) .none kv dv mv a1 (.ref c) t1 ∧ K.lookup f = some ⟨o1, o2, .func fd, sl⟩ ∧ PySem.W.codeIn K (.ref c) x = true
theorem FunC.ok {P : Program} {w : World} {K : PySem.W.Frag} {mg : Str → Option Value} {base : Heap} {x : Str} {st : Stmt} {f c : Addr} {fd : FuncData} {N ps : List Str} {k : Nat} {sp : Sp} (F : FunC K x st f c fd) (S : FnScope N ps (defScope st)) (len : ∀ vs H Q E, sp vs H Q E → vs.length = ps.length)
    (hb : ∀ (A : Around) (outer : List Env) (s : Shared) (H : Hp) (vs : List V) (Q : VK) (E : XK), Room k (A.deeper (envOfC x (defScope st) s.heap.objs.size f (.ref c))) → sp vs H Q E →
      ∃ t, PSs (cxOf CX0 P w K mg base N x (defScope st) f (.ref c) A outer s H E).nox (defBody st) t ∧ t { nx := fun _ H' => Q .non H', rt := Q } (L2.start N vs) H) : FnOk P w K mg base CX0 (k + 1) f fd ps sp := by
  obtain ⟨o1, o2, kv, dv, mv, a1, t1, sl, rfl, lk, hc⟩ := F
  refine fn_of lk hc S len fun A outer s H vs Q E hr h => ?_
  obtain ⟨t, h1, h2⟩ := hb A outer s H vs Q E hr h
  exact ⟨t, h1.nox, h2⟩
/-! ## what stays when tables of lambdas grow -/
theorem TupS.xn {H H' : Hp} {a : Addr} {vs : List V} (h : TupS H a vs) (e : ExtN H H') : TupS H' a vs := let ⟨o, h1, h2⟩ := h; ⟨o, h1, e _ _ h2 fun ps z => by cases z⟩
mutual
theorem Rep.xn {H H' : Hp} (e : ExtN H H') : ∀ (d : D) (v : V), Rep H v d → Rep H' v d
  | _, _, .non => .non
  | _, _, .bl b => .bl b
  | _, _, .int i => .int i
  | _, _, .str s => .str s
  | _, _, .tup h r => .tup (h.xn e) (Reps.xn e _ _ r)
  | _, _, .lst h r => .lst (e _ _ h fun ps z => by cases z) (Reps.xn e _ _ r)
  | _, _, .dic h => .dic (e _ _ h fun ps z => by cases z)
theorem Reps.xn {H H' : Hp} (e : ExtN H H') : ∀ (ds : List D) (vs : List V), Reps H vs ds → Reps H' vs ds
  | _, _, .nil => .nil
  | _, _, .cons r t => .cons (Rep.xn e _ _ r) (Reps.xn e _ _ t)
end
theorem hid_xn {H H' : Hp} {sd sg : Addr} (e : ExtN H H') : ExtN (hid H sd sg) (hid H' sd sg) := fun a o h n => by
  unfold hid at h ⊢
  split at h
  · cases h
  · rename_i z
    rw [if_neg z]
    exact e a o h n
theorem Sta.xn {H H' : Hp} {sd sg sc : Addr} {b : Nat} (s : Sta H sd sg sc b) (e : ExtN H H') : Sta H' sd sg sc b :=
  let ⟨gs, cs, r, t, w, h1, h2⟩ := s
  ⟨gs, cs, r, t, ⟨e _ _ w.d fun ps z => (by cases z), e _ _ w.g fun ps z => (by cases z), e _ _ w.c fun ps z => (by cases z), w.ne⟩, h1, h2⟩
/-- isinstance of an error that is kept -/
def rIsK (K : PySem.W.Frag) : List V → Hp → VK → Prop := fun xs H Q => ∃ (a D C : Addr) (b : Bool), xs = [.ref a, .ref C] ∧ H a = some (ExR (.ref D) a) ∧ ExcC K D ∧ PySem.W.kitOne K (.ref D) (.ref C) = some b ∧ Q (.bl b) H
theorem call_isK {X : Cx} : CallR X (.builtin "isinstance") (rIsK X.K) := by
  intro pins s σ H xs us Q I r h
  obtain ⟨a, D, C, b, rfl, ha, EC, hk, q⟩ := h
  cases r with
  | cons rx rr => cases rr with
    | cons rt rr =>
      cases rr
      cases rx
      cases rt
      obtain ⟨⟨o, vs, hget, hz, hv⟩, _⟩ := I.hok a _ ha
      have J : PySem.W.InstAt s.heap a o D none := by
        obtain ⟨oc, od, oda, osl⟩ := o
        obtain ⟨h1, h2⟩ := hz
        dsimp only at h1 h2 hv
        subst h1 h2 hv
        exact ⟨hget, rfl, rfl, trivial⟩
      exact PySem.W.kia_one (PySem.W.handS_kitx_exc EC.hg EC.hk EC.hs EC.hd EC.ha EC.hn EC.ht EC.hm) I.kIn J hk (fun z => nomatch z) fun tk => ⟨.bl b, H, I.kept (t' := tk) fun _ _ z => z, rfl, q⟩
/-- an own error is caught by its root -/
theorem Txt.caught {K : PySem.W.Frag} {mg : Str → Option Value} (T : Txt K mg) {C : Addr} (h : PySem.W.subIn K (.ref C) (.ref T.c_KeptError) = some true) : PySem.W.exmOne K (.ref C) (.ref T.c_KeptError) = some true :=
  PySem.W.exm_ref T.E_KeptError.bx T.E_KeptError.ex.hd T.E_KeptError.ty h
end Kx

set_option Elab.async false
set_option linter.all false
set_option maxRecDepth 100000
set_option maxHeartbeats 300000
namespace Kx
open PySem PySem.Spec PyProof.Rows L2 Evl LamX
/-- isinstance of what was kept: an error, or None -/
def rIs2 (K : PySem.W.Frag) : List V → Hp → VK → Prop := fun xs H Q => rIsK K xs H Q ∨ rIsi K xs H Q
theorem call_is2 {X : Cx} : CallR X (.builtin "isinstance") (rIs2 X.K) := by
  intro pins s σ H xs us Q I r h
  rcases h with h | h
  · exact call_isK pins s σ H xs us Q I r h
  · exact call_isi pins s σ H xs us Q I r h
/-- the name of the lambdas there -/
def qLam : Str := (envOfC "_law_refused_right" (defScope s_law_refused_right) 0 0 .none).qual ++ ("<lambda>" : Str)
/-- what law_caught gives, by what the action does -/
def Kept (H : Hp) (x : V) (o : Out) : Prop := match o with
  | .ret _ => x = .non
  | .exc C => ∃ a, x = .ref a ∧ H a = some (ExR (.ref C) a)
theorem exR_ne {cls : Value} {a : Addr} (ps : Array Value) : ExR cls a ≠ .tbl ps := fun z => by
  unfold ExR at z
  cases z
theorem Kept.xn {H H' : Hp} {x : V} {o : Out} (k : Kept H x o) (e : ExtN H H') : Kept H' x o := by
  cases o with
  | ret z => exact k
  | exc C =>
    obtain ⟨a, h1, h2⟩ := k
    exact ⟨a, h1, e _ _ h2 fun ps => exR_ne ps⟩
theorem kept_go {K : PySem.W.Frag} {CS : Addr} {o : Out} {H1 : Hp} {Q R : VK} (hc : ∀ C, o = .exc C → PySem.W.exmOne K (.ref C) (.ref CS) = some true) (hR : ∀ v H', Q .non H' → R v H') (q : ∀ x H3, Ex H1 H3 → Kept H3 x o → Q x H3) :
    ∀ H2, Ex H1 H2 → outOk o H2 R (fun cls d H' => PySem.W.exmOne K cls (.ref CS) = some true ∧ d = none ∧ ∀ a, H' a = none → Q (.ref a) (upd H' a (ExR cls a))) := fun H2 e => by
  cases o with
  | ret z => exact hR z H2 (q .non H2 e rfl)
  | exc C => exact ⟨hc C rfl, rfl, fun a ha => q (.ref a) _ (e.trans (Ex.new ha)) ⟨a, rfl, upd_same⟩⟩
theorem caught_go {K : PySem.W.Frag} {CS : Addr} {tl : XK → Hp → VK → Prop} {o : Out} {H1 : Hp} {Q : VK} (hc : ∀ C, o = .exc C → PySem.W.exmOne K (.ref C) (.ref CS) = some true) (ht : ∀ (E : XK) (R : VK), (∀ z H2, o = .ret .non → Ex H1 H2 → R z H2) → (∀ H2, Ex H1 H2 → outOk o H2 R E) → tl E H1 R)
    (q : ∀ x H3, Ex H1 H3 → Kept H3 x o → Q x H3) : TCaught K CS tl H1 Q := fun R hR => ht _ R (fun z H2 eo e => hR z H2 (q .non H2 e (by rw [eo]; rfl))) (kept_go hc hR q)
def spRef (Tb : List (Addr × Str)) : Sp := fun vs H Q _ => ∃ h v d, vs = [h, v] ∧ Rep H v d ∧ d.Sz ∧ Tabs Tb H ∧ ∀ H', ExtN H H' → Tabs Tb H' → Q (.bl true) H'
theorem kept_upd {H : Hp} {x : V} {o : Out} {p : Addr} {xs ys : List V} (k : Kept H x o) (hp : H p = some (.lst xs)) : Kept (upd H p (.lst ys)) x o := by
  cases o with
  | ret z => exact k
  | exc C =>
    obtain ⟨a, h1, h2⟩ := k
    refine ⟨a, h1, (upd_ne fun z => ?_).trans h2⟩
    rw [z, hp] at h2
    have e := Option.some.inj h2
    unfold ExR at e
    cases e
theorem tabs_upd {Tb : List (Addr × Str)} {H : Hp} {p : Addr} {xs ys : List V} (t : Tabs Tb H) (hp : H p = some (.lst xs)) : Tabs Tb (upd H p (.lst ys)) := fun e he => by
  obtain ⟨ps, h1, h2, h3⟩ := t e he
  refine ⟨ps, (upd_ne fun z => ?_).trans h1, h2, fun pos cv hc => ?_⟩
  · rw [z, hp] at h1
    cases h1
  · obtain ⟨c, e1, e2⟩ := h3 pos cv hc
    refine ⟨c, e1, (upd_ne fun z => ?_).trans e2⟩
    rw [z, hp] at e2
    have e := Option.some.inj e2
    unfold CodeO at e
    cases e
section
variable {K : PySem.W.Frag} {σ : L2.St} {H : Hp} {te : TE} {x : V} {C D0 : Addr} {b : Bool}
theorem ev_isErr (h : Ev te σ H x) (k : Kept H x (.exc D0)) (EC : ExcC K D0) (hk : PySem.W.kitOne K (.ref D0) (.ref C) = some b) : Ev (tCB (rIs2 K) (tCons te (tCons (tC (.ref C)) tNil))) σ H (.bl b) := by
  obtain ⟨a, rfl, ha⟩ := k
  exact ev_cb (ea_cons h (ea_cons ev_c ea_nil)) fun H1 e Q q => .inl ⟨a, D0, C, b, rfl, e _ _ ha, EC, hk, q H1 (Ex.refl _)⟩
theorem ev_isNon {z : V} (h : Ev te σ H x) (k : Kept H x (.ret z)) (hk : PySem.W.kitOne K (.type "NoneType") (.ref C) = some b) : Ev (tCB (rIs2 K) (tCons te (tCons (tC (.ref C)) tNil))) σ H (.bl b) := by
  have e : x = .non := k
  subst e
  exact ev_cb (ea_cons h (ea_cons ev_c ea_nil)) fun H1 e Q q => .inr ⟨.non, .ref C, .type "NoneType", .ref C, b, rfl, .own C, .base .non, hk, q H1 (Ex.refl _)⟩
end
section
variable {P : Program} {w : World} {K : PySem.W.Frag} {mg : Str → Option Value} {base : Heap} (T : Txt K mg)
end
end Kx

set_option Elab.async false
set_option linter.all false
set_option maxRecDepth 100000
set_option maxHeartbeats 1000000
namespace Kx
open PySem PySem.Spec PyProof.Rows L2 Evl LamX
/-! ## a call whose arguments are all told by name; 'x' * 8 -/
section
variable {X : Cx} {CX : CXT} {k : Nat} {f : Addr} {fd : FuncData} {ps ks : List Str} {sp : Sp} {E : XK} {x : Str} {p pos : Pos} {kws : List Keyword} {tk : TA} {g : List Value → List Value → List Value} {gV : List V → List V → List V}
theorem pe_named (F : FnOk X.prog X.w X.K X.mg X.base CX k f fd ps sp) (hr : Room k X.A) (hg : Gl X x) (hm : X.mg x = some (.ref f)) (hk : PySem.W.keepIn X.K (.ref f) = true) (hb : KBinds X.K fd ps ks g gV) (hx : Passes CX X E) (hkw : PK X kws tk)
    (all : (backToKw pos (keywordEach kws X.env)).all (·.1.isSome) = true := by rfl) (eks : (backToKw pos (keywordEach kws X.env)).filterMap (·.1) = ks := by rfl) (nd : (x == ("__debug__" : Str)) = false := by decide)
    (pl : ((backTo pos (starEach [] X.env)).any (·.1) || (backToKw pos (keywordEach kws X.env)).any (·.1.isNone)) = false := by rfl) : PE X (.Call (.Name x p) [] kws pos) (tCallK sp gV E tNil tk) where
  run := fun pins s σ H Q I h => wpAny_Call_Name_kw <| ld_glob I hg hm (PySem.W.callWith_KW0 (h₀ := X.base) I.ok.mod.kin hk all (thn (hkw.run pos pins s σ H _ I h) fun ws u hu => by
    obtain ⟨zs, H2, J, rz, q⟩ := hu
    refine ⟨J.kIn, ?_⟩
    rw [eks]
    exact run_fnk F hr hb hx J .nil rz q) pl) nd
def rX8 : R2 := fun x y H Q => x = .str "x" ∧ y = .int 8 ∧ Q (.str "xxxxxxxx") H
theorem op_x8 : OpR X (binaryOp .Mult) rX8 := by
  intro pins s σ H x y v u Q I rx ry h
  obtain ⟨rfl, rfl, q⟩ := h
  obtain ⟨t, rfl⟩ := rx
  obtain ⟨t', rfl⟩ := ry
  refine PySem.P.mul_str (by decide) (fun _ _ => by decide) (fun _ _ => by decide) ?_
  exact ⟨by decide, .str "xxxxxxxx", H, I.tok _, ⟨_, rfl⟩, q⟩
theorem rv_x8 {H : Hp} : RV rX8 (.str "x") (.int 8) H (.str "xxxxxxxx") := fun H1 e Q q => ⟨rfl, rfl, q H1 (Ex.refl _)⟩
end
section
variable {σ : L2.St} {H : Hp} {ta : TA} {z : V} {ok : OkO} {vs : List V} {E : XK}
/-- a call that gives a value, of a def that may raise -/
theorem ev_callO (h : EvA ta σ H vs) (hk : ∀ H1, Ex H H1 → ok vs H1 (.ret z)) : Ev (tCall (spO ok) [] E ta) σ H z := fun H1 e Q q => h H1 e _ fun H2 e2 => by
  rw [List.append_nil]
  exact ⟨.ret z, hk H2 (e.trans e2), fun H3 e3 => q H3 (e2.trans e3)⟩
theorem ev_callOK {gV : List V → List V → List V} {zs : List V} (h : EvA ta σ H zs) (hk : ∀ H1, Ex H H1 → ok (gV [] zs) H1 (.ret z)) : Ev (tCallK (spO ok) gV E tNil ta) σ H z := fun H1 e Q q => h H1 e _ fun H2 e2 =>
  ⟨.ret z, hk H2 (e.trans e2), fun H3 e3 => q H3 (e2.trans e3)⟩
end
/-- building, side, door as they are told, in the order of the parameters -/
def g3 {α : Type} (us ws : List α) : List α := match us, ws with
  | [], [a, b, c] => [a, c, b]
  | _, _ => []
def g1 {α : Type} (us ws : List α) : List α := match us, ws with
  | [], [a] => [a]
  | _, _ => []
section
variable {K : PySem.W.Frag} {mg : Str → Option Value}
end
end Kx

set_option Elab.async false
set_option linter.all false
set_option maxRecDepth 100000
namespace Kx
/-! ## days of all years: the mathematics -/
def leap (y : Int) : Bool := decide (y % 4 = 0) && (!decide (y % 100 = 0) || decide (y % 400 = 0))
def LENS : List Int := [31, 28, 31, 30, 31, 30, 31, 31, 30, 31, 30, 31]
def mlen (y m : Int) : Int := if m = 2 ∧ leap y = true then 29 else LENS.getD (m - 1).toNat 0
def da (y : Int) : Int := 365 * (y - 1) + (y - 1) / 4 - (y - 1) / 100 + (y - 1) / 400
/-- the days of the months 1 to n -/
def cum (y : Int) (n : Nat) : Int := ((List.range n).map fun (i : Nat) => mlen y (1 + (i : Int))).sum
def dto (y m d : Int) : Int := da y + cum y (m - 1).toNat + d - 1
def big : Int := 10 ^ 30
def isD (y m d : Int) : Prop := 1 ≤ y ∧ y ≤ big ∧ 1 ≤ m ∧ m ≤ 12 ∧ 1 ≤ d ∧ d ≤ mlen y m
theorem leap_iff {y : Int} : leap y = true ↔ (y % 4 = 0 ∧ (y % 100 ≠ 0 ∨ y % 400 = 0)) := by
  unfold leap
  simp
theorem cum_succ (y : Int) (n : Nat) : cum y (n + 1) = cum y n + mlen y (1 + (n : Int)) := by
  unfold cum
  rw [List.range_succ, List.map_append, List.sum_append]
  simp
def b2i (b : Bool) : Int := if b = true then 1 else 0
theorem mlen_at (y : Int) : mlen y 1 = 31 ∧ mlen y 2 = 28 + b2i (leap y) ∧ mlen y 3 = 31 ∧ mlen y 4 = 30 ∧ mlen y 5 = 31 ∧ mlen y 6 = 30 ∧ mlen y 7 = 31 ∧ mlen y 8 = 31 ∧ mlen y 9 = 30 ∧ mlen y 10 = 31 ∧ mlen y 11 = 30 ∧ mlen y 12 = 31 := by
  unfold mlen LENS b2i
  refine ⟨by simp, ?_, by simp, by simp, by simp, by simp, by simp, by simp, by simp, by simp, by simp, by simp⟩
  by_cases h : leap y = true
  · rw [if_pos ⟨rfl, h⟩, if_pos h]; rfl
  · rw [if_neg (fun z => h z.2), if_neg h]; rfl
theorem months {m : Int} (h1 : 1 ≤ m) (h2 : m ≤ 12) : m = 1 ∨ m = 2 ∨ m = 3 ∨ m = 4 ∨ m = 5 ∨ m = 6 ∨ m = 7 ∨ m = 8 ∨ m = 9 ∨ m = 10 ∨ m = 11 ∨ m = 12 := by omega
theorem mlen_pos {y m : Int} (h1 : 1 ≤ m) (h2 : m ≤ 12) : 28 ≤ mlen y m ∧ mlen y m ≤ 31 := by
  obtain ⟨a1, a2, a3, a4, a5, a6, a7, a8, a9, a10, a11, a12⟩ := mlen_at y
  have : 0 ≤ b2i (leap y) ∧ b2i (leap y) ≤ 1 := by unfold b2i; split <;> omega
  rcases months h1 h2 with rfl | rfl | rfl | rfl | rfl | rfl | rfl | rfl | rfl | rfl | rfl | rfl <;> omega
theorem cum_at (y : Int) : cum y 0 = 0 ∧ cum y 1 = 31 ∧ cum y 2 = 59 + b2i (leap y) ∧ cum y 3 = 90 + b2i (leap y) ∧ cum y 4 = 120 + b2i (leap y) ∧ cum y 5 = 151 + b2i (leap y) ∧ cum y 6 = 181 + b2i (leap y) ∧ cum y 7 = 212 + b2i (leap y) ∧ cum y 8 = 243 + b2i (leap y) ∧ cum y 9 = 273 + b2i (leap y) ∧ cum y 10 = 304 + b2i (leap y) ∧ cum y 11 = 334 + b2i (leap y) ∧ cum y 12 = 365 + b2i (leap y) := by
  obtain ⟨a1, a2, a3, a4, a5, a6, a7, a8, a9, a10, a11, a12⟩ := mlen_at y
  have c0 : cum y 0 = 0 := rfl
  have c1 : cum y 1 = cum y 0 + mlen y 1 := cum_succ y 0
  have c2 : cum y 2 = cum y 1 + mlen y 2 := cum_succ y 1
  have c3 : cum y 3 = cum y 2 + mlen y 3 := cum_succ y 2
  have c4 : cum y 4 = cum y 3 + mlen y 4 := cum_succ y 3
  have c5 : cum y 5 = cum y 4 + mlen y 5 := cum_succ y 4
  have c6 : cum y 6 = cum y 5 + mlen y 6 := cum_succ y 5
  have c7 : cum y 7 = cum y 6 + mlen y 7 := cum_succ y 6
  have c8 : cum y 8 = cum y 7 + mlen y 8 := cum_succ y 7
  have c9 : cum y 9 = cum y 8 + mlen y 9 := cum_succ y 8
  have c10 : cum y 10 = cum y 9 + mlen y 10 := cum_succ y 9
  have c11 : cum y 11 = cum y 10 + mlen y 11 := cum_succ y 10
  have c12 : cum y 12 = cum y 11 + mlen y 12 := cum_succ y 11
  refine ⟨c0, ?_, ?_, ?_, ?_, ?_, ?_, ?_, ?_, ?_, ?_, ?_, ?_⟩ <;> omega
/-- a year's length -/
theorem da_succ (y : Int) : da (y + 1) = da y + 365 + b2i (leap y) := by
  unfold da b2i
  have e : leap y = true ↔ (y % 4 = 0 ∧ (y % 100 ≠ 0 ∨ y % 400 = 0)) := leap_iff
  by_cases h : leap y = true
  · rw [if_pos h]
    have := e.mp h
    omega
  · rw [if_neg h]
    have : ¬ (y % 4 = 0 ∧ (y % 100 ≠ 0 ∨ y % 400 = 0)) := fun z => h (e.mpr z)
    omega
theorem b2i_bd (b : Bool) : 0 ≤ b2i b ∧ b2i b ≤ 1 := by unfold b2i; split <;> omega
theorem da_mono {a b : Int} (h : a ≤ b) : da a ≤ da b := by unfold da; omega
theorem da_strict {a b : Int} (h : a < b) : da a + 365 ≤ da b := by unfold da; omega
theorem da_one : da 1 = 0 := rfl
theorem cum_step {y m : Int} (h1 : 1 ≤ m) (_h2 : m ≤ 12) : cum y m.toNat = cum y (m - 1).toNat + mlen y m := by
  obtain ⟨n, rfl⟩ : ∃ n : Nat, m = (n : Int) + 1 := ⟨(m - 1).toNat, by omega⟩
  have e1 : ((n : Int) + 1).toNat = n + 1 := by omega
  have e2 : ((n : Int) + 1 - 1).toNat = n := by omega
  rw [e1, e2, cum_succ, Int.add_comm 1 (n : Int)]
theorem cum_mono (y : Int) : ∀ {a b : Nat}, a ≤ b → b ≤ 12 → cum y a ≤ cum y b := by
  intro a b h hb
  induction b with
  | zero => obtain rfl : a = 0 := by omega
            exact Int.le_refl _
  | succ n ih =>
    by_cases e : a = n + 1
    · rw [e]; exact Int.le_refl _
    · have h1 := ih (by omega) (by omega)
      have h2 := cum_succ y n
      have h3 := (mlen_pos (y := y) (m := 1 + (n : Int)) (by omega) (by omega)).1
      omega
theorem cum_nonneg (y : Int) (n : Nat) (hn : n ≤ 12) : 0 ≤ cum y n ∧ cum y n ≤ cum y 12 := ⟨(cum_at y).1 ▸ cum_mono y (Nat.zero_le n) hn, cum_mono y hn (Nat.le_refl _)⟩
/-- a date's number lies in its year -/
theorem dto_in {y m d : Int} (h : isD y m d) : da y ≤ dto y m d ∧ dto y m d < da (y + 1) := by
  obtain ⟨_, _, m1, m2, d1, d2⟩ := h
  have a := cum_nonneg y (m - 1).toNat (by omega)
  have b := cum_nonneg y m.toNat (by omega)
  rw [cum_step m1 m2] at b
  rw [da_succ]
  have c := (cum_at y).2.2.2.2.2.2.2.2.2.2.2.2
  unfold dto
  omega
/-- two dates with one number are one -/
theorem dto_inj {y m d y' m' d' : Int} (h : isD y m d) (h' : isD y' m' d') (e : dto y m d = dto y' m' d') : y = y' ∧ m = m' ∧ d = d' := by
  have a := dto_in h
  have b := dto_in h'
  have ey : y = y' := by
    rcases Int.lt_trichotomy y y' with z | z | z
    · have := da_mono (show y + 1 ≤ y' by omega)
      omega
    · exact z
    · have := da_mono (show y' + 1 ≤ y by omega)
      omega
  subst ey
  obtain ⟨_, _, m1, m2, d1, d2⟩ := h
  obtain ⟨_, _, m1', m2', d1', d2'⟩ := h'
  unfold dto at e
  have em : m = m' := by
    have s1 := cum_step (y := y) m1 m2
    have s2 := cum_step (y := y) m1' m2'
    rcases Int.lt_trichotomy m m' with z | z | z
    · have := cum_mono y (show m.toNat ≤ (m' - 1).toNat by omega) (by omega)
      omega
    · exact z
    · have := cum_mono y (show m'.toNat ≤ (m - 1).toNat by omega) (by omega)
      omega
  subst em
  exact ⟨rfl, rfl, by omega⟩
/-! ### the law's own way -/
def lleap (y : Int) : Bool := decide (y % 400 = 0) || (decide (y % 4 = 0) && !decide (y % 100 = 0))
theorem lleap_eq (y : Int) : lleap y = leap y := by
  unfold lleap leap
  by_cases a : y % 400 = 0 <;> by_cases b : y % 4 = 0 <;> by_cases c : y % 100 = 0 <;> first | (simp [a, b, c]; done) | (exfalso; omega)
def lmonth (y m : Int) : Int := if m = 2 then (if lleap y = true then 29 else 28) else if m = 4 ∨ m = 6 ∨ m = 9 ∨ m = 11 then 30 else 31
theorem lmonth_eq {y m : Int} (h1 : 1 ≤ m) (h2 : m ≤ 12) : lmonth y m = mlen y m := by
  obtain ⟨a1, a2, a3, a4, a5, a6, a7, a8, a9, a10, a11, a12⟩ := mlen_at y
  unfold lmonth
  rw [lleap_eq]
  unfold b2i at a2
  rcases months h1 h2 with rfl | rfl | rfl | rfl | rfl | rfl | rfl | rfl | rfl | rfl | rfl | rfl
  · simp; omega
  · rw [a2]
    by_cases h : leap y = true <;> simp [h]
  all_goals (simp; omega)
/-- the number as the law reckons it, from the shifted year and the month's place -/
def lnum (s p d : Int) : Int := s / 400 * 146097 + (s - s / 400 * 400) * 365 + (s - s / 400 * 400) / 4 - (s - s / 400 * 400) / 100 + ((153 * p + 2) / 5 + d - 1) - 306
theorem ahead (s : Int) : s / 400 * 146097 + (s - s / 400 * 400) * 365 + (s - s / 400 * 400) / 4 - (s - s / 400 * 400) / 100 = 365 * s + s / 4 - s / 100 + s / 400 := by omega
theorem lnum_eq (s p d : Int) : lnum s p d = 365 * s + s / 4 - s / 100 + s / 400 + ((153 * p + 2) / 5 + d - 1) - 306 := by
  unfold lnum
  rw [ahead]
theorem lnum_late {y m : Int} (d : Int) (h1 : 3 ≤ m) (h2 : m ≤ 12) : lnum y (m - 3) d = dto y m d := by
  rw [lnum_eq]
  have e : 365 * y + y / 4 - y / 100 + y / 400 = da y + 365 + b2i (leap y) := by
    rw [← da_succ]
    unfold da
    rw [Int.add_sub_cancel]
  obtain ⟨a0, a1, a2, a3, a4, a5, a6, a7, a8, a9, a10, a11, a12⟩ := cum_at y
  unfold dto
  rcases months (by omega : 1 ≤ m) h2 with rfl | rfl | rfl | rfl | rfl | rfl | rfl | rfl | rfl | rfl | rfl | rfl
  · omega
  · omega
  · show _ = da y + cum y 2 + d - 1; omega
  · show _ = da y + cum y 3 + d - 1; omega
  · show _ = da y + cum y 4 + d - 1; omega
  · show _ = da y + cum y 5 + d - 1; omega
  · show _ = da y + cum y 6 + d - 1; omega
  · show _ = da y + cum y 7 + d - 1; omega
  · show _ = da y + cum y 8 + d - 1; omega
  · show _ = da y + cum y 9 + d - 1; omega
  · show _ = da y + cum y 10 + d - 1; omega
  · show _ = da y + cum y 11 + d - 1; omega
theorem lnum_early {y m : Int} (d : Int) (h1 : 1 ≤ m) (h2 : m ≤ 2) : lnum (y - 1) (m + 9) d = dto y m d := by
  rw [lnum_eq]
  obtain ⟨a0, a1, _⟩ := cum_at y
  unfold dto da
  have : m = 1 ∨ m = 2 := by omega
  rcases this with rfl | rfl
  · show _ = _ + cum y 0 + d - 1; omega
  · show _ = _ + cum y 1 + d - 1; omega
/-! ### kinds of years -/
def wcode (y : Int) : Nat := if leap y = true then 0 else if leap (y - 1) = true then 1 else if leap (y + 1) = true then 2 else 3
def kindP (y : Int) : Int × Nat := (da y % 7, wcode y)
theorem leap_400 (y : Int) : leap (y + 400) = leap y := by
  unfold leap
  rw [show (y + 400) % 4 = y % 4 by omega, show (y + 400) % 100 = y % 100 by omega, show (y + 400) % 400 = y % 400 by omega]
theorem kind_400 (y : Int) : kindP (y + 400) = kindP y := by
  unfold kindP wcode
  rw [leap_400, show y + 400 - 1 = (y - 1) + 400 by omega, leap_400, show y + 400 + 1 = (y + 1) + 400 by omega, leap_400]
  have : da (y + 400) = da y + 146097 := by unfold da; omega
  rw [this, show (da y + 146097) % 7 = da y % 7 by omega]
theorem kind_far (r : Int) : ∀ q : Nat, kindP (r + 400 * (q : Int)) = kindP r
  | 0 => by rw [show r + 400 * ((0 : Nat) : Int) = r by omega]
  | q + 1 => by rw [show r + 400 * ((q + 1 : Nat) : Int) = (r + 400 * (q : Int)) + 400 by omega, kind_400, kind_far r q]
theorem kind_red {y : Int} (h : 0 ≤ y) : ∃ n : Nat, n < 400 ∧ ∀ k : Int, kindP (y + k) = kindP ((n : Int) + k) := by
  refine ⟨(y % 400).toNat, by omega, fun k => ?_⟩
  have e : y + k = (((y % 400).toNat : Int) + k) + 400 * ((y / 400).toNat : Int) := by omega
  rw [e, kind_far]
def KP : List (Int × Nat) := [(0, 1), (1, 3), (2, 2), (3, 0), (5, 1), (6, 3), (0, 2), (1, 0), (3, 1), (4, 3), (5, 2), (6, 0), (1, 1), (2, 3), (3, 2), (4, 0), (6, 1), (0, 3), (1, 2), (2, 0), (4, 1), (5, 3), (6, 2), (0, 0), (2, 1), (3, 3), (4, 2), (5, 0)]
theorem KP_is : KP = (List.range 28).map fun (i : Nat) => kindP (2001 + (i : Int)) := by decide +kernel
theorem KP_nodup : KP.Nodup := by decide +kernel
theorem kinds_small : ((List.range 400).all fun (n : Nat) => KP.contains (kindP ((n : Int) + 0)) && (List.range 40).any fun (k : Nat) => kindP ((n : Int) + (1 + (k : Int))) == kindP ((n : Int) + 0)) = true := by decide +kernel
theorem kind_in {y : Int} (h : 0 ≤ y) : kindP y ∈ KP ∧ ∃ k : Nat, k < 40 ∧ kindP (y + (1 + (k : Int))) = kindP y := by
  obtain ⟨n, hn, e⟩ := kind_red h
  have z := List.all_eq_true.mp kinds_small n (List.mem_range.mpr hn)
  rw [Bool.and_eq_true] at z
  have e0 := e 0
  rw [Int.add_zero] at e0
  obtain ⟨z1, z2⟩ := z
  obtain ⟨k, hk, ek⟩ := List.any_eq_true.mp z2
  refine ⟨e0 ▸ (by simpa using z1), k, List.mem_range.mp hk, ?_⟩
  rw [e, e0]
  exact eq_of_beq ek
end Kx

set_option Elab.async false
set_option linter.all false
set_option maxRecDepth 100000
set_option maxHeartbeats 400000
namespace Kx
open PySem PySem.Spec PyProof.Rows L2 Evl
/-! ## the constants of the top -/
def wordS : Nat → Str
  | 0 => "leap" | 1 => "behind" | 2 => "ahead" | _ => "plain"
structure Cs (K : PySem.W.Frag) (mg : Str → Option Value) where
  tL : Tok
  g_LAST : mg "LAST" = some (.int big tL)
  aN : Addr
  g_LEN : mg "LENGTHS" = some (.ref aN)
  k_LEN : ∀ H, SqT K H aN (iv LENS)
  aK : Addr
  kas : List Addr
  g_KINDS : mg "KINDS" = some (.ref aK)
  k_KINDS : ∀ H, SqT K H aK (kas.map V.ref)
  k_len : kas.length = KP.length
  k_each : ∀ (i : Nat) (b : Addr) (p : Int × Nat), kas[i]? = some b → KP[i]? = some p → ∀ H, SqT K H b [.int p.1, .str (wordS p.2)]
section
variable {K : PySem.W.Frag} {σ : L2.St} {H : Hp} {ta : TA} {te : TE}
/-- [te for n in range(lo, hi)] -/
theorem el_rng2 {j : Nat} {lo hi : Int} {ys : List V} (h : EvA ta σ H [.int lo, .int hi]) (b : -1000000 ≤ lo ∧ lo ≤ 1000000 ∧ -1000000 ≤ hi ∧ hi ≤ 1000000) (hl : ys.length = (hi - lo).toNat) (hz : ys.length ≤ 1000)
    (hy : ∀ (i : Nat) (y : V), ys[i]? = some y → Ev te ((σ.set j none).set j (some (.int (lo + (i : Int))))) H y) : EvL (tLc (iRng2 ta) (gName j) tYes te [j]) σ H ys := fun H0 e Q q =>
  h H0 e _ fun H1 e1 => ⟨lo, hi, rfl, ⟨by omega, by omega, by omega, by omega⟩, fun Dl hD =>
    lc_range (lo := lo) (n := (hi - lo).toNat) (fun i H' => Ex H1 H' ∧ H' Dl = some (.lst (ys.take i))) ⟨Ex.new hD, upd_same⟩ (fun i H' lt p => ⟨by show (((σ.set j none).set j (some (.int (lo + (i : Int))))).set j none) = σ.set j none; rw [List.set_set, List.set_set], by
        have lt2 : i < ys.length := by omega
        have gy : ys[i]? = some ys[i] := List.getElem?_eq_getElem lt2
        refine hy i _ gy H' ((e.trans e1).trans p.1) _ fun H3 e3 => ⟨ys.take i, e3 _ _ p.2, ?_, (p.1.trans e3).mut hD, ?_⟩
        · rw [List.length_take]
          exact sz_lt (Nat.lt_of_le_of_lt (Nat.min_le_right _ _) (by omega))
        · rw [upd_same, List.take_add_one, gy]
          rfl⟩)
      (fun H' p => q Dl H' (fresh_back e1 hD) (e1.trans p.1) (by rw [p.2, List.take_of_length_le (by omega)]))⟩
theorem ev_sum {ns : List Int} (h : EvL te σ H (iv ns)) : Ev (tCB (rSum K) (tCons te tNil)) σ H (.int ns.sum) := fun H1 e Q q => h H1 e _ fun p H2 _ e2 hp => ⟨p, ns, rfl, .of hp, q H2 e2⟩
theorem rv_md {i j : Int} (h : 0 < j) : RV (rI (fun _ j => 0 < j) fun i j => .int (i % j)) (.int i) (.int j) H (.int (i % j)) := rv_I h
theorem rv_eqI {i j : Int} : RV rEq (.int i) (.int j) H (.bl (decide (i = j))) := fun H1 e Q q => rv_eq rfl H1 e Q fun H2 e2 => by
  have d : decide (V.int i = V.int j) = decide (i = j) := decide_eq_decide.mpr ⟨V.int.inj, fun h => h ▸ rfl⟩
  rw [d]
  exact q H2 e2
theorem rv_neI {i j : Int} : RV rNe (.int i) (.int j) H (.bl (!decide (i = j))) := fun H1 e Q q => rv_ne rfl H1 e Q fun H2 e2 => by
  have d : decide (V.int i = V.int j) = decide (i = j) := decide_eq_decide.mpr ⟨V.int.inj, fun h => h ▸ rfl⟩
  rw [d]
  exact q H2 e2
end
def okLeap : OkF := fun vs H z => ∃ y, vs = [.int y] ∧ z = .bl (leap y)
def okMlen : OkF := fun vs H z => ∃ y m, vs = [.int y, .int m] ∧ 1 ≤ m ∧ m ≤ 12 ∧ z = .int (mlen y m)
def okDa : OkF := fun vs H z => ∃ y, vs = [.int y] ∧ z = .int (da y)
def okDto : OkF := fun vs H z => ∃ y m d, vs = [.int y, .int m, .int d] ∧ 1 ≤ m ∧ m ≤ 12 ∧ z = .int (dto y m d)
def okWd : OkF := fun vs H z => ∃ n, vs = [.int n] ∧ z = .int (n % 7)
theorem stb_leap : Stb okLeap := fun _ _ _ _ _ h => h
theorem stb_mlen : Stb okMlen := fun _ _ _ _ _ h => h
theorem stb_da : Stb okDa := fun _ _ _ _ _ h => h
theorem stb_dto : Stb okDto := fun _ _ _ _ _ h => h
theorem stb_wd : Stb okWd := fun _ _ _ _ _ h => h
section
variable {P : Program} {w : World} {K : PySem.W.Frag} {mg : Str → Option Value} {base : Heap} (T : Txt K mg) (C : Cs K mg)
theorem ok_is_leap : FnOk P w K mg base CX0 1 T.a_is_leap T.d_is_leap ["year"] (spX okLeap) := by
  refine T.F_is_leap.ok sc_is_leap (fun vs H Q E h => ?_) (fun cdv A outer s H vs Q E hr h => ?_)
  · obtain ⟨z, ⟨y, rfl, _⟩, _⟩ := h
    rfl
  · obtain ⟨z, ⟨y, rfl, rfl⟩, q⟩ := h
    refine ⟨_, pss_one (ps_ret (pe_and (pe_cmpR op_eq (pe_op op_mod (pv 0) pe_int) pe_int (nomark _)) (pe_one (pe_or (pe_cmpR op_ne (pe_op op_mod (pv 0) pe_int) pe_int (nomark _)) (pe_one (pe_cmpR op_eq (pe_op op_mod (pv 0) pe_int) pe_int (nomark _))))))), ?_⟩
    refine s_ret (v := .bl (leap y)) (ev_andV (ev_op (ev_op (ev_var rfl) ev_c (rv_md (by decide))) ev_c rv_eqI) fun _ => ev_orV (ev_op (ev_op (ev_var rfl) ev_c (rv_md (by decide))) ev_c rv_neI) fun _ => ev_op (ev_op (ev_var rfl) ev_c (rv_md (by decide))) ev_c rv_eqI) q
include C in
theorem ok_month_length : FnOk P w K mg base CX0 2 T.a_month_length T.d_month_length ["year", "month"] (spX okMlen) := by
  refine T.F_month_length.ok sc_month_length (fun vs H Q E h => ?_) (fun cdv A outer s H vs Q E hr h => ?_)
  · obtain ⟨z, ⟨y, m, rfl, _⟩, _⟩ := h
    rfl
  · obtain ⟨z, ⟨y, m, rfl, m1, m2, rfl⟩, q⟩ := h
    refine ⟨_, pss_one (ps_ret (pe_ifExp (PW.pt (pw_and (pt_cmpR op_eq (pv 1) pe_int (nomark _)) (pw_and1 (pt_val (pe_call (ok_is_leap T) hr (by rfl) T.g_is_leap T.F_is_leap.kp (b_is_leap T) .nil pass0 (pa_cons (pv 0) pa_nil)))))) pe_int
      (pe_ix (r := rIxT K) ix_tup (pe_glob (v := .ref C.aN) (by rfl) C.g_LEN rfl) (pe_op op_sub (pv 1) pe_int) (fun _ _ => rfl)))), ?_⟩
    refine s_ret (v := .int (mlen y m)) (ev_if (b := decide (m = 2) && leap y) (et_and (et_test (ev_op (ev_var rfl) ev_c rv_eqI)) fun _ => et_B (ev_sp stb_leap (ea_cons (ev_var rfl) ea_nil) ⟨y, rfl, rfl⟩)) (fun h => ?_) (fun h => ?_)) q
    · rw [Bool.and_eq_true, decide_eq_true_eq] at h
      have e : mlen y m = 29 := if_pos h
      rw [e]
      exact ev_c
    · have e : mlen y m = LENS.getD (m - 1).toNat 0 := if_neg fun z => by rw [decide_eq_true z.1, z.2] at h; cases h
      rw [e]
      refine ev_op (z := .int (LENS.getD (m - 1).toNat 0)) ev_c (ev_op (ev_var rfl) ev_c rv_I0) (rv_ixT (C.k_LEN _) ?_)
      obtain ⟨n, rfl⟩ : ∃ n : Nat, m = (n : Int) + 1 := ⟨(m - 1).toNat, by omega⟩
      have hn : n < LENS.length := by show n < 12; omega
      rw [show (n : Int) + 1 - 1 = (n : Int) by omega]
      refine atI_nat ?_
      unfold iv
      rw [List.getElem?_map, Int.toNat_natCast, List.getD_eq_getElem?_getD, List.getElem?_eq_getElem hn]
      rfl
theorem ok_days_ahead : FnOk P w K mg base CX0 1 T.a_days_ahead T.d_days_ahead ["year"] (spX okDa) := by
  refine T.F_days_ahead.ok sc_days_ahead (fun vs H Q E h => ?_) (fun cdv A outer s H vs Q E hr h => ?_)
  · obtain ⟨z, ⟨y, rfl, _⟩, _⟩ := h
    rfl
  · obtain ⟨z, ⟨y, rfl, rfl⟩, q⟩ := h
    refine ⟨_, pss_cons (ps_set (i := 1) sc_days_ahead.nd rfl (.inl rfl) (pe_op op_sub (pv 0) pe_int))
      (pss_one (ps_ret (pe_op op_add (pe_op op_sub (pe_op op_add (pe_op op_mul pe_int (pv 1)) (pe_op op_fdiv (pv 1) pe_int)) (pe_op op_fdiv (pv 1) pe_int)) (pe_op op_fdiv (pv 1) pe_int)))), ?_⟩
    refine s_asgX (v := .int (y - 1)) (ev_op (ev_var rfl) ev_c rv_I0) fun H1 e1 => ?_
    refine s_ret (v := .int (da y)) (ev_op (ev_op (ev_op (ev_op ev_c (ev_var rfl) (rv_I (.inl ⟨by decide, by decide⟩))) (ev_op (ev_var rfl) ev_c (rv_I ⟨by decide, by decide⟩)) rv_I0) (ev_op (ev_var rfl) ev_c (rv_I ⟨by decide, by decide⟩)) rv_I0) (ev_op (ev_var rfl) ev_c (rv_I ⟨by decide, by decide⟩)) rv_I0) fun H2 e2 => q H2 (e1.trans e2)
theorem ok_weekday_of : FnOk P w K mg base CX0 1 T.a_weekday_of T.d_weekday_of ["number"] (spX okWd) := by
  refine T.F_weekday_of.ok sc_weekday_of (fun vs H Q E h => ?_) (fun cdv A outer s H vs Q E hr h => ?_)
  · obtain ⟨z, ⟨y, rfl, _⟩, _⟩ := h
    rfl
  · obtain ⟨z, ⟨y, rfl, rfl⟩, q⟩ := h
    refine ⟨_, pss_one (ps_ret (pe_op op_mod (pv 0) pe_int)), ?_⟩
    exact s_ret (ev_op (ev_var rfl) ev_c (rv_md (by decide))) q
include C in
theorem ok_days_to : FnOk P w K mg base CX0 3 T.a_days_to T.d_days_to ["year", "month", "day"] (spX okDto) := by
  refine T.F_days_to.ok sc_days_to (fun vs H Q E h => ?_) (fun cdv A outer s H vs Q E hr h => ?_)
  · obtain ⟨z, ⟨y, m, d, rfl, _⟩, _⟩ := h
    rfl
  · obtain ⟨z, ⟨y, m, d, rfl, m1, m2, rfl⟩, q⟩ := h
    have r1 : Room 1 (A.deeper (envOfC "days_to" (defScope s_days_to) s.heap.objs.size T.a_days_to cdv)) := hr.mono (by decide)
    refine ⟨_, pss_one (ps_ret (pe_op op_sub (pe_op op_add (pe_op op_add (pe_call (ok_days_ahead T) r1 (by rfl) T.g_days_ahead T.F_days_ahead.kp (b_days_ahead T) .nil pass0 (pa_cons (pv 0) pa_nil))
        (pe_callB (cr_sum (by rfl)) (by rfl) T.z_sum bo_sum (pa_cons (pe_lc (own := [("one", 3)]) (g := gName 3) (tt := tYes) (by rfl) sc_days_to.nd (pi_range2 (by rfl) T.z_range (pa_cons pe_int (pa_cons (pv 1) pa_nil))) (blkOk_by (N := ["year", "month", "day", "one"]) (sc := defScope s_days_to) (by decide +kernel))
          (fun _ _ _ _ _ => pg_name (i := 3) sc_days_to.nd rfl (.inl rfl)) (fun _ _ _ _ _ => pts_nil) (fun _ _ _ _ _ => pe_call (ok_month_length T C) hr (by rfl) T.g_month_length T.F_month_length.kp (b_month_length T) .nil pass0 (pa_cons (pv 0) (pa_cons (pv 3) pa_nil)))) pa_nil))) (pv 2)) pe_int)), ?_⟩
    let ms : List Int := (List.range (m - 1).toNat).map fun (i : Nat) => mlen y (1 + (i : Int))
    have L : EvL (tLc (iRng2 (tCons (tC (.int 1)) (tCons (tVar 1) tNil))) (gName 3) tYes (tCall (spX okMlen) [] E0 (tCons (tVar 0) (tCons (tVar 3) tNil))) [3]) [some (.int y), some (.int m), some (.int d), none] H (iv ms) := by
      refine el_rng2 (lo := 1) (hi := m) (ea_cons ev_c (ea_cons (ev_var rfl) ea_nil)) ⟨by decide, by decide, by omega, by omega⟩ ?_ ?_ fun i v hv => ?_
      · show (List.map _ (List.map _ _)).length = _
        simp
      · show (List.map _ (List.map _ _)).length ≤ _
        simp
        omega
      · unfold iv at hv
        rw [List.getElem?_map, List.getElem?_map] at hv
        by_cases lt : i < (m - 1).toNat
        · rw [List.getElem?_eq_getElem (by simpa using lt)] at hv
          have ev : v = .int (mlen y (1 + (i : Int))) := by simpa using hv.symm
          rw [ev]
          exact ev_sp stb_mlen (ea_cons (ev_var rfl) (ea_cons (ev_var rfl) ea_nil)) ⟨y, 1 + (i : Int), rfl, by omega, by omega, rfl⟩
        · rw [List.getElem?_eq_none (by simpa using lt)] at hv
          cases hv
    refine s_ret (σ := [some (.int y), some (.int m), some (.int d), none]) (v := .int (dto y m d)) (ev_op (ev_op (ev_op (ev_sp stb_da (ea_cons (ev_var rfl) ea_nil) ⟨y, rfl, rfl⟩) (ev_is (ev_sum L) rfl) rv_I0) (ev_var rfl) rv_I0) ev_c rv_I0) q
end
end Kx

set_option Elab.async false
set_option linter.all false
set_option maxRecDepth 100000
set_option maxHeartbeats 400000
namespace Kx
open PySem PySem.Spec PyProof.Rows L2 Evl
def D.i : D → Int
  | .int i => i
  | _ => 0
def D.isDt : D → Bool
  | .tup [a, b, c] => (isBetw a 1 big && isBetw b 1 12) && isBetw c 1 (mlen a.i b.i)
  | _ => false
def D.num : D → Int
  | .tup [a, b, c] => dto a.i b.i c.i
  | _ => 0
theorem betw_int {d : D} {lo hi : Int} (h : isBetw d lo hi = true) : d = .int d.i ∧ lo ≤ d.i ∧ d.i ≤ hi := by
  cases d with
  | int i =>
    unfold isBetw at h
    rw [Bool.and_eq_true] at h
    exact ⟨rfl, of_decide_eq_true h.1, of_decide_eq_true h.2⟩
  | _ => cases h
theorem dt_shape {d : D} (h : d.isDt = true) : ∃ y m e, d = .tup [.int y, .int m, .int e] ∧ isD y m e := by
  cases d with
  | tup ds =>
    match ds, h with
    | [a, b, c], h =>
      have h : ((isBetw a 1 big && isBetw b 1 12) && isBetw c 1 (mlen a.i b.i)) = true := h
      simp only [Bool.and_eq_true] at h
      obtain ⟨⟨h1, h2⟩, h3⟩ := h
      obtain ⟨e1, a1, a2⟩ := betw_int h1
      obtain ⟨e2, b1, b2⟩ := betw_int h2
      obtain ⟨e3, c1, c2⟩ := betw_int h3
      exact ⟨a.i, b.i, c.i, by rw [← e1, ← e2, ← e3], a1, a2, b1, b2, c1, c2⟩
    | [], h | [_], h | [_, _], h | _ :: _ :: _ :: _ :: _, h => cases h
  | _ => cases h
theorem betw_of {i lo hi : Int} (h1 : lo ≤ i) (h2 : i ≤ hi) : isBetw (.int i) lo hi = true := by
  show (decide (lo ≤ i) && decide (i ≤ hi)) = true
  rw [decide_eq_true h1, decide_eq_true h2]
  rfl
theorem dt_of {y m e : Int} (h : isD y m e) : D.isDt (.tup [.int y, .int m, .int e]) = true := by
  obtain ⟨a1, a2, b1, b2, c1, c2⟩ := h
  show ((isBetw (.int y) 1 big && isBetw (.int m) 1 12) && isBetw (.int e) 1 (mlen y m)) = true
  rw [betw_of a1 a2, betw_of b1 b2, betw_of c1 c2]
  rfl
def okYear : OkF := fun vs H z => ∃ v d, vs = [v] ∧ Rep H v d ∧ z = .bl (isBetw d 1 big)
def okDate : OkF := fun vs H z => ∃ v d, vs = [v] ∧ Rep H v d ∧ z = .bl d.isDt
def okDn : OkF := fun vs H z => ∃ v d, vs = [v] ∧ Rep H v d ∧ z = .bl (isBetw d 0 (da (big + 1) - 1))
theorem stb_year : Stb okYear := fun _ _ _ _ e ⟨v, d, h1, h2, h3⟩ => ⟨v, d, h1, h2.up e, h3⟩
theorem stb_date : Stb okDate := fun _ _ _ _ e ⟨v, d, h1, h2, h3⟩ => ⟨v, d, h1, h2.up e, h3⟩
theorem stb_dn : Stb okDn := fun _ _ _ _ e ⟨v, d, h1, h2, h3⟩ => ⟨v, d, h1, h2.up e, h3⟩
def okCk (c : Addr) : OkO := fun vs H o => ∃ v d, vs = [v] ∧ Rep H v d ∧ o = if d.isDt = true then .ret .non else .exc c
def okNo (c : Addr) : OkO := fun vs H o => ∃ v d, vs = [v] ∧ Rep H v d ∧ o = if d.isDt = true then .ret (.int d.num) else .exc c
section
variable {P : Program} {w : World} {K : PySem.W.Frag} {mg : Str → Option Value} {base : Heap} (T : Txt K mg) (C : Cs K mg)
include C in
theorem ok_is_year : FnOk P w K mg base CX0 2 T.a_is_year T.d_is_year ["value"] (spX okYear) := by
  refine T.F_is_year.ok sc_is_year (fun vs H Q E h => ?_) (fun cdv A outer s H vs Q E hr h => ?_)
  · obtain ⟨z, ⟨v, d, rfl, _⟩, _⟩ := h
    rfl
  · obtain ⟨z, ⟨v, d, rfl, hv, rfl⟩, q⟩ := h
    refine ⟨_, pss_one (ps_ret (pe_call (ok_is_between T) hr (by rfl) T.g_is_between T.F_is_between.kp (b_is_between T) .nil pass0 (pa_cons (pv 0) (pa_cons pe_int (pa_cons (pe_glob (v := .int big) (by rfl) C.g_LAST ⟨C.tL, rfl⟩) pa_nil))))), ?_⟩
    exact s_ret (ev_sp stb_betw (ea_cons (ev_var rfl) (ea_cons ev_c (ea_cons ev_c ea_nil))) ⟨v, d, 1, big, rfl, hv, rfl⟩) q
include C in
theorem ok_is_date_number : FnOk P w K mg base CX0 2 T.a_is_date_number T.d_is_date_number ["value"] (spX okDn) := by
  refine T.F_is_date_number.ok sc_is_date_number (fun vs H Q E h => ?_) (fun cdv A outer s H vs Q E hr h => ?_)
  · obtain ⟨z, ⟨v, d, rfl, _⟩, _⟩ := h
    rfl
  · obtain ⟨z, ⟨v, d, rfl, hv, rfl⟩, q⟩ := h
    refine ⟨_, pss_one (ps_ret (pe_call (ok_is_between T) hr (by rfl) T.g_is_between T.F_is_between.kp (b_is_between T) .nil pass0 (pa_cons (pv 0) (pa_cons pe_int (pa_cons (pe_op op_sub (pe_call (ok_days_ahead T) hr (by rfl) T.g_days_ahead T.F_days_ahead.kp (b_days_ahead T) .nil pass0 (pa_cons (pe_op op_add (pe_glob (v := .int big) (by rfl) C.g_LAST ⟨C.tL, rfl⟩) pe_int) pa_nil)) pe_int) pa_nil))))), ?_⟩
    exact s_ret (ev_sp stb_betw (ea_cons (ev_var rfl) (ea_cons ev_c (ea_cons (ev_op (ev_sp stb_da (ea_cons (ev_op ev_c ev_c rv_I0) ea_nil) ⟨big + 1, rfl, rfl⟩) ev_c rv_I0) ea_nil))) ⟨v, d, 0, da (big + 1) - 1, rfl, hv, rfl⟩) q
include C in
theorem ok_is_date : FnOk P w K mg base CX0 3 T.a_is_date T.d_is_date ["value"] (spX okDate) := by
  refine T.F_is_date.ok sc_is_date (fun vs H Q E h => ?_) (fun cdv A outer s H vs Q E hr h => ?_)
  · obtain ⟨z, ⟨v, d, rfl, _⟩, _⟩ := h
    rfl
  · obtain ⟨z, ⟨v, d, rfl, hv, rfl⟩, q⟩ := h
    have r1 : Room 1 (A.deeper (envOfC "is_date" (defScope s_is_date) s.heap.objs.size T.a_is_date cdv)) := hr.mono (by decide)
    refine ⟨_, pss_cons (ps_if (PW.pt (pw_or (pt_not (pt_val (pe_call (ok_is_tuple T) r1 (by rfl) T.g_is_tuple T.F_is_tuple.kp (b_is_tuple T) .nil pass0 (pa_cons (pv 0) (pa_cons pe_int (pa_cons pe_int pa_nil))))))
        (pw_or (pt_not (pt_val (pe_call (ok_is_between T) r1 (by rfl) T.g_is_between T.F_is_between.kp (b_is_between T) .nil pass0 (pa_cons (pe_ix (r := rIxT K) ix_tup (pv 0) pe_int (fun _ _ => rfl)) (pa_cons pe_int (pa_cons (pe_glob (v := .int big) (by rfl) C.g_LAST ⟨C.tL, rfl⟩) pa_nil))))))
          (pw_or1 (pt_not (pt_val (pe_call (ok_is_between T) r1 (by rfl) T.g_is_between T.F_is_between.kp (b_is_between T) .nil pass0 (pa_cons (pe_ix (r := rIxT K) ix_tup (pv 0) pe_int (fun _ _ => rfl)) (pa_cons pe_int (pa_cons pe_int pa_nil)))))))))) (pss_one (ps_ret pe_bl)) pss_nil)
      (pss_one (ps_ret (pe_call (ok_is_between T) r1 (by rfl) T.g_is_between T.F_is_between.kp (b_is_between T) .nil pass0 (pa_cons (pe_ix (r := rIxT K) ix_tup (pv 0) pe_int (fun _ _ => rfl)) (pa_cons pe_int (pa_cons (pe_call (ok_month_length T C) hr (by rfl) T.g_month_length T.F_month_length.kp (b_month_length T) .nil pass0 (pa_cons (pe_ix (r := rIxT K) ix_tup (pv 0) pe_int (fun _ _ => rfl)) (pa_cons (pe_ix (r := rIxT K) ix_tup (pv 0) pe_int (fun _ _ => rfl)) pa_nil))) pa_nil)))))), ?_⟩
    have tup3 : EvT (tB (tCall (spX okTup) [] E0 (tCons (tVar 0) (tCons (tC (.int 3)) (tCons (tC (.int 3)) tNil))))) (L2.start ["value"] [v]) H (isTup d 3 3) :=
      et_B (ev_sp stb_tup (ea_cons (ev_var rfl) (ea_cons ev_c (ea_cons ev_c ea_nil))) ⟨_, _, 3, 3, rfl, hv, rfl⟩)
    by_cases ht : isTup d 3 3 = true
    · obtain ⟨a, b, c, rfl⟩ : ∃ a b c, d = .tup [a, b, c] := by
        cases d with
        | tup ds =>
          have hl : ds.length = 3 := by
            unfold isTup at ht
            rw [Bool.and_eq_true] at ht
            have h1 := of_decide_eq_true ht.1
            have h2 := of_decide_eq_true ht.2
            omega
          match ds, hl with
          | [a, b, c], _ => exact ⟨a, b, c, rfl⟩
        | _ => cases ht
      obtain ⟨p, us, rfl, hp, hs⟩ := hv.tupD
      cases hs with
      | cons ra hs => cases hs with
        | cons rb hs => cases hs with
          | cons rc hs =>
            cases hs
            refine s_ifX (b := !(isBetw a 1 big && isBetw b 1 12)) (et_is (et_or (a := false) (b := !(isBetw a 1 big && isBetw b 1 12)) (et_is (et_not tup3) (by rw [ht]; rfl)) fun _ => et_is (et_or (et_not (et_B (ev_sp stb_betw (ea_cons (ev_ixT (j := 0) (ev_var rfl) hp rfl) (ea_cons ev_c (ea_cons ev_c ea_nil))) ⟨_, a, 1, big, rfl, ra, rfl⟩))) fun _ =>
              et_not (et_B (ev_sp stb_betw (ea_cons (ev_ixT (j := 1) (ev_var rfl) hp rfl) (ea_cons ev_c (ea_cons ev_c ea_nil))) ⟨_, b, 1, 12, rfl, rb, rfl⟩))) (Bool.not_and _ _).symm) (Bool.false_or _)) (fun hb H1 e1 => ?_) (fun hb H1 e1 => ?_)
            · refine s_ret (v := .bl false) ev_c fun H2 e2 => ?_
              have z : D.isDt (.tup [a, b, c]) = false := by
                show ((isBetw a 1 big && isBetw b 1 12) && isBetw c 1 (mlen a.i b.i)) = false
                rw [not_t hb]
                rfl
              rw [z] at q
              exact q H2 (e1.trans e2)
            · have hb2 := not_f hb
              obtain ⟨h1, h2⟩ := (Bool.and_eq_true _ _).mp hb2
              obtain ⟨ea, a1, a2⟩ := betw_int h1
              obtain ⟨eb, b1, b2⟩ := betw_int h2
              have z : D.isDt (.tup [a, b, c]) = isBetw c 1 (mlen a.i b.i) := by
                show ((isBetw a 1 big && isBetw b 1 12) && isBetw c 1 (mlen a.i b.i)) = _
                rw [hb2, Bool.true_and]
              rw [z] at q
              rw [ea] at ra
              rw [eb] at rb
              obtain rfl := ra.intD
              obtain rfl := rb.intD
              exact s_ret (ev_sp stb_betw (ea_cons (ev_ixT (j := 2) (ev_var rfl) (hp.up e1) rfl) (ea_cons ev_c (ea_cons (ev_sp stb_mlen (ea_cons (ev_ixT (j := 0) (ev_var rfl) (hp.up e1) rfl) (ea_cons (ev_ixT (j := 1) (ev_var rfl) (hp.up e1) rfl) ea_nil)) ⟨a.i, b.i, rfl, b1, b2, rfl⟩) ea_nil))) ⟨_, c, 1, mlen a.i b.i, rfl, rc.up e1, rfl⟩) fun H2 e2 => q H2 (e1.trans e2)
    · have ht' : isTup d 3 3 = false := by simpa using ht
      refine s_ifX (b := true) (et_is (et_or (a := true) (b := false) (et_is (et_not tup3) (by rw [ht']; rfl)) fun h => by cases h) rfl) (fun hb H1 e => ?_) (fun hb => by cases hb)
      refine s_ret (v := .bl false) ev_c fun H2 e2 => ?_
      have z : d.isDt = false := by
        cases d with
        | tup ds =>
          match ds, ht' with
          | [_, _, _], h => exact absurd h (by simp [isTup])
          | [], _ | [_], _ | [_, _], _ | _ :: _ :: _ :: _ :: _, _ => rfl
        | _ => rfl
      rw [z] at q
      exact q H2 (e.trans e2)
include C in
theorem ok_check_date : FnOk P w K mg base (L2.CX P w) 4 T.a_check_date T.d_check_date ["date"] (spO (okCk T.c_BadDate)) := by
  refine T.F_check_date.okX sc_check_date (fun vs H Q E h => ?_) (fun cdv A outer s H vs Q E hr h => ?_)
  · obtain ⟨o, ⟨v, d, rfl, _⟩, _⟩ := h
    rfl
  · obtain ⟨o, ⟨v, d, rfl, hv, rfl⟩, q⟩ := h
    refine ⟨_, pss_one (ps_if (pt_not (pt_val (pe_call (ok_is_date T C) hr (by rfl) T.g_is_date T.F_is_date.kp (b_is_date T) .nil pass0 (pa_cons (pv 0) pa_nil))))
      (pss_one (ps_raise rfl (takes_of rfl rfl rfl rfl) (pmk_own PySem.F.excBase_ValueError T.E_BadDate.q T.E_BadDate.g T.E_BadDate.kp (raises_own T.E_BadDate.bx T.E_BadDate.ty) rfl))) pss_nil), ?_⟩
    refine s_if (b := !d.isDt) (et_not (et_B (ev_sp stb_date (ea_cons (ev_var rfl) ea_nil) ⟨v, d, rfl, hv, rfl⟩))) (fun hb H1 e => ?_) (fun hb H1 e => ?_)
    · rw [not_t hb] at q
      exact q H1 e
    · rw [not_f hb] at q
      exact q H1 e
include C in
theorem ok_number_of : FnOk P w K mg base (L2.CX P w) 5 T.a_number_of T.d_number_of ["date"] (spO (okNo T.c_BadDate)) := by
  refine T.F_number_of.okX sc_number_of (fun vs H Q E h => ?_) (fun cdv A outer s H vs Q E hr h => ?_)
  · obtain ⟨o, ⟨v, d, rfl, _⟩, _⟩ := h
    rfl
  · obtain ⟨o, ⟨v, d, rfl, hv, rfl⟩, q⟩ := h
    refine ⟨_, pss_cons (ps_expr (pe_call (E := E) (ok_check_date T C) hr (by rfl) T.g_check_date T.F_check_date.kp (b_check_date T) .nil (passes_call (takes_of rfl rfl rfl rfl) fun _ _ _ _ h => h) (pa_cons (pv 0) pa_nil)))
      (pss_one (ps_ret (pe_call (ok_days_to T C) (hr.mono (by decide)) (by rfl) T.g_days_to T.F_days_to.kp (b_days_to T) .nil pass0 (pa_cons (pe_ix (r := rIxT K) ix_tup (pv 0) pe_int (fun _ _ => rfl)) (pa_cons (pe_ix (r := rIxT K) ix_tup (pv 0) pe_int (fun _ _ => rfl)) (pa_cons (pe_ix (r := rIxT K) ix_tup (pv 0) pe_int (fun _ _ => rfl)) pa_nil)))))), ?_⟩
    refine s_callO (o := if d.isDt = true then .ret .non else .exc T.c_BadDate) (ea_cons (ev_var rfl) ea_nil) (fun H1 e1 => ⟨v, d, rfl, hv.up e1, rfl⟩) fun H2 e2 => ?_
    by_cases hd : d.isDt = true
    · rw [if_pos hd] at q ⊢
      obtain ⟨y, m, e, rfl, h⟩ := dt_shape hd
      obtain ⟨p, us, rfl, hp, hs⟩ := (hv.up e2).tupD
      cases hs with
      | cons ra hs => cases hs with
        | cons rb hs => cases hs with
          | cons rc hs =>
            cases hs
            obtain rfl := ra.intD
            obtain rfl := rb.intD
            obtain rfl := rc.intD
            exact s_ret (ev_sp stb_dto (ea_cons (ev_ixT (j := 0) (ev_var rfl) hp rfl) (ea_cons (ev_ixT (j := 1) (ev_var rfl) hp rfl) (ea_cons (ev_ixT (j := 2) (ev_var rfl) hp rfl) ea_nil))) ⟨y, m, e, rfl, h.2.2.1, h.2.2.2.1, rfl⟩) fun H3 e3 => q H3 (e2.trans e3)
    · rw [if_neg hd] at q ⊢
      exact q H2 e2
end
end Kx

set_option Elab.async false
set_option linter.all false
set_option maxRecDepth 100000
set_option maxHeartbeats 400000
namespace Kx
open PySem PySem.Spec PyProof.Rows L2 Evl
theorem da_lo {y : Int} (h : y ≤ 1) : da y ≤ 0 := by unfold da; omega
theorem s_retT {σ : L2.St} {H : Hp} {ta : TA} {vs : List V} {D : Ends} (h : EvA ta σ H vs) (hz : vs.length ≤ 100000) (k : ∀ p H1, Ex H H1 → TupS H1 p vs → D.rt (.ref p) H1) : tRet (tTupF ta) D σ H :=
  h H (Ex.refl _) _ fun H1 e => ⟨sz_of hz, fun p o hp ho => k p _ (e.trans (Ex.new hp)) ⟨o, ho, upd_same⟩⟩
def spAt : Sp := fun vs H Q _ => ∃ n : Int, vs = [.int n] ∧ 0 ≤ n ∧ n < da (big + 1) ∧ ∀ (y m d : Int) (p : Addr) (H' : Hp), Ex H H' → TupS H' p [.int y, .int m, .int d] → isD y m d → dto y m d = n → Q (.ref p) H'
def okYr (y : Int) : V := .str (wordS (wcode y))
def spKind (c : Addr) : Sp := fun vs H Q E => ∃ v d, vs = [v] ∧ Rep H v d ∧ (isBetw d 1 big = true → ∀ p H', Ex H H' → TupS H' p [.int (kindP d.i).1, .str (wordS (kindP d.i).2)] → Q (.ref p) H') ∧ (isBetw d 1 big = false → ∀ H', Ex H H' → E (.ref c) none H')
def spOf (c : Addr) : Sp := fun vs H Q E => ∃ v d, vs = [v] ∧ Rep H v d ∧ (isBetw d 0 (da (big + 1) - 1) = true → ∀ (y m e : Int) (p : Addr) (H' : Hp), Ex H H' → TupS H' p [.int y, .int m, .int e] → isD y m e → dto y m e = d.i → Q (.ref p) H') ∧ (isBetw d 0 (da (big + 1) - 1) = false → ∀ H', Ex H H' → E (.ref c) none H')
section
variable {P : Program} {w : World} {K : PySem.W.Frag} {mg : Str → Option Value} {base : Heap} (T : Txt K mg) (C : Cs K mg)
include C in
theorem ok_date_at : FnOk P w K mg base CX0 3 T.a_date_at T.d_date_at ["number"] spAt := by
  refine T.F_date_at.ok sc_date_at (fun vs H Q E h => ?_) (fun cdv A outer s H vs Q E hr h => ?_)
  · obtain ⟨n, rfl, _⟩ := h
    rfl
  · obtain ⟨n, rfl, n0, n1, q⟩ := h
    have nd := sc_date_at.nd
    have r1 : Room 1 (A.deeper (envOfC "date_at" (defScope s_date_at) s.heap.objs.size T.a_date_at cdv)) := hr.mono (by decide)
    refine ⟨_, pss_cons (ps_set (i := 1) nd rfl (.inl rfl) (pe_op op_add (pe_op op_fdiv (pe_op op_mul (pv 0) pe_int) pe_int) pe_int))
      (pss_cons (ps_while PassesOwn.never (pt_cmpR op_gt (pe_call (ok_days_ahead T) r1 (by rfl) T.g_days_ahead T.F_days_ahead.kp (b_days_ahead T) .nil pass0 (pa_cons (pv 1) pa_nil)) (pv 0) (nomark _)) (pss_one (ps_aug (i := 1) nd rfl (.inl rfl) pe_int ip_sub)))
      (pss_cons (ps_while PassesOwn.never (pt_cmpR op_le (pe_call (ok_days_ahead T) r1 (by rfl) T.g_days_ahead T.F_days_ahead.kp (b_days_ahead T) .nil pass0 (pa_cons (pe_op op_add (pv 1) pe_int) pa_nil)) (pv 0) (nomark _)) (pss_one (ps_aug (i := 1) nd rfl (.inl rfl) pe_int ip_add)))
      (pss_cons (ps_set (i := 2) nd rfl (.inl rfl) (pe_op op_sub (pv 0) (pe_call (ok_days_ahead T) r1 (by rfl) T.g_days_ahead T.F_days_ahead.kp (b_days_ahead T) .nil pass0 (pa_cons (pv 1) pa_nil))))
      (pss_cons (ps_set (i := 3) nd rfl (.inl rfl) pe_int)
      (pss_cons (ps_while PassesOwn.never (pt_cmpR op_ge (pv 2) (pe_call (ok_month_length T C) hr (by rfl) T.g_month_length T.F_month_length.kp (b_month_length T) .nil pass0 (pa_cons (pv 1) (pa_cons (pv 3) pa_nil))) (nomark _))
        (pss_cons (ps_aug (i := 2) nd rfl (.inl rfl) (pe_call (ok_month_length T C) hr (by rfl) T.g_month_length T.F_month_length.kp (b_month_length T) .nil pass0 (pa_cons (pv 1) (pa_cons (pv 3) pa_nil))) ip_sub)
        (pss_one (ps_aug (i := 3) nd rfl (.inl rfl) pe_int ip_add))))
      (pss_one (ps_ret (pe_tupF (pa_cons (pv 1) (pa_cons (pv 3) (pa_cons (pe_op op_add (pv 2) pe_int) pa_nil))))))))))), ?_⟩
    have day : ∀ {σ : L2.St} {H1 : Hp} {te : TE} {y : Int}, Ev te σ H1 (.int y) → Ev (tCall (spX okDa) [] E0 (tCons te tNil)) σ H1 (.int (da y)) := fun {σ H1 te y} h => ev_sp stb_da (ea_cons h ea_nil) ⟨y, rfl, rfl⟩
    refine q_asg (σ := [some (.int n), none, none, none]) (v := .int (n * 400 / 146097 + 1)) (ev_op (ev_op (ev_op (ev_var rfl) ev_c (rv_I (.inr ⟨by decide, by decide⟩))) ev_c (rv_I ⟨by decide, by decide⟩)) ev_c rv_I0) fun H1 e1 => ?_
    have y1 : 1 ≤ n * 400 / 146097 + 1 := by omega
    -- down to a year that has begun
    refine q_while (fun m σ' H' => ∃ y : Int, σ' = [some (.int n), some (.int y), none, none] ∧ 1 ≤ y ∧ m = y.toNat ∧ Ex H H') (n * 400 / 146097 + 1).toNat ⟨_, rfl, y1, rfl, e1⟩ fun m σ' H' hw => ?_
    obtain ⟨y, rfl, y0, rfl, e2⟩ := hw
    refine ⟨decide (n < da y), et_test (ev_op (day (ev_var rfl)) (ev_var rfl) rv_I0), fun hb H3 e3 => ?_, fun hb H3 e3 => ?_⟩
    · have lt := of_decide_eq_true hb
      have y2 : 2 ≤ y := by
        rcases Int.lt_or_le y 2 with z | z
        · have := da_lo (show y ≤ 1 by omega)
          omega
        · exact z
      refine ⟨fun σ2 H2 => σ2 = [some (.int n), some (.int (y - 1)), none, none] ∧ Ex H H2, fun σ2 H2 h2 => ⟨(y - 1).toNat, by omega, y - 1, h2.1, by omega, rfl, h2.2⟩, ?_⟩
      exact s_aug (D := { nx := _, rt := _, ct := _, bk := _ }) rfl ev_c fun H4 e4 => ⟨rfl, (e2.trans e3).trans e4⟩
    have le1 : da y ≤ n := Int.not_lt.mp (of_decide_eq_false hb)
    have E3 := e2.trans e3
    -- up to the last one that has
    refine q_while (fun m σ' H' => ∃ z : Int, σ' = [some (.int n), some (.int z), none, none] ∧ 1 ≤ z ∧ da z ≤ n ∧ m = (big + 1 - z).toNat ∧ Ex H H') (big + 1 - y).toNat ⟨_, rfl, y0, le1, rfl, E3⟩ fun m σ' H' hw => ?_
    obtain ⟨z, rfl, z0, zle, rfl, e4⟩ := hw
    have zb : z ≤ big := by
      rcases Int.lt_or_le big z with u | u
      · have := da_mono (show big + 1 ≤ z by omega)
        omega
      · exact u
    refine ⟨decide (da (z + 1) ≤ n), et_test (ev_op (day (ev_op (ev_var rfl) ev_c rv_I0)) (ev_var rfl) rv_I0), fun hb2 H5 e5 => ?_, fun hb2 H5 e5 => ?_⟩
    · have le2 := of_decide_eq_true hb2
      refine ⟨fun σ2 H2 => σ2 = [some (.int n), some (.int (z + 1)), none, none] ∧ Ex H H2, fun σ2 H2 h2 => ⟨(big + 1 - (z + 1)).toNat, by omega, z + 1, h2.1, by omega, le2, rfl, h2.2⟩, ?_⟩
      exact s_aug (D := { nx := _, rt := _, ct := _, bk := _ }) rfl ev_c fun H4 e6 => ⟨rfl, (e4.trans e5).trans e6⟩
    have lt3 : n < da (z + 1) := Int.not_le.mp (of_decide_eq_false hb2)
    have E5 := e4.trans e5
    refine q_asg (σ := [some (.int n), some (.int z), none, none]) (v := .int (n - da z)) (ev_op (ev_var rfl) (day (ev_var rfl)) rv_I0) fun H6 e6 => ?_
    refine q_asg (σ := [some (.int n), some (.int z), some (.int (n - da z)), none]) (v := .int 1) ev_c fun H7 e7 => ?_
    have E7 := (E5.trans e6).trans e7
    refine q_while (fun k σ' H' => ∃ m l : Int, σ' = [some (.int n), some (.int z), some (.int l), some (.int m)] ∧ 1 ≤ m ∧ m ≤ 12 ∧ 0 ≤ l ∧ l + cum z (m - 1).toNat = n - da z ∧ k = (12 - m).toNat ∧ Ex H H') 11 ⟨1, n - da z, rfl, by decide, by decide, by omega, by rw [show (1 - 1 : Int).toNat = 0 from rfl, (cum_at z).1]; omega, rfl, E7⟩ fun k σ' H' hw => ?_
    obtain ⟨m, l, rfl, m1, m2, l0, sum, rfl, e8⟩ := hw
    have ml : ∀ {H9 : Hp}, Ev (tCall (spX okMlen) [] E0 (tCons (tVar 1) (tCons (tVar 3) tNil))) [some (.int n), some (.int z), some (.int l), some (.int m)] H9 (.int (mlen z m)) := fun {H9} => ev_sp stb_mlen (ea_cons (ev_var rfl) (ea_cons (ev_var rfl) ea_nil)) ⟨z, m, rfl, m1, m2, rfl⟩
    have step := cum_step (y := z) m1 m2
    refine ⟨decide (mlen z m ≤ l), et_test (ev_op (ev_var rfl) ml rv_I0), fun hb3 H9 e9 => ?_, fun hb3 H9 e9 => ?_⟩
    · have le4 := of_decide_eq_true hb3
      have m11 : m ≤ 11 := by
        rcases Int.lt_or_le m 12 with u | u
        · omega
        · exfalso
          obtain rfl : m = 12 := by omega
          have c12 := (cum_at z).2.2.2.2.2.2.2.2.2.2.2.2
          have ds := da_succ z
          rw [show (12 : Int).toNat = 12 from rfl] at step
          omega
      refine ⟨fun σ2 H2 => σ2 = [some (.int n), some (.int z), some (.int (l - mlen z m)), some (.int (m + 1))] ∧ Ex H H2, fun σ2 H2 h2 => ⟨(12 - (m + 1)).toNat, by omega, m + 1, l - mlen z m, h2.1, by omega, by omega, by omega, by rw [show (m + 1 - 1 : Int) = m by omega]; omega, rfl, h2.2⟩, ?_⟩
      refine q_aug (σ := [some (.int n), some (.int z), some (.int l), some (.int m)]) rfl ml fun H10 e10 => ?_
      exact s_aug (σ := [some (.int n), some (.int z), some (.int (l - mlen z m)), some (.int m)]) rfl ev_c fun H11 e11 => ⟨rfl, ((e8.trans e9).trans e10).trans e11⟩
    · have lt5 : l < mlen z m := Int.not_le.mp (of_decide_eq_false hb3)
      refine s_retT (vs := [.int z, .int m, .int (l + 1)]) (ea_cons (ev_var rfl) (ea_cons (ev_var rfl) (ea_cons (ev_op (z := .int (l + 1)) (ev_var rfl) ev_c rv_I0) ea_nil))) (by show 3 ≤ 100000; decide) fun p H10 e10 hp => ?_
      refine q z m (l + 1) p _ ((e8.trans e9).trans e10) hp ⟨z0, zb, m1, m2, by omega, by omega⟩ ?_
      unfold dto
      omega
include C in
theorem ok_date_of : FnOk P w K mg base (L2.CX P w) 4 T.a_date_of T.d_date_of ["number"] (spOf T.c_BadNumber) := by
  refine T.F_date_of.okX sc_date_of (fun vs H Q E h => ?_) (fun cdv A outer s H vs Q E hr h => ?_)
  · obtain ⟨v, d, rfl, _⟩ := h
    rfl
  · obtain ⟨v, d, rfl, hv, q, qe⟩ := h
    refine ⟨_, pss_cons (ps_if (pt_not (pt_val (pe_call (ok_is_date_number T C) (hr.mono (by decide)) (by rfl) T.g_is_date_number T.F_is_date_number.kp (b_is_date_number T) .nil pass0 (pa_cons (pv 0) pa_nil))))
        (pss_one (ps_raise rfl (takes_of rfl rfl rfl rfl) (pmk_own PySem.F.excBase_ValueError T.E_BadNumber.q T.E_BadNumber.g T.E_BadNumber.kp (raises_own T.E_BadNumber.bx T.E_BadNumber.ty) rfl))) pss_nil)
      (pss_one (ps_ret (pe_call (ok_date_at T C) hr (by rfl) T.g_date_at T.F_date_at.kp (b_date_at T) .nil pass0 (pa_cons (pv 0) pa_nil)))), ?_⟩
    refine s_ifX (b := !isBetw d 0 (da (big + 1) - 1)) (et_not (et_B (ev_sp stb_dn (ea_cons (ev_var rfl) ea_nil) ⟨v, d, rfl, hv, rfl⟩))) (fun hb H1 e1 => ?_) (fun hb H1 e1 => ?_)
    · exact qe (not_t hb) H1 e1
    · have hb2 := not_f hb
      obtain ⟨ed, n0, n1⟩ := betw_int hb2
      rw [ed] at hv
      obtain rfl := hv.intD
      exact ⟨_, rfl, d.i, rfl, n0, by omega, fun y m e p H2 e2 hp hd he => q hb2 y m e p H2 (e1.trans e2) hp hd he⟩
include C in
theorem ok_kind_of : FnOk P w K mg base (L2.CX P w) 3 T.a_kind_of T.d_kind_of ["year"] (spKind T.c_BadYear) := by
  refine T.F_kind_of.okX sc_kind_of (fun vs H Q E h => ?_) (fun cdv A outer s H vs Q E hr h => ?_)
  · obtain ⟨v, d, rfl, _⟩ := h
    rfl
  · obtain ⟨v, d, rfl, hv, q, qe⟩ := h
    have nd := sc_kind_of.nd
    have r1 : Room 1 (A.deeper (envOfC "kind_of" (defScope s_kind_of) s.heap.objs.size T.a_kind_of cdv)) := hr.mono (by decide)
    refine ⟨_, pss_cons (ps_if (pt_not (pt_val (pe_call (ok_is_year T C) hr (by rfl) T.g_is_year T.F_is_year.kp (b_is_year T) .nil pass0 (pa_cons (pv 0) pa_nil))))
        (pss_one (ps_raise rfl (takes_of rfl rfl rfl rfl) (pmk_own PySem.F.excBase_ValueError T.E_BadYear.q T.E_BadYear.g T.E_BadYear.kp (raises_own T.E_BadYear.bx T.E_BadYear.ty) rfl))) pss_nil)
      (pss_cons (ps_set (i := 1) nd rfl (.inl rfl) (pe_call (ok_weekday_of T) r1 (by rfl) T.g_weekday_of T.F_weekday_of.kp (b_weekday_of T) .nil pass0 (pa_cons (pe_call (ok_days_ahead T) r1 (by rfl) T.g_days_ahead T.F_days_ahead.kp (b_days_ahead T) .nil pass0 (pa_cons (pv 0) pa_nil)) pa_nil)))
      (pss_cons (ps_if (pt_val (pe_call (ok_is_leap T) r1 (by rfl) T.g_is_leap T.F_is_leap.kp (b_is_leap T) .nil pass0 (pa_cons (pv 0) pa_nil))) (pss_one (ps_ret (pe_tupF (pa_cons (pv 1) (pa_cons pe_str pa_nil))))) pss_nil)
      (pss_cons (ps_if (pt_val (pe_call (ok_is_leap T) r1 (by rfl) T.g_is_leap T.F_is_leap.kp (b_is_leap T) .nil pass0 (pa_cons (pe_op op_sub (pv 0) pe_int) pa_nil))) (pss_one (ps_ret (pe_tupF (pa_cons (pv 1) (pa_cons pe_str pa_nil))))) pss_nil)
      (pss_one (ps_ret (pe_tupF (pa_cons (pv 1) (pa_cons (pe_ifExp (pt_val (pe_call (ok_is_leap T) r1 (by rfl) T.g_is_leap T.F_is_leap.kp (b_is_leap T) .nil pass0 (pa_cons (pe_op op_add (pv 0) pe_int) pa_nil))) pe_str pe_str) pa_nil)))))))), ?_⟩
    refine s_ifX (b := !isBetw d 1 big) (et_not (et_B (ev_sp stb_year (ea_cons (ev_var rfl) ea_nil) ⟨v, d, rfl, hv, rfl⟩))) (fun hb H1 e1 => ?_) (fun hb H1 e1 => ?_)
    · exact qe (not_t hb) H1 e1
    · have hb2 := not_f hb
      obtain ⟨ed, n0, n1⟩ := betw_int hb2
      rw [ed] at hv
      obtain rfl := hv.intD
      have q := q hb2
      have lp : ∀ {σ : L2.St} {H1 : Hp} {te : TE} {y : Int}, Ev te σ H1 (.int y) → EvT (tB (tCall (spX okLeap) [] E0 (tCons te tNil))) σ H1 (leap y) := fun {σ H1 te y} h => et_B (ev_sp stb_leap (ea_cons h ea_nil) ⟨y, rfl, rfl⟩)
      refine s_asgX (σ := [some (.int d.i), none]) (v := .int (da d.i % 7)) (ev_sp stb_wd (ea_cons (ev_sp stb_da (ea_cons (ev_var rfl) ea_nil) ⟨d.i, rfl, rfl⟩) ea_nil) ⟨da d.i, rfl, rfl⟩) fun H2 e2 => ?_
      have fin : ∀ {ta : TA} {H3 : Hp} {s : Str} {D : Ends}, Ex H H3 → D.rt = Q → s = wordS (wcode d.i) → EvA ta [some (.int d.i), some (.int (da d.i % 7))] H3 [.int (da d.i % 7), .str s] → tRet (tTupF ta) D [some (.int d.i), some (.int (da d.i % 7))] H3 := fun {ta H3 s D} e3 hD hs h =>
        s_retT h (by show 2 ≤ 100000; decide) fun p H4 e4 hp => by
          rw [hD]
          subst hs
          exact q p H4 (e3.trans e4) hp
      refine s_ifX (σ := [some (.int d.i), some (.int (da d.i % 7))]) (b := leap d.i) (lp (ev_var rfl)) (fun h0 H3 e3 => ?_) (fun h0 H3 e3 => ?_)
      · exact fin (s := "leap") ((e1.trans e2).trans e3) rfl (by unfold wcode; rw [if_pos h0]; rfl) (ea_cons (ev_var rfl) (ea_cons ev_c ea_nil))
      refine s_ifX (σ := [some (.int d.i), some (.int (da d.i % 7))]) (b := leap (d.i - 1)) (lp (ev_op (ev_var rfl) ev_c rv_I0)) (fun h1 H4 e4 => ?_) (fun h1 H4 e4 => ?_)
      · exact fin (s := "behind") (((e1.trans e2).trans e3).trans e4) rfl (by unfold wcode; rw [if_neg (by rw [h0]; exact Bool.false_ne_true), if_pos h1]; rfl) (ea_cons (ev_var rfl) (ea_cons ev_c ea_nil))
      have w0 : wcode d.i = if leap (d.i + 1) = true then 2 else 3 := by unfold wcode; rw [if_neg (by rw [h0]; exact Bool.false_ne_true), if_neg (by rw [h1]; exact Bool.false_ne_true)]
      refine fin (((e1.trans e2).trans e3).trans e4) rfl rfl (ea_cons (ev_var rfl) (ea_cons (ev_if (b := leap (d.i + 1)) (lp (ev_op (ev_var rfl) ev_c rv_I0)) (fun h2 => ?_) (fun h2 => ?_)) ea_nil))
      · rw [w0, if_pos h2]
        exact ev_c
      · rw [w0, if_neg (by rw [h2]; exact Bool.false_ne_true)]
        exact ev_c
end
end Kx

set_option Elab.async false
set_option linter.all false
set_option maxRecDepth 100000
set_option maxHeartbeats 400000
namespace Kx
open PySem PySem.Spec PyProof.Rows L2 Evl
theorem q_par {σ : L2.St} {H : Hp} {i j : Nat} {ta : TA} {v w : V} {u : TS} {D : Ends} (h : EvA ta σ H [v, w]) (k : ∀ H1, Ex H H1 → u D ((σ.set i (some v)).set j (some w)) H1) : tSeq (tPar i j ta) u D σ H := h H (Ex.refl _) _ fun H1 e => ⟨v, w, rfl, k H1 e⟩
def okLl : OkF := fun vs H z => ∃ y, vs = [.int y] ∧ z = .bl (leap y)
def okLm : OkF := fun vs H z => ∃ y m, vs = [.int y, .int m] ∧ 1 ≤ m ∧ m ≤ 12 ∧ z = .int (mlen y m)
def okLn (K : PySem.W.Frag) : OkF := fun vs H z => ∃ p y m d, vs = [.ref p] ∧ TupS H p [.int y, .int m, .int d] ∧ 1 ≤ m ∧ m ≤ 12 ∧ z = .int (dto y m d)
theorem stb_ll : Stb okLl := fun _ _ _ _ _ h => h
theorem stb_lm : Stb okLm := fun _ _ _ _ _ h => h
theorem stb_ln {K : PySem.W.Frag} : Stb (okLn K) := fun _ _ _ _ e ⟨p, y, m, d, h1, h2, h3⟩ => ⟨p, y, m, d, h1, h2.up e, h3⟩
/-- the day behind a day -/
def nextD (y m d : Int) : Int × Int × Int := if d < mlen y m then (y, m, d + 1) else if m < 12 then (y, m + 1, 1) else (y + 1, 1, 1)
theorem nextD_ok {y m d : Int} (h : isD y m d) : ∃ y' m' d', nextD y m d = (y', m', d') ∧ 1 ≤ y' ∧ y' ≤ big + 1 ∧ 1 ≤ m' ∧ m' ≤ 12 ∧ 1 ≤ d' ∧ d' ≤ mlen y' m' ∧ dto y' m' d' = dto y m d + 1 ∧ (y' = big + 1 → m' = 1 ∧ d' = 1) := by
  obtain ⟨y0, y1, m1, m2, d1, d2⟩ := h
  unfold nextD
  have step := cum_step (y := y) m1 m2
  by_cases a : d < mlen y m
  · rw [if_pos a]
    exact ⟨_, _, _, rfl, y0, by omega, m1, m2, by omega, by omega, by unfold dto; omega, by omega⟩
  · rw [if_neg a]
    by_cases b : m < 12
    · rw [if_pos b]
      have := mlen_pos (y := y) (m := m + 1) (by omega) (by omega)
      refine ⟨_, _, _, rfl, y0, by omega, by omega, by omega, by omega, by omega, ?_, by omega⟩
      unfold dto
      rw [show (m + 1 - 1 : Int) = m by omega]
      omega
    · rw [if_neg b]
      obtain rfl : m = 12 := by omega
      have := mlen_pos (y := y + 1) (m := 1) (by omega) (by omega)
      refine ⟨_, _, _, rfl, by omega, by omega, by omega, by omega, by omega, by omega, ?_, fun _ => ⟨rfl, rfl⟩⟩
      have c12 := (cum_at y).2.2.2.2.2.2.2.2.2.2.2.2
      have ds := da_succ y
      rw [show (12 : Int).toNat = 12 from rfl] at step
      unfold dto
      rw [show (1 - 1 : Int).toNat = 0 from rfl, (cum_at (y + 1)).1]
      omega
section
variable {P : Program} {w : World} {K : PySem.W.Frag} {mg : Str → Option Value} {base : Heap} (T : Txt K mg) (C : Cs K mg)
theorem ok_law_leap : FnOk P w K mg base CX0 1 T.a_law_leap T.d_law_leap ["year"] (spX okLl) := by
  refine T.F_law_leap.ok sc_law_leap (fun vs H Q E h => ?_) (fun cdv A outer s H vs Q E hr h => ?_)
  · obtain ⟨z, ⟨y, rfl, _⟩, _⟩ := h
    rfl
  · obtain ⟨z, ⟨y, rfl, rfl⟩, q⟩ := h
    refine ⟨_, pss_one (ps_ret (pe_or (pe_cmpR op_eq (pe_op op_mod (pe_callTy call_int1 (by rfl) T.z_int bo_int (pa_cons (pv 0) pa_nil)) pe_int) pe_int (nomark _)) (pe_one (pe_and (pe_cmpR op_eq (pe_op op_mod (pe_callTy call_int1 (by rfl) T.z_int bo_int (pa_cons (pv 0) pa_nil)) pe_int) pe_int (nomark _)) (pe_one (pe_cmpR op_ne (pe_op op_mod (pe_callTy call_int1 (by rfl) T.z_int bo_int (pa_cons (pv 0) pa_nil)) pe_int) pe_int (nomark _))))))), ?_⟩
    rw [← lleap_eq] at q
    exact s_ret (v := .bl (lleap y)) (ev_orV (ev_op (ev_op (ev_int1 (ev_var rfl)) ev_c (rv_md (by decide))) ev_c rv_eqI) fun _ => ev_andV (ev_op (ev_op (ev_int1 (ev_var rfl)) ev_c (rv_md (by decide))) ev_c rv_eqI) fun _ => ev_op (ev_op (ev_int1 (ev_var rfl)) ev_c (rv_md (by decide))) ev_c rv_neI) q
theorem ok_law_month : FnOk P w K mg base CX0 2 T.a_law_month T.d_law_month ["year", "month"] (spX okLm) := by
  refine T.F_law_month.ok sc_law_month (fun vs H Q E h => ?_) (fun cdv A outer s H vs Q E hr h => ?_)
  · obtain ⟨z, ⟨y, m, rfl, _⟩, _⟩ := h
    rfl
  · obtain ⟨z, ⟨y, m, rfl, m1, m2, rfl⟩, q⟩ := h
    refine ⟨_, pss_cons (ps_if (pt_cmpR op_eq (pv 1) pe_int (nomark _)) (pss_one (ps_ret (pe_ifExp (pt_val (pe_call (ok_law_leap T) hr (by rfl) T.g_law_leap T.F_law_leap.kp (b_law_leap T) .nil pass0 (pa_cons (pv 0) pa_nil))) pe_int pe_int))) pss_nil)
      (pss_one (ps_ret (pe_ifExp (pt_cmpR (r := rIn K false) op_in_seq (pv 1) (pe_lst (pa_cons pe_int (pa_cons pe_int (pa_cons pe_int (pa_cons pe_int pa_nil))))) (by rfl)) pe_int pe_int))), ?_⟩
    rw [← lmonth_eq m1 m2] at q
    refine s_ifX (b := decide (m = 2)) (et_test (ev_op (ev_var rfl) ev_c rv_eqI)) (fun hb H1 e1 => ?_) (fun hb H1 e1 => ?_)
    · have em := of_decide_eq_true hb
      refine s_ret (v := .int (lmonth y m)) (ev_if (b := leap y) (et_B (ev_sp stb_ll (ea_cons (ev_var rfl) ea_nil) ⟨y, rfl, rfl⟩)) (fun h => ?_) (fun h => ?_)) fun H2 e2 => q H2 (e1.trans e2)
      · unfold lmonth
        rw [if_pos em, lleap_eq, if_pos h]
        exact ev_c
      · unfold lmonth
        rw [if_pos em, lleap_eq, if_neg (by rw [h]; exact Bool.false_ne_true)]
        exact ev_c
    · have em := of_decide_eq_false hb
      have e0 : lmonth y m = if m = 4 ∨ m = 6 ∨ m = 9 ∨ m = 11 then 30 else 31 := if_neg em
      have inn : EvT (tTest (tOp (rIn K false) (tVar 1) (tLst (tCons (tC (.int 4)) (tCons (tC (.int 6)) (tCons (tC (.int 9)) (tCons (tC (.int 11)) tNil))))))) (L2.start ["year", "month"] [.int y, .int m]) H1 (inV (.int m) [.int 4, .int 6, .int 9, .int 11]) := by
        refine et_test fun H2 e2 Q2 q2 => ⟨.int m, rfl, ?_⟩
        refine (el_lst (ea_cons ev_c (ea_cons ev_c (ea_cons ev_c (ea_cons ev_c ea_nil)))) (by decide) : EvL _ (L2.start ["year", "month"] [.int y, .int m]) H1 [.int 4, .int 6, .int 9, .int 11]) H2 e2 _ fun p H3 _ e3 hp => ⟨p, _, rfl, .inl (.of hp), rfl, rfl, q2 H3 e3⟩
      have e1' : inV (.int m) [.int 4, .int 6, .int 9, .int 11] = decide (m = 4 ∨ m = 6 ∨ m = 9 ∨ m = 11) := by
        have b : ∀ i : Int, eqV (V.int i) (V.int m) = decide (m = i) := fun i => by
          show (i == m) = decide (m = i)
          rw [Bool.eq_iff_iff, beq_iff_eq, decide_eq_true_iff]
          exact eq_comm
        unfold inV
        rw [List.any_cons, List.any_cons, List.any_cons, List.any_cons, List.any_nil, b, b, b, b]
        simp only [Bool.or_false, Bool.decide_or]
      refine s_ret (v := .int (lmonth y m)) (ev_if inn (fun h => ?_) (fun h => ?_)) fun H2 e2 => q H2 (e1.trans e2)
      · rw [e1', decide_eq_true_iff] at h
        rw [e0, if_pos h]
        exact ev_c
      · rw [e1', decide_eq_false_iff_not] at h
        rw [e0, if_neg h]
        exact ev_c
theorem ok_law_number : FnOk P w K mg base CX0 1 T.a_law_number T.d_law_number ["date"] (spX (okLn K)) := by
  refine T.F_law_number.ok sc_law_number (fun vs H Q E h => ?_) (fun cdv A outer s H vs Q E hr h => ?_)
  · obtain ⟨z, ⟨p, y, m, d, rfl, _⟩, _⟩ := h
    rfl
  · obtain ⟨z, ⟨p, y, m, d, rfl, hp, m1, m2, rfl⟩, q⟩ := h
    have nd := sc_law_number.nd
    refine ⟨_, pss_cons (ps_asg (pv 0) (pg_tup rfl (pgs_cons (pg_name (i := 1) nd rfl (.inl rfl)) (pgs_cons (pg_name (i := 2) nd rfl (.inl rfl)) (pgs_cons (pg_name (i := 3) nd rfl (.inl rfl)) pgs_nil)))))
      (pss_cons (ps_set (i := 4) nd rfl (.inl rfl) (pe_ifExp (pt_cmpR op_lt (pv 2) pe_int (nomark _)) (pe_op op_sub (pv 1) pe_int) (pv 1)))
      (pss_cons (ps_set (i := 5) nd rfl (.inl rfl) (pe_ifExp (pt_cmpR op_gt (pv 2) pe_int (nomark _)) (pe_op op_sub (pv 2) pe_int) (pe_op op_add (pv 2) pe_int)))
      (pss_cons (ps_par (i := 6) (j := 7) rfl nd rfl rfl (by decide) rfl rfl (pa_cons (pe_op op_fdiv (pv 4) pe_int) (pa_cons (pe_op op_sub (pv 4) (pe_op op_mul (pe_op op_fdiv (pv 4) pe_int) pe_int)) pa_nil)) (by rfl))
      (pss_cons (ps_set (i := 8) nd rfl (.inl rfl) (pe_op op_sub (pe_op op_add (pe_op op_fdiv (pe_op op_add (pe_op op_mul pe_int (pv 5)) pe_int) pe_int) (pv 3)) pe_int))
      (pss_one (ps_ret (pe_op op_sub (pe_op op_add (pe_op op_sub (pe_op op_add (pe_op op_add (pe_op op_mul (pv 6) pe_int) (pe_op op_mul (pv 7) pe_int)) (pe_op op_fdiv (pv 7) pe_int)) (pe_op op_fdiv (pv 7) pe_int)) (pv 8)) pe_int))))))), ?_⟩
    let S : Int := if m < 3 then y - 1 else y
    let L : Int := if 2 < m then m - 3 else m + 9
    have eq : lnum S L d = dto y m d := by
      show lnum (if m < 3 then y - 1 else y) (if 2 < m then m - 3 else m + 9) d = _
      by_cases c : m < 3
      · rw [if_pos c, if_neg (by omega)]
        exact lnum_early d m1 (by omega)
      · rw [if_neg c, if_pos (by omega)]
        exact lnum_late d (by omega) m2
    refine ⟨.ref p, rfl, p, _, rfl, hp.sq, rfl, .int y, _, rfl, .int m, _, rfl, .int d, _, rfl, rfl, ?_⟩
    refine q_asg (σ := [some (.ref p), some (.int y), some (.int m), some (.int d), none, none, none, none, none]) (v := .int S) (ev_if (b := decide (m < 3)) (et_test (ev_op (ev_var rfl) ev_c rv_I0)) (fun h => ?_) (fun h => ?_)) fun H1 e1 => ?_
    · have c := of_decide_eq_true h
      rw [show S = y - 1 from if_pos c]
      exact ev_op (ev_var rfl) ev_c rv_I0
    · have c := of_decide_eq_false h
      rw [show S = y from if_neg c]
      exact ev_var rfl
    refine q_asg (σ := [some (.ref p), some (.int y), some (.int m), some (.int d), some (.int S), none, none, none, none]) (v := .int L) (ev_if (b := decide (2 < m)) (et_test (ev_op (ev_var rfl) ev_c rv_I0)) (fun h => ?_) (fun h => ?_)) fun H2 e2 => ?_
    · have c := of_decide_eq_true h
      rw [show L = m - 3 from if_pos c]
      exact ev_op (ev_var rfl) ev_c rv_I0
    · have c := of_decide_eq_false h
      rw [show L = m + 9 from if_neg c]
      exact ev_op (ev_var rfl) ev_c rv_I0
    clear_value S L
    refine q_par (σ := [some (.ref p), some (.int y), some (.int m), some (.int d), some (.int S), some (.int L), none, none, none]) (v := .int (S / 400)) (w := .int (S - S / 400 * 400)) (ea_cons (ev_op (ev_var rfl) ev_c (rv_I ⟨by decide, by decide⟩)) (ea_cons (ev_op (ev_var rfl) (ev_op (ev_op (ev_var rfl) ev_c (rv_I ⟨by decide, by decide⟩)) ev_c (rv_I (.inr ⟨by decide, by decide⟩))) rv_I0) ea_nil)) fun H3 e3 => ?_
    refine q_asg (σ := [some (.ref p), some (.int y), some (.int m), some (.int d), some (.int S), some (.int L), some (.int (S / 400)), some (.int (S - S / 400 * 400)), none]) (v := .int ((153 * L + 2) / 5 + d - 1)) (ev_op (ev_op (ev_op (ev_op (ev_op ev_c (ev_var rfl) (rv_I (.inl ⟨by decide, by decide⟩))) ev_c rv_I0) ev_c (rv_I ⟨by decide, by decide⟩)) (ev_var rfl) rv_I0) ev_c rv_I0) fun H4 e4 => ?_
    refine s_ret (σ := [some (.ref p), some (.int y), some (.int m), some (.int d), some (.int S), some (.int L), some (.int (S / 400)), some (.int (S - S / 400 * 400)), some (.int ((153 * L + 2) / 5 + d - 1))]) (v := .int (lnum S L d))
      (ev_op (ev_op (ev_op (ev_op (ev_op (ev_op (ev_var rfl) ev_c (rv_I (.inr ⟨by decide, by decide⟩))) (ev_op (ev_var rfl) ev_c (rv_I (.inr ⟨by decide, by decide⟩))) rv_I0) (ev_op (ev_var rfl) ev_c (rv_I ⟨by decide, by decide⟩)) rv_I0) (ev_op (ev_var rfl) ev_c (rv_I ⟨by decide, by decide⟩)) rv_I0) (ev_var rfl) rv_I0) ev_c rv_I0) fun H5 e5 => ?_
    rw [eq]
    exact q H5 ((((e1.trans e2).trans e3).trans e4).trans e5)
end
end Kx

set_option Elab.async false
set_option linter.all false
set_option maxRecDepth 100000
set_option maxHeartbeats 400000
namespace Kx
open PySem PySem.Spec PyProof.Rows L2 Evl
theorem q_asgW {σ : L2.St} {H : Hp} {te : TE} {D : Ends} {u : TS} {i : Nat} (h : te σ H fun x H1 => u D (σ.set i (some x)) H1) : tSeq (tAsg te (gName i)) u D σ H := h
def dv (y m d : Int) : List V := [.int y, .int m, .int d]
def kv (p : Int × Nat) : List V := [.int p.1, .str (wordS p.2)]
def spYear : Sp := fun vs H Q _ => ∃ (sd sg sc : Addr) (b : Nat), vs = [.ref sd] ∧ Sta H sd sg sc (b + 5) ∧ ∀ (y : Int) (H' : Hp), 1 ≤ y → y ≤ big → Sta H' sd sg sc b → ExS sd sg H H' → Q (.int y) H'
def spDate : Sp := fun vs H Q _ => ∃ (sd sg sc : Addr) (b : Nat), vs = [.ref sd] ∧ Sta H sd sg sc (b + 9) ∧ ∀ (y m d : Int) (p : Addr) (H' : Hp), isD y m d → TupS H' p (dv y m d) → Sta H' sd sg sc b → ExS sd sg H H' → Q (.ref p) H'
def spSort : Sp := fun vs H Q _ => ∃ y : Int, vs = [.int y] ∧ ∀ p H', Ex H H' → TupS H' p (kv (kindP y)) → Q (.ref p) H'
def spAfter : Sp := fun vs H Q _ => ∃ (p : Addr) (y m d : Int), vs = [.ref p] ∧ TupS H p (dv y m d) ∧ 1 ≤ m ∧ m ≤ 12 ∧ ∀ r H', Ex H H' → TupS H' r (dv (nextD y m d).1 (nextD y m d).2.1 (nextD y m d).2.2) → Q (.ref r) H'
theorem big_is : big = (10 : Int) ^ (30 : Int).toNat := rfl
theorem ev_tup {σ : L2.St} {H : Hp} {ta : TA} {vs : List V} (h : EvA ta σ H vs) (hz : vs.length ≤ 100000) : EvP (tTupF ta) σ H vs := fun H1 e Q q => h H1 e _ fun H2 e2 => ⟨sz_of hz, fun p o hp ho => q p _ (e2.trans (Ex.new hp)) ⟨o, ho, upd_same⟩⟩
section
variable {P : Program} {w : World} {K : PySem.W.Frag} {mg : Str → Option Value} {base : Heap} (T : Txt K mg)
theorem ok_law_year : FnOk P w K mg base CX0 4 T.a_law_year T.d_law_year ["state"] spYear := by
  refine T.F_law_year.ok sc_law_year (fun vs H Q E h => ?_) (fun cdv A outer s H vs Q E hr h => ?_)
  · obtain ⟨sd, sg, sc, b, rfl, _⟩ := h
    rfl
  · obtain ⟨sd, sg, sc, b, rfl, hS, q⟩ := h
    have nd := sc_law_year.nd
    have r2 : Room 2 (A.deeper (envOfC "_law_year" (defScope s_law_year) s.heap.objs.size T.a_law_year cdv)) := hr.mono (by decide)
    refine ⟨_, pss_cons (ps_set (i := 1) nd rfl (.inl rfl) (pe_op op_add pe_int (pe_call (ok_draw T) r2 (by rfl) T.g_law_draw T.F_law_draw.kp (b_law_draw T) .nil pass0 (pa_cons (pv 0) (pa_cons (pe_op op_sub (pe_op op_pow pe_int pe_int) pe_int) pa_nil)))))
      (pss_cons (ps_set (i := 2) nd rfl (.inl rfl) (pe_lst (pa_cons (pe_op op_add pe_int (pe_call (ok_draw T) r2 (by rfl) T.g_law_draw T.F_law_draw.kp (b_law_draw T) .nil pass0 (pa_cons (pv 0) (pa_cons pe_int pa_nil))))
        (pa_cons (pe_op op_add pe_int (pe_call (ok_draw T) r2 (by rfl) T.g_law_draw T.F_law_draw.kp (b_law_draw T) .nil pass0 (pa_cons (pv 0) (pa_cons pe_int pa_nil))))
        (pa_cons (pe_op op_add pe_int (pe_call (ok_draw T) r2 (by rfl) T.g_law_draw T.F_law_draw.kp (b_law_draw T) .nil pass0 (pa_cons (pv 0) (pa_cons pe_int pa_nil))))
        (pa_cons (pv 1) (pa_cons pe_int (pa_cons pe_int (pa_cons pe_int (pa_cons (pv 1) pa_nil))))))))))
      (pss_one (ps_ret (pe_call (ok_pickL T) hr (by rfl) T.g_law_pick T.F_law_pick.kp (b_law_pick T) .nil pass0 (pa_cons (pv 0) (pa_cons (pv 2) pa_nil)))))), ?_⟩
    refine q_asgW (σ := [some (.ref sd), none, none]) ⟨.ref sd, rfl, 10, 30, rfl, rfl, ⟨by decide, by decide, by decide⟩, _, 500, rfl, rfl, sd, sg, sc, b + 4, _, rfl, by decide +kernel, by decide +kernel, hS, fun z1 H1 z0 zl S1 X1 => ⟨1, z1, rfl, rfl, ?_⟩⟩
    rw [← big_is] at zl
    refine q_asgW (σ := [some (.ref sd), some (.int (1 + z1)), none]) ⟨.ref sd, rfl, sd, sg, sc, b + 3, 28, rfl, by decide, by decide, S1, fun z2 H2 z20 z2l S2 X2 => ⟨2001, z2, rfl, rfl, .ref sd, rfl, sd, sg, sc, b + 2, 3000, rfl, by decide, by decide, S2, fun z3 H3 z30 z3l S3 X3 => ⟨1, z3, rfl, rfl, .ref sd, rfl, sd, sg, sc, b + 1, 10, rfl, by decide, by decide, S3, fun z4 H4 z40 z4l S4 X4 =>
      ⟨2096, z4, rfl, rfl, .int (1 + z1), rfl, .int (1 + z1), rfl, by show 8 ≤ sizeLine; rw [sizeLine_eq]; decide, fun p fp => ?_⟩⟩⟩⟩
    obtain ⟨n1, n2, _⟩ := S4.off fp
    have EB : Ex H4 (upd H4 p (.lst [.int (2001 + z2), .int (1 + z3), .int (2096 + z4), .int (1 + z1), .int 1, .int 2000, .int 2072, .int (1 + z1)])) := Ex.new fp
    refine ⟨.ref sd, rfl, .ref p, rfl, sd, sg, sc, b, p, [.int (2001 + z2), .int (1 + z3), .int (2096 + z4), .int (1 + z1), .int 1, .int 2000, .int 2072, .int (1 + z1)], rfl, upd_same, n1, n2, by simp, by simp, S4.up EB, fun j x H5 hx S5 X5 => ?_⟩
    have XX := (((((X1.trans X2).trans X3).trans X4).trans (.of EB)).trans X5)
    have bg : (10000 : Int) ≤ big := by unfold big; decide
    have m := List.mem_of_getElem? hx
    simp only [List.mem_cons, List.not_mem_nil, or_false] at m
    rcases m with rfl | rfl | rfl | rfl | rfl | rfl | rfl | rfl <;> exact q _ H5 (by omega) (by omega) S5 XX
theorem ok_law_date : FnOk P w K mg base CX0 5 T.a_law_date T.d_law_date ["state"] spDate := by
  refine T.F_law_date.ok sc_law_date (fun vs H Q E h => ?_) (fun cdv A outer s H vs Q E hr h => ?_)
  · obtain ⟨sd, sg, sc, b, rfl, _⟩ := h
    rfl
  · obtain ⟨sd, sg, sc, b, rfl, hS, q⟩ := h
    have nd := sc_law_date.nd
    have r2 : Room 2 (A.deeper (envOfC "_law_date" (defScope s_law_date) s.heap.objs.size T.a_law_date cdv)) := hr.mono (by decide)
    have r3 : Room 3 (A.deeper (envOfC "_law_date" (defScope s_law_date) s.heap.objs.size T.a_law_date cdv)) := hr.mono (by decide)
    refine ⟨_, pss_cons (ps_set (i := 1) nd rfl (.inl rfl) (pe_call (ok_law_year T) hr (by rfl) T.g_law_year T.F_law_year.kp (b_law_year T) .nil pass0 (pa_cons (pv 0) pa_nil)))
      (pss_cons (ps_set (i := 2) nd rfl (.inl rfl) (pe_call (ok_pickL T) r3 (by rfl) T.g_law_pick T.F_law_pick.kp (b_law_pick T) .nil pass0 (pa_cons (pv 0) (pa_cons (pe_lst (pa_cons (pe_op op_add pe_int (pe_call (ok_draw T) r2 (by rfl) T.g_law_draw T.F_law_draw.kp (b_law_draw T) .nil pass0 (pa_cons (pv 0) (pa_cons pe_int pa_nil)))) (pa_cons pe_int (pa_cons pe_int (pa_cons pe_int pa_nil))))) pa_nil))))
      (pss_cons (ps_set (i := 3) nd rfl (.inl rfl) (pe_call (ok_law_month T) r2 (by rfl) T.g_law_month T.F_law_month.kp (b_law_month T) .nil pass0 (pa_cons (pv 1) (pa_cons (pv 2) pa_nil))))
      (pss_one (ps_ret (pe_tupF (pa_cons (pv 1) (pa_cons (pv 2) (pa_cons (pe_call (ok_pickL T) r3 (by rfl) T.g_law_pick T.F_law_pick.kp (b_law_pick T) .nil pass0 (pa_cons (pv 0) (pa_cons (pe_lst (pa_cons (pe_op op_add pe_int (pe_call (ok_draw T) r2 (by rfl) T.g_law_draw T.F_law_draw.kp (b_law_draw T) .nil pass0 (pa_cons (pv 0) (pa_cons (pv 3) pa_nil))))
        (pa_cons (pv 3) (pa_cons pe_int (pa_cons (pe_callB (call_min2 (by rfl)) (by rfl) T.z_min bo_min (pa_cons (pv 3) (pa_cons pe_int pa_nil))) pa_nil))))) pa_nil))) pa_nil)))))))), ?_⟩
    refine q_asgW (σ := [some (.ref sd), none, none, none]) ⟨.ref sd, rfl, sd, sg, sc, b + 4, rfl, hS, fun y H1 y1 yb S1 X1 => ?_⟩
    refine q_asgW (σ := [some (.ref sd), some (.int y), none, none]) ⟨.ref sd, rfl, .ref sd, rfl, sd, sg, sc, b + 3, 12, rfl, by decide, by decide, S1, fun z2 H2 z20 z2l S2 X2 => ⟨1, z2, rfl, rfl, by show 4 ≤ sizeLine; rw [sizeLine_eq]; decide, fun p fp => ?_⟩⟩
    obtain ⟨n1, n2, _⟩ := S2.off fp
    have EB : Ex H2 (upd H2 p (.lst [.int (1 + z2), .int 2, .int 12, .int 1])) := Ex.new fp
    refine ⟨sd, sg, sc, b + 2, p, [.int (1 + z2), .int 2, .int 12, .int 1], rfl, upd_same, n1, n2, by simp, by simp, S2.up EB, fun j x H3 hx S3 X3 => ?_⟩
    obtain ⟨m, rfl, m1, m2⟩ : ∃ m : Int, x = .int m ∧ 1 ≤ m ∧ m ≤ 12 := by
      have mm := List.mem_of_getElem? hx
      simp only [List.mem_cons, List.not_mem_nil, or_false] at mm
      rcases mm with rfl | rfl | rfl | rfl
      · exact ⟨1 + z2, rfl, by omega, by omega⟩
      · exact ⟨2, rfl, by decide, by decide⟩
      · exact ⟨12, rfl, by decide, by decide⟩
      · exact ⟨1, rfl, by decide, by decide⟩
    have ml := mlen_pos (y := y) m1 m2
    refine s_asgX (σ := [some (.ref sd), some (.int y), some (.int m), none]) (v := .int (mlen y m)) (ev_sp stb_lm (ea_cons (ev_var rfl) (ea_cons (ev_var rfl) ea_nil)) ⟨y, m, rfl, m1, m2, rfl⟩) fun H4 e4 => ?_
    have S4 := S3.up e4
    refine ⟨.int y, rfl, .int m, rfl, .ref sd, rfl, .ref sd, rfl, .int (mlen y m), rfl, sd, sg, sc, b + 1, mlen y m, rfl, by omega, by omega, S4, fun z5 H5 z50 z5l S5 X5 => ⟨1, z5, rfl, rfl, .int (mlen y m), rfl, .int (mlen y m), rfl, mlen y m, 28, rfl, by show 4 ≤ sizeLine; rw [sizeLine_eq]; decide, fun p6 f6 => ?_⟩⟩
    obtain ⟨u1, u2, _⟩ := S5.off f6
    have EC : Ex H5 (upd H5 p6 (.lst [.int (1 + z5), .int (mlen y m), .int 1, .int (if (28 : Int) < mlen y m then 28 else mlen y m)])) := Ex.new f6
    refine ⟨sd, sg, sc, b, p6, [.int (1 + z5), .int (mlen y m), .int 1, .int (if (28 : Int) < mlen y m then 28 else mlen y m)], rfl, upd_same, u1, u2, by simp, by simp, S5.up EC, fun j7 x7 H7 hx7 S7 X7 => ?_⟩
    obtain ⟨d, rfl, d1, d2⟩ : ∃ d : Int, x7 = .int d ∧ 1 ≤ d ∧ d ≤ mlen y m := by
      have mm := List.mem_of_getElem? hx7
      simp only [List.mem_cons, List.not_mem_nil, or_false] at mm
      rcases mm with rfl | rfl | rfl | rfl
      · exact ⟨1 + z5, rfl, by omega, by omega⟩
      · exact ⟨_, rfl, by omega, by omega⟩
      · exact ⟨1, rfl, by decide, by omega⟩
      · exact ⟨_, rfl, by split <;> omega, by split <;> omega⟩
    refine ⟨by show 3 ≤ sizeLine; rw [sizeLine_eq]; decide, fun p8 o8 f8 d8 => ?_⟩
    have ED := Ex.new (o := .frz o8 (.tup [.int y, .int m, .int d])) f8
    exact q y m d p8 _ ⟨y1, yb, m1, m2, d1, d2⟩ ⟨o8, d8, upd_same⟩ (S7.up ED) ((((((X1.trans X2).trans (.of EB)).trans X3).trans (.of e4)).trans X5).trans (((ExS.of EC).trans X7).trans (.of ED)))
theorem ok_law_sort : FnOk P w K mg base CX0 2 T.a_law_sort T.d_law_sort ["year"] spSort := by
  refine T.F_law_sort.ok sc_law_sort (fun vs H Q E h => ?_) (fun cdv A outer s H vs Q E hr h => ?_)
  · obtain ⟨y, rfl, _⟩ := h
    rfl
  · obtain ⟨y, rfl, q⟩ := h
    have nd := sc_law_sort.nd
    refine ⟨_, pss_cons (ps_set (i := 1) nd rfl (.inl rfl) (pe_ifExp (pt_val (pe_call (ok_law_leap T) hr (by rfl) T.g_law_leap T.F_law_leap.kp (b_law_leap T) .nil pass0 (pa_cons (pv 0) pa_nil))) pe_str (pe_ifExp (pt_val (pe_call (ok_law_leap T) hr (by rfl) T.g_law_leap T.F_law_leap.kp (b_law_leap T) .nil pass0 (pa_cons (pe_op op_sub (pv 0) pe_int) pa_nil))) pe_str
        (pe_ifExp (pt_val (pe_call (ok_law_leap T) hr (by rfl) T.g_law_leap T.F_law_leap.kp (b_law_leap T) .nil pass0 (pa_cons (pe_op op_add (pv 0) pe_int) pa_nil))) pe_str pe_str))))
      (pss_one (ps_ret (pe_tupF (pa_cons (pe_op op_mod (pe_callTy call_int1 (by rfl) T.z_int bo_int (pa_cons (pe_call (ok_law_number T) hr (by rfl) T.g_law_number T.F_law_number.kp (b_law_number T) .nil pass0 (pa_cons (pe_tupF (pa_cons (pv 0) (pa_cons pe_int (pa_cons pe_int pa_nil)))) pa_nil)) pa_nil)) pe_int) (pa_cons (pv 1) pa_nil))))), ?_⟩
    have lp : ∀ {σ : L2.St} {H1 : Hp} {te : TE} {y : Int}, Ev te σ H1 (.int y) → EvT (tB (tCall (spX okLl) [] E0 (tCons te tNil))) σ H1 (leap y) := fun {σ H1 te y} h => et_B (ev_sp stb_ll (ea_cons h ea_nil) ⟨y, rfl, rfl⟩)
    refine s_asgX (σ := [some (.int y), none]) (v := .str (wordS (wcode y))) (ev_if (b := leap y) (lp (ev_var rfl)) (fun h => ?_) (fun h => ev_if (b := leap (y - 1)) (lp (ev_op (ev_var rfl) ev_c rv_I0)) (fun h1 => ?_) (fun h1 => ev_if (b := leap (y + 1)) (lp (ev_op (ev_var rfl) ev_c rv_I0)) (fun h2 => ?_) (fun h2 => ?_)))) fun H1 e1 => ?_
    · unfold wcode; rw [if_pos h]; exact ev_c
    · unfold wcode; rw [if_neg (by rw [h]; exact Bool.false_ne_true), if_pos h1]; exact ev_c
    · unfold wcode; rw [if_neg (by rw [h]; exact Bool.false_ne_true), if_neg (by rw [h1]; exact Bool.false_ne_true), if_pos h2]; exact ev_c
    · unfold wcode; rw [if_neg (by rw [h]; exact Bool.false_ne_true), if_neg (by rw [h1]; exact Bool.false_ne_true), if_neg (by rw [h2]; exact Bool.false_ne_true)]; exact ev_c
    have num : Ev (tCall (spX (okLn K)) [] E0 (tCons (tTupF (tCons (tVar 0) (tCons (tC (.int 1)) (tCons (tC (.int 1)) tNil)))) tNil)) [some (.int y), some (.str (wordS (wcode y)))] H1 (.int (da y)) := fun H2 e2 Q2 q2 =>
      ev_tup (ea_cons (ev_var rfl) (ea_cons ev_c (ea_cons ev_c ea_nil))) (by show 3 ≤ 100000; decide) H2 e2 _ fun p H3 e3 hp => ⟨.int (da y), ⟨p, y, 1, 1, rfl, hp, by decide, by decide, by
        unfold dto
        rw [show (1 - 1 : Int).toNat = 0 from rfl, (cum_at y).1]
        exact congrArg V.int (by omega)⟩, fun H4 e4 => q2 H4 (e3.trans e4)⟩
    exact s_retT (σ := [some (.int y), some (.str (wordS (wcode y)))]) (vs := kv (kindP y)) (ea_cons (ev_op (ev_int1 num) ev_c (rv_md (by decide))) (ea_cons (ev_var rfl) ea_nil)) (by show 2 ≤ 100000; decide) fun p H2 e2 hp => q p H2 (e1.trans e2) hp
theorem ok_law_after : FnOk P w K mg base CX0 3 T.a_law_after T.d_law_after ["date"] spAfter := by
  refine T.F_law_after.ok sc_law_after (fun vs H Q E h => ?_) (fun cdv A outer s H vs Q E hr h => ?_)
  · obtain ⟨p, y, m, d, rfl, _⟩ := h
    rfl
  · obtain ⟨p, y, m, d, rfl, hp, m1, m2, q⟩ := h
    have nd := sc_law_after.nd
    refine ⟨_, pss_cons (ps_asg (pv 0) (pg_tup rfl (pgs_cons (pg_name (i := 1) nd rfl (.inl rfl)) (pgs_cons (pg_name (i := 2) nd rfl (.inl rfl)) (pgs_cons (pg_name (i := 3) nd rfl (.inl rfl)) pgs_nil)))))
      (pss_cons (ps_if (pt_cmpR op_lt (pv 3) (pe_call (ok_law_month T) hr (by rfl) T.g_law_month T.F_law_month.kp (b_law_month T) .nil pass0 (pa_cons (pv 1) (pa_cons (pv 2) pa_nil))) (nomark _)) (pss_one (ps_ret (pe_tupF (pa_cons (pv 1) (pa_cons (pv 2) (pa_cons (pe_op op_add (pv 3) pe_int) pa_nil)))))) pss_nil)
      (pss_one (ps_ret (pe_ifExp (pt_cmpR op_lt (pv 2) pe_int (nomark _)) (pe_tupF (pa_cons (pv 1) (pa_cons (pe_op op_add (pv 2) pe_int) (pa_cons pe_int pa_nil)))) (pe_tupF (pa_cons (pe_op op_add (pv 1) pe_int) (pa_cons pe_int (pa_cons pe_int pa_nil)))))))), ?_⟩
    refine ⟨.ref p, rfl, p, _, rfl, hp.sq, rfl, .int y, _, rfl, .int m, _, rfl, .int d, _, rfl, rfl, ?_⟩
    refine s_ifX (σ := [some (.ref p), some (.int y), some (.int m), some (.int d)]) (b := decide (d < mlen y m)) (et_test (ev_op (ev_var rfl) (ev_sp stb_lm (ea_cons (ev_var rfl) (ea_cons (ev_var rfl) ea_nil)) ⟨y, m, rfl, m1, m2, rfl⟩) rv_I0)) (fun hb H1 e1 => ?_) (fun hb H1 e1 => ?_)
    · have c := of_decide_eq_true hb
      unfold nextD at q
      rw [if_pos c] at q
      exact s_retT (vs := dv y m (d + 1)) (ea_cons (ev_var rfl) (ea_cons (ev_var rfl) (ea_cons (ev_op (ev_var rfl) ev_c rv_I0) ea_nil))) (by show 3 ≤ 100000; decide) fun r H2 e2 hr2 => q r H2 (e1.trans e2) hr2
    · have c := of_decide_eq_false hb
      unfold nextD at q
      rw [if_neg c] at q
      refine (et_test (ev_op (ev_var rfl) ev_c rv_I0) : EvT (tTest (tOp (rI0 fun i j => .bl (decide (i < j))) (tVar 2) (tC (.int 12)))) [some (.ref p), some (.int y), some (.int m), some (.int d)] H1 (decide (m < 12))) H1 (Ex.refl _) _ fun H2 e2 => ?_
      by_cases c2 : m < 12
      · rw [if_pos c2] at q
        rw [if_pos (decide_eq_true c2)]
        exact ev_tup (ea_cons (ev_var rfl) (ea_cons (ev_op (ev_var rfl) ev_c rv_I0) (ea_cons ev_c ea_nil))) (by show 3 ≤ 100000; decide) H2 (Ex.refl _) _ fun r H3 e3 hr2 => q r H3 ((e1.trans e2).trans e3) hr2
      · rw [if_neg c2] at q
        rw [if_neg (by rw [decide_eq_true_iff]; exact c2)]
        exact ev_tup (ea_cons (ev_op (ev_var rfl) ev_c rv_I0) (ea_cons ev_c (ea_cons ev_c ea_nil))) (by show 3 ≤ 100000; decide) H2 (Ex.refl _) _ fun r H3 e3 hr2 => q r H3 ((e1.trans e2).trans e3) hr2
end
end Kx

set_option Elab.async false
set_option linter.all false
set_option maxRecDepth 100000
set_option maxHeartbeats 400000
namespace Kx
open PySem PySem.Spec PyProof.Rows L2 Evl LamX
/-! ## kinds as data: a whole number and a word -/
def pyK (p : Int × Nat) : PyData := .tuple [.int p.1, .str (wordS p.2)]
section
variable {K : PySem.W.Frag} {H : Hp}
theorem dp_K {a : Addr} {p : Int × Nat} (h : SqT K H a (kv p)) : Dp K H (.ref a) (pyK p) := .tup h (.cons (.int _) (.cons (.str _) .nil))
theorem pyK_same (p : Int × Nat) : PyData.eqv (pyK p) (pyK p) = true := by simp [pyK, PyData.eqv, PyData.eqvAll]
theorem word_ok : ∀ n : Nat, PyData.strOk (wordS n) = true
  | 0 | 1 | 2 => by decide +kernel
  | n + 3 => by
    show PyData.strOk "plain" = true
    decide +kernel
theorem kind_bet {y : Int} (y0 : 1 ≤ y) (y1 : y ≤ big) : isBetw (.int y) 1 big = true := by
  show (decide (1 ≤ y) && decide (y ≤ big)) = true
  rw [decide_eq_true y0, decide_eq_true y1]
  rfl
theorem pyK_low (p : Int × Nat) : (pyK p).canLay0 = true ∧ (pyK p).depth = 1 := by simp [pyK, PyData.canLay0, PyData.canLayAll0, PyData.depth, PyData.depthAll, word_ok]
theorem pyKs_low : ∀ ps : List (Int × Nat), PyData.canLayAll0 (ps.map pyK) = true ∧ PyData.depthAll (ps.map pyK) ≤ 1
  | [] => by simp [PyData.canLayAll0, PyData.depthAll]
  | p :: ps => by
    have h := pyKs_low ps
    have h1 := pyK_low p
    simp only [List.map_cons, PyData.canLayAll0, PyData.depthAll, h.1, h1.1, h1.2, Bool.and_self, true_and]
    omega
theorem pyK_sh (p : Int × Nat) : SeqAt.shaped (pyK p) = true := by
  have h := pyK_low p
  unfold SeqAt.shaped
  rw [h.1, h.2]
  rfl
theorem pyKs_sh (ps : List (Int × Nat)) : SeqAt.shaped (.list (ps.map pyK)) = true ∧ SeqAt.shaped (.tuple (ps.map pyK)) = true := by
  have h := pyKs_low ps
  have d : decide (PyData.depthAll (ps.map pyK) + 1 ≤ 64) = true := decide_eq_true (by omega)
  constructor <;> (unfold SeqAt.shaped; simp only [PyData.canLay0, PyData.depth, h.1, Bool.true_and]; first | exact d | (rw [Nat.add_comm]; exact d))
theorem dpAll_K : ∀ {as : List Addr} {ps : List (Int × Nat)}, as.length = ps.length → (∀ (i : Nat) (a : Addr) (p : Int × Nat), as[i]? = some a → ps[i]? = some p → SqT K H a (kv p)) → DpAll K H (as.map V.ref) (ps.map pyK)
  | [], [], _, _ => .nil
  | a :: as, p :: ps, hl, h => .cons (dp_K (h 0 a p rfl rfl)) (dpAll_K (Nat.succ.inj hl) fun i b q hb hq => h (i + 1) b q hb hq)
  | [], _ :: _, hl, _ => by cases hl
  | _ :: _, [], hl, _ => by cases hl
theorem any_K {ps : List (Int × Nat)} {p : Int × Nat} (h : p ∈ ps) : ((ps.map pyK).any fun z => PyData.eqv z (pyK p)) = true := List.any_eq_true.mpr ⟨pyK p, List.mem_map.mpr ⟨p, h, rfl⟩, pyK_same p⟩
/-- a kind that stands in a tuple of kinds -/
def rOutK (K : PySem.W.Frag) : R2 := fun x y H Q => ∃ (a b : Addr) (as : List Addr) (p : Int × Nat) (ps : List (Int × Nat)), x = .ref a ∧ y = .ref b ∧ SqT K H a (kv p) ∧ SqT K H b (as.map V.ref) ∧ DpAll K H (as.map V.ref) (ps.map pyK) ∧ p ∈ ps ∧ Q (.bl false) H
theorem op_outK {X : Cx} (hu : X.A.units + 65 < cLine) : OpR X (compareOp .NotIn) (rOutK X.K) := fun pins s σ H x y v u Q I rx ry h => by
  obtain ⟨a, b, as, p, ps, rfl, rfl, ha, hb, hd, hm, q⟩ := h
  have ⟨_, ra⟩ := Dp.reads I (pyK p) _ v (dp_K ha) rx
  have ⟨_, rb⟩ := Dp.reads I (.tuple (ps.map pyK)) _ u (.tup hb hd) ry
  refine SeqAt.notIn_tuple_reads rb ra (pyKs_low ps).1 (pyK_low p).1 (room_in_shaped (pyK_sh p) hu) ?_
  rw [any_K hm]
  exact ⟨.bl false, H, I, rfl, q⟩
theorem TupS.put {a l : Addr} {vs xs ys : List V} (h : TupS H a vs) (hl : H l = some (.lst xs)) : TupS (upd H l (.lst ys)) a vs := by
  obtain ⟨o, h1, h2⟩ := h
  refine ⟨o, h1, (upd_ne fun z => ?_).trans h2⟩
  rw [z, hl] at h2
  cases h2
end
section
variable {K : PySem.W.Frag} {σ : L2.St} {H : Hp} {ta tk : TA} {c : Addr} {y : Int} {E : XK}
theorem evp_kind (h : EvA ta σ H [.int y]) (y0 : 1 ≤ y) (y1 : y ≤ big) : EvP (tCall (spKind c) [] E ta) σ H (kv (kindP y)) := fun H1 e Q q => h H1 e _ fun H2 e2 =>
  ⟨.int y, .int y, rfl, .int y, fun _ p H3 e3 hp => q p H3 (e2.trans e3) hp, fun hf => by
    rw [kind_bet y0 y1] at hf
    cases hf⟩
theorem evp_kindK (h : EvA tk σ H [.int y]) (y0 : 1 ≤ y) (y1 : y ≤ big) : EvP (tCallK (spKind c) g1 E tNil tk) σ H (kv (kindP y)) := fun H1 e Q q => h H1 e _ fun H2 e2 =>
  ⟨.int y, .int y, rfl, .int y, fun _ p H3 e3 hp => q p H3 (e2.trans e3) hp, fun hf => by
    rw [kind_bet y0 y1] at hf
    cases hf⟩
/-- the kind among those of the 40 years behind -/
theorem ev_again {p : Addr} {m : Option V} (y0 : 1 ≤ y) (y1 : y + 40 ≤ big) (hp : TupS H p (kv (kindP y))) :
    Ev (tOp (rInD K) (tVar 1) (tLc (iRng2 (tCons (tC (.int 1)) (tCons (tC (.int 41)) tNil))) (gName 2) tYes (tCallK (spKind c) g1 E tNil (tCons (tOp (rI0 fun i j => .int (i + j)) (tVar 0) (tVar 2)) tNil)) [2])) [some (.int y), some (.ref p), m] H (.bl true) := fun H1 e Q q =>
  ⟨.ref p, rfl, 1, 41, rfl, ⟨by decide, by decide, by decide, by decide⟩, fun l fl =>
    lc_range (lo := 1) (n := 40) (fun i H' => Ex H1 H' ∧ ∃ as : List Addr, H' l = some (.lst (as.map V.ref)) ∧ as.length = i ∧ ∀ (j : Nat) (a : Addr), as[j]? = some a → TupS H' a (kv (kindP (y + (1 + (j : Int))))))
      ⟨Ex.new fl, [], upd_same, rfl, fun j a hj => by cases hj⟩
      (fun i H' lt ⟨e2, as, hl, len, each⟩ => ⟨rfl, evp_kindK (ea_cons (ev_op (z := .int (y + (1 + (i : Int)))) (ev_var rfl) (ev_var rfl) rv_I0) ea_nil) (by omega) (by omega) H' (Ex.refl _) _ fun a H3 e3 ha =>
        ⟨as.map V.ref, e3 _ _ hl, by rw [List.length_map, len]; exact sz_lt (by omega), (e2.trans e3).mut fl, as ++ [a], by rw [upd_same, List.map_append]; rfl, by rw [List.length_append, len]; rfl, fun j b hj => by
          by_cases c : j < as.length
          · rw [List.getElem?_append_left c] at hj
            exact ((each j b hj).up e3).put (e3 _ _ hl)
          · have hlt := (List.getElem?_eq_some_iff.mp hj).1
            rw [List.length_append] at hlt
            have ej : j = as.length := by simp only [List.length_cons, List.length_nil] at hlt; omega
            rw [List.getElem?_append_right (by omega), ej, Nat.sub_self] at hj
            obtain rfl : a = b := Option.some.inj hj
            rw [ej, len]
            exact ha.put (e3 _ _ hl)⟩⟩)
      (fun H' ⟨e2, as, hl, len, each⟩ => by
        let ps : List (Int × Nat) := (List.range 40).map fun (j : Nat) => kindP (y + (1 + (j : Int)))
        have al : DpAll K H' (as.map V.ref) (ps.map pyK) := dpAll_K (by rw [len]; rfl) fun i a z ha hz => by
          have hz2 := hz
          rw [List.getElem?_map] at hz2
          have hi : i < 40 := by have := (List.getElem?_eq_some_iff.mp ha).1; omega
          rw [List.getElem?_range hi] at hz2
          obtain rfl : kindP (y + (1 + (i : Int))) = z := Option.some.inj hz2
          exact (each i a ha).sq
        obtain ⟨k, k40, ek⟩ := (kind_in (y := y) (by omega)).2
        have hm : kindP y ∈ ps := List.mem_map.mpr ⟨k, List.mem_range.mpr k40, ek⟩
        refine ⟨pyK (kindP y), ps.map pyK, dp_K (hp.up (e.trans e2)).sq, .lst (.of hl) al, pyK_sh _, (pyKs_sh ps).1, ?_⟩
        rw [any_K hm]
        exact q H' e2)⟩
end
section
variable {K : PySem.W.Frag} {mg : Str → Option Value}
theorem one_rel {vs zs : List V} {us ws : List Value} (r : Vals vs us) (rz : Vals zs ws) : Vals (g1 vs zs) (g1 us ws) := by
  cases r with
  | cons _ _ => exact .nil
  | nil => cases rz with
    | nil => exact .nil
    | cons r1 rz => cases rz with
      | nil => exact .cons r1 .nil
      | cons _ _ => exact .nil
theorem kb_kind_of (T : Txt K mg) : KBinds K T.d_kind_of ["year"] ["year"] g1 g1 where
  to := fun s us ws X hl => by
    have ⟨_, _, _, _, _, _, _, _, _, ed, _, _⟩ := T.F_kind_of.ex
    rw [ed]
    match us, ws, hl with
    | [], [a], _ => exact .of_eq rfl
  rel := one_rel
theorem kb_number_of (T : Txt K mg) : KBinds K T.d_number_of ["date"] ["date"] g1 g1 where
  to := fun s us ws X hl => by
    have ⟨_, _, _, _, _, _, _, _, _, ed, _, _⟩ := T.F_number_of.ex
    rw [ed]
    match us, ws, hl with
    | [], [a], _ => exact .of_eq rfl
  rel := one_rel
theorem kb_date_of (T : Txt K mg) : KBinds K T.d_date_of ["number"] ["number"] g1 g1 where
  to := fun s us ws X hl => by
    have ⟨_, _, _, _, _, _, _, _, _, ed, _, _⟩ := T.F_date_of.ex
    rw [ed]
    match us, ws, hl with
    | [], [a], _ => exact .of_eq rfl
  rel := one_rel
end
def okAgain : OkF := fun vs H z => ∃ y, vs = [.int y] ∧ 1 ≤ y ∧ y ≤ big ∧ z = .bl true
theorem stb_again : Stb okAgain := fun _ _ _ _ _ h => h
section
variable {P : Program} {w : World} {K : PySem.W.Frag} {mg : Str → Option Value} {base : Heap} (T : Txt K mg) (C : Cs K mg)
include C in
theorem ok_law_again : FnOk P w K mg base CX0 4 T.a_law_again_right T.d_law_again_right ["year"] (spX okAgain) := by
  refine T.F_law_again_right.ok sc_law_again_right (fun vs H Q E h => ?_) (fun cdv A outer s H vs Q E hr h => ?_)
  · obtain ⟨z, ⟨y, rfl, _⟩, _⟩ := h
    rfl
  · obtain ⟨z, ⟨y, rfl, y0, y1, rfl⟩, q⟩ := h
    have nd := sc_law_again_right.nd
    have hu5 : (A.deeper (envOfC "_law_again_right" (defScope s_law_again_right) s.heap.objs.size T.a_law_again_right cdv)).units + 65 < cLine := by have := hr.un; omega
    have hu4 : (A.deeper (envOfC "_law_again_right" (defScope s_law_again_right) s.heap.objs.size T.a_law_again_right cdv)).units + 64 < cLine := by omega
    refine ⟨_, pss_cons (ps_set (i := 1) nd rfl (.inl rfl) (pe_call (E := fun _ _ _ => False) (ok_kind_of T C) hr (by rfl) T.g_kind_of T.F_kind_of.kp (b_kind_of T) .nil (passes_call L2.takes0 fun _ _ _ _ h => h) (pa_cons (pv 0) pa_nil)))
      (pss_cons (ps_if (PW.pt (pw_or (pt_cmpR (op_outK hu5) (pv 1) (pe_glob (v := .ref C.aK) (by rfl) C.g_KINDS rfl) (by rfl)) (pw_or1 (pt_cmpR (op_neD hu4) (pv 1) (pe_call (ok_law_sort T) (hr.mono (by decide)) (by rfl) T.g_law_sort T.F_law_sort.kp (b_law_sort T) .nil pass0 (pa_cons (pv 0) pa_nil)) (nomark _))))) (pss_one (ps_ret pe_bl)) pss_nil)
      (pss_one (ps_ret (pe_or (pe_cmpR op_gt (pv 0) (pe_op op_sub (pe_op op_pow pe_int pe_int) pe_int) (nomark _)) (pe_one (pe_cmpR (op_inD hu5) (pv 1)
        (pe_lc (own := [("more", 2)]) (g := gName 2) (tt := tYes) (by rfl) nd (pi_range2 (by rfl) T.z_range (pa_cons pe_int (pa_cons pe_int pa_nil))) (blkOk_by (N := ["year", "found", "more"]) (sc := defScope s_law_again_right) (by decide +kernel))
          (fun _ _ _ _ _ => pg_name (i := 2) nd rfl (.inl rfl)) (fun _ _ _ _ _ => pts_nil) (fun _ _ _ _ _ => pe_named (E := fun _ _ _ => False) (ok_kind_of T C) hr (by rfl) T.g_kind_of T.F_kind_of.kp (kb_kind_of T) (passes_call L2.takes0 fun _ _ _ _ h => h) (pk_cons (pe_op op_add (pv 0) (pv 2)) pk_nil))) (by rfl))))))), ?_⟩
    refine q_asgW (σ := [some (.int y), none, none]) (evp_kind (ea_cons (ev_var rfl) ea_nil) y0 y1 H (Ex.refl _) _ fun p H1 e1 hp => ?_)
    refine s_ifX (σ := [some (.int y), some (.ref p), none]) (b := false) (et_or (a := false) (b := false) (et_test fun H2 e2 Q2 q2 => ?_) fun _ => et_test fun H2 e2 Q2 q2 => ?_) (fun h => by cases h) (fun _ H2 e2 => ?_)
    · exact ⟨.ref p, rfl, p, C.aK, C.kas, kindP y, KP, rfl, rfl, (hp.up e2).sq, C.k_KINDS _, dpAll_K C.k_len fun i b z hb hz => C.k_each i b z hb hz _, (kind_in (y := y) (by omega)).1, q2 H2 (Ex.refl _)⟩
    · exact ⟨.ref p, rfl, .int y, rfl, y, rfl, fun p3 H3 e3 h3 => ⟨pyK (kindP y), pyK (kindP y), dp_K ((hp.up e2).up e3).sq, dp_K h3.sq, pyK_sh _, pyK_sh _, by rw [pyK_same]; exact q2 H3 e3⟩⟩
    · have pw : Ev (tOp (rI0 fun i j => .int (i - j)) (tOp (rI CPow fun i j => .int (i ^ j.toNat)) (tC (.int 10)) (tC (.int 30))) (tC (.int 40))) [some (.int y), some (.ref p), none] H2 (.int (big - 40)) := fun H3 e3 Q3 q3 => ⟨10, 30, rfl, rfl, ⟨by decide, by decide, by decide⟩, _, 40, rfl, rfl, q3 H3 (Ex.refl _)⟩
      have gt : Ev (tOp (rI0 fun i j => .bl (decide (i > j))) (tVar 0) (tOp (rI0 fun i j => .int (i - j)) (tOp (rI CPow fun i j => .int (i ^ j.toNat)) (tC (.int 10)) (tC (.int 30))) (tC (.int 40)))) [some (.int y), some (.ref p), none] H2 (.bl (decide (y > big - 40))) := ev_op (ev_var rfl) pw rv_I0
      refine s_ret (v := .bl (decide (y > big - 40) || true)) (ev_orV gt fun hf => ev_again y0 ?_ (hp.up e2)) ?_
      · have := of_decide_eq_false hf
        omega
      · intro H3 e3
        rw [Bool.or_true]
        exact q H3 ((e1.trans e2).trans e3)
end
end Kx

set_option Elab.async false
set_option linter.all false
set_option maxRecDepth 100000
set_option maxHeartbeats 400000
namespace Kx
open PySem PySem.Spec PyProof.Rows L2 Evl LamX
/-! ## dates as data, their numbers told as texts -/
def pyD (y m d : Int) : PyData := .tuple [.int y, .int m, .int d]
theorem pyD_sh (y m d : Int) : SeqAt.shaped (pyD y m d) = true := by
  have h1 : (pyD y m d).canLay0 = true := by simp [pyD, PyData.canLay0, PyData.canLayAll0]
  have h2 : (pyD y m d).depth = 1 := by simp [pyD, PyData.depth, PyData.depthAll]
  unfold SeqAt.shaped
  rw [h1, h2]
  rfl
theorem pyD_same (y m d : Int) : PyData.eqv (pyD y m d) (pyD y m d) = true := by simp [pyD, PyData.eqv, PyData.eqvAll]
theorem dp_D {K : PySem.W.Frag} {H : Hp} {a : Addr} {y m d : Int} (h : SqT K H a (dv y m d)) : Dp K H (.ref a) (pyD y m d) := .tup h (.cons (.int _) (.cons (.int _) (.cons (.int _) .nil)))
theorem rep_D {H : Hp} {a : Addr} {y m d : Int} (h : TupS H a (dv y m d)) : Rep H (.ref a) (.tup [.int y, .int m, .int d]) := .tup h (.cons (.int _) (.cons (.int _) (.cons (.int _) .nil)))
def rRepr : List V → Hp → VK → Prop := fun xs H Q => ∃ i, xs = [.int i] ∧ i.natAbs.log2 < 1920 ∧ Q (.str (toString i)) H
theorem log_dto {n : Int} (h0 : 0 ≤ n) (h : n < da (big + 1)) : n.natAbs.log2 < 1920 := by
  rcases Nat.eq_zero_or_pos n.natAbs with z | z
  · rw [z]; decide +kernel
  · have h2 : n.natAbs < 10 ^ 34 := by
      have e : da (big + 1) < 10 ^ 34 := by decide +kernel
      omega
    exact (Nat.log2_lt (by omega)).mpr (Nat.lt_trans h2 (by decide +kernel))
theorem dto_lim {y m d : Int} (h : isD y m d) : 0 ≤ dto y m d ∧ dto y m d < da (big + 1) := by
  have a := dto_in h
  have b := da_mono (show (1 : Int) ≤ y from h.1)
  have c := da_mono (show y + 1 ≤ big + 1 by have := h.2.1; omega)
  rw [da_one] at b
  exact ⟨by omega, by omega⟩
section
variable {K : PySem.W.Frag} {σ : L2.St} {H : Hp} {ta tk : TA} {te tl tr : TE} {c CS : Addr} {y m d n : Int} {p : Addr} {E : XK} {s : Str}
theorem ev_no (h : EvA ta σ H [.ref p]) (hp : TupS H p (dv y m d)) (hd : isD y m d) : Ev (tCall (spO (okNo c)) [] E ta) σ H (.int (dto y m d)) :=
  ev_callO h fun _ e => ⟨.ref p, _, rfl, rep_D (hp.up e), (if_pos (dt_of hd)).symm⟩
theorem ev_noK (h : EvA tk σ H [.ref p]) (hp : TupS H p (dv y m d)) (hd : isD y m d) : Ev (tCallK (spO (okNo c)) g1 E tNil tk) σ H (.int (dto y m d)) :=
  ev_callOK (gV := g1) h fun _ e => ⟨.ref p, _, rfl, rep_D (hp.up e), (if_pos (dt_of hd)).symm⟩
theorem ev_repr (h : Ev te σ H (.int n)) (h0 : 0 ≤ n) (h1 : n < da (big + 1)) : Ev (tCB rRepr (tCons te tNil)) σ H (.str (toString n)) :=
  ev_cb (ea_cons h ea_nil) fun H1 _ Q q => ⟨n, rfl, log_dto h0 h1, q H1 (Ex.refl _)⟩
theorem et_sameS (h : Ev tl σ H (.str s)) (h2 : Ev tr σ H (.str s)) : EvT (tTest (tOp rNe tl tr)) σ H false :=
  et_test (ev_is (ev_op h h2 (rv_ne rfl)) (by rw [decide_eq_true rfl]; rfl))
theorem of_at {E : XK} {Q : VK} (hd : isD y m d) (e : dto y m d = n) (q : ∀ p H1, Ex H H1 → TupS H1 p (dv y m d) → Q (.ref p) H1) : spOf c [.int n] H Q E :=
  have l := dto_lim hd
  have b : isBetw (.int n) 0 (da (big + 1) - 1) = true := betw_of (by omega) (by omega)
  ⟨.int n, .int n, rfl, .int n, fun _ y' m' e' p H1 e1 hp hd' ee => by
    obtain ⟨r1, r2, r3⟩ := dto_inj hd' hd (ee.trans (Eq.symm e))
    rw [r1, r2, r3] at hp
    exact q p H1 e1 hp, fun f => by rw [b] at f; cases f⟩
theorem evp_of (h : EvA ta σ H [.int n]) (hd : isD y m d) (e : dto y m d = n) : EvP (tCall (spOf c) [] E ta) σ H (dv y m d) := fun H1 e1 Q q => h H1 e1 _ fun H2 e2 => of_at hd e fun p H3 e3 hp => q p H3 (e2.trans e3) hp
theorem evp_ofK (h : EvA tk σ H [.int n]) (hd : isD y m d) (e : dto y m d = n) : EvP (tCallK (spOf c) g1 E tNil tk) σ H (dv y m d) := fun H1 e1 Q q => h H1 e1 _ fun H2 e2 => of_at hd e fun p H3 e3 hp => q p H3 (e2.trans e3) hp
theorem et_sameD {p : Addr} (h : EvP tl σ H (dv y m d)) (h2 : Ev tr σ H (.ref p)) (hp : TupS H p (dv y m d)) : EvT (tTest (tOp (rNeD K) tl tr)) σ H false := et_test fun H1 e Q q => h H1 e _ fun p2 H2 e2 hp2 => h2 H2 (e.trans e2) _ fun H3 e3 =>
  ⟨pyD y m d, pyD y m d, dp_D (hp2.up e3).sq, dp_D ((hp.up (e.trans e2)).up e3).sq, pyD_sh _ _ _, pyD_sh _ _ _, by rw [pyD_same]; exact q H3 (e2.trans e3)⟩
/-- an action that raises -/
theorem caught_exc {C : Addr} {tl : XK → Hp → VK → Prop} {H1 : Hp} {Q : VK} (hc : PySem.W.exmOne K (.ref C) (.ref CS) = some true) (ht : ∀ (E : XK) (R : VK), (∀ H2, Ex H1 H2 → E (.ref C) none H2) → tl E H1 R) (q : ∀ x H3, Ex H1 H3 → Kept H3 x (.exc C) → Q x H3) : TCaught K CS tl H1 Q :=
  caught_go (o := .exc C) (fun C2 e => by cases e; exact hc) (fun E R _ k => ht E R k) q
theorem tabs_exs {Tb : List (Addr × Str)} {H' : Hp} {sd sg sc : Addr} {b : Nat} (t : Tabs Tb H) (s : Sta H sd sg sc b) (X : ExS sd sg H H') : Tabs Tb H' := fun p hp => by
  obtain ⟨gs, cs, r, tt, w, _, _⟩ := s
  obtain ⟨ps, h1, h2, h3⟩ := t p hp
  refine ⟨ps, X _ _ h1 (ne_of h1 w.d (fun z => by cases z)) (ne_of h1 w.g (fun z => by cases z)), h2, fun pos cv hc => ?_⟩
  obtain ⟨c, e1, e2⟩ := h3 pos cv hc
  exact ⟨c, e1, X _ _ e2 (ne_of e2 w.d (fun z => by unfold CodeO at z; cases z)) (ne_of e2 w.g (fun z => by unfold CodeO at z; cases z))⟩
theorem TupS.exs {H' : Hp} {sd sg sc : Addr} {b : Nat} {a : Addr} {vs : List V} (t : TupS H a vs) (s : Sta H sd sg sc b) (X : ExS sd sg H H') : TupS H' a vs := by
  obtain ⟨gs, cs, r, tt, w, _, _⟩ := s
  obtain ⟨o, h1, h2⟩ := t
  exact ⟨o, h1, X _ _ h2 (ne_of h2 w.d (fun z => by cases z)) (ne_of h2 w.g (fun z => by cases z))⟩
/-- i, j = v, w told by a new tuple -/
theorem q_two {i j : Nat} {v w : V} {u : TS} {D : Ends} (h : EvA ta σ H [v, w]) (k : ∀ H1, Ex H H1 → u D ((σ.set i (some v)).set j (some w)) H1) : tSeq (tAsg (tTupF ta) (gTup K 2 (gCons (gName i) (gCons (gName j) gNil)))) u D σ H :=
  ev_tup h (by show 2 ≤ 100000; decide) H (Ex.refl _) _ fun p H1 e hp => ⟨p, [v, w], rfl, hp.sq, rfl, v, [w], rfl, w, [], rfl, rfl, k H1 e⟩
theorem q_twoX {i j : Nat} {u : TS} {D : Ends} (S : V → V → Hp → Prop) (h : ∀ Q : List V → Hp → Prop, (∀ v w H1, S v w H1 → Q [v, w] H1) → ta σ H Q) (k : ∀ v w H1 H2, S v w H1 → Ex H1 H2 → u D ((σ.set i (some v)).set j (some w)) H2) : tSeq (tAsg (tTupF ta) (gTup K 2 (gCons (gName i) (gCons (gName j) gNil)))) u D σ H :=
  h _ fun v w H1 s => ⟨sz_of (by show 2 ≤ 100000; decide), fun p o fp ho => ⟨p, [v, w], rfl, .inl (.inr ⟨o, upd_same⟩), rfl, v, [w], rfl, w, [], rfl, rfl, k v w H1 _ s (Ex.new fp)⟩⟩
/-- how often a loop runs is drawn -/
theorem q_forDrawn {tp : TE} {j : Nat} {tu tz : TS} {D : Ends} (S : Int → Hp → Prop) (h : ∀ Q : VK, (∀ n H1, S n H1 → Q (.int n) H1) → tp σ H Q) (k : ∀ n H1, S n H1 → tSeq (tFor (iRng1 (tCons (tC (.int n)) tNil)) (gName j) tu) tz D σ H1) : tSeq (tFor (iRng1 (tCons tp tNil)) (gName j) tu) tz D σ H := h _ fun n H1 s => k n H1 s
end
def qDays : Str := (envOfC "_law_days_right" (defScope s_law_days_right) 0 0 .none).qual ++ ("<lambda>" : Str)
def spDays (Tb : List (Addr × Str)) : Sp := fun vs H Q _ => ∃ (sd sg sc : Addr) (b : Nat) (p : Addr) (y m d : Int), vs = [.ref sd, .ref p] ∧ TupS H p (dv y m d) ∧ isD y m d ∧ Sta H sd sg sc (b + 1) ∧ Tabs Tb H ∧
  ∀ H', Sta H' sd sg sc b → (∀ a vs, TupS H a vs → TupS H' a vs) → Tabs Tb H' → Q (.bl true) H'
section
variable {P : Program} {w : World} {K : PySem.W.Frag} {mg : Str → Option Value} {base : Heap} (T : Txt K mg) (C : Cs K mg)
include C in
theorem ok_days {c Pt : Addr} {Tb : List (Addr × Str)} (F : FunC K "_law_days_right" s_law_days_right T.a_law_days_right c T.d_law_days_right) (TB : TabB base mg c Pt) (hm : (Pt, qDays) ∈ Tb) (hu : ∀ p ∈ Tb, p.1 = Pt → p.2 = qDays) :
    FnOk P w K mg base CX0 9 T.a_law_days_right T.d_law_days_right ["state", "date"] (spDays Tb) := by
  refine F.ok sc_law_days_right (fun vs H Q E h => ?_) (fun A outer s H vs Q E hr h => ?_)
  · obtain ⟨sd, sg, sc, b, p, y, m, d, rfl, _⟩ := h
    rfl
  · obtain ⟨sd, sg, sc, b, p, y, m, d, rfl, hp, hd, hS, hT, q⟩ := h
    have nd := sc_law_days_right.nd
    obtain ⟨oc, od, kV, doc, pm, an, cdv, ct, osl, ed, lk, hcd⟩ := T.F_law_caught.ex
    have hbd := b_law_caught T
    rw [ed] at hbd lk
    have hu4 : (A.deeper (envOfC "_law_days_right" (defScope s_law_days_right) s.heap.objs.size T.a_law_days_right (.ref c))).units + 64 < cLine := by have := hr.un; omega
    have G1 : GivesTo (cxOf CX0 P w K mg base ["state", "date", "number", "here", "lap"] "_law_days_right" (defScope s_law_days_right) T.a_law_days_right (.ref c) A outer s H E).nox ["action", "found", "error"] "_law_caught" (defScope s_law_caught) T.a_law_caught cdv (defBody s_law_caught) "action" qDays (TCaught K T.c_KeptError) := caught_gives T.E_KeptError.g
    refine ⟨_, pss_cons (ps_asg (pe_tupF (pa_cons (pe_call (ok_law_number T) (hr.mono (by decide)) (by rfl) T.g_law_number T.F_law_number.kp (b_law_number T) .nil pass0 (pa_cons (pv 1) pa_nil)) (pa_cons (pv 1) pa_nil))) (pg_tup rfl (pgs_cons (pg_name (i := 2) nd rfl (.inr rfl)) (pgs_cons (pg_name (i := 3) nd rfl (.inl rfl)) pgs_nil))))
      (pss_cons (ps_if (PW.pt (pw_or (pt_cmpR op_ne (pe_callB SkE.call_repr_int (by rfl) T.z_repr bo_repr (pa_cons (pe_call (E := fun _ _ _ => False) (ok_number_of T C) (hr.mono (by decide)) (by rfl) T.g_number_of T.F_number_of.kp (b_number_of T) .nil (passes_call L2.takes0 fun _ _ _ _ h => h) (pa_cons (pv 1) pa_nil)) pa_nil)) (pe_callB SkE.call_repr_int (by rfl) T.z_repr bo_repr (pa_cons (pv 2) pa_nil)) (nomark _))
          (pw_or1 (pt_cmpR (op_neD hu4) (pe_named (E := fun _ _ _ => False) (ok_date_of T C) (hr.mono (by decide)) (by rfl) T.g_date_of T.F_date_of.kp (kb_date_of T) (passes_call L2.takes0 fun _ _ _ _ h => h) (pk_cons (pv 2) pk_nil)) (pv 1) (nomark _))))) (pss_one (ps_ret pe_bl)) pss_nil)
      (pss_cons (ps_for PassesOwn.never rfl (pi_range1 (by rfl) T.z_range (pa_cons (pe_call (ok_pickL T) (hr.mono (by decide)) (by rfl) T.g_law_pick T.F_law_pick.kp (b_law_pick T) .nil pass0 (pa_cons (pv 0) (pa_cons (pe_lst (pa_cons pe_int (pa_cons pe_int (pa_cons pe_int pa_nil)))) pa_nil))) pa_nil)) (pg_name (i := 4) nd rfl (.inl rfl))
        (pss_cons (ps_asg (pe_tupF (pa_cons (pe_call (ok_law_after T) (hr.mono (by decide)) (by rfl) T.g_law_after T.F_law_after.kp (b_law_after T) .nil pass0 (pa_cons (pv 3) pa_nil)) (pa_cons (pe_op op_add (pv 2) pe_int) pa_nil))) (pg_tup rfl (pgs_cons (pg_name (i := 3) nd rfl (.inl rfl)) (pgs_cons (pg_name (i := 2) nd rfl (.inr rfl)) pgs_nil))))
        (pss_cons (ps_if (pt_cmpR op_gt (pe_ix (r := rIxT K) ix_tup (pv 3) pe_int (fun _ _ => rfl)) (pe_op op_pow pe_int pe_int) (nomark _))
          (pss_one (ps_ret (pe_callB call_is2 (by rfl) T.z_isinstance bo_isinstance (pa_cons (pe_lamcall (T := Tb) (k := 5) (TT := TCaught K T.c_KeptError) (t := fun E1 => tCall (spOf T.c_BadNumber) [] E1 (tCons (tVar 2) tNil)) (by rfl) T.g_law_caught T.F_law_caught.kp lk hcd hbd sc_law_caught rfl (.inl rfl) G1 TB rfl hm hu (hr.mono (by decide)) (lamS_by (by show lamSB (defScope s_law_days_right) _ = true; decide +kernel)) rfl (fun _ _ _ _ _ => rfl)
            (fun A outer s H E f c' hr => pe_call (E := E) (ok_date_of T C) (hr.mono (by decide)) (by rfl) T.g_date_of T.F_date_of.kp (b_date_of T) .nil (passes_call (takes_of rfl rfl rfl rfl) fun _ _ _ _ h => h) (pa_cons (pv 2) pa_nil))) (pa_cons (pe_glob (v := .ref T.c_BadNumber) (by rfl) T.E_BadNumber.g rfl) pa_nil))))) pss_nil)
        (pss_one (ps_if (PW.pt (pw_or (pt_cmpR op_ne (pe_callB SkE.call_repr_int (by rfl) T.z_repr bo_repr (pa_cons (pe_named (E := fun _ _ _ => False) (ok_number_of T C) (hr.mono (by decide)) (by rfl) T.g_number_of T.F_number_of.kp (kb_number_of T) (passes_call L2.takes0 fun _ _ _ _ h => h) (pk_cons (pv 3) pk_nil)) pa_nil)) (pe_callB SkE.call_repr_int (by rfl) T.z_repr bo_repr (pa_cons (pv 2) pa_nil)) (nomark _))
          (pw_or1 (pt_cmpR (op_neD hu4) (pe_call (E := fun _ _ _ => False) (ok_date_of T C) (hr.mono (by decide)) (by rfl) T.g_date_of T.F_date_of.kp (b_date_of T) .nil (passes_call L2.takes0 fun _ _ _ _ h => h) (pa_cons (pv 2) pa_nil)) (pv 3) (nomark _))))) (pss_one (ps_ret pe_bl)) pss_nil)))))
      (pss_one (ps_ret pe_bl)))), ?_⟩
    obtain ⟨y0, y1, m1, m2, d1, d2⟩ := id hd
    have hl := dto_lim hd
    -- the date itself
    refine q_two (σ := [some (.ref sd), some (.ref p), none, none, none]) (ea_cons (ev_sp stb_ln (ea_cons (ev_var rfl) ea_nil) ⟨p, y, m, d, rfl, hp, m1, m2, rfl⟩) (ea_cons (ev_var rfl) ea_nil)) fun HA E1 => ?_
    have hpA := hp.up E1
    refine s_ifX (σ := [some (.ref sd), some (.ref p), some (.int (dto y m d)), some (.ref p), none]) (b := false) (et_or (a := false) (b := false) (et_sameS (ev_repr (ev_no (ea_cons (ev_var rfl) ea_nil) hpA hd) hl.1 hl.2) (ev_repr (ev_var rfl) hl.1 hl.2)) fun _ => et_sameD (evp_ofK (ea_cons (ev_var rfl) ea_nil) hd rfl) (ev_var rfl) hpA) (fun h => by cases h) (fun _ H2 e2 => ?_)
    have E2 := E1.trans e2
    refine q_forDrawn (σ := [some (.ref sd), some (.ref p), some (.int (dto y m d)), some (.ref p), none]) (fun n H3 => 0 ≤ n ∧ n ≤ 400 ∧ Sta H3 sd sg sc b ∧ ExS sd sg H H3) (fun Q1 q1 => ⟨.ref sd, rfl, by show 3 ≤ sizeLine; rw [sizeLine_eq]; decide, fun l fl => ?_⟩) fun n H3 ⟨n0, n1, S3, X3⟩ => ?_
    · have S2 := hS.up E2
      obtain ⟨u1, v1, _⟩ := S2.off fl
      have EB : Ex H2 (upd H2 l (.lst [.int 3, .int 40, .int 400])) := Ex.new fl
      refine ⟨sd, sg, sc, b, l, [.int 3, .int 40, .int 400], rfl, upd_same, u1, v1, by decide, by decide, S2.up EB, fun j x H4 hx S4 X4 => ?_⟩
      have XX : ExS sd sg H H4 := (ExS.of (E2.trans EB)).trans X4
      have mm := List.mem_of_getElem? hx
      simp only [List.mem_cons, List.not_mem_nil, or_false] at mm
      rcases mm with rfl | rfl | rfl <;> exact q1 _ H4 ⟨by decide, by decide, S4, XX⟩
    have hp3 := hp.exs hS X3
    have T3 := tabs_exs hT hS X3
    refine q_forR1 (σ := [some (.ref sd), some (.ref p), some (.int (dto y m d)), some (.ref p), none]) (n := n) (ea_cons ev_c ea_nil) ⟨n0, by omega⟩ (fun i σ' H' => ∃ (y' m' d' : Int) (r : Addr) (lap : Option V), σ' = [some (.ref sd), some (.ref p), some (.int (dto y' m' d')), some (.ref r), lap] ∧ TupS H' r (dv y' m' d') ∧ isD y' m' d' ∧ Ex H3 H')
      (fun H4 e4 => ⟨y, m, d, p, none, rfl, hp3.up e4, hd, e4⟩) (fun i σ' H' _ hq => ?_) (fun σ' H' hq => ?_)
    · obtain ⟨y', m', d', r, lap, rfl, hr', hd', e4⟩ := hq
      obtain ⟨y2, m2', d2', en, b0, b1, b2, b3, b4, b5, b6, b7⟩ := nextD_ok hd'
      obtain ⟨_, _, c1, c2, _⟩ := id hd'
      refine q_twoX (σ := [some (.ref sd), some (.ref p), some (.int (dto y' m' d')), some (.ref r), some (.int (i : Int))]) (fun v z H5 => ∃ r2, v = .ref r2 ∧ z = .int (dto y2 m2' d2') ∧ Ex H' H5 ∧ TupS H5 r2 (dv y2 m2' d2'))
        (fun Q1 q1 => ⟨.ref r, rfl, r, y', m', d', rfl, hr', c1, c2, fun r2 H5 e5 h5 => ⟨.int (dto y' m' d'), rfl, _, 1, rfl, rfl, q1 _ _ H5 ⟨r2, rfl, congrArg V.int b6.symm, e5, by rw [en] at h5; exact h5⟩⟩⟩) fun v z H5 H6 ⟨r2, ev, ez, e5, h5⟩ E6 => ?_
      subst ev ez
      have h6 := h5.up E6
      have E36 := (e4.trans e5).trans E6
      have pw : ∀ {σ : L2.St} {H : Hp}, Ev (tOp (rI CPow fun i j => .int (i ^ j.toNat)) (tC (.int 10)) (tC (.int 30))) σ H (.int big) := fun {σ H} H3 e3 Q3 q3 => ⟨10, 30, rfl, rfl, ⟨by decide, by decide, by decide⟩, q3 H3 (Ex.refl _)⟩
      have gt : Ev (tOp (rI0 fun i j => .bl (decide (i > j))) (tOp (rIxT K) (tVar 3) (tC (.int 0))) (tOp (rI CPow fun i j => .int (i ^ j.toNat)) (tC (.int 10)) (tC (.int 30)))) [some (.ref sd), some (.ref p), some (.int (dto y2 m2' d2')), some (.ref r2), some (.int (i : Int))] H6 (.bl (decide (y2 > big))) :=
        ev_op (ev_op (z := .int y2) (ev_var rfl) ev_c (rv_ixT h6.sq (atI_nat (j := 0) rfl))) pw rv_I0
      refine s_ifX (σ := [some (.ref sd), some (.ref p), some (.int (dto y2 m2' d2')), some (.ref r2), some (.int (i : Int))]) (b := decide (y2 > big)) (et_test gt) (fun hb H7 e7 => ?_) (fun hb H7 e7 => ?_)
      · -- behind the last day
        have yb : y2 = big + 1 := by have := of_decide_eq_true hb; omega
        obtain ⟨z1, z2⟩ := b7 yb
        have far : dto y2 m2' d2' = da (big + 1) := by
          rw [yb, z1, z2]
          unfold dto
          rw [show (1 - 1 : Int).toNat = 0 from rfl, (cum_at (big + 1)).1]
          omega
        have T7 := T3.ext (E36.trans e7 : Ex H3 H7)
        refine ⟨T7, fun H8 e8 T8 => caught_exc (T.caught T.u_BadNumber) (fun E9 R9 k9 => ⟨.int (dto y2 m2' d2'), rfl, .int (dto y2 m2' d2'), .int (dto y2 m2' d2'), rfl, .int _, fun f => ?_, fun _ => k9⟩) fun x H9 e9 k9 => ?_⟩
        · exfalso
          have := (betw_int f).2.2
          have e : (D.int (dto y2 m2' d2')).i = dto y2 m2' d2' := rfl
          omega
        · obtain ⟨a, rfl, ha⟩ := k9
          have T9 := T8.ext e9
          have S9 := ((S3.up (E36.trans e7)).xn e8).up e9
          refine .inl ⟨a, T.c_BadNumber, T.c_BadNumber, true, rfl, ha, T.E_BadNumber.ex, T.q_NN, ?_⟩
          exact q H9 S9 (fun a vs t => (((t.exs hS X3).up (E36.trans e7)).xn e8).up e9) T9
      · have hd2 : isD y2 m2' d2' := ⟨b0, by have := of_decide_eq_false hb; omega, b2, b3, b4, b5⟩
        have l2 := dto_lim hd2
        have h7 := h6.up e7
        refine s_if (σ := [some (.ref sd), some (.ref p), some (.int (dto y2 m2' d2')), some (.ref r2), some (.int (i : Int))]) (b := false) (et_or (a := false) (b := false) (et_sameS (ev_repr (ev_noK (ea_cons (ev_var rfl) ea_nil) h7 hd2) l2.1 l2.2) (ev_repr (ev_var rfl) l2.1 l2.2)) fun _ => et_sameD (evp_of (ea_cons (ev_var rfl) ea_nil) hd2 rfl) (ev_var rfl) h7) (fun h => by cases h) (fun _ H8 e8 => ?_)
        exact ⟨y2, m2', d2', r2, _, rfl, h7.up e8, hd2, (E36.trans e7).trans e8⟩
    · obtain ⟨y', m', d', r, lap, rfl, hr', hd', e4⟩ := hq
      exact q H' (S3.up e4) (fun a vs t => (t.exs hS X3).up e4) (T3.ext e4)
end
end Kx

set_option Elab.async false
set_option linter.all false
set_option maxRecDepth 100000
set_option maxHeartbeats 400000
namespace Kx
open PySem PySem.Spec PyProof.Rows L2 Evl LamX
/-! ## a heap without the state -/
structure Ap (H : Hp) (sd sg : Addr) : Prop where
  d : ∃ o, H sd = some o
  g : ∃ o, H sg = some o
theorem Sta.ap {H : Hp} {sd sg sc : Addr} {b : Nat} (s : Sta H sd sg sc b) : Ap H sd sg := let ⟨_, _, _, _, w, _, _⟩ := s; ⟨⟨_, w.d⟩, ⟨_, w.g⟩⟩
theorem Ap.up {H H' : Hp} {sd sg : Addr} (a : Ap H sd sg) (e : Ex H H') : Ap H' sd sg := let ⟨o, h⟩ := a.d; let ⟨u, g⟩ := a.g; ⟨⟨o, e _ _ h⟩, ⟨u, e _ _ g⟩⟩
theorem Ap.ne {H : Hp} {sd sg p : Addr} (a : Ap H sd sg) (h : H p = none) : p ≠ sd ∧ p ≠ sg := by
  obtain ⟨⟨o, h1⟩, ⟨u, h2⟩⟩ := a
  exact ⟨fun e => (by rw [e, h1] at h; cases h), fun e => (by rw [e, h2] at h; cases h)⟩
theorem hid_at {H : Hp} {sd sg p : Addr} {o : HO} (h : H p = some o) (n1 : p ≠ sd) (n2 : p ≠ sg) : hid H sd sg p = some o := by
  unfold hid
  rw [if_neg fun z => z.elim n1 n2]
  exact h
/-- what te gives stands for d, apart from the state -/
def EvH (te : TE) (σ : L2.St) (H : Hp) (sd sg : Addr) (d : D) : Prop := ∀ H1, Ex H H1 → ∀ Q : VK, (∀ v H2, Ex H1 H2 → Rep (hid H2 sd sg) v d → Q v H2) → te σ H1 Q
def EvAH (ta : TA) (σ : L2.St) (H : Hp) (sd sg : Addr) (ds : List D) : Prop := ∀ H1, Ex H H1 → ∀ Q : List V → Hp → Prop, (∀ vs H2, Ex H1 H2 → Reps (hid H2 sd sg) vs ds → Q vs H2) → ta σ H1 Q
section
variable {K : PySem.W.Frag} {σ : L2.St} {H H' : Hp} {sd sg sc : Addr} {b : Nat} {ta tr : TA} {te tb t0 : TE} {v : V} {d : D} {ds es : List D} {i : Int}
theorem rep_ex (r : Rep (hid H sd sg) v d) (e : Ex H H') : Rep (hid H' sd sg) v d := r.up (hid_mono (.of e))
theorem reps_ex {vs : List V} (r : Reps (hid H sd sg) vs ds) (e : Ex H H') : Reps (hid H' sd sg) vs ds := r.up (hid_mono (.of e))
theorem eh_of (h : Ev te σ H v) (r : Rep (hid H sd sg) v d) : EvH te σ H sd sg d := fun H1 e Q q => h H1 e _ fun H2 e2 => q v H2 e2 (rep_ex r (e.trans e2))
theorem eh_i (h : Ev te σ H (.int i)) : EvH te σ H sd sg (.int i) := eh_of h (.int i)
theorem eah_nil : EvAH tNil σ H sd sg [] := fun H1 _ _ q => q [] H1 (Ex.refl _) .nil
theorem eah_cons (h : EvH te σ H sd sg d) (hr : EvAH tr σ H sd sg ds) : EvAH (tCons te tr) σ H sd sg (d :: ds) := fun H1 e Q q =>
  h H1 e _ fun v H2 e2 r => hr H2 (e.trans e2) _ fun vs H3 e3 rs => q (v :: vs) H3 (e2.trans e3) (.cons (rep_ex r e3) rs)
theorem newT_hid {xs : List V} {Q : VK} (ap : Ap H sd sg) (r : Reps (hid H sd sg) xs ds) (q : ∀ v H2, Ex H H2 → Rep (hid H2 sd sg) v (.tup ds) → Q v H2) : newT xs H Q := fun p o hp ho => by
  obtain ⟨n1, n2⟩ := ap.ne hp
  exact q (.ref p) _ (Ex.new hp) (.tup ⟨o, ho, hid_at upd_same n1 n2⟩ (reps_ex r (Ex.new hp)))
theorem eh_tup (ap : Ap H sd sg) (h : EvAH ta σ H sd sg ds) (hz : ds.length ≤ 100000) : EvH (tTupF ta) σ H sd sg (.tup ds) := fun H1 e Q q =>
  h H1 e _ fun vs H2 e2 rs => ⟨by rw [rs.length]; exact sz_of hz, newT_hid (ap.up (e.trans e2)) rs fun v H3 e3 r => q v H3 (e2.trans e3) r⟩
theorem eh_lst (ap : Ap H sd sg) (h : EvAH ta σ H sd sg ds) (hz : ds.length ≤ 100000) : EvH (tLst ta) σ H sd sg (.lst ds) := fun H1 e Q q =>
  h H1 e _ fun vs H2 e2 rs => ⟨by rw [rs.length]; exact sz_of hz, fun p hp => by
    obtain ⟨n1, n2⟩ := (ap.up (e.trans e2)).ne hp
    exact q (.ref p) _ (e2.trans (Ex.new hp)) (.lst (hid_at upd_same n1 n2) (reps_ex rs (Ex.new hp)))⟩
theorem eh_cat (ap : Ap H sd sg) (ha : EvH te σ H sd sg (.tup ds)) (hb : EvH tb σ H sd sg (.tup es)) (hz : ds.length + es.length ≤ 100000) : EvH (tOp rCatF te tb) σ H sd sg (.tup (ds ++ es)) := fun H1 e Q q =>
  ha H1 e _ fun v H2 e2 r => hb H2 (e.trans e2) _ fun u H3 e3 r2 => by
    obtain ⟨a, xs, rfl, h1, s1⟩ := (rep_ex r e3).tupD
    obtain ⟨b, ys, rfl, h2, s2⟩ := r2.tupD
    refine ⟨a, b, xs, ys, rfl, rfl, h1.up hid_ex, h2.up hid_ex, by rw [s1.length, s2.length]; exact sz_of hz, fun e0 => ?_, fun _ e0 => ?_, fun _ _ => newT_hid (ap.up ((e.trans e2).trans e3)) (s1.append s2) fun v H4 e4 r => q v H4 ((e2.trans e3).trans e4) r⟩
    · subst e0
      cases s1
      exact q _ H3 (e2.trans e3) (.tup h2 s2)
    · subst e0
      cases s2
      rw [List.append_nil] at q
      exact q _ H3 (e2.trans e3) (.tup h1 s1)
/-- one of data is picked -/
theorem pickH {Q : VK} (h0 : Ev t0 σ H (.ref sd)) (S : Sta H sd sg sc (b + 1)) (ha : EvAH ta σ H sd sg ds) (hp : 0 < ds.length) (hz : ds.length ≤ 1000) (q : ∀ (j : Nat) (d : D) (v : V) (H' : Hp), ds[j]? = some d → Rep (hid H' sd sg) v d → Sta H' sd sg sc b → ExS sd sg H H' → Q v H') :
    tCall spPickL [] E0 (tCons t0 (tCons (tLst ta) tNil)) σ H Q := h0 H (Ex.refl _) _ fun H1 e1 => ha H1 e1 _ fun vs H2 e2 rs => ⟨by rw [rs.length]; exact sz_of (by omega), fun l fl => by
  have S2 := S.up (e1.trans e2)
  obtain ⟨n1, n2, _⟩ := S2.off fl
  have EB : Ex H2 (upd H2 l (.lst vs)) := Ex.new fl
  refine ⟨sd, sg, sc, b, l, vs, rfl, upd_same, n1, n2, by rw [rs.length]; exact hp, by rw [rs.length]; exact hz, S2.up EB, fun j x H3 hx S3 X3 => ?_⟩
  obtain ⟨d, hd, r⟩ := rs.get hx
  exact q j d x H3 hd ((rep_ex r EB).up (hid_mono X3)) S3 ((ExS.of ((e1.trans e2).trans EB)).trans X3)⟩
theorem tup_hid {a : Addr} {vs : List V} (t : TupS H a vs) (s : Sta H sd sg sc b) : TupS (hid H sd sg) a vs := by
  obtain ⟨gs, cs, r, tt, w, _, _⟩ := s
  obtain ⟨o, h1, h2⟩ := t
  exact ⟨o, h1, hid_at h2 (ne_of h2 w.d (fun z => by cases z)) (ne_of h2 w.g (fun z => by cases z))⟩
end
/-! ## what is no date, no number of a day, no year -/
def badD (y m d : Int) : List D := [.tup [.int y, .int m, .int (mlen y m + 1)], .tup [.int y, .int 13, .int 1], .tup [.int y, .int 0, .int 5], .tup [.int 0, .int m, .int d], .lst [.int y, .int m, .int d], .tup [.int y, .int m], .tup [.int y, .bl true, .int 1], .non,
  .tup [.int (big + 1), .int 1, .int 1], .tup [.int y, .int m, .int 0], .str (toString y), .tup [.int 2100, .int 2, .int 29], .tup [.int y, .int m, .non], .tup ([.int y, .int m, .int d] ++ [.int 0])]
theorem badD_no {y m d : Int} {e : D} (h : e ∈ badD y m d) : e.isDt = false := by
  unfold badD at h
  simp only [List.mem_cons, List.not_mem_nil, or_false] at h
  have third : ∀ {a b c : D}, isBetw c 1 (mlen a.i b.i) = false → D.isDt (.tup [a, b, c]) = false := fun {a b c} h => by
    show ((isBetw a 1 big && isBetw b 1 12) && isBetw c 1 (mlen a.i b.i)) = false
    rw [h, Bool.and_false]
  have second : ∀ {a b c : D}, isBetw b 1 12 = false → D.isDt (.tup [a, b, c]) = false := fun {a b c} h => by
    show ((isBetw a 1 big && isBetw b 1 12) && isBetw c 1 (mlen a.i b.i)) = false
    rw [h, Bool.and_false, Bool.false_and]
  have first : ∀ {a b c : D}, isBetw a 1 big = false → D.isDt (.tup [a, b, c]) = false := fun {a b c} h => by
    show ((isBetw a 1 big && isBetw b 1 12) && isBetw c 1 (mlen a.i b.i)) = false
    rw [h, Bool.false_and, Bool.false_and]
  rcases h with rfl | rfl | rfl | rfl | rfl | rfl | rfl | rfl | rfl | rfl | rfl | rfl | rfl | rfl
  · refine third ?_
    show (decide (1 ≤ mlen y m + 1) && decide (mlen y m + 1 ≤ mlen y m)) = false
    rw [decide_eq_false (show ¬ mlen y m + 1 ≤ mlen y m by omega), Bool.and_false]
  · exact second rfl
  · exact second rfl
  · exact first rfl
  · rfl
  · rfl
  · exact second rfl
  · rfl
  · exact first (by decide +kernel)
  · exact third rfl
  · rfl
  · decide +kernel
  · exact third rfl
  · rfl
def lastN : Int := da (big + 1) - 1
def oddN : List D := [.int (-1), .int (lastN + 1), .non, .bl true, .str "0", .lst [.int 0], .int (-((10 : Int) ^ (40 : Int).toNat)), .int ((10 : Int) ^ (60 : Int).toNat)]
theorem oddN_no {e : D} (h : e ∈ oddN) : isBetw e 0 (da (big + 1) - 1) = false := by
  unfold oddN at h
  simp only [List.mem_cons, List.not_mem_nil, or_false] at h
  rcases h with rfl | rfl | rfl | rfl | rfl | rfl | rfl | rfl <;> first | rfl | decide +kernel
def oddY : List D := [.int 0, .int (-4), .int (big + 1), .non, .bl false, .str "2001", .tup [.int 2001]]
theorem oddY_no {e : D} (h : e ∈ oddY) : isBetw e 1 big = false := by
  unfold oddY at h
  simp only [List.mem_cons, List.not_mem_nil, or_false] at h
  rcases h with rfl | rfl | rfl | rfl | rfl | rfl | rfl <;> first | rfl | decide +kernel
def qRef : Str := (envOfC "_law_refused_right" (defScope s_law_refused_right) 0 0 .none).qual ++ ("<lambda>" : Str)
def spRefd (Tb : List (Addr × Str)) : Sp := fun vs H Q _ => ∃ (sd sg sc : Addr) (b : Nat) (p : Addr) (y m d : Int), vs = [.ref sd, .ref p] ∧ TupS H p (dv y m d) ∧ isD y m d ∧ Sta H sd sg sc (b + 3) ∧ Tabs Tb H ∧
  ∀ H', Sta H' sd sg sc b → (∀ a vs, TupS H a vs → TupS H' a vs) → Tabs Tb H' → Q (.bl true) H'
end Kx

set_option Elab.async false
set_option linter.all false
set_option maxRecDepth 100000
set_option maxHeartbeats 400000
namespace Kx
open PySem PySem.Spec PyProof.Rows L2 Evl LamX
section
variable {K : PySem.W.Frag} {σ : L2.St} {H : Hp} {te : TE}
theorem ev_pow {e : Int} (h : CPow 10 e) : Ev (tOp (rI CPow fun i j => .int (i ^ j.toNat)) (tC (.int 10)) (tC (.int e))) σ H (.int ((10 : Int) ^ e.toNat)) := ev_op ev_c ev_c (rv_I h)
theorem ev_strI {i : Int} (h : Ev te σ H (.int i)) (hz : i.natAbs.log2 < 1920) : Ev (tCB (fun xs H Q => ∃ i, xs = [.int i] ∧ i.natAbs.log2 < 1920 ∧ Q (.str (toString i)) H) (tCons te tNil)) σ H (.str (toString i)) :=
  ev_cb (ea_cons h ea_nil) fun H1 _ Q q => ⟨i, rfl, hz, q H1 (Ex.refl _)⟩
theorem log_year {y : Int} (h0 : 1 ≤ y) (h : y ≤ big) : y.natAbs.log2 < 1920 := by
  have e : big < da (big + 1) := by decide +kernel
  exact log_dto (by omega) (by omega)
theorem kept_is {x : V} {D0 C : Addr} {Q : VK} (k : Kept H x (.exc D0)) (EC : ExcC K D0) (hk : PySem.W.kitOne K (.ref D0) (.ref C) = some true) (q : Q (.bl true) H) : rIs2 K [x, .ref C] H Q := by
  obtain ⟨a, rfl, ha⟩ := k
  exact .inl ⟨a, D0, C, true, rfl, ha, EC, hk, q⟩
end
section
variable {P : Program} {w : World} {K : PySem.W.Frag} {mg : Str → Option Value} {base : Heap} (T : Txt K mg) (C : Cs K mg)
include C in
theorem ok_refd {c Pt : Addr} {Tb : List (Addr × Str)} (F : FunC K "_law_refused_right" s_law_refused_right T.a_law_refused_right c T.d_law_refused_right) (TB : TabB base mg c Pt) (hm : (Pt, qRef) ∈ Tb) (hu : ∀ p ∈ Tb, p.1 = Pt → p.2 = qRef) :
    FnOk P w K mg base CX0 9 T.a_law_refused_right T.d_law_refused_right ["state", "date"] (spRefd Tb) := by
  refine F.ok sc_law_refused_right (fun vs H Q E h => ?_) (fun A outer s H vs Q E hr h => ?_)
  · obtain ⟨sd, sg, sc, b, p, y, m, d, rfl, _⟩ := h
    rfl
  · obtain ⟨sd, sg, sc, b, p, y, m, d, rfl, hp, hd, hS, hT, q⟩ := h
    have nd := sc_law_refused_right.nd
    obtain ⟨oc, od, kV, doc, pm, an, cdv, ct, osl, ed, lk, hcd⟩ := T.F_law_caught.ex
    have hbd := b_law_caught T
    rw [ed] at hbd lk
    have G1 : GivesTo (cxOf CX0 P w K mg base ["state", "date", "year", "month", "day", "bad", "last", "odd", "caught"] "_law_refused_right" (defScope s_law_refused_right) T.a_law_refused_right (.ref c) A outer s H E).nox ["action", "found", "error"] "_law_caught" (defScope s_law_caught) T.a_law_caught cdv (defBody s_law_caught) "action" qRef (TCaught K T.c_KeptError) := caught_gives T.E_KeptError.g
    refine ⟨_, pss_cons (ps_asg (pv 1) (pg_tup rfl (pgs_cons (pg_name (i := 2) nd rfl (.inl rfl)) (pgs_cons (pg_name (i := 3) nd rfl (.inl rfl)) (pgs_cons (pg_name (i := 4) nd rfl (.inl rfl)) pgs_nil)))))
      (pss_cons (ps_set (i := 5) nd rfl (.inr rfl) (pe_call (ok_pickL T) (hr.mono (by decide)) (by rfl) T.g_law_pick T.F_law_pick.kp (b_law_pick T) .nil pass0 (pa_cons (pv 0) (pa_cons (pe_lst
        (pa_cons (pe_tupF (pa_cons (pv 2) (pa_cons (pv 3) (pa_cons (pe_op op_add (pe_call (ok_law_month T) (hr.mono (by decide)) (by rfl) T.g_law_month T.F_law_month.kp (b_law_month T) .nil pass0 (pa_cons (pv 2) (pa_cons (pv 3) pa_nil))) pe_int) pa_nil))))
        (pa_cons (pe_tupF (pa_cons (pv 2) (pa_cons pe_int (pa_cons pe_int pa_nil))))
        (pa_cons (pe_tupF (pa_cons (pv 2) (pa_cons pe_int (pa_cons pe_int pa_nil))))
        (pa_cons (pe_tupF (pa_cons pe_int (pa_cons (pv 3) (pa_cons (pv 4) pa_nil))))
        (pa_cons (pe_lst (pa_cons (pv 2) (pa_cons (pv 3) (pa_cons (pv 4) pa_nil))))
        (pa_cons (pe_tupF (pa_cons (pv 2) (pa_cons (pv 3) pa_nil)))
        (pa_cons (pe_tupF (pa_cons (pv 2) (pa_cons pe_bl (pa_cons pe_int pa_nil))))
        (pa_cons pe_non
        (pa_cons (pe_tupF (pa_cons (pe_op op_add (pe_op op_pow pe_int pe_int) pe_int) (pa_cons pe_int (pa_cons pe_int pa_nil))))
        (pa_cons (pe_tupF (pa_cons (pv 2) (pa_cons (pv 3) (pa_cons pe_int pa_nil))))
        (pa_cons (pe_callTy call_str_int (by rfl) T.z_str bo_str (pa_cons (pv 2) pa_nil))
        (pa_cons (pe_tupF (pa_cons pe_int (pa_cons pe_int (pa_cons pe_int pa_nil))))
        (pa_cons (pe_tupF (pa_cons (pv 2) (pa_cons (pv 3) (pa_cons pe_non pa_nil))))
        (pa_cons (pe_op op_catF (pv 1) (pe_tupF (pa_cons pe_int pa_nil))) pa_nil))))))))))))))) pa_nil))))
      (pss_cons (ps_set (i := 6) nd rfl (.inl rfl) (pe_call (ok_law_number T) (hr.mono (by decide)) (by rfl) T.g_law_number T.F_law_number.kp (b_law_number T) .nil pass0 (pa_cons (pe_tupF (pa_cons (pe_op op_pow pe_int pe_int) (pa_cons pe_int (pa_cons pe_int pa_nil)))) pa_nil)))
      (pss_cons (ps_set (i := 7) nd rfl (.inr rfl) (pe_call (ok_pickL T) (hr.mono (by decide)) (by rfl) T.g_law_pick T.F_law_pick.kp (b_law_pick T) .nil pass0 (pa_cons (pv 0) (pa_cons (pe_lst (pa_cons (pe_un un_neg pe_int) (pa_cons (pe_op op_add (pv 6) pe_int) (pa_cons pe_non (pa_cons pe_bl (pa_cons pe_str (pa_cons (pe_lst (pa_cons pe_int pa_nil)) (pa_cons (pe_un un_neg (pe_op op_pow pe_int pe_int)) (pa_cons (pe_op op_pow pe_int pe_int) pa_nil))))))))) pa_nil))))
      (pss_cons (ps_set (i := 8) nd rfl (.inl rfl) (pe_lst (pa_cons (pe_lamcall (T := Tb) (k := 5) (TT := TCaught K T.c_KeptError) (t := fun E1 => tCall (spO (okNo T.c_BadDate)) [] E1 (tCons (tVar 5) tNil)) (by rfl) T.g_law_caught T.F_law_caught.kp lk hcd hbd sc_law_caught rfl (.inl rfl) G1 TB rfl hm hu (hr.mono (by decide)) (lamS_by (by show lamSB (defScope s_law_refused_right) _ = true; decide +kernel)) rfl (fun _ _ _ _ _ => rfl)
        (fun A outer s H E f c' hr => pe_call (E := E) (ok_number_of T C) hr (by rfl) T.g_number_of T.F_number_of.kp (b_number_of T) .nil (passes_call (takes_of rfl rfl rfl rfl) fun _ _ _ _ h => h) (pa_cons (pv 5) pa_nil))) pa_nil)))
      (pss_cons (ps_expr (pe_bm PySem.F.plainAttrs_list PySem.F.slot_list_append PySem.F.type_list_append mt_append (pv 8) (pa_cons (pe_lamcall (T := Tb) (k := 5) (TT := TCaught K T.c_KeptError) (t := fun E1 => tCall (spOf T.c_BadNumber) [] E1 (tCons (tVar 7) tNil)) (by rfl) T.g_law_caught T.F_law_caught.kp lk hcd hbd sc_law_caught rfl (.inl rfl) G1 TB rfl hm hu (hr.mono (by decide)) (lamS_by (by show lamSB (defScope s_law_refused_right) _ = true; decide +kernel)) rfl (fun _ _ _ _ _ => rfl)
        (fun A outer s H E f c' hr => pe_call (E := E) (ok_date_of T C) (hr.mono (by decide)) (by rfl) T.g_date_of T.F_date_of.kp (b_date_of T) .nil (passes_call (takes_of rfl rfl rfl rfl) fun _ _ _ _ h => h) (pa_cons (pv 7) pa_nil))) pa_nil)))
      (pss_cons (ps_if (PW.pt (pw_or (pt_not (pt_val (pe_callB call_is2 (by rfl) T.z_isinstance bo_isinstance (pa_cons (pe_ix (r := rIxL K) ix_list (pv 8) pe_int (fun _ _ => rfl)) (pa_cons (pe_glob (v := .ref T.c_BadDate) (by rfl) T.E_BadDate.g rfl) pa_nil)))))
          (pw_or1 (pt_not (pt_val (pe_callB call_is2 (by rfl) T.z_isinstance bo_isinstance (pa_cons (pe_ix (r := rIxL K) ix_list (pv 8) pe_int (fun _ _ => rfl)) (pa_cons (pe_glob (v := .ref T.c_BadNumber) (by rfl) T.E_BadNumber.g rfl) pa_nil)))))))) (pss_one (ps_ret pe_bl)) pss_nil)
      (pss_cons (ps_set (i := 7) nd rfl (.inr rfl) (pe_call (ok_pickL T) (hr.mono (by decide)) (by rfl) T.g_law_pick T.F_law_pick.kp (b_law_pick T) .nil pass0 (pa_cons (pv 0) (pa_cons (pe_lst (pa_cons pe_int (pa_cons (pe_un un_neg pe_int) (pa_cons (pe_op op_add (pe_op op_pow pe_int pe_int) pe_int) (pa_cons pe_non (pa_cons pe_bl (pa_cons pe_str (pa_cons (pe_tupF (pa_cons pe_int pa_nil)) pa_nil)))))))) pa_nil))))
      (pss_one (ps_ret (pe_callB call_is2 (by rfl) T.z_isinstance bo_isinstance (pa_cons (pe_lamcall (T := Tb) (k := 5) (TT := TCaught K T.c_KeptError) (t := fun E1 => tCall (spKind T.c_BadYear) [] E1 (tCons (tVar 7) tNil)) (by rfl) T.g_law_caught T.F_law_caught.kp lk hcd hbd sc_law_caught rfl (.inl rfl) G1 TB rfl hm hu (hr.mono (by decide)) (lamS_by (by show lamSB (defScope s_law_refused_right) _ = true; decide +kernel)) rfl (fun _ _ _ _ _ => rfl)
        (fun A outer s H E f c' hr => pe_call (E := E) (ok_kind_of T C) (hr.mono (by decide)) (by rfl) T.g_kind_of T.F_kind_of.kp (b_kind_of T) .nil (passes_call (takes_of rfl rfl rfl rfl) fun _ _ _ _ h => h) (pa_cons (pv 7) pa_nil))) (pa_cons (pe_glob (v := .ref T.c_BadYear) (by rfl) T.E_BadYear.g rfl) pa_nil)))))))))))), ?_⟩
    obtain ⟨y0, y1, m1, m2, d1, d2⟩ := id hd
    refine ⟨.ref p, rfl, p, _, rfl, hp.sq, rfl, .int y, _, rfl, .int m, _, rfl, .int d, _, rfl, rfl, ?_⟩
    have ap := hS.ap
    have p30 : CPow 10 30 := ⟨by decide, by decide, by decide⟩
    have p40 : CPow 10 40 := ⟨by decide, by decide, by decide⟩
    have p60 : CPow 10 60 := ⟨by decide, by decide, by decide⟩
    -- what is no date
    have bads : ∀ {H0 : Hp}, Ex H H0 → True := fun _ => trivial
    refine q_asgW (σ := [some (.ref sd), some (.ref p), some (.int y), some (.int m), some (.int d), none, none, none, none]) (pickH (ds := badD y m d) (ev_var rfl) hS
      (eah_cons (eh_tup ap (eah_cons (eh_i (ev_var rfl)) (eah_cons (eh_i (ev_var rfl)) (eah_cons (eh_i (ev_op (z := .int (mlen y m + 1)) (ev_sp stb_lm (ea_cons (ev_var rfl) (ea_cons (ev_var rfl) ea_nil)) ⟨y, m, rfl, m1, m2, rfl⟩) ev_c rv_I0)) eah_nil))) (by show 3 ≤ 100000; decide))
      (eah_cons (eh_tup ap (eah_cons (eh_i (ev_var rfl)) (eah_cons (eh_i ev_c) (eah_cons (eh_i ev_c) eah_nil))) (by show 3 ≤ 100000; decide))
      (eah_cons (eh_tup ap (eah_cons (eh_i (ev_var rfl)) (eah_cons (eh_i ev_c) (eah_cons (eh_i ev_c) eah_nil))) (by show 3 ≤ 100000; decide))
      (eah_cons (eh_tup ap (eah_cons (eh_i ev_c) (eah_cons (eh_i (ev_var rfl)) (eah_cons (eh_i (ev_var rfl)) eah_nil))) (by show 3 ≤ 100000; decide))
      (eah_cons (eh_lst ap (eah_cons (eh_i (ev_var rfl)) (eah_cons (eh_i (ev_var rfl)) (eah_cons (eh_i (ev_var rfl)) eah_nil))) (by show 3 ≤ 100000; decide))
      (eah_cons (eh_tup ap (eah_cons (eh_i (ev_var rfl)) (eah_cons (eh_i (ev_var rfl)) eah_nil)) (by show 2 ≤ 100000; decide))
      (eah_cons (eh_tup ap (eah_cons (eh_i (ev_var rfl)) (eah_cons (eh_of ev_c (.bl true)) (eah_cons (eh_i ev_c) eah_nil))) (by show 3 ≤ 100000; decide))
      (eah_cons (eh_of ev_c .non)
      (eah_cons (eh_tup ap (eah_cons (eh_i (ev_op (z := .int (big + 1)) (ev_pow p30) ev_c rv_I0)) (eah_cons (eh_i ev_c) (eah_cons (eh_i ev_c) eah_nil))) (by show 3 ≤ 100000; decide))
      (eah_cons (eh_tup ap (eah_cons (eh_i (ev_var rfl)) (eah_cons (eh_i (ev_var rfl)) (eah_cons (eh_i ev_c) eah_nil))) (by show 3 ≤ 100000; decide))
      (eah_cons (eh_of (ev_strI (ev_var rfl) (log_year y0 y1)) (.str _))
      (eah_cons (eh_tup ap (eah_cons (eh_i ev_c) (eah_cons (eh_i ev_c) (eah_cons (eh_i ev_c) eah_nil))) (by show 3 ≤ 100000; decide))
      (eah_cons (eh_tup ap (eah_cons (eh_i (ev_var rfl)) (eah_cons (eh_i (ev_var rfl)) (eah_cons (eh_of ev_c .non) eah_nil))) (by show 3 ≤ 100000; decide))
      (eah_cons (eh_cat ap (eh_of (ev_var rfl) (rep_D (tup_hid hp hS))) (eh_tup ap (eah_cons (eh_i ev_c) eah_nil) (by show 1 ≤ 100000; decide)) (by show 3 + 1 ≤ 100000; decide)) eah_nil))))))))))))))
      (by show 0 < 14; decide) (by show 14 ≤ 1000; decide) fun j e v H1 hj r1 S1 X1 => ?_)
    have no1 := badD_no (List.mem_of_getElem? hj)
    have num : Ev (tCall (spX (okLn K)) [] E0 (tCons (tTupF (tCons (tOp (rI CPow fun i j => .int (i ^ j.toNat)) (tC (.int 10)) (tC (.int 30))) (tCons (tC (.int 12)) (tCons (tC (.int 31)) tNil)))) tNil)) [some (.ref sd), some (.ref p), some (.int y), some (.int m), some (.int d), some v, none, none, none] H1 (.int lastN) := fun H2 e2 Q2 q2 =>
      ev_tup (vs := dv big 12 31) (ea_cons (ev_pow p30) (ea_cons ev_c (ea_cons ev_c ea_nil))) (by show 3 ≤ 100000; decide) H2 e2 _ fun p2 H3 e3 hp2 => ⟨.int lastN, ⟨p2, big, 12, 31, rfl, hp2, by decide, by decide, congrArg V.int (by decide +kernel)⟩, fun H4 e4 => q2 H4 (e3.trans e4)⟩
    refine s_asgX (σ := [some (.ref sd), some (.ref p), some (.int y), some (.int m), some (.int d), some v, none, none, none]) (v := .int lastN) num fun H2 e2 => ?_
    have S2 := S1.up e2
    have ap2 := S2.ap
    refine q_asgW (σ := [some (.ref sd), some (.ref p), some (.int y), some (.int m), some (.int d), some v, some (.int lastN), none, none]) (pickH (ds := oddN) (ev_var rfl) S2
      (eah_cons (eh_i (ev_un ev_c ru_neg)) (eah_cons (eh_i (ev_op (z := .int (lastN + 1)) (ev_var rfl) ev_c rv_I0)) (eah_cons (eh_of ev_c .non) (eah_cons (eh_of ev_c (.bl true)) (eah_cons (eh_of ev_c (.str "0")) (eah_cons (eh_lst ap2 (eah_cons (eh_i ev_c) eah_nil) (by show 1 ≤ 100000; decide)) (eah_cons (eh_i (ev_un (ev_pow p40) ru_neg)) (eah_cons (eh_i (ev_pow p60)) eah_nil))))))))
      (by show 0 < 8; decide) (by show 8 ≤ 1000; decide) fun j2 f u H3 hj2 r3 S3 X3 => ?_)
    have no2 := oddN_no (List.mem_of_getElem? hj2)
    have XH : ExS sd sg H H3 := (X1.trans (.of e2)).trans X3
    have T3 := tabs_exs hT hS XH
    have rv : Rep H3 v e := (r1.up (hid_mono ((ExS.of e2).trans X3))).up hid_ex
    have ru : Rep H3 u f := r3.up hid_ex
    refine q_asgW (σ := [some (.ref sd), some (.ref p), some (.int y), some (.int m), some (.int d), some v, some (.int lastN), some u, none]) ⟨T3, fun H6 e6 T6 => caught_exc (T.caught T.u_BadDate) (fun E1 R k => ⟨v, rfl, .exc T.c_BadDate, ⟨v, e, rfl, rv.xn e6, by rw [if_neg (by rw [no1]; exact Bool.false_ne_true)]⟩, k⟩) fun x1 H7 e7 k1 => ⟨by show 1 ≤ sizeLine; rw [sizeLine_eq]; decide, fun l fl => ?_⟩⟩
    have E8 : ExtN H3 (upd H7 l (.lst [x1])) := e6.trans (ExtN.of (e7.trans (Ex.new fl)))
    have T8 := T6.ext (e7.trans (Ex.new fl) : Ex H6 (upd H7 l (.lst [x1])))
    have hp8 : (upd H7 l (.lst [x1])) l = some (.lst [x1]) := upd_same
    have k8 := k1.xn (ExtN.of (Ex.new (o := .lst [x1]) fl))
    have np : ∀ a o, H3 a = some o → (∀ ps, o ≠ .tbl ps) → a ≠ l := fun a o ha nt z => by
      have := (e6.trans (ExtN.of e7)) a o ha nt
      rw [z, fl] at this
      cases this
    generalize upd H7 l (.lst [x1]) = H8 at E8 T8 hp8 k8
    refine ⟨.ref l, rfl, .inl ⟨rfl, _, .of hp8⟩, T8, fun H9 e9 T9 => caught_exc (T.caught T.u_BadNumber) (fun E1 R k => ⟨u, rfl, u, f, rfl, (ru.xn E8).xn e9, fun z => (by rw [no2] at z; cases z), fun _ => k⟩) fun x2 H10 e10 k2 => ?_⟩
    have hp10 := e10 _ _ (e9 _ _ hp8 fun ps z => by cases z)
    have k10 := (k8.xn e9).xn (ExtN.of e10)
    have EF : ExtN H3 H10 := (E8.trans e9).trans (ExtN.of e10)
    have T10 := T9.ext e10
    refine ⟨l, [x1], x2, rfl, rfl, hp10, by show 1 < sizeLine; rw [sizeLine_eq]; decide, ?_⟩
    have EG : ExtN H3 (upd H10 l (.lst ([x1] ++ [x2]))) := fun a o ha nt => (upd_ne (np a o ha nt)).trans (EF a o ha nt)
    have TG : Tabs Tb (upd H10 l (.lst ([x1] ++ [x2]))) := tabs_upd T10 hp10
    have hpG : (upd H10 l (.lst ([x1] ++ [x2]))) l = some (.lst [x1, x2]) := upd_same
    have kG1 : Kept (upd H10 l (.lst ([x1] ++ [x2]))) x1 (.exc T.c_BadDate) := kept_upd k10 hp10
    have kG2 : Kept (upd H10 l (.lst ([x1] ++ [x2]))) x2 (.exc T.c_BadNumber) := kept_upd k2 hp10
    generalize upd H10 l (.lst ([x1] ++ [x2])) = HG at EG TG hpG kG1 kG2
    refine s_ifX (σ := [some (.ref sd), some (.ref p), some (.int y), some (.int m), some (.int d), some v, some (.int lastN), some u, some (.ref l)]) (b := false) (et_or (a := false) (b := false)
      (et_is (et_not (et_B (ev_isErr (b := true) (ev_op (ev_var rfl) ev_c (rv_ixL (.of hpG) (atI_nat (j := 0) rfl))) kG1 T.E_BadDate.ex T.q_DD))) rfl) fun _ =>
      et_is (et_not (et_B (ev_isErr (b := true) (ev_op (ev_var rfl) ev_c (rv_ixL (.of hpG) (atI_nat (j := 1) rfl))) kG2 T.E_BadNumber.ex T.q_NN))) rfl) (fun h => by cases h) (fun _ H11 e11 => ?_)
    have S11 := (S3.xn EG).up e11
    have ap11 := S11.ap
    refine q_asgW (σ := [some (.ref sd), some (.ref p), some (.int y), some (.int m), some (.int d), some v, some (.int lastN), some u, some (.ref l)]) (pickH (ds := oddY) (ev_var rfl) S11
      (eah_cons (eh_i ev_c) (eah_cons (eh_i (ev_un ev_c ru_neg)) (eah_cons (eh_i (ev_op (z := .int (big + 1)) (ev_pow p30) ev_c rv_I0)) (eah_cons (eh_of ev_c .non) (eah_cons (eh_of ev_c (.bl false)) (eah_cons (eh_of ev_c (.str "2001")) (eah_cons (eh_tup ap11 (eah_cons (eh_i ev_c) eah_nil) (by show 1 ≤ 100000; decide)) eah_nil)))))))
      (by show 0 < 7; decide) (by show 7 ≤ 1000; decide) fun j3 g z H12 hj3 r12 S12 X12 => ?_)
    have no3 := oddY_no (List.mem_of_getElem? hj3)
    have T12 := tabs_exs (TG.ext e11) S11 X12
    have rz : Rep H12 z g := r12.up hid_ex
    refine ⟨T12, fun H13 e13 T13 => caught_exc (T.caught T.u_BadYear) (fun E1 R k => ⟨z, rfl, z, g, rfl, rz.xn e13, fun w => (by rw [no3] at w; cases w), fun _ => k⟩) fun x3 H14 e14 k14 => ?_⟩
    refine kept_is k14 T.E_BadYear.ex T.q_YY (q H14 ((S12.xn e13).up e14) (fun a vs t => ?_) (T13.ext e14))
    exact (((((t.exs hS XH).xn EG).up e11).exs S11 X12).xn e13).up e14
end
end Kx

set_option Elab.async false
set_option linter.all false
set_option maxRecDepth 100000
set_option maxHeartbeats 3200000
namespace Kx
open PySem PySem.Spec PyProof.Rows L2
/-! ## set(v), v a list or a tuple: one rule, whatever the loop promises -/
/-- the object of a set that holds nothing yet -/
def set0 (w : World) : Obj := { cls := .type "set", dict := none, data := .set #[] 0 (.fresh 0 0 (!w.params.followText "set-order")) }
section
variable {P : Program} {w : World} {A : Around} {E : Value → Shared → Prop} {s : Shared}
/-- s, and behind its objects an empty set -/
abbrev born (w : World) (s : Shared) : Shared := { s with heap := s.heap.push (set0 w) }
/-- the wish for a call of set's own beginning: None, and then Q of the set -/
abbrev Filled (S : Addr) (Q E : Value → Shared → Prop) : Result → Shared → Prop := wants (fun r u => r = .none ∧ Q (.ref S) u) E
theorem set_by {v : Value} {Q : Value → Shared → Prop}
    (fill : codeAny (model P w) A.in1 (.call (.builtin "set.__init__") ⟨[.ref s.heap.objs.size, v], []⟩) (Filled s.heap.objs.size Q E) (born w s)) :
    wpAny (model P w) A (call (.type "set") [v]) Q E s := by
  have mk : codeAny (model P w) A.in1 (.call (.builtin "set.__new__") ⟨[.type "set", v], []⟩) (wants (fun y u => y = .ref s.heap.objs.size ∧ u = born w s) E) s :=
    code_set_led1 v ⟨rfl, rfl⟩
  have isS : (born w s).TypeIs (.ref s.heap.objs.size) "set" := ⟨set0 w, Heap.get?_push_size _ rfl, rfl⟩
  have T := F.called_set
  have t1 := T.notType
  have t2 := T.canCreate
  have t3 := T.made
  have t4 := T.sub
  have t5 := F.typeCall_set_1 v
  have t6 := T.init.lookup
  have t7 := T.init.bind (.ref s.heap.objs.size)
  have ⟨top, rest, t8⟩ := T.mro
  apply wpAny_call
  apply codeAny_of_tree
  show wpAny _ A.in1 (callAny (.type "set") ⟨[v], []⟩) _ _ s
  apply wpAny_pure
  refine And.intro (Code.quiet_builtin _ (by decide +kernel)) (codeAny_builtin F.entry_type_call ?_)
  rw [show A.under (.builtin "type.__call__" ⟨[.type "set", v], []⟩) = A.in1 from Around.under_plain (weight_type_call_type "set" [v] []) rfl]
  repeat (any_goals (first | assumption | wp_step))
  refine codeAny_mono mk fun r u hr => ?_
  match r, hr with
  | .error e, hr => exact hr
  | .ok (.ret y), hr =>
    obtain ⟨e1, e2⟩ := hr
    subst e1 e2
    repeat (any_goals (first | assumption | wp_step))
    refine codeAny_mono fill fun r2 u2 h2 => ?_
    match r2, h2 with
    | .error e, h2 => exact h2
    | .ok (.ret z), h2 =>
      obtain ⟨e3, q⟩ := h2
      subst e3
      repeat (any_goals (first | assumption | wp_step))
  | .ok (.next), hr => exact hr.elim
/-- what an iterator over the items of a list or of a tuple T at l does: its steps -/
structure Steps (P : Program) (w : World) (A : Around) (s : Shared) (T : String) (l : Addr) (items : Array Value) : Prop where
  typ : ∀ h : Heap, (∀ b o, s.heap.get? b = some o → h.get? b = some o) → ∃ o, h.get? l = some o ∧ o.cls = .type T
  noS : isSubtype (.type T) (.type "set") = pure false
  noF : isSubtype (.type T) (.type "frozenset") = pure false
  noD : (Value.type T == Value.type "dict") = false
  ite : ∀ (B : Around) (u : Shared) (Q : Value → Shared → Prop) (E : Value → Shared → Prop), (∀ b o, s.heap.get? b = some o → u.heap.get? b = some o) → s.heap.objs.size < u.heap.objs.size →
    (∀ (o : Obj) (St : Nat → Shared → Prop), (∀ C : Around, C.handled = A.handled → WalksS P w C u.heap.objs.size [u.heap.objs.size, l] [u.heap.objs.size] (fun a b => b = a) items.size (fun i v => items[i]? = some v) St) →
      St 0 { u with heap := u.heap.push o } → Q (.ref u.heap.objs.size) { u with heap := u.heap.push o }) → wpAny (model P w) B (pyIter (.ref l)) Q E u
theorem steps_tuple {l : Addr} {items : Array Value} (hh : A.handled = none) (hl : s.heap.IsTuple l items) : Steps P w A s "tuple" l items where
  typ := fun h k => let ⟨o, ho, hc, _⟩ := hl; ⟨o, k _ _ ho, hc⟩
  noS := F.sub_tuple_set
  noF := F.sub_tuple_frozenset
  noD := by decide
  ite := fun B u Q E k hz q => wpAny_pyIter_tuple (hl.at fun o e => k _ _ e) (by
    have hlt : l < u.heap.objs.size := let ⟨o, ho, _⟩ := hl; Nat.lt_trans (Heap.lt_size ho) hz
    exact q _ _ (fun C hC => (Walks.tuple (hC.trans hh) _ l (Nat.ne_of_lt hlt) items).toS) ⟨⟨_, Heap.get?_push_size _ rfl, rfl, rfl⟩, (hl.at fun o e => k _ _ e).push _⟩)
/-- set(l) of a list or a tuple at l, by any promise of the loop that fills it -/
theorem set_seq {T : String} {l : Addr} {items : Array Value} {Q : Value → Shared → Prop} (Pp : Heap → Prop) (hh : A.handled = none) (hl : l < s.heap.objs.size) (I : Steps P w A s T l items)
    (loop : ∀ (A1 : Around) (It : Addr) (deep : A1.units ≤ A.units + 9) (G : Array GenState → Array GenState → Prop) (St : Nat → Shared → Prop) (u0 : Shared) (R : Result → Shared → Prop),
      WalksS P w A1.in1 It [It, l] [It] G items.size (fun i v => items[i]? = some v) St → s.heap.objs.size ∉ [It, l] → St 0 u0 → u0.heap.get? s.heap.objs.size = some (set0 w) → (∀ b o, s.heap.get? b = some o → b ≠ It ∧ u0.heap.get? b = some o) →
      (∀ u1, Moved [s.heap.objs.size, It] G u0 u1 → Pp u1.heap → R (.ok (.ret .none)) u1) → codeAny (model P w) A1 (.builtin "set.update.loop" ⟨[.ref s.heap.objs.size, .ref It], []⟩) R u0)
    (h : ∀ (h' : Heap) (tk : Nat), Pp h' → (∀ b o, s.heap.get? b = some o → h'.get? b = some o) → Q (.ref s.heap.objs.size) { s with heap := h', toks := tk }) :
    wpAny (model P w) A (call (.type "set") [.ref l]) Q E s := by
  have old : ∀ b o, s.heap.get? b = some o → (born w s).heap.get? b = some o := fun b o e => Heap.get?_push_of_some _ e
  have isS : (born w s).heap.get? s.heap.objs.size = some (set0 w) := Heap.get?_push_size _ rfl
  have big : (born w s).heap.objs.size = s.heap.objs.size + 1 := Heap.size_push ..
  have ⟨⟨cl, dd, da, sl⟩, at_l, cl_l⟩ := I.typ _ old
  dsimp only at cl_l
  subst cl_l
  have n1 := I.noS
  have n2 := I.noF
  have n3 := I.noD
  refine set_by (codeAny_call_builtin F.called_set.init.plain F.entry_set_init (check_set_init_1 ⟨_, isS, rfl⟩ ?_))
  obtain ⟨hp, gn, dr, tk, os⟩ := s
  unfold Builtin.«set.__init__» Builtin.Frozenset.updateFrom noKeywords
  generalize ep : pyIter = pit
  wp_walk
  subst ep
  refine I.ite _ (born w ⟨hp, gn, dr, tk, os⟩) _ _ old (by rw [big]; exact Nat.lt_succ_self _) fun o St W st0 => wpAny_bind (wpAny_runValue ?_)
  have nS : hp.objs.size ∉ [(born w ⟨hp, gn, dr, tk, os⟩).heap.objs.size, l] := fun z => by
    rw [big] at z
    rcases List.mem_cons.mp z with z | z
    · exact absurd z (Nat.ne_of_lt (Nat.lt_succ_self _))
    · exact absurd (List.mem_singleton.mp z) (Nat.ne_of_gt hl)
  refine loop _ _ (by simp only [Around.in1_units]; omega) _ St _ _ (W _ (by simp)) nS st0 (Heap.get?_push_of_some _ isS) (fun b ob e => ⟨fun z => ?_, Heap.get?_push_of_some _ (old b ob e)⟩) fun ⟨h1, g1, d1, t1, o1⟩ mv pp => ?_
  · have lt : b < hp.objs.size := Heap.lt_size e
    rw [z, big] at lt
    exact absurd lt (Nat.not_lt.mpr (Nat.le_succ _))
  obtain rfl : g1 = gn := mv.gens
  obtain rfl : d1 = dr := mv.drawn
  obtain rfl : o1 = os := mv.os
  refine wpAny_pure (wpAny_pure ⟨rfl, h h1 t1 pp fun b ob e => mv.heap b ob (fun z => ?_) (Heap.get?_push_of_some _ (old b ob e))⟩)
  have lt : b < hp.objs.size := Heap.lt_size e
  rcases List.mem_cons.mp z with z | z
  · exact absurd z (Nat.ne_of_lt lt)
  · rw [List.mem_singleton.mp z, big] at lt
    exact absurd lt (Nat.not_lt.mpr (Nat.le_succ _))
/-- set(l), l a tuple of these items -/
theorem call_set_tuple {l : Addr} {items : Array Value} {Q : Value → Shared → Prop} (Pp : Heap → Prop) (hh : A.handled = none) (hl : s.heap.IsTuple l items)
    (loop : ∀ (A1 : Around) (It : Addr) (deep : A1.units ≤ A.units + 9) (G : Array GenState → Array GenState → Prop) (St : Nat → Shared → Prop) (u0 : Shared) (R : Result → Shared → Prop),
      WalksS P w A1.in1 It [It, l] [It] G items.size (fun i v => items[i]? = some v) St → s.heap.objs.size ∉ [It, l] → St 0 u0 → u0.heap.get? s.heap.objs.size = some (set0 w) → (∀ b o, s.heap.get? b = some o → b ≠ It ∧ u0.heap.get? b = some o) →
      (∀ u1, Moved [s.heap.objs.size, It] G u0 u1 → Pp u1.heap → R (.ok (.ret .none)) u1) → codeAny (model P w) A1 (.builtin "set.update.loop" ⟨[.ref s.heap.objs.size, .ref It], []⟩) R u0)
    (h : ∀ (h' : Heap) (tk : Nat), Pp h' → (∀ b o, s.heap.get? b = some o → h'.get? b = some o) → Q (.ref s.heap.objs.size) { s with heap := h', toks := tk }) :
    wpAny (model P w) A (call (.type "set") [.ref l]) Q E s := set_seq Pp hh (let ⟨_, ho, _⟩ := hl; Heap.lt_size ho) (steps_tuple hh hl) loop h
/-! ### the loop: a turn, and all turns -/
variable {R : Result → Shared → Prop} {S It : Addr} {u : Shared}
/-- one turn: the next item is put in, then the loop again; with no item left it is over -/
theorem loop_enter (h : wpAny (model P w) A.in1 (pyNext (.ref It)) (fun o t => match o with
      | none => R (.ok (.ret .none)) t
      | some x => wpAny (model P w) A.in1 (setAdd S x) (fun _ t2 => codeAny (model P w) A (.builtin "set.update.loop" ⟨[.ref S, .ref It], []⟩) R t2) (fun e t2 => R (.error e) t2) t) (fun e t => R (.error e) t) u) :
    codeAny (model P w) A (.builtin "set.update.loop" ⟨[.ref S, .ref It], []⟩) R u := by
  apply codeAny_builtin F.entry_set_update_loop
  rw [show A.under (.builtin "set.update.loop" ⟨[.ref S, .ref It], []⟩) = A.in1 from Around.under_plainId F.plain_set_update_loop _]
  apply wpAny_bind
  apply wpAny_mono h (fun o t ht => ?_) fun _ _ z => z
  match o, ht with
  | none, ht => exact wpAny_pure ht
  | some x, ht => exact wpAny_bind (wpAny_holding (wpAny_mono ht (fun _ t2 h2 => wpAny_pure (And.intro (plainId_quiet F.plain_set_update_loop _) h2)) fun _ _ z => z))
/-- all turns: J i, what is known of the set when i items are in -/
theorem loop_by {fp wr : List Addr} {G : Array GenState → Array GenState → Prop} {n : Nat} {Pv : Nat → Value → Prop} {St : Nat → Shared → Prop} (W : WalksS P w A.in1 It fp wr G n Pv St) (off : S ∉ fp) (J : Nat → Heap → Prop)
    (see : ∀ i h h', J i h → (∀ b o, b ∉ wr → h.get? b = some o → h'.get? b = some o) → J i h')
    (put : ∀ (i : Nat) (v : Value) (t : Shared) (Q : Bool → Shared → Prop) (E : Value → Shared → Prop), i < n → Pv i v → J i t.heap → (∀ h' tk b, t.toks ≤ tk → Heap.SameBut S t.heap h' → J (i + 1) h' → Q b { t with heap := h', toks := tk }) → wpAny (model P w) A.in1 (setAdd S v) Q E t) :
    ∀ (left i : Nat) (u : Shared), left + i = n → St i u → J i u.heap → (∀ t, Moved (S :: wr) G u t → J n t.heap → R (.ok (.ret .none)) t) → codeAny (model P w) A (.builtin "set.update.loop" ⟨[.ref S, .ref It], []⟩) R u := by
  have wide : ∀ b ∈ wr, b ∈ S :: wr := fun b hb => List.mem_cons_of_mem S hb
  have apart : S ∉ wr := fun z => off (W.sub S z)
  intro left
  induction left with
  | zero =>
    intro i u sum st j fin
    have e : i = n := (Nat.zero_add i).symm.trans sum
    subst e
    exact loop_enter (W.done u _ _ st fun t mv => fin t (mv.mono wide) (see i _ _ j mv.heap))
  | succ left more =>
    intro i u sum st j fin
    have lt : i < n := by omega
    refine loop_enter (W.item i u _ _ lt st fun v t pv st1 mv => ?_)
    refine put i v t _ _ lt pv (see i _ _ j mv.heap) fun h' tk b le same j1 => ?_
    have else_ : ∀ c o, c ∉ S :: wr → t.heap.get? c = some o → h'.get? c = some o := fun c o out z => (same.2 c fun q => out (q ▸ List.mem_cons_self)).trans z
    refine more (i + 1) _ (by omega) (W.frame (i + 1) t h' tk st1 le fun c cin o z => (same.2 c fun q => off (q ▸ cin)).trans z) j1 fun t2 mv2 j2 => ?_
    exact fin t2 (Moved.trans W.gtrans ((mv.mono wide).then_heap le fun c o out z => else_ c o out z) mv2) j2
end
end Kx

set_option Elab.async false
set_option linter.all false
set_option maxRecDepth 100000
set_option maxHeartbeats 1000000
namespace Kx
open PySem PySem.Spec PyProof.Rows L2
/-! ## a set is filled with tuples of numbers and texts, no two alike -/
abbrev hsh (P : Program) (w : World) (k : List Key) : Int := tupleKeyHash (mixKind P w) k
/-- a tuple of these numbers and texts -/
structure TupAt (P : Program) (w : World) (h : Heap) (a : Addr) (k : List Key) : Prop where
  key : IsTupleKey (mixKind P w) h k a
  flat : ∀ o items n, h.get? a = some o → o.data = .seq items n → ∀ y ∈ items.toList, ∀ b, y ≠ .ref b
theorem TupAt.move {P : Program} {w : World} {h h' : Heap} {a : Addr} {k : List Key} (t : TupAt P w h a k) (e : ∀ o, h.get? a = some o → h'.get? a = some o) : TupAt P w h' a k := by
  obtain ⟨⟨o, items, n, ho, hc, hd, hi⟩, fl⟩ := t
  refine ⟨⟨o, items, n, e o ho, hc, hd, hi⟩, fun o2 i2 n2 h2 d2 => ?_⟩
  obtain rfl : o = o2 := Option.some.inj ((e o ho).symm.trans h2)
  exact fl o i2 n2 ho d2
theorem TupAt.aside {P : Program} {w : World} {h h' : Heap} {a S : Addr} {k : List Key} {o : Obj} {es : Array (Int × Value)} {ep : Nat} {t : SetTable} (x : TupAt P w h a k) (ho : h.get? S = some o) (hd : o.data = .set es ep t) (sb : Heap.SameBut S h h') : TupAt P w h' a k := by
  refine x.move fun o2 h2 => (sb.2 a fun z => ?_).trans h2
  obtain ⟨o3, i3, n3, g3, _, d3, _⟩ := x.key
  rw [z, ho] at g3
  obtain rfl := Option.some.inj g3
  rw [hd] at d3
  cases d3
section
variable {P : Program} {w : World} {A : Around} {E : Value → Shared → Prop} {s : Shared} {S a x : Addr} {k : List Key} {ks : List (List Key)} {es : Array (Int × Value)} {ep : Nat} {t : SetTable} {G : Addr → Prop}
/-! ### what is no object -/
theorem no_class {y : Value} (h : ∀ b, y ≠ .ref b) (n : Nat) : ofAClassStatement n y = pure false := by
  cases y with
  | ref b => exact absurd rfl (h b)
  | _ => cases n <;> rfl
theorem by_value {y : Value} (h : ∀ b, y ≠ .ref b) (n : Nat) : ∃ c, hashByValue n y = pure c := by
  cases y with
  | ref b => exact absurd rfl (h b)
  | _ => cases n <;> exact ⟨_, rfl⟩
theorem each_still {β : Type} {f : Value → β → Sem (ForInStep β)} {b : β} : ∀ {xs : List Value}, (∀ y ∈ xs, f y b = pure (.yield b)) → forIn xs b f = (pure b : Sem β)
  | [], _ => List.forIn_nil
  | y :: r, h => by
    rw [List.forIn_cons, h y List.mem_cons_self, pure_bind]
    exact each_still fun z hz => h z (List.mem_cons_of_mem _ hz)
theorem TupAt.noClass {Q : Bool → Shared → Prop} (x : TupAt P w s.heap a k) (q : Q false s) : wpAny (model P w) A (ofAClassStatement 8 (.ref a)) Q E s := by
  have ty := x.key.typeIs
  have fl := x.flat
  obtain ⟨o, items, n, ho, _, hd, _⟩ := x.key
  have fl := fl o items n ho hd
  unfold ofAClassStatement
  apply wpAny_bind
  apply wpAny_typeOf ty
  simp only [beq_self_eq_true, if_true, Bool.not_true, Bool.false_eq_true, if_false]
  try refine wpAny_bind (wpAny_pure ?_)
  try simp only [Bool.not_true, Bool.false_eq_true, if_false]
  apply wpAny_bind
  apply wpAny_seqItems ho hd
  apply wpAny_bind
  show wpAny _ _ (forIn items _ _) _ _ s
  rw [← Array.forIn_toList]
  refine wpAny_of_eq (each_still fun y hy => ?_) ?_
  · rw [no_class (fl y hy), pure_bind]
    rfl
  · exact wpAny_pure q
theorem TupAt.byValue {Q : Bool → Shared → Prop} (x : TupAt P w s.heap a k) (q : ∀ c, Q c s) : wpAny (model P w) A (hashByValue 8 (.ref a)) Q E s := by
  have ty := x.key.typeIs
  have fl := x.flat
  obtain ⟨o, items, n, ho, _, hd, _⟩ := x.key
  have fl := fl o items n ho hd
  unfold hashByValue
  apply wpAny_bind
  apply wpAny_specialOf ty F.slot_tuple_hash.lookup
  show wpAny _ _ (seqItems? (.ref a) >>= _) _ _ s
  apply wpAny_bind
  apply wpAny_seqItems ho hd
  apply wpAny_bind
  show wpAny _ _ (forIn items _ _) _ _ s
  rw [← Array.forIn_toList]
  refine wpAny_forIn_list _ (fun rest r u => u = s ∧ ∀ y ∈ rest, ∀ b, y ≠ .ref b) _ (fun y rest r u hu => ?_) (fun r u hu => ?_) _ _ ⟨rfl, fl⟩
  · obtain ⟨rfl, hu⟩ := hu
    obtain ⟨c, e⟩ := by_value (hu y List.mem_cons_self) 7
    rw [e]
    refine wpAny_bind (wpAny_pure ?_)
    cases c with
    | true => exact wpAny_pure ⟨rfl, fun z hz => hu z (List.mem_cons_of_mem _ hz)⟩
    | false => exact wpAny_pure (wpAny_pure (q false))
  · obtain ⟨rfl, _⟩ := hu
    match r with
    | (none, _) => exact wpAny_pure (q true)
    | (some c, _) => exact wpAny_pure (q c)
/-- nothing of a search among such tuples shows -/
theorem unseen {Q : Bool → Shared → Prop} (hx : TupAt P w s.heap x k) {ys : List Value} (hy : ∀ y ∈ ys, ∃ b kb, y = .ref b ∧ TupAt P w s.heap b kb) (q : Q false s) : wpAny (model P w) A (searchCouldBeSeen (.ref x) ys) Q E s := by
  unfold searchCouldBeSeen
  apply wpAny_bind
  refine wpAny_forIn_list _ (fun rest r u => u = s ∧ r.1 = none ∧ ∀ y ∈ rest, ∃ b kb, y = .ref b ∧ TupAt P w s.heap b kb) _ (fun y rest r u hu => ?_) (fun r u hu => ?_) _ _ ⟨rfl, rfl, hy⟩
  · obtain ⟨rfl, hr, all⟩ := hu
    obtain ⟨b, kb, rfl, hb⟩ := all y List.mem_cons_self
    have tail : ∀ y ∈ rest, ∃ b kb, y = Value.ref b ∧ TupAt P w u.heap b kb := fun z hz => all z (List.mem_cons_of_mem _ hz)
    dsimp only
    by_cases same : (x == b || (carriedByValue (.ref x) && carriedByValue (.ref b))) = true
    · rw [if_pos same]
      exact wpAny_pure ⟨rfl, rfl, tail⟩
    · rw [if_neg same]
      apply wpAny_bind
      apply wpAny_eqIsQuiet_tuple hx.key
      simp only [Bool.not_true, Bool.false_eq_true, if_false]
      apply wpAny_bind
      apply wpAny_eqIsQuiet_tuple hb.key
      simp only [Bool.not_true, Bool.false_eq_true, if_false]
      apply wpAny_bind
      apply hx.noClass
      simp only [Bool.false_eq_true, if_false]
      apply wpAny_bind
      apply hb.noClass
      simp only [Bool.false_eq_true, if_false]
      exact wpAny_pure ⟨rfl, rfl, tail⟩
  · obtain ⟨rfl, hr, _⟩ := hu
    match r, hr with
    | (none, _), _ => exact wpAny_pure q
end
/-! ### the set -/
/-- at S a set whose entries have keys among ks, as many as ks, told by objects of G -/
structure Pot (P : Program) (w : World) (G : Addr → Prop) (h : Heap) (S : Addr) (ks : List (List Key)) (es : Array (Int × Value)) (ep : Nat) (t : SetTable) : Prop where
  here : ∃ o, h.get? S = some o ∧ o.ExactSet ∧ o.data = .set es ep t
  rows : ∀ e ∈ es.toList, ∃ a k, k ∈ ks ∧ (G a ∧ TupAt P w h a k) ∧ e = (hsh P w k, Value.ref a)
  tab : TabOk t (es.toList.map (·.1))
  many : es.size = ks.length
  fit : es.size ≤ t.mask
section
variable {P : Program} {w : World} {A : Around} {E : Value → Shared → Prop} {s : Shared} {S a x : Addr} {k : List Key} {ks : List (List Key)} {es : Array (Int × Value)} {ep : Nat} {t : SetTable} {G : Addr → Prop}
theorem Pot.fits {h : Heap} (R : Pot P w G h S ks es ep t) : t.fits es.size = true := by
  have z := R.tab.sz
  rw [List.length_map, Array.length_toList] at z
  have f := R.fit
  unfold SetTable.fits SetTable.fill
  rw [R.tab.dm, z, beq_self_eq_true, Bool.true_and, decide_eq_true_eq]
  exact f
theorem Pot.steady {h : Heap} (R : Pot P w G h S ks es ep t) : t.gaveWay = false := by
  unfold SetTable.gaveWay
  rw [mask_odd R.tab.mok]
  rfl
theorem Pot.row {h : Heap} (R : Pot P w G h S ks es ep t) {i j : Nat} (hi : t.place.toList[i]? = some j) : ∃ a k, k ∈ ks ∧ TupAt P w h a k ∧ es[i]? = some (hsh P w k, Value.ref a) := by
  have z := R.tab.sz
  rw [List.length_map, Array.length_toList] at z
  have lt : i < es.size := by
    have := (List.getElem?_eq_some_iff.mp hi).1
    rw [Array.length_toList] at this
    omega
  obtain ⟨a, k, h1, h2, h3⟩ := R.rows es[i] (by simp)
  exact ⟨a, k, h1, h2.2, by rw [Array.getElem?_eq_getElem lt, h3]⟩
theorem Pot.move {h h' : Heap} (R : Pot P w G h S ks es ep t) (e : ∀ b o, b = S ∨ G b → h.get? b = some o → h'.get? b = some o) : Pot P w G h' S ks es ep t := by
  obtain ⟨⟨o, ho, hex, hd⟩, rows, tab, many, fit⟩ := R
  refine ⟨⟨o, e S o (.inl rfl) ho, hex, hd⟩, fun r hr => ?_, tab, many, fit⟩
  obtain ⟨a, k, h1, h2, h3⟩ := rows r hr
  exact ⟨a, k, h1, ⟨h2.1, h2.2.move fun o2 => e a o2 (.inr h2.1)⟩, h3⟩
/-- the c-th look from the start -/
abbrev lookAt (m : Nat) (h : Int) (c : Nat) : SetTable.Probe := nth m (runAt m (SetTable.bits h % (m + 1)) (SetTable.bits h)) c
theorem no_dummy (m : Nat) : ∀ (c : Nat) (p : SetTable.Probe), p.dummy = none → (nth m p c).dummy = none
  | 0, _, h => h
  | c + 1, p, h => no_dummy m c (adv m p) (by unfold adv; split <;> exact h)
/-- none is like x: the search ends at the first free place of its way -/
theorem Pot.search (R : Pot P w G s.heap S ks es ep t) (hx : TupAt P w s.heap x k) (hk : k ∉ ks) (hu : A.units < cLine) {K : Nat} (near : K < 10 * SetTable.turns t.mask) (free : way t.mask (hsh P w k) K ∉ t.place.toList) (busy : ∀ c, c < K → way t.mask (hsh P w k) c ∈ t.place.toList)
    {Q : SetFound → Shared → Prop} (q : Q (.free (way t.mask (hsh P w k) K) false) s) : ∀ (f c : Nat) (st : Option SetTable.Probe), st.getD (t.probeStart (hsh P w k)) = lookAt t.mask (hsh P w k) c → c ≤ K → K < c + f →
      wpAny (model P w) A (setSearchFrom S (.ref x) (hsh P w k) true f st) Q E s := by
  intro f
  induction f with
  | zero => intro c st _ h1 h2; omega
  | succ f more =>
    intro c st hst h1 h2
    obtain ⟨o, ho, hex, hd⟩ := R.here
    have on : ∀ d, (nth t.mask (lookAt t.mask (hsh P w k) c) d).j = way t.mask (hsh P w k) (c + d) := fun d => congrArg SetTable.Probe.j (nth_add t.mask c _ d).symm
    have told := go_spec t R.tab.ris R.tab.dm (fun i => (es[i]?.map (·.1)).getD 0) (hsh P w k) (10 * SetTable.turns t.mask) (K - c) (lookAt t.mask (hsh P w k) c) (no_dummy _ _ _ rfl) (by omega)
      (fun d hd => (on d) ▸ busy (c + d) (by omega)) (by rw [on, Nat.add_sub_cancel' h1]; exact free)
    rw [setSearchFrom_succ]
    apply wpAny_bind
    apply wpAny_setState_of ho hd R.fits
    dsimp only
    rw [R.steady]
    simp only [Bool.false_eq_true, if_false]
    rcases told with ⟨d, i, hd1, hi, _, _, met⟩ | ⟨_, met⟩
    · -- another of these hashes: not alike
      rw [on] at hi met
      obtain ⟨b, kb, kin, hb, eb⟩ := R.row hi
      have unlike : decide (kb = k) = false := decide_eq_false fun z => hk (z ▸ kin)
      have rest : wpAny (model P w) A (searchRest S (.ref x) (hsh P w k) true f es t (way t.mask (hsh P w k) (c + d)) i (nth t.mask (lookAt t.mask (hsh P w k) c) (d + 1))) Q E s := by
        unfold searchRest
        rw [eb]
        apply wpAny_bind
        apply wpAny_holding
        apply wpAny_eqBool_tuple hu hb.key hx.key
        rw [unlike]
        apply wpAny_bind
        apply wpAny_setState_of ho hd R.fits
        simp only [Bool.and_false, Bool.false_eq_true, if_false, sameMem, if_true, slot_live R.tab.ris hi, eb]
        try refine wpAny_bind (wpAny_pure ?_)
        apply wpAny_bind
        apply wpAny_isSame_ref_self
        refine wpAny_bind (wpAny_pure ?_)
        simp only [Bool.false_eq_true, if_false, if_true]
        exact more (c + (d + 1)) _ (nth_add t.mask c _ (d + 1)).symm (by omega) (by omega)
      have pr : t.probe (fun i => (es[i]?.map (·.1)).getD 0) (hsh P w k) (st.getD (t.probeStart (hsh P w k))) = some (.candidate (way t.mask (hsh P w k) (c + d)) i (nth t.mask (lookAt t.mask (hsh P w k) c) (d + 1))) := by
        rw [hst]
        exact met
      rw [pr]
      dsimp only
      by_cases led : t.led = true
      · simp only [led, Bool.not_true, Bool.false_eq_true, if_false]
        try refine wpAny_bind (wpAny_pure ?_)
        exact rest
      · simp only [Bool.not_eq_true] at led
        simp only [led, Bool.not_false, if_true]
        apply wpAny_bind
        refine unseen hx (fun y hy => ?_) ?_
        · obtain ⟨e, he, rfl⟩ := List.mem_map.mp hy
          have he2 : e ∈ es.toList := by
            have : e ∈ es ∧ e.1 = hsh P w k := by simpa using he
            simpa using this.1
          obtain ⟨b2, k2, _, h2, e2⟩ := R.rows e he2
          exact ⟨b2, k2, by rw [e2], h2.2⟩
        · simp only [Bool.false_eq_true, if_false]
          try refine wpAny_bind (wpAny_pure ?_)
          exact rest
    · rw [on, Nat.add_sub_cancel' h1] at met
      have pr : t.probe (fun i => (es[i]?.map (·.1)).getD 0) (hsh P w k) (st.getD (t.probeStart (hsh P w k))) = some (.empty (way t.mask (hsh P w k) K) none) := by
        rw [hst]
        exact met
      rw [pr]
      exact wpAny_pure q
end
end Kx

set_option Elab.async false
set_option linter.all false
set_option maxRecDepth 100000
set_option maxHeartbeats 1000000
namespace Kx
open PySem PySem.Spec PyProof.Rows L2
section
variable {P : Program} {w : World} {A : Around} {E : Value → Shared → Prop} {s : Shared} {S a x : Addr} {k : List Key} {ks : List (List Key)} {es : Array (Int × Value)} {ep : Nat} {t : SetTable} {G : Addr → Prop}
theorem taken {es : Array (Int × Value)} : ∀ {l : List Nat}, (∀ i ∈ l, i < es.size) → (l.filterMap (es[·]?)).map (·.1) = l.map (fun i => (es.map (·.1)).getD i 0)
  | [], _ => rfl
  | i :: r, h => by
    have lt := h i List.mem_cons_self
    rw [List.filterMap_cons, Array.getElem?_eq_getElem lt, List.map_cons, List.map_cons, taken fun j hj => h j (List.mem_cons_of_mem _ hj)]
    refine congrArg (· :: _) ?_
    rw [Array.getD_eq_getD_getElem?, Array.getElem?_map, Array.getElem?_eq_getElem lt]
    rfl
/-- the table is laid anew -/
theorem Pot.relay (R : Pot P w G s.heap S ks es ep t) {wanted M : Nat} (hw : SetTable.sizeAbove wanted - 1 = M) (hM : MaskOk M) (small : SetTable.sizeAbove wanted ≤ 128) (hn : es.size ≤ M) {Q : Unit → Shared → Prop}
    (q : ∀ h' es' ep' t', Heap.SameBut S s.heap h' → Pot P w G h' S ks es' ep' t' → t'.mask = M → Q () { s with heap := h' }) : wpAny (model P w) A (setRelay S wanted) Q E s := by
  obtain ⟨o, ho, hex, hd⟩ := R.here
  obtain ⟨t', order, laid, perm, T, mask, _, _, dm⟩ := relaid_ok t (hs := es.map (·.1)) (wanted := wanted) hw hM (by rw [Array.size_map]; exact hn)
  rw [Array.size_map] at perm
  have below : ∀ i ∈ order.toList, i < es.size := fun i hi => List.mem_range.mp (perm.mem_iff.mp hi)
  have hashes : (order.filterMap (es[·]?)).toList.map (·.1) = order.toList.map (fun i => (es.map (·.1)).getD i 0) := by
    rw [Array.toList_filterMap]
    exact taken below
  have size : (order.filterMap (es[·]?)).size = es.size := by
    have z := congrArg List.length hashes
    rw [List.length_map, List.length_map, Array.length_toList, perm.length_eq, List.length_range] at z
    exact z
  rw [← hashes] at T
  rw [setRelay_eq]
  apply wpAny_bind
  apply wpAny_setState_of ho hd R.fits
  dsimp only
  rw [if_neg (show ¬ SetTable.sizeAbove wanted > sizeLine by rw [sizeLine_eq]; omega)]
  try refine wpAny_bind (wpAny_pure ?_)
  rw [laid]
  apply wpAny_bind
  dsimp only
  rw [if_neg (by rw [size]; simp)]
  try refine wpAny_bind (wpAny_pure ?_)
  refine wpAny_pure ?_
  dsimp only
  have sb : Heap.SameBut S s.heap (s.heap.update S (Obj.putSet (order.filterMap (es[·]?)) t')) := Heap.SameBut.update ..
  refine wpAny_storeSet_of ho hd (q _ _ (ep + 1) t' sb ⟨⟨_, store_at ho hd, ⟨hex.1, hex.2.1, hex.2.2⟩, rfl⟩, fun e he => ?_, T, size.trans R.many, by rw [size, mask]; exact hn⟩ mask) (by rw [size, sizeLine_eq]; have := perm.length_eq; rcases hM with e | e | e <;> omega)
  rw [Array.toList_filterMap] at he
  obtain ⟨i, hi, hie⟩ := List.mem_filterMap.mp he
  have he2 : e ∈ es.toList := by
    rw [Array.getElem?_eq_getElem (below i hi)] at hie
    rw [← Option.some.inj hie]
    simp
  obtain ⟨b, kb, h1, h2, h3⟩ := R.rows e he2
  exact ⟨b, kb, h1, ⟨h2.1, h2.2.aside ho hd sb⟩, h3⟩
theorem TabOk.dull {t : SetTable} {hs : List Int} {b : Bool} (T : TabOk t hs) : TabOk { t with plain := b } hs := ⟨T.ris, T.dm, T.sz, T.mok, T.bd, T.reach⟩
/-- one that is unlike all in it is put in -/
theorem Pot.add (R : Pot P w G s.heap S ks es ep t) (room : es.size * 5 < t.mask * 3) (few : es.size < 60) (hG : G x) (hx : TupAt P w s.heap x k) (hk : k ∉ ks) (hu : A.units < cLine) {Q : Bool → Shared → Prop}
    (q : ∀ b h' es' ep' t', Heap.SameBut S s.heap h' → Pot P w G h' S (k :: ks) es' ep' t' → es'.size * 5 < t'.mask * 3 → Q b { s with heap := h' }) : wpAny (model P w) A (setAddHashed S (.ref x) (hsh P w k)) Q E s := by
  obtain ⟨o, ho, hex, hd⟩ := R.here
  have len : (es.toList.map (·.1)).length = es.size := by rw [List.length_map, Array.length_toList]
  obtain ⟨K, near, free, busy⟩ := R.tab.first (by rw [len]; exact R.fit) (hsh P w k)
  have turns : 10 * SetTable.turns t.mask ≤ 1420 := by
    unfold SetTable.turns
    rcases R.tab.mok with e | e | e <;> omega
  unfold setAddHashed
  apply wpAny_holding
  rw [show (100000 : Nat) = 99999 + 1 from rfl, setAddHashedIn_succ]
  apply wpAny_bind
  apply wpAny_setState_of ho hd R.fits
  dsimp only
  rw [if_neg (by simp [byScan, Value.scannable])]
  try refine wpAny_bind (wpAny_pure ?_)
  apply wpAny_bind
  unfold setSearch
  refine R.search hx hk hu near free busy ?_ 100000 0 none rfl (Nat.zero_le _) (by omega)
  dsimp only
  apply wpAny_bind
  apply wpAny_setState_of ho hd R.fits
  obtain ⟨q1, q2, q3, q4, _, _, _, _, q9⟩ := R.tab.put free busy
  rw [len] at q2 q9
  generalize t.put (way t.mask (hsh P w k) K) = pt at q1 q3 q4 q9 ⊢
  obtain ⟨t1, p⟩ := pt
  dsimp only at q1 q3 q4 q9 ⊢
  rw [← q1] at q2 q3
  have list1 : (SetTable.insertAt es p (hsh P w k, Value.ref x)).toList = es.toList.take p ++ (hsh P w k, Value.ref x) :: es.toList.drop p := SetTable.toList_insertAt _ _ _
  have maps : (SetTable.insertAt es p (hsh P w k, Value.ref x)).toList.map (·.1) = (es.toList.map (·.1)).take p ++ hsh P w k :: (es.toList.map (·.1)).drop p := by rw [list1, List.map_append, List.map_cons, List.map_take, List.map_drop]
  rw [← maps] at q3
  have size1 : (SetTable.insertAt es p (hsh P w k, Value.ref x)).size = es.size + 1 := by
    rw [← Array.length_toList, list1, List.length_append, List.length_cons, List.length_take, List.length_drop, Array.length_toList]
    omega
  have ins : ∀ e ∈ (SetTable.insertAt es p (hsh P w k, Value.ref x)).toList, e = (hsh P w k, Value.ref x) ∨ e ∈ es.toList := fun e he => by
    rw [list1] at he
    rcases List.mem_append.mp he with z | z
    · exact .inr (List.mem_of_mem_take z)
    · rcases List.mem_cons.mp z with z | z
      · exact .inl z
      · exact .inr (List.mem_of_mem_drop z)
  generalize SetTable.insertAt es p (hsh P w k, Value.ref x) = es1 at q3 size1 ins
  have fit1 : es.size + 1 ≤ t.mask := by rcases R.tab.mok with e | e | e <;> omega
  -- behind the question by what it is hashed
  have go : ∀ t2 : SetTable, TabOk t2 (es1.toList.map (·.1)) → t2.mask = t.mask → t2.fill = es.size + 1 → wpAny (model P w) A (do
      storeSet S es1 t2
      if !false && t2.tooFull then setRelay S (SetTable.grown (es.size + 1))
      return true) Q E s := fun t2 T2 m2 f2 => by
    apply wpAny_bind
    have sb : Heap.SameBut S s.heap (s.heap.update S (Obj.putSet es1 t2)) := Heap.SameBut.update ..
    refine wpAny_storeSet_of ho hd ?_ (by rw [size1, sizeLine_eq]; omega)
    have R1 : Pot P w G (s.heap.update S (Obj.putSet es1 t2)) S (k :: ks) es1 (ep + 1) t2 := ⟨⟨_, store_at ho hd, ⟨hex.1, hex.2.1, hex.2.2⟩, rfl⟩, fun e he => by
        rcases ins e he with rfl | z
        · exact ⟨x, k, List.mem_cons_self, ⟨hG, hx.aside ho hd sb⟩, rfl⟩
        · obtain ⟨b, kb, h1, h2, h3⟩ := R.rows e z
          exact ⟨b, kb, List.mem_cons_of_mem _ h1, ⟨h2.1, h2.2.aside ho hd sb⟩, h3⟩, T2, by rw [size1, R.many, List.length_cons], by rw [size1, m2]; exact fit1⟩
    generalize s.heap.update S (Obj.putSet es1 t2) = h1 at sb R1
    have tf : t2.tooFull = decide ((es.size + 1) * 5 ≥ t.mask * 3) := by
      unfold SetTable.tooFull
      rw [f2, m2]
    by_cases full : (es.size + 1) * 5 ≥ t.mask * 3
    · rw [tf, decide_eq_true full]
      simp only [Bool.not_false, Bool.and_self, if_true]
      apply wpAny_bind
      have grow : ∀ M, SetTable.sizeAbove (SetTable.grown (es.size + 1)) - 1 = M → MaskOk M → SetTable.sizeAbove (SetTable.grown (es.size + 1)) ≤ 128 → (es.size + 1) * 5 < M * 3 →
          wpAny (model P w) A (setRelay S (SetTable.grown (es.size + 1))) (fun _ s' => wpAny (model P w) A (pure true) Q E s') E { s with heap := h1 } := fun M g1 g2 g3 g4 =>
        Pot.relay (s := { s with heap := h1 }) R1 g1 g2 g3 (by rw [size1]; omega) fun h2 es2 ep2 t2' sb2 R2 m => wpAny_pure (q true h2 es2 ep2 t2' (sb.trans sb2) R2 (by rw [m, R2.many, List.length_cons, ← R.many]; exact g4))
      have two : es.size = 4 ∨ es.size = 18 := by rcases R.tab.mok with e | e | e <;> rw [e] at full room <;> omega
      rcases two with e | e
      · exact grow 31 (by rw [e, size_20]) (.inr (.inl rfl)) (by rw [e, size_20]; decide) (by omega)
      · exact grow 127 (by rw [e, size_76]) (.inr (.inr rfl)) (by rw [e, size_76]; decide) (by omega)
    · rw [tf, decide_eq_false full]
      simp only [Bool.and_false, Bool.false_eq_true, if_false]
      try refine wpAny_bind (wpAny_pure ?_)
      exact wpAny_pure (q true h1 es1 (ep + 1) t2 sb R1 (by rw [size1, m2]; omega))
  have both : ∀ c : Bool, wpAny (model P w) A (do
      storeSet S es1 (if c = true then t1 else { t1 with plain := false })
      if !false && (if c = true then t1 else { t1 with plain := false }).tooFull then setRelay S (SetTable.grown (es.size + 1))
      return true) Q E s := fun c => by
    cases c with
    | true => exact go t1 q3 q4 q9
    | false => exact go { t1 with plain := false } (TabOk.dull q3) q4 q9
  by_cases pl : t1.plain = true
  · rw [if_pos pl]
    apply wpAny_bind
    exact hx.byValue fun c => both c
  · rw [if_neg pl]
    refine wpAny_bind (wpAny_pure (both true))
end
end Kx

set_option Elab.async false
set_option linter.all false
set_option maxRecDepth 100000
set_option maxHeartbeats 1000000
namespace Kx
open PySem PySem.Spec PyProof.Rows L2
/-- what is known when i of these are in -/
def InBy (P : Program) (w : World) (as : List Addr) (ks : List (List Key)) (S : Addr) (i : Nat) (h : Heap) : Prop :=
  (∀ (j : Nat) (a : Addr) (k : List Key), as[j]? = some a → ks[j]? = some k → TupAt P w h a k) ∧ ∃ es ep t, Pot P w (fun a => a ∈ as) h S (ks.take i).reverse es ep t ∧ es.size * 5 < t.mask * 3
section
variable {P : Program} {w : World} {A1 : Around} {as : List Addr} {ks : List (List Key)} {items : Array Value} {S l It : Addr} {G : Array GenState → Array GenState → Prop} {St : Nat → Shared → Prop} {u0 : Shared} {R : Result → Shared → Prop}
theorem none_in {h : Heap} (none_yet : h.get? S = some (set0 w)) : Pot P w (fun a => a ∈ as) h S [] #[] 0 (.fresh 0 0 (!w.params.followText "set-order")) where
  here := ⟨_, none_yet, ⟨rfl, rfl, rfl⟩, rfl⟩
  rows := fun e he => by cases he
  tab := ⟨List.Pairwise.nil, rfl, rfl, .inl rfl, fun x hx => (by cases hx), fun i h j hi => (by cases hi)⟩
  many := rfl
  fit := Nat.zero_le _
theorem tuples_in (size : items.toList = as.map Value.ref) (len : as.length = ks.length) (nd : ks.Nodup) (few : ks.length < 60) (hu : A1.in1.units < cLine) (W : WalksS P w A1.in1 It [It, l] [It] G items.size (fun i v => items[i]? = some v) St) (off : S ∉ [It, l]) (st : St 0 u0)
    (none_yet : u0.heap.get? S = some (set0 w)) (tup : ∀ (j : Nat) (a : Addr) (k : List Key), as[j]? = some a → ks[j]? = some k → TupAt P w u0.heap a k) (apart : It ∉ as)
    (fin : ∀ u1, Moved [S, It] G u0 u1 → InBy P w as ks S ks.length u1.heap → R (.ok (.ret .none)) u1) : codeAny (model P w) A1 (.builtin "set.update.loop" ⟨[.ref S, .ref It], []⟩) R u0 := by
  have n : items.size = ks.length := by rw [← Array.length_toList, size, List.length_map, len]
  have SI : S ≠ It := fun z => off (z ▸ List.mem_cons_self)
  refine loop_by W off (InBy P w as ks S) (fun i h h' x e => ?_) (fun i v t Q E lt pv x q => ?_) items.size 0 u0 (Nat.add_zero _) st ⟨tup, _, _, _, none_in none_yet, by show 0 * 5 < 7 * 3; decide⟩ (n.symm ▸ fin)
  · obtain ⟨x1, es, ep, t, x2, x3⟩ := x
    have gone : ∀ a ∈ as, ∀ o, h.get? a = some o → h'.get? a = some o := fun a ha o => e a o fun z => apart ((List.mem_singleton.mp z) ▸ ha)
    refine ⟨fun j a k ha hk => (x1 j a k ha hk).move (gone a (List.mem_of_getElem? ha)), es, ep, t, x2.move fun b o hb => ?_, x3⟩
    rcases hb with rfl | hb
    · exact e b o fun z => SI (List.mem_singleton.mp z)
    · exact gone b hb o
  · obtain ⟨x1, es, ep, tb, x2, x3⟩ := x
    have li : i < as.length := by omega
    have lk : i < ks.length := by omega
    have ga : as[i]? = some as[i] := List.getElem?_eq_getElem li
    have gk : ks[i]? = some ks[i] := List.getElem?_eq_getElem lk
    have ev : v = Value.ref as[i] := by
      rw [← Array.getElem?_toList, size, List.getElem?_map, ga] at pv
      exact (Option.some.inj pv).symm
    subst ev
    have tx := x1 i _ _ ga gk
    have next : (ks.take (i + 1)).reverse = ks[i] :: (ks.take i).reverse := by rw [List.take_add_one, gk, List.reverse_append]; rfl
    have new : ks[i] ∉ (ks.take i).reverse := fun z => by
      have nd2 : (ks.take (i + 1)).Nodup := nd.sublist (List.take_sublist _ _)
      rw [List.take_add_one, gk] at nd2
      exact (List.nodup_append.mp nd2).2.2 _ (List.mem_reverse.mp z) _ (List.mem_singleton.mpr rfl) rfl
    unfold setAdd
    apply wpAny_holding
    apply wpAny_bind
    apply wpAny_pyHash_tuple hu tx.key
    have cnt := x2.many
    rw [List.length_reverse, List.length_take] at cnt
    refine Pot.add (s := { t with toks := t.toks + (ks[i].length + 1) }) x2 x3 (by omega) (List.getElem_mem li) tx new hu fun b h' es' ep' t' sb y room => q h' _ b (by show t.toks ≤ t.toks + _; omega) sb ⟨fun j a k ha hk => ?_, es', ep', t', by rw [next]; exact y, room⟩
    obtain ⟨o, ho, _, hd⟩ := x2.here
    exact (x1 j a k ha hk).aside ho hd sb
end
/-! ### len(set(t)), t a tuple of such tuples -/
def tLenSetT (K : PySem.W.Frag) (ta : TE) : TE := fun σ H Q => ta σ H fun x H1 => ∃ (l : Addr) (as : List Addr) (ks : List (List Key)), x = .ref l ∧ SqT K H1 l (as.map V.ref) ∧ as.length = ks.length ∧ (∀ (j : Nat) (a : Addr) (k : List Key), as[j]? = some a → ks[j]? = some k → SqT K H1 a (k.map kV)) ∧
  ks.Nodup ∧ ks.length < 60 ∧ Q (.int (ks.length : Nat)) H1
theorem refs_are : ∀ {as : List Addr} {us : List Value}, Vals (as.map V.ref) us → us = as.map Value.ref
  | [], _, .nil => rfl
  | a :: r, _, .cons h t => by
    cases h
    rw [refs_are t]
    rfl
theorem key_flat : ∀ {k : List Key} {us : List Value}, Vals (k.map kV) us → ∀ y ∈ us, ∀ b, y ≠ .ref b
  | [], _, .nil, y, hy, _ => by cases hy
  | .inl i :: r, _, .cons h t, y, hy, b => by
    obtain ⟨tk, rfl⟩ := h
    rcases List.mem_cons.mp hy with rfl | hy
    · exact fun z => by cases z
    · exact key_flat t y hy b
  | .inr i :: r, _, .cons h t, y, hy, b => by
    obtain ⟨tk, rfl⟩ := h
    rcases List.mem_cons.mp hy with rfl | hy
    · exact fun z => by cases z
    · exact key_flat t y hy b
theorem tup_at {X : Cx} {pins : List (Addr × Obj)} {σ : L2.St} {H : Hp} {s : Shared} {a : Addr} {k : List Key} (I : Inv X pins σ H s) (h : SqT X.K H a (k.map kV)) : TupAt X.prog X.w s.heap a k := by
  obtain ⟨its, rv, ⟨o, ho, hc, n, hd⟩, _⟩ := I.tuple h
  refine ⟨⟨o, its.toArray, n, ho, hc, hd, items_are rv⟩, fun o2 i2 n2 h2 d2 y hy b => ?_⟩
  obtain rfl : o = o2 := Option.some.inj (ho.symm.trans h2)
  rw [hd] at d2
  injection d2 with d3 d4
  rw [← d3] at hy
  exact key_flat rv y hy b
theorem pe_lenSetT {X : Cx} {a : Expr} {ta : TE} {p p2 q pos : Pos} (hc : X.calm = true) (hu : X.A.units + 20 < cLine) (hm : X.mg "len" = none) (hm2 : X.mg "set" = none) (ha : PE X a ta) (hg : Gl X "len" := by rfl) (hg2 : Gl X "set" := by rfl)
    (na : starEach [a] X.env = (false, eval a X.env) :: starEach [] X.env := by rfl) : PE X (.Call (.Name "len" p) [.Call (.Name "set" p2) [a] [] q] [] pos) (tLenSetT X.K ta) where
  run := fun pins s σ H Q I h => by
    have inner : wpAny (model X.prog X.w) X.A (eval (.Call (.Name "set" p2) [a] [] q) X.env) (fun v s2 => wpAny (model X.prog X.w) X.A (call (.builtin "len") [v]) (EP X pins σ Q) X.xe s2) X.xe s := by
      refine Call_ (ld_blt I hg2 hm2 PyProof.Rows.boot_set (PyProof.Rows.callWith_type1 (PyProof.Rows.args_cons (thn (ha.run pins s σ H _ I h) fun v s1 got => PyProof.Rows.args_nil ?_) na) na rfl))
      obtain ⟨x, H1, J, rx, l, as, ks, rfl, seq, len, each, nd, few, want⟩ := got
      cases rx
      obtain ⟨its, rv, pl, _⟩ := J.tuple seq
      have items := refs_are rv
      have tups : ∀ (j : Nat) (a : Addr) (k : List Key), as[j]? = some a → ks[j]? = some k → TupAt X.prog X.w s1.heap a k := fun j a k h1 h2 => tup_at J (each j a k h1 h2)
      have old : ∀ a ∈ as, ∃ o, s1.heap.get? a = some o := fun a ha => by
        obtain ⟨j, hj, e⟩ := List.getElem_of_mem ha
        have g1 : as[j]? = some a := by rw [List.getElem?_eq_getElem hj, e]
        have g2 : ks[j]? = some ks[j] := List.getElem?_eq_getElem (by omega)
        obtain ⟨o, _, _, ho, _⟩ := (tups j a _ g1 g2).key
        exact ⟨o, ho⟩
      refine call_set_tuple (P := X.prog) (w := X.w) (s := s1) (InBy X.prog X.w as ks s1.heap.objs.size ks.length) (J.ok.hd hc) pl (fun A1 It deep G St u0 R W off st n keep fin => tuples_in (by simpa using items) len nd few (by simp only [Around.in1_units]; omega) W off st n (fun j a k h1 h2 => (tups j a k h1 h2).move fun o ho => (keep a o ho).2) (fun z => ?_) fin) fun h' tk full kept => ?_
      · obtain ⟨o, ho⟩ := old It z
        exact (keep It o ho).1 rfl
      · obtain ⟨_, es, ep, t, pot, _⟩ := full
        obtain ⟨o, ho, hex, hd⟩ := pot.here
        have J2 : Inv X pins σ H1 { s1 with heap := h', toks := tk } := J.kept kept
        have cnt := pot.many
        rw [List.length_reverse, List.take_length] at cnt
        exact call_len_set ho hex hd pot.fits (by rw [cnt]; omega) ⟨.int (ks.length : Nat), H1, J2.tok _, ⟨_, by rw [cnt]⟩, want⟩
    exact Call_ (ld_blt I hg hm PySem.boot_len (PyProof.Rows.callWith_builtin1 (PyProof.Rows.args_cons (wpAny_mono inner (fun _ _ z => PyProof.Rows.args_nil z) fun _ _ z => z) rfl) rfl rfl))
end Kx

set_option Elab.async false
set_option linter.all false
set_option maxRecDepth 100000
set_option maxHeartbeats 400000
namespace Kx
open PySem PySem.Spec PyProof.Rows L2 Evl LamX
def keyK (p : Int × Nat) : List Key := [.inl p.1, .inr (wordS p.2)]
theorem keys_apart : (KP.map keyK).Nodup := by decide +kernel
theorem pyKs_same : ∀ ps : List (Int × Nat), PyData.eqvAll (ps.map pyK) (ps.map pyK) = true
  | [] => by simp [PyData.eqvAll]
  | p :: ps => by
    rw [List.map_cons]
    simp only [PyData.eqvAll, pyK_same p, pyKs_same ps, Bool.and_self]
theorem kinds_same (ps : List (Int × Nat)) : PyData.eqv (.tuple (ps.map pyK)) (.tuple (ps.map pyK)) = true := by
  simp only [PyData.eqv]
  exact pyKs_same ps
section
variable {K : PySem.W.Frag} {mg : Str → Option Value} (C : Cs K mg) {σ : L2.St} {H : Hp} {ta tk : TA} {tl tr te : TE} {c : Addr} {y m d : Int}
include C in
theorem kinds_dp (H : Hp) : Dp K H (.ref C.aK) (.tuple (KP.map pyK)) := .tup (C.k_KINDS H) (dpAll_K C.k_len fun i b z hb hz => C.k_each i b z hb hz H)
include C in
theorem et_table {u v z w s0 : Option V} {r0 : List V → Hp → VK → Prop} (hr : r0 = fun xs H Q => ∃ p ys, xs = [.ref p] ∧ ((SqL K H p ys ∧ ∀ l, H l = none → Q (.ref l) (upd H l (.tup ys))) ∨ (SqT K H p ys ∧ Q (.ref p) H))) :
    EvT (tTest (tOp (rNeD K) (tC (.ref C.aK)) (tCB r0 (tCons (tLc (iRng1 (tCons (tC (.int 28)) tNil)) (gName 5) tYes (tCall spSort [] E0 (tCons (tOp (rI0 fun i j => .int (i + j)) (tC (.int 2001)) (tVar 5)) tNil)) [5]) tNil)))) [u, v, z, w, s0, none] H false := et_test fun H1 e Q q => by
  subst hr
  exact ⟨28, rfl, by decide, by decide, fun l fl => lc_range (lo := 0) (n := 28) (fun i H' => Ex H1 H' ∧ ∃ as : List Addr, H' l = some (.lst (as.map V.ref)) ∧ as.length = i ∧ ∀ (j : Nat) (a : Addr), as[j]? = some a → TupS H' a (kv (kindP (2001 + (0 + (j : Int))))))
      ⟨Ex.new fl, [], upd_same, rfl, fun j a hj => by cases hj⟩
      (fun i H' lt ⟨e2, as, hl, len, each⟩ => ⟨rfl, .int (0 + (i : Int)), rfl, 2001, 0 + (i : Int), rfl, rfl, 2001 + (0 + (i : Int)), rfl, fun a H3 e3 ha =>
        ⟨as.map V.ref, e3 _ _ hl, by rw [List.length_map, len]; exact sz_lt (by omega), (e2.trans e3).mut fl, as ++ [a], by rw [upd_same, List.map_append]; rfl, by rw [List.length_append, len]; rfl, fun j b hj => by
          by_cases c : j < as.length
          · rw [List.getElem?_append_left c] at hj
            exact ((each j b hj).up e3).put (e3 _ _ hl)
          · have hlt := (List.getElem?_eq_some_iff.mp hj).1
            rw [List.length_append] at hlt
            have ej : j = as.length := by simp only [List.length_cons, List.length_nil] at hlt; omega
            rw [List.getElem?_append_right (by omega), ej, Nat.sub_self] at hj
            obtain rfl : a = b := Option.some.inj hj
            rw [ej, len]
            exact ha.put (e3 _ _ hl)⟩⟩)
      (fun H' ⟨e2, as, hl, len, each⟩ => ⟨l, as.map V.ref, rfl, .inl ⟨.of hl, fun p fp => by
        have al : DpAll K (upd H' p (.tup (as.map V.ref))) (as.map V.ref) (KP.map pyK) := dpAll_K (by rw [len]; rfl) fun i a z ha hz => by
          have hi : i < 28 := by have := (List.getElem?_eq_some_iff.mp ha).1; omega
          rw [KP_is, List.getElem?_map, List.getElem?_range hi] at hz
          have ez : kindP (2001 + (i : Int)) = z := Option.some.inj hz
          have t := each i a ha
          rw [Int.zero_add, ez] at t
          exact (t.up (Ex.new fp)).sq
        refine ⟨.tuple (KP.map pyK), .tuple (KP.map pyK), kinds_dp C _, .tup (.inl (.inl upd_same)) al, (pyKs_sh _).2, (pyKs_sh _).2, ?_⟩
        rw [kinds_same]
        exact q _ (e2.trans (Ex.new fp))⟩⟩)⟩
include C in
theorem ev_kindsN : Ev (tLenSetT K (tC (.ref C.aK))) σ H (.int 28) := fun H1 e Q q => ⟨C.aK, C.kas, KP.map keyK, rfl, C.k_KINDS _, by rw [C.k_len, List.length_map], fun j a k ha hk => by
  rw [List.getElem?_map] at hk
  obtain ⟨p, hp, rfl⟩ := Option.map_eq_some_iff.mp hk
  exact C.k_each j a p ha hp _, keys_apart, by decide, q H1 (Ex.refl _)⟩
theorem evp_tup {vs : List V} (h : EvA ta σ H vs) (hz : vs.length ≤ 100000) : EvP (tTupF ta) σ H vs := ev_tup h hz
theorem et_eqD (h : EvP tl σ H (dv y m d)) (h2 : EvP tr σ H (dv y m d)) : EvT (tTest (tOp (rNeD K) tl tr)) σ H false := et_test fun H1 e Q q => h H1 e _ fun p H2 e2 hp => h2 H2 (e.trans e2) _ fun p2 H3 e3 hp2 =>
  ⟨pyD y m d, pyD y m d, dp_D (hp.up e3).sq, dp_D hp2.sq, pyD_sh _ _ _, pyD_sh _ _ _, by rw [pyD_same]; exact q H3 (e2.trans e3)⟩
theorem et_eqK {k : Int × Nat} (h : EvP tl σ H (kv k)) (h2 : EvP tr σ H (kv k)) : EvT (tTest (tOp (rNeD K) tl tr)) σ H false := et_test fun H1 e Q q => h H1 e _ fun p H2 e2 hp => h2 H2 (e.trans e2) _ fun p2 H3 e3 hp2 =>
  ⟨pyK k, pyK k, dp_K (hp.up e3).sq, dp_K hp2.sq, pyK_sh _, pyK_sh _, by rw [pyK_same]; exact q H3 (e2.trans e3)⟩
theorem ev_noT (h : EvP te σ H (dv y m d)) (hd : isD y m d) : Ev (tCall (spO (okNo c)) [] E0 (tCons te tNil)) σ H (.int (dto y m d)) := fun H1 e Q q => h H1 e _ fun p H2 e2 hp => ⟨.ret (.int (dto y m d)), ⟨.ref p, _, rfl, rep_D hp, (if_pos (dt_of hd)).symm⟩, fun H3 e3 => q H3 (e2.trans e3)⟩
theorem ev_lnT (h : EvP te σ H (dv y m d)) (m1 : 1 ≤ m) (m2 : m ≤ 12) : Ev (tCall (spX (okLn K)) [] E0 (tCons te tNil)) σ H (.int (dto y m d)) := fun H1 e Q q => h H1 e _ fun p H2 e2 hp => ⟨.int (dto y m d), ⟨p, y, m, d, rfl, hp, m1, m2, rfl⟩, fun H3 e3 => q H3 (e2.trans e3)⟩
theorem evp_sort (h : EvA ta σ H [.int y]) : EvP (tCall spSort [] E0 ta) σ H (kv (kindP y)) := fun H1 e Q q => h H1 e _ fun H2 e2 => ⟨y, rfl, fun p H3 e3 hp => q p H3 (e2.trans e3) hp⟩
end
theorem first_day : isD 1 1 1 := ⟨by decide, by decide, by decide, by decide, by decide, by decide⟩
theorem last_day {d : Int} (h0 : 1 ≤ d) (h : d ≤ 31) : isD big 12 d := ⟨by decide, by decide, by decide, by decide, h0, h⟩
def spLaw (K : PySem.W.Frag) (Tb : List (Addr × Str)) : Sp := fun vs H Q _ => ∃ (l : Addr) (cells : List Int), vs = [.ref l] ∧ SqL K H l (iv cells) ∧ cells.length ≤ 63 ∧ Tabs Tb H ∧ ∀ H', Q (.bl true) H'
end Kx

set_option Elab.async false
set_option linter.all false
set_option maxRecDepth 100000
set_option maxHeartbeats 400000
namespace Kx
open PySem PySem.Spec PyProof.Rows L2 Evl LamX
section
variable {K : PySem.W.Frag} {σ : L2.St} {H : Hp} {t u : TT} {tu tz : TS} {D : Ends}
/-- «if t or u», t false: then u has the word -/
theorem q_or (h : EvT t σ H false) (k : ∀ H1, Ex H H1 → u σ H1 fun b H2 => if b = true then tu { D with nx := tz D } σ H2 else tz D σ H2) : tSeq (tIfS (tOr t u) tu tNext) tz D σ H := h H (Ex.refl _) _ fun H1 e => iteF (k H1 e)
theorem q_orS (S : Hp → Prop) (h : ∀ R : Bool → Hp → Prop, (∀ H1, S H1 → R false H1) → t σ H R) (h2 : ∀ H1, S H1 → EvT u σ H1 false) (k : ∀ H1 H2, S H1 → Ex H1 H2 → tz D σ H2) : tSeq (tIfS (tOr t u) tu tNext) tz D σ H :=
  h _ fun H1 s => iteF (h2 H1 s H1 (Ex.refl _) _ fun H2 e => iteF (k H1 H2 s e))
theorem s_ifN (S : Hp → Prop) (h : ∀ R : Bool → Hp → Prop, (∀ H1, S H1 → R false H1) → t σ H R) (k : ∀ H1, S H1 → D.nx σ H1) : tIfS t tu tNext D σ H := h _ fun H1 s => iteF (k H1 s)
theorem q_asgS {te : TE} {i : Nat} (S : V → Hp → Prop) (h : ∀ Q : VK, (∀ x H1, S x H1 → Q x H1) → te σ H Q) (k : ∀ x H1, S x H1 → tz D (σ.set i (some x)) H1) : tSeq (tAsg te (gName i)) tz D σ H := h _ k
end
section
variable {P : Program} {w : World} {K : PySem.W.Frag} {mg : Str → Option Value} {base : Heap} (T : Txt K mg) (C : Cs K mg)
include C in
theorem ok_law {Tb : List (Addr × Str)} (hDays : FnOk P w K mg base CX0 9 T.a_law_days_right T.d_law_days_right ["state", "date"] (spDays Tb)) (hRef : FnOk P w K mg base CX0 9 T.a_law_refused_right T.d_law_refused_right ["state", "date"] (spRefd Tb)) :
    FnOk P w K mg base CX0 10 T.a_law T.d_law ["script"] (spLaw K Tb) := by
  refine T.F_law.ok sc_law (fun vs H Q E h => ?_) (fun cdv A outer s H vs Q E hr h => ?_)
  · obtain ⟨l, cells, rfl, _⟩ := h
    rfl
  · obtain ⟨l, cells, rfl, hl, hz, hT, q⟩ := h
    have nd := sc_law.nd
    have hu4 : (A.deeper (envOfC "law" (defScope s_law) s.heap.objs.size T.a_law cdv)).units + 64 < cLine := by have := hr.un; omega
    have hu2 : (A.deeper (envOfC "law" (defScope s_law) s.heap.objs.size T.a_law cdv)).units + 20 < cLine := by omega
    have r5 : Room 5 (A.deeper (envOfC "law" (defScope s_law) s.heap.objs.size T.a_law cdv)) := hr.mono (by decide)
    have r4 : Room 4 (A.deeper (envOfC "law" (defScope s_law) s.heap.objs.size T.a_law cdv)) := hr.mono (by decide)
    have r3 : Room 3 (A.deeper (envOfC "law" (defScope s_law) s.heap.objs.size T.a_law cdv)) := hr.mono (by decide)
    have r2 : Room 2 (A.deeper (envOfC "law" (defScope s_law) s.heap.objs.size T.a_law cdv)) := hr.mono (by decide)
    have r1 : Room 1 (A.deeper (envOfC "law" (defScope s_law) s.heap.objs.size T.a_law cdv)) := hr.mono (by decide)
    refine ⟨_, pss_cons (ps_set (i := 1) nd rfl (.inl rfl) (pe_call (ok_begun T) r1 (by rfl) T.g_law_begun T.F_law_begun.kp (b_law_begun T) .nil pass0 (pa_cons (pv 0) pa_nil)))
      (pss_cons (ps_if (PW.pt (pw_or (pt_cmpR (op_neD hu4) (pe_glob (v := .ref C.aK) (by rfl) C.g_KINDS rfl) (pe_callTy call_tuple_of (by rfl) T.z_tuple bo_tuple (pa_cons (pe_lc (own := [("at", 5)]) (g := gName 5) (tt := tYes) (by rfl) nd (pi_range1 (by rfl) T.z_range (pa_cons pe_int pa_nil)) (blkOk_by (N := ["script", "state", "lap", "date", "turn", "at"]) (sc := defScope s_law) (by decide +kernel))
            (fun _ _ _ _ _ => pg_name (i := 5) nd rfl (.inl rfl)) (fun _ _ _ _ _ => pts_nil) (fun _ _ _ _ _ => pe_call (ok_law_sort T) r2 (by rfl) T.g_law_sort T.F_law_sort.kp (b_law_sort T) .nil pass0 (pa_cons (pe_op op_add pe_int (pv 5)) pa_nil))) pa_nil)) (nomark _))
          (pw_or1 (pt_cmpR op_ne (pe_callB call_len_seq (by rfl) T.z_len bo_len (pa_cons (pe_glob (v := .ref C.aK) (by rfl) C.g_KINDS rfl) pa_nil)) (pe_lenSetT (by rfl) hu2 T.z_len T.z_set (pe_glob (v := .ref C.aK) (by rfl) C.g_KINDS rfl)) (nomark _))))) (pss_one (ps_ret pe_bl)) pss_nil)
      (pss_cons (ps_if (PW.pt (pw_or (pt_cmpR op_ne (pe_call (E := fun _ _ _ => False) (ok_number_of T C) r5 (by rfl) T.g_number_of T.F_number_of.kp (b_number_of T) .nil (passes_call L2.takes0 fun _ _ _ _ h => h) (pa_cons (pe_tupF (pa_cons pe_int (pa_cons pe_int (pa_cons pe_int pa_nil)))) pa_nil)) pe_int (nomark _))
          (pw_or (pt_cmpR (op_neD hu4) (pe_call (E := fun _ _ _ => False) (ok_date_of T C) r4 (by rfl) T.g_date_of T.F_date_of.kp (b_date_of T) .nil (passes_call L2.takes0 fun _ _ _ _ h => h) (pa_cons pe_int pa_nil)) (pe_tupF (pa_cons pe_int (pa_cons pe_int (pa_cons pe_int pa_nil)))) (nomark _))
          (pw_or1 (pt_cmpR (op_neD hu4) (pe_call (E := fun _ _ _ => False) (ok_kind_of T C) r3 (by rfl) T.g_kind_of T.F_kind_of.kp (b_kind_of T) .nil (passes_call L2.takes0 fun _ _ _ _ h => h) (pa_cons pe_int pa_nil)) (pe_tupF (pa_cons pe_int (pa_cons pe_str pa_nil))) (nomark _)))))) (pss_one (ps_ret pe_bl)) pss_nil)
      (pss_cons (ps_if (PW.pt (pw_or (pt_cmpR (op_neD hu4) (pe_call (E := fun _ _ _ => False) (ok_date_of T C) r4 (by rfl) T.g_date_of T.F_date_of.kp (b_date_of T) .nil (passes_call L2.takes0 fun _ _ _ _ h => h)
            (pa_cons (pe_call (ok_law_number T) (hr.mono (by decide)) (by rfl) T.g_law_number T.F_law_number.kp (b_law_number T) .nil pass0 (pa_cons (pe_tupF (pa_cons (pe_op op_pow pe_int pe_int) (pa_cons pe_int (pa_cons pe_int pa_nil)))) pa_nil)) pa_nil)) (pe_tupF (pa_cons (pe_op op_pow pe_int pe_int) (pa_cons pe_int (pa_cons pe_int pa_nil)))) (nomark _))
          (pw_or1 (pt_cmpR (op_neD hu4) (pe_call (E := fun _ _ _ => False) (ok_kind_of T C) r3 (by rfl) T.g_kind_of T.F_kind_of.kp (b_kind_of T) .nil (passes_call L2.takes0 fun _ _ _ _ h => h) (pa_cons (pe_op op_pow pe_int pe_int) pa_nil)) (pe_call (ok_law_sort T) r2 (by rfl) T.g_law_sort T.F_law_sort.kp (b_law_sort T) .nil pass0 (pa_cons (pe_op op_pow pe_int pe_int) pa_nil)) (nomark _))))) (pss_one (ps_ret pe_bl)) pss_nil)
      (pss_cons (ps_for PassesOwn.never rfl (pi_range1 (by rfl) T.z_range (pa_cons (pe_op op_add pe_int (pe_callB (call_min2 (by rfl)) (by rfl) T.z_min bo_min (pa_cons (pe_callB call_len_seq (by rfl) T.z_len bo_len (pa_cons (pv 0) pa_nil)) (pa_cons pe_int pa_nil)))) pa_nil)) (pg_name (i := 2) nd rfl (.inl rfl))
        (pss_cons (ps_set (i := 3) nd rfl (.inl rfl) (pe_ifExp (pt_cmpR op_gt (pe_call (ok_draw T) r2 (by rfl) T.g_law_draw T.F_law_draw.kp (b_law_draw T) .nil pass0 (pa_cons (pv 1) (pa_cons pe_int pa_nil))) pe_int (nomark _))
          (pe_call (ok_law_date T) r5 (by rfl) T.g_law_date T.F_law_date.kp (b_law_date T) .nil pass0 (pa_cons (pv 1) pa_nil))
          (pe_tupF (pa_cons (pe_op op_pow pe_int pe_int) (pa_cons pe_int (pa_cons (pe_op op_sub pe_int (pe_call (ok_draw T) r2 (by rfl) T.g_law_draw T.F_law_draw.kp (b_law_draw T) .nil pass0 (pa_cons (pv 1) (pa_cons pe_int pa_nil)))) pa_nil))))))
        (pss_cons (ps_if (PW.pt (pw_or (pt_not (pt_val (pe_call hDays hr (by rfl) T.g_law_days_right T.F_law_days_right.kp (b_law_days_right T) .nil pass0 (pa_cons (pv 1) (pa_cons (pv 3) pa_nil)))))
          (pw_or1 (pt_not (pt_val (pe_call (ok_law_again T C) r4 (by rfl) T.g_law_again_right T.F_law_again_right.kp (b_law_again_right T) .nil pass0 (pa_cons (pe_ix (r := rIxT K) ix_tup (pv 3) pe_int (fun _ _ => rfl)) pa_nil))))))) (pss_one (ps_ret pe_bl)) pss_nil)
        (pss_one (ps_for PassesOwn.never rfl (pi_range1 (by rfl) T.z_range (pa_cons pe_int pa_nil)) (pg_name (i := 4) nd rfl (.inl rfl))
          (pss_one (ps_if (pt_not (pt_val (pe_call hRef hr (by rfl) T.g_law_refused_right T.F_law_refused_right.kp (b_law_refused_right T) .nil pass0 (pa_cons (pv 1) (pa_cons (pv 3) pa_nil))))) (pss_one (ps_ret pe_bl)) pss_nil)))))))
      (pss_one (ps_ret pe_bl)))))), ?_⟩
    have p30 : CPow 10 30 := ⟨by decide, by decide, by decide⟩
    have big30 : ∀ {σ : L2.St} {H : Hp}, Ev (tOp (rI CPow fun i j => .int (i ^ j.toNat)) (tC (.int 10)) (tC (.int 30))) σ H (.int big) := fun {σ H} => ev_pow p30
    refine q_asgW (σ := [some (.ref l), none, none, none, none, none]) ⟨.ref l, rfl, l, cells, rfl, hl, by omega, fun sd sg sc gs H1 w1 e1 n1 n2 => ?_⟩
    have S1 : Sta H1 sd sg sc 1000 := ⟨gs, _, 0, 0, w1, by decide, by decide⟩
    have T1 := hT.ext e1
    -- the kinds, the ends of all days
    refine s_ifX (σ := [some (.ref l), some (.ref sd), none, none, none, none]) (b := false) (et_or (a := false) (b := false) (et_table C rfl) fun _ => et_test (ev_is (ev_op (ev_cb (ea_cons ev_c ea_nil) fun H2 e2 Q2 q2 => ⟨C.aK, C.kas.map V.ref, rfl, .inr (C.k_KINDS _), by rw [List.length_map, C.k_len]; exact q2 H2 (Ex.refl _)⟩) (ev_kindsN C) (rv_ne rfl)) (by decide))) (fun h => by cases h) (fun _ H2 e2 => ?_)
    have E2 := e1.trans e2
    have tup111 : ∀ {σ : L2.St} {H : Hp}, EvP (tTupF (tCons (tC (.int 1)) (tCons (tC (.int 1)) (tCons (tC (.int 1)) tNil)))) σ H (dv 1 1 1) := fun {σ H} => ev_tup (vs := dv 1 1 1) (ea_cons ev_c (ea_cons ev_c (ea_cons ev_c ea_nil))) (by show 3 ≤ 100000; decide)
    have tupE : ∀ {σ : L2.St} {H : Hp}, EvP (tTupF (tCons (tOp (rI CPow fun i j => .int (i ^ j.toNat)) (tC (.int 10)) (tC (.int 30))) (tCons (tC (.int 12)) (tCons (tC (.int 31)) tNil)))) σ H (dv big 12 31) := fun {σ H} => ev_tup (vs := dv big 12 31) (ea_cons big30 (ea_cons ev_c (ea_cons ev_c ea_nil))) (by show 3 ≤ 100000; decide)
    have tupK : ∀ {σ : L2.St} {H : Hp}, EvP (tTupF (tCons (tC (.int 0)) (tCons (tC (.str "behind")) tNil))) σ H (kv (kindP 1)) := fun {σ H} => ev_tup (vs := kv (kindP 1)) (ea_cons ev_c (ea_cons ev_c ea_nil)) (by show 2 ≤ 100000; decide)
    refine s_ifX (σ := [some (.ref l), some (.ref sd), none, none, none, none]) (b := false) (et_or (a := false) (b := false) (et_test (ev_is (ev_op (ev_noT tup111 first_day) ev_c (rv_ne rfl)) (by decide))) fun _ => et_or (a := false) (b := false) (et_eqD (evp_of (ea_cons ev_c ea_nil) first_day (by decide)) tup111) fun _ => et_eqK (evp_kind (ea_cons ev_c ea_nil) (by decide) (by decide)) tupK) (fun h => by cases h) (fun _ H3 e3 => ?_)
    have lastd := last_day (d := 31) (by decide) (by decide)
    refine s_ifX (σ := [some (.ref l), some (.ref sd), none, none, none, none]) (b := false) (et_or (a := false) (b := false) (et_eqD (evp_of (ea_cons (ev_lnT tupE (by decide) (by decide)) ea_nil) lastd rfl) tupE) fun _ => et_eqK (evp_kind (ea_cons big30 ea_nil) (by decide) (by decide)) (evp_sort (ea_cons big30 ea_nil))) (fun h => by cases h) (fun _ H4 e4 => ?_)
    have E4 := (E2.trans e3).trans e4
    have E14 := (e2.trans e3).trans e4
    have S4 := S1.up E14
    have T4 := T1.ext (E14 : Ex H1 H4)
    refine q_forR1 (σ := [some (.ref l), some (.ref sd), none, none, none, none]) (n := 1 + (if (3 : Int) < ((iv cells).length : Int) then 3 else ((iv cells).length : Int)))
      (ea_cons (ev_op ev_c (ev_cb (ea_cons (ev_cb (ea_cons (ev_var rfl) ea_nil) fun H2 e2 Q2 q2 => ⟨l, iv cells, rfl, .inl (ex_l (E4.trans e2) hl), q2 H2 (Ex.refl _)⟩) (ea_cons ev_c ea_nil)) fun H2 e2 Q2 q2 => ⟨((iv cells).length : Int), 3, rfl, q2 H2 (Ex.refl _)⟩) rv_I0) ea_nil)
      ⟨by split <;> omega, by split <;> omega⟩ (fun i σ' H' => ∃ y2 y3 y4, σ' = [some (.ref l), some (.ref sd), y2, y3, y4, none] ∧ Sta H' sd sg sc (50 * (5 - i)) ∧ Tabs Tb H') (fun H5 e5 => ⟨none, none, none, rfl, (S4.up e5).less (by omega), T4.ext e5⟩) (fun i σ' H' hi p => ?_) (fun σ' H' p => q H')
    obtain ⟨y2, y3, y4, rfl, S', T'⟩ := p
    have hi3 : i < 4 := by
      have h2 : ∀ x : Int, (if (3 : Int) < x then (3 : Int) else x) ≤ 3 := fun x => by split <;> omega
      have := h2 ((iv cells).length : Int)
      omega
    refine q_asgS (σ := [some (.ref l), some (.ref sd), some (.int (i : Int)), y3, y4, none]) (fun x H6 => ∃ y m d p, x = .ref p ∧ isD y m d ∧ TupS H6 p (dv y m d) ∧ Sta H6 sd sg sc (50 * (5 - i) - 30) ∧ ExS sd sg H' H6) (fun Q1 q1 => ?_) fun x H6 ⟨y, m, d, p, ex, hd, hp, S6, X6⟩ => ?_
    · refine ⟨.ref sd, rfl, sd, sg, sc, 50 * (5 - i) - 1, 6, rfl, by decide, by decide, S'.less (by omega), fun z H5 z0 z6 S5 X5 => ⟨z, 0, rfl, rfl, decide (z > 0), rfl, ?_⟩⟩
      by_cases big0 : z > 0
      · rw [decide_eq_true big0]
        show if (true = true) then _ else _
        rw [if_pos rfl]
        exact ⟨.ref sd, rfl, sd, sg, sc, 50 * (5 - i) - 30, rfl, S5.less (by omega), fun y m d p H6 hd hp S6 X6 => q1 _ H6 ⟨y, m, d, p, rfl, hd, hp, S6, X5.trans X6⟩⟩
      · rw [decide_eq_false big0]
        show if (false = true) then _ else _
        rw [if_neg Bool.false_ne_true]
        refine ⟨10, 30, rfl, rfl, p30, .ref sd, rfl, sd, sg, sc, 50 * (5 - i) - 30, 31, rfl, by decide, by decide, S5.less (by omega), fun u H7 u0 u31 S7 X7 => ⟨31, u, rfl, rfl, by show 3 ≤ sizeLine; rw [sizeLine_eq]; decide, fun p o fp dp => ?_⟩⟩
        have ED := Ex.new (o := .frz o (.tup [.int big, .int 12, .int (31 - u)])) fp
        exact q1 _ _ ⟨big, 12, 31 - u, p, rfl, last_day (by omega) (by omega), ⟨o, dp, upd_same⟩, S7.up ED, (X5.trans X7).trans (.of ED)⟩
    subst ex
    have T6 := tabs_exs T' S' X6
    refine q_orS (σ := [some (.ref l), some (.ref sd), some (.int (i : Int)), some (.ref p), y4, none]) (fun H7 => TupS H7 p (dv y m d) ∧ Sta H7 sd sg sc (50 * (5 - i) - 31) ∧ Tabs Tb H7)
      (fun R r => ⟨.ref sd, rfl, .ref p, rfl, sd, sg, sc, 50 * (5 - i) - 31, p, y, m, d, rfl, hp, hd, S6.less (by omega), T6, fun H7 S7 keep T7 => ⟨true, rfl, r H7 ⟨keep p _ hp, S7, T7⟩⟩⟩)
      (fun H7 ⟨hp7, S7, T7⟩ => et_is (et_not (et_B (ev_sp stb_again (ea_cons (ev_op (z := .int y) (ev_var rfl) ev_c (rv_ixT hp7.sq (atI_nat (j := 0) rfl))) ea_nil) ⟨y, rfl, hd.1, hd.2.1, rfl⟩))) rfl) fun H7 H8 ⟨hp7, S7, T7⟩ e8 => ?_
    refine s_forR1 (σ := [some (.ref l), some (.ref sd), some (.int (i : Int)), some (.ref p), y4, none]) (n := 2) (ea_cons ev_c ea_nil) ⟨by decide, by decide⟩ (fun j σ' H' => ∃ z4, σ' = [some (.ref l), some (.ref sd), some (.int (i : Int)), some (.ref p), z4, none] ∧ TupS H' p (dv y m d) ∧ Sta H' sd sg sc (50 * (4 - i) + 3 * (2 - j)) ∧ Tabs Tb H')
      (fun H9 e9 => ⟨_, rfl, (hp7.up e8).up e9, ((S7.up e8).up e9).less (by omega), (T7.ext e8).ext e9⟩) (fun j σ' H' hj w => ?_) (fun σ' H' w => ?_)
    · obtain ⟨z4, rfl, hp9, S9, T9⟩ := w
      have hj2 : j < 2 := by omega
      refine s_ifN (σ := [some (.ref l), some (.ref sd), some (.int (i : Int)), some (.ref p), some (.int (j : Int)), none]) (fun H10 => TupS H10 p (dv y m d) ∧ Sta H10 sd sg sc (50 * (4 - i) + 3 * (2 - (j + 1))) ∧ Tabs Tb H10)
        (fun R r => ⟨.ref sd, rfl, .ref p, rfl, sd, sg, sc, 50 * (4 - i) + 3 * (2 - (j + 1)), p, y, m, d, rfl, hp9, hd, S9.less (by omega), T9, fun H10 S10 keep T10 => ⟨true, rfl, r H10 ⟨keep p _ hp9, S10, T10⟩⟩⟩) fun H10 w => ⟨_, rfl, w⟩
    · obtain ⟨z4, rfl, hp9, S9, T9⟩ := w
      exact ⟨_, _, _, rfl, S9.less (by rw [show (2 : Int).toNat = 2 from rfl]; omega), T9⟩
end
end Kx

set_option Elab.async false
set_option linter.all false
set_option maxRecDepth 100000
set_option maxHeartbeats 1000000
namespace Kx
open PySem PySem.Spec PyProof.Rows L2 Evl LamX
/-! ## what the text's top has left -/
/-- the def x of the text -/
def TextAt (K : PySem.W.Frag) (x : Str) (st : Stmt) : Prop := ∃ (f : Addr) (oc : Value) (od : Option Addr) (kV doc pm : Value) (an : Option Addr) (cdv ct : Value) (osl : Array (Option Value)), PySem.W.nsIn K mainGlobals x = some (some (.ref f)) ∧
  K.lookup f = some ⟨oc, od, .func (PySem.W.fnOf x x (defArgs st) (defBody st) (defScope st) .none kV doc pm an cdv ct), osl⟩ ∧ PySem.W.codeIn K cdv x = true ∧ PySem.W.keepIn K (.ref f) = true
theorem textAt {K : PySem.W.Frag} {x : Str} {st : Stmt} {f : Addr} {oc : Value} {od : Option Addr} {kV doc pm : Value} {an : Option Addr} {cdv ct : Value} {osl : Array (Option Value)} (a : PySem.W.nsIn K mainGlobals x = some (some (.ref f)))
    (l : K.lookup f = some ⟨oc, od, .func (PySem.W.fnOf x x (defArgs st) (defBody st) (defScope st) .none kV doc pm an cdv ct), osl⟩) (c : PySem.W.codeIn K cdv x = true) (k : PySem.W.keepIn K (.ref f) = true) : TextAt K x st := ⟨f, oc, od, kV, doc, pm, an, cdv, ct, osl, a, l, c, k⟩
theorem TextAt.fn {K : PySem.W.Frag} {x : Str} {st : Stmt} (t : TextAt K x st) : ∃ f fd, Fun K x x st f fd ∧ PySem.W.nsIn K mainGlobals x = some (some (.ref f)) :=
  let ⟨f, _, _, _, _, _, _, _, _, _, a, l, c, k⟩ := t; ⟨f, _, fun_mk l c k, a⟩
/-- the def x of the text, whose code c has its table at P -/
def TabAt (K : PySem.W.Frag) (x : Str) (st : Stmt) (P : Addr) : Prop := ∃ (f : Addr) (oc : Value) (od : Option Addr) (kV doc pm : Value) (an : Option Addr) (c : Addr) (ct : Value) (osl : Array (Option Value)), PySem.W.nsIn K mainGlobals x = some (some (.ref f)) ∧
  K.lookup f = some ⟨oc, od, .func (PySem.W.fnOf x x (defArgs st) (defBody st) (defScope st) .none kV doc pm an (.ref c) ct), osl⟩ ∧ PySem.W.codeIn K (.ref c) x = true ∧ PySem.W.keepIn K (.ref f) = true ∧ K.lookup P = none ∧ PySem.W.codeHdIn K c P = true
theorem tabAt {K : PySem.W.Frag} {x : Str} {st : Stmt} {f P c : Addr} {oc : Value} {od : Option Addr} {kV doc pm : Value} {an : Option Addr} {ct : Value} {osl : Array (Option Value)} (a : PySem.W.nsIn K mainGlobals x = some (some (.ref f)))
    (l : K.lookup f = some ⟨oc, od, .func (PySem.W.fnOf x x (defArgs st) (defBody st) (defScope st) .none kV doc pm an (.ref c) ct), osl⟩) (d : PySem.W.codeIn K (.ref c) x = true) (k : PySem.W.keepIn K (.ref f) = true) (n : K.lookup P = none) (e : PySem.W.codeHdIn K c P = true) : TabAt K x st P :=
  ⟨f, oc, od, kV, doc, pm, an, c, ct, osl, a, l, d, k, n, e⟩
theorem TabAt.fn {K : PySem.W.Frag} {x : Str} {st : Stmt} {P : Addr} (t : TabAt K x st P) : ∃ f fd c, Fun K x x st f fd ∧ PySem.W.nsIn K mainGlobals x = some (some (.ref f)) ∧ FunC K x st f c fd ∧ K.lookup P = none ∧ PySem.W.codeHdIn K c P = true :=
  let ⟨f, oc, od, kV, doc, pm, an, c, ct, osl, a, l, d, k, n, e⟩ := t; ⟨f, _, c, fun_mk l d k, a, ⟨oc, od, kV, doc, pm, an, ct, osl, rfl, l, d⟩, n, e⟩
/-- an own class of errors stands at C -/
structure ErrAt (K : PySem.W.Frag) (x : Str) (R C : Addr) : Prop where
  n : PySem.W.nsIn K mainGlobals x = some (some (.ref C))
  q : PySem.W.excIn K C [.type "ValueError", .type "Exception", .type "BaseException", .type "object"] "ValueError.__new__" = true
  kp : PySem.W.keepIn K (.ref C) = true
  bx : PySem.W.subIn K (.ref C) (.type "BaseException") = some true
  ty : PySem.W.typeIn K (.ref C) = some (.type "type")
  hg : PySem.W.findIn K (.ref C) "__getattribute__" = some (some (.builtin "BaseException.__getattribute__"))
  hk : PySem.W.findIn K (.ref C) "__getattr__" = some none
  hd : PySem.W.hasDictIn K C = true
  ha : PySem.W.findIn K (.ref C) "__class__" = some (some (.builtin "object.__class__"))
  hn : PySem.W.specialIn K (.builtin "object.__class__") "__get__" = some (some (.builtin "getset_descriptor.__get__"))
  ht : PySem.W.takesIn K (.builtin "object.__class__") = some true
  hm : PySem.W.mroIn K C (.type "object") = some true
  up : PySem.W.subIn K (.ref C) (.ref R) = some true
theorem ErrAt.ok {K : PySem.W.Frag} {h : Heap} {mg : Str → Option Value} {x : Str} {R C : Addr} (X : K.In h) (G : h.Ns mainGlobals mg) (e : ErrAt K x R C) : ExK K mg x C := ⟨PySem.W.mg_of X G e.n, e.q, e.kp, e.bx, e.ty, ⟨e.hg, e.hk, e.bx, e.hd, e.ha, e.hn, e.ht, e.hm⟩⟩

/-! ## the constants, read off -/
def tupVals (K : PySem.W.Frag) (a : Addr) : Option (List Value) := match K.lookup a with
  | some ⟨.type t, _, .seq its _, _⟩ => if t = "tuple" ∧ its.size ≤ 1000 then some its.toList else none
  | _ => none
theorem tupVals_sq {K : PySem.W.Frag} {a : Addr} {us : List Value} {xs : List V} (h : tupVals K a = some us) (r : Vals xs us) (H : Hp) : SqT K H a xs := by
  unfold tupVals at h
  split at h
  · rename_i t d its n sl e
    split at h
    · rename_i c
      have c2 := c.2
      obtain ⟨rfl, _⟩ := c
      exact .inr ⟨_, its, n, e, rfl, rfl, by rw [sizeLine_eq]; omega, by rw [Option.some.inj h]; exact r⟩
    · cases h
  · cases h
def intsAre : List Value → List Int → Bool
  | [], [] => true
  | .int j _ :: r, i :: s => decide (j = i) && intsAre r s
  | _, _ => false
theorem intsAre_vals : ∀ {us : List Value} {is : List Int}, intsAre us is = true → Vals (iv is) us
  | [], [], _ => .nil
  | .int j t :: r, i :: s, h => by
    have h : (decide (j = i) && intsAre r s) = true := h
    rw [Bool.and_eq_true] at h
    exact .cons ⟨t, by rw [of_decide_eq_true h.1]⟩ (intsAre_vals h.2)
def kindAre (K : PySem.W.Frag) (v : Value) (p : Int × Nat) : Bool := match v with
  | .ref b => match tupVals K b with
    | some [.int j _, .str x _] => decide (j = p.1) && decide (x = wordS p.2)
    | _ => false
  | _ => false
theorem kindAre_sq {K : PySem.W.Frag} {v : Value} {p : Int × Nat} (h : kindAre K v p = true) : ∃ b, v = .ref b ∧ ∀ H, SqT K H b (kv p) := by
  unfold kindAre at h
  split at h
  · rename_i b
    split at h
    · rename_i j tj x tx e
      rw [Bool.and_eq_true] at h
      exact ⟨b, rfl, tupVals_sq e (.cons ⟨tj, by rw [of_decide_eq_true h.1]⟩ (.cons ⟨tx, by rw [of_decide_eq_true h.2]⟩ .nil))⟩
    · cases h
  · cases h
def allKinds (K : PySem.W.Frag) : List Value → List (Int × Nat) → Bool
  | [], [] => true
  | v :: r, p :: s => kindAre K v p && allKinds K r s
  | _, _ => false
theorem allKinds_get {K : PySem.W.Frag} : ∀ {us : List Value} {ps : List (Int × Nat)}, allKinds K us ps = true → ∃ as : List Addr, us = as.map Value.ref ∧ as.length = ps.length ∧ ∀ (i : Nat) (b : Addr) (p : Int × Nat), as[i]? = some b → ps[i]? = some p → ∀ H, SqT K H b (kv p)
  | [], [], _ => ⟨[], rfl, rfl, fun i b p h => by cases h⟩
  | v :: r, p :: s, h => by
    have h : (kindAre K v p && allKinds K r s) = true := h
    rw [Bool.and_eq_true] at h
    obtain ⟨b, rfl, hb⟩ := kindAre_sq h.1
    obtain ⟨as, rfl, hl, ha⟩ := allKinds_get h.2
    refine ⟨b :: as, rfl, by rw [List.length_cons, List.length_cons, hl], fun i c q h1 h2 => ?_⟩
    cases i with
    | zero =>
      obtain rfl : b = c := Option.some.inj h1
      obtain rfl : p = q := Option.some.inj h2
      exact hb
    | succ i => exact ha i c q h1 h2
theorem refs_vals : ∀ as : List Addr, Vals (as.map V.ref) (as.map Value.ref)
  | [] => .nil
  | _ :: r => .cons rfl (refs_vals r)
def lastIn (K : PySem.W.Frag) : Bool := match PySem.W.nsIn K mainGlobals "LAST" with
  | some (some (.int i _)) => decide (i = big)
  | _ => false
def lensIn (K : PySem.W.Frag) : Bool := match PySem.W.nsIn K mainGlobals "LENGTHS" with
  | some (some (.ref a)) => match tupVals K a with
    | some us => intsAre us LENS
    | none => false
  | _ => false
def kindsIn (K : PySem.W.Frag) : Bool := match PySem.W.nsIn K mainGlobals "KINDS" with
  | some (some (.ref a)) => match tupVals K a with
    | some us => allKinds K us KP
    | none => false
  | _ => false
theorem consts_of {K : PySem.W.Frag} {h : Heap} {mg : Str → Option Value} (X : K.In h) (G : h.Ns mainGlobals mg) (e1 : lastIn K = true) (e2 : lensIn K = true) (e3 : kindsIn K = true) : Nonempty (Cs K mg) := by
  unfold lastIn at e1
  unfold lensIn at e2
  unfold kindsIn at e3
  split at e1
  · rename_i i t1 n1
    have e1 := of_decide_eq_true e1
    subst e1
    split at e2
    · rename_i aN n2
      split at e2
      · rename_i us t2
        split at e3
        · rename_i aK n3
          split at e3
          · rename_i vs t3
            obtain ⟨as, rfl, hl, ha⟩ := allKinds_get e3
            exact ⟨{ tL := t1, g_LAST := PySem.W.mg_of X G n1, aN := aN, g_LEN := PySem.W.mg_of X G n2, k_LEN := tupVals_sq t2 (intsAre_vals e2), aK := aK, kas := as, g_KINDS := PySem.W.mg_of X G n3, k_KINDS := tupVals_sq t3 (refs_vals as), k_len := hl, k_each := ha }⟩
          · cases e3
        · cases e3
      · cases e2
    · cases e2
  · cases e1

theorem all_mk {l : PySem.W.OpenLaw} {w : World} {K : PySem.W.Frag} {h : Heap} {mg : Str → Option Value} {fa : Addr} (X : K.In h) (G : h.Ns mainGlobals mg) (hfa : mg "law" = some (.ref fa))
    (t_is_between : TextAt K "is_between" s_is_between)
    (t_is_tuple : TextAt K "is_tuple" s_is_tuple)
    (t_is_leap : TextAt K "is_leap" s_is_leap)
    (t_month_length : TextAt K "month_length" s_month_length)
    (t_is_date : TextAt K "is_date" s_is_date)
    (t_check_date : TextAt K "check_date" s_check_date)
    (t_is_year : TextAt K "is_year" s_is_year)
    (t_days_ahead : TextAt K "days_ahead" s_days_ahead)
    (t_days_to : TextAt K "days_to" s_days_to)
    (t_weekday_of : TextAt K "weekday_of" s_weekday_of)
    (t_number_of : TextAt K "number_of" s_number_of)
    (t_date_at : TextAt K "date_at" s_date_at)
    (t_is_date_number : TextAt K "is_date_number" s_is_date_number)
    (t_date_of : TextAt K "date_of" s_date_of)
    (t_kind_of : TextAt K "kind_of" s_kind_of)
    (t_law_begun : TextAt K "_law_begun" s_law_begun)
    (t_law_mixed : TextAt K "_law_mixed" s_law_mixed)
    (t_law_draw : TextAt K "_law_draw" s_law_draw)
    (t_law_pick : TextAt K "_law_pick" s_law_pick)
    (t_law_leap : TextAt K "_law_leap" s_law_leap)
    (t_law_month : TextAt K "_law_month" s_law_month)
    (t_law_number : TextAt K "_law_number" s_law_number)
    (t_law_year : TextAt K "_law_year" s_law_year)
    (t_law_date : TextAt K "_law_date" s_law_date)
    (t_law_caught : TextAt K "_law_caught" s_law_caught)
    (t_law_sort : TextAt K "_law_sort" s_law_sort)
    (t_law_after : TextAt K "_law_after" s_law_after)
    (t_law_again_right : TextAt K "_law_again_right" s_law_again_right)
    (t_law : TextAt K "law" s_law)
    {P1 P2 cK cD cN cY : Addr} (t_law_days_right : TabAt K "_law_days_right" s_law_days_right P1) (t_law_refused_right : TabAt K "_law_refused_right" s_law_refused_right P2) (nP : P1 ≠ P2) (o1 : h.get? P1 = some { cls := .none, data := .fields #[] }) (o2 : h.get? P2 = some { cls := .none, data := .fields #[] })
    (eK : ErrAt K "KeptError" cK cK) (eD : ErrAt K "BadDate" cK cD) (eN : ErrAt K "BadNumber" cK cN) (eY : ErrAt K "BadYear" cK cY)
    (q1 : PySem.W.kitOne K (.ref cD) (.ref cD) = some true) (q2 : PySem.W.kitOne K (.ref cN) (.ref cN) = some true) (q3 : PySem.W.kitOne K (.ref cY) (.ref cY) = some true) (k1 : lastIn K = true) (k2 : lensIn K = true) (k3 : kindsIn K = true)
    (z_type : PySem.W.nsIn K mainGlobals "type" = some none) (z_int : PySem.W.nsIn K mainGlobals "int" = some none) (z_str : PySem.W.nsIn K mainGlobals "str" = some none) (z_tuple : PySem.W.nsIn K mainGlobals "tuple" = some none) (z_len : PySem.W.nsIn K mainGlobals "len" = some none) (z_set : PySem.W.nsIn K mainGlobals "set" = some none) (z_range : PySem.W.nsIn K mainGlobals "range" = some none) (z_isinstance : PySem.W.nsIn K mainGlobals "isinstance" = some none) (z_abs : PySem.W.nsIn K mainGlobals "abs" = some none) (z_min : PySem.W.nsIn K mainGlobals "min" = some none) (z_sum : PySem.W.nsIn K mainGlobals "sum" = some none) (z_repr : PySem.W.nsIn K mainGlobals "repr" = some none) :
    LawAtS l w K CX0 10 63 "script" mg fa h := by
  obtain ⟨C⟩ := consts_of X G k1 k2 k3
  obtain ⟨a_is_between, d_is_between, F_is_between, n_is_between⟩ := t_is_between.fn
  obtain ⟨a_is_tuple, d_is_tuple, F_is_tuple, n_is_tuple⟩ := t_is_tuple.fn
  obtain ⟨a_is_leap, d_is_leap, F_is_leap, n_is_leap⟩ := t_is_leap.fn
  obtain ⟨a_month_length, d_month_length, F_month_length, n_month_length⟩ := t_month_length.fn
  obtain ⟨a_is_date, d_is_date, F_is_date, n_is_date⟩ := t_is_date.fn
  obtain ⟨a_check_date, d_check_date, F_check_date, n_check_date⟩ := t_check_date.fn
  obtain ⟨a_is_year, d_is_year, F_is_year, n_is_year⟩ := t_is_year.fn
  obtain ⟨a_days_ahead, d_days_ahead, F_days_ahead, n_days_ahead⟩ := t_days_ahead.fn
  obtain ⟨a_days_to, d_days_to, F_days_to, n_days_to⟩ := t_days_to.fn
  obtain ⟨a_weekday_of, d_weekday_of, F_weekday_of, n_weekday_of⟩ := t_weekday_of.fn
  obtain ⟨a_number_of, d_number_of, F_number_of, n_number_of⟩ := t_number_of.fn
  obtain ⟨a_date_at, d_date_at, F_date_at, n_date_at⟩ := t_date_at.fn
  obtain ⟨a_is_date_number, d_is_date_number, F_is_date_number, n_is_date_number⟩ := t_is_date_number.fn
  obtain ⟨a_date_of, d_date_of, F_date_of, n_date_of⟩ := t_date_of.fn
  obtain ⟨a_kind_of, d_kind_of, F_kind_of, n_kind_of⟩ := t_kind_of.fn
  obtain ⟨a_law_begun, d_law_begun, F_law_begun, n_law_begun⟩ := t_law_begun.fn
  obtain ⟨a_law_mixed, d_law_mixed, F_law_mixed, n_law_mixed⟩ := t_law_mixed.fn
  obtain ⟨a_law_draw, d_law_draw, F_law_draw, n_law_draw⟩ := t_law_draw.fn
  obtain ⟨a_law_pick, d_law_pick, F_law_pick, n_law_pick⟩ := t_law_pick.fn
  obtain ⟨a_law_leap, d_law_leap, F_law_leap, n_law_leap⟩ := t_law_leap.fn
  obtain ⟨a_law_month, d_law_month, F_law_month, n_law_month⟩ := t_law_month.fn
  obtain ⟨a_law_number, d_law_number, F_law_number, n_law_number⟩ := t_law_number.fn
  obtain ⟨a_law_year, d_law_year, F_law_year, n_law_year⟩ := t_law_year.fn
  obtain ⟨a_law_date, d_law_date, F_law_date, n_law_date⟩ := t_law_date.fn
  obtain ⟨a_law_caught, d_law_caught, F_law_caught, n_law_caught⟩ := t_law_caught.fn
  obtain ⟨a_law_sort, d_law_sort, F_law_sort, n_law_sort⟩ := t_law_sort.fn
  obtain ⟨a_law_after, d_law_after, F_law_after, n_law_after⟩ := t_law_after.fn
  obtain ⟨a_law_days_right, d_law_days_right, c_law_days_right, F_law_days_right, n_law_days_right, C_law_days_right, w_law_days_right, h_law_days_right⟩ := t_law_days_right.fn
  obtain ⟨a_law_refused_right, d_law_refused_right, c_law_refused_right, F_law_refused_right, n_law_refused_right, C_law_refused_right, w_law_refused_right, h_law_refused_right⟩ := t_law_refused_right.fn
  obtain ⟨a_law_again_right, d_law_again_right, F_law_again_right, n_law_again_right⟩ := t_law_again_right.fn
  obtain ⟨a_law, oc, od, kV, doc, pm, an, cdv, ct, osl, n_law, l_law, c_law, k_law⟩ := t_law
  have F_law := fun_mk (st := s_law) l_law c_law k_law
  let T : Txt K mg := { a_is_between := a_is_between, d_is_between := d_is_between, F_is_between := F_is_between, g_is_between := PySem.W.mg_of X G n_is_between, a_is_tuple := a_is_tuple, d_is_tuple := d_is_tuple, F_is_tuple := F_is_tuple, g_is_tuple := PySem.W.mg_of X G n_is_tuple, a_is_leap := a_is_leap, d_is_leap := d_is_leap, F_is_leap := F_is_leap, g_is_leap := PySem.W.mg_of X G n_is_leap, a_month_length := a_month_length, d_month_length := d_month_length, F_month_length := F_month_length, g_month_length := PySem.W.mg_of X G n_month_length, a_is_date := a_is_date, d_is_date := d_is_date, F_is_date := F_is_date, g_is_date := PySem.W.mg_of X G n_is_date, a_check_date := a_check_date, d_check_date := d_check_date, F_check_date := F_check_date, g_check_date := PySem.W.mg_of X G n_check_date, a_is_year := a_is_year, d_is_year := d_is_year, F_is_year := F_is_year, g_is_year := PySem.W.mg_of X G n_is_year, a_days_ahead := a_days_ahead, d_days_ahead := d_days_ahead, F_days_ahead := F_days_ahead, g_days_ahead := PySem.W.mg_of X G n_days_ahead, a_days_to := a_days_to, d_days_to := d_days_to, F_days_to := F_days_to, g_days_to := PySem.W.mg_of X G n_days_to, a_weekday_of := a_weekday_of, d_weekday_of := d_weekday_of, F_weekday_of := F_weekday_of, g_weekday_of := PySem.W.mg_of X G n_weekday_of, a_number_of := a_number_of, d_number_of := d_number_of, F_number_of := F_number_of, g_number_of := PySem.W.mg_of X G n_number_of, a_date_at := a_date_at, d_date_at := d_date_at, F_date_at := F_date_at, g_date_at := PySem.W.mg_of X G n_date_at, a_is_date_number := a_is_date_number, d_is_date_number := d_is_date_number, F_is_date_number := F_is_date_number, g_is_date_number := PySem.W.mg_of X G n_is_date_number, a_date_of := a_date_of, d_date_of := d_date_of, F_date_of := F_date_of, g_date_of := PySem.W.mg_of X G n_date_of, a_kind_of := a_kind_of, d_kind_of := d_kind_of, F_kind_of := F_kind_of, g_kind_of := PySem.W.mg_of X G n_kind_of, a_law_begun := a_law_begun, d_law_begun := d_law_begun, F_law_begun := F_law_begun, g_law_begun := PySem.W.mg_of X G n_law_begun, a_law_mixed := a_law_mixed, d_law_mixed := d_law_mixed, F_law_mixed := F_law_mixed, g_law_mixed := PySem.W.mg_of X G n_law_mixed, a_law_draw := a_law_draw, d_law_draw := d_law_draw, F_law_draw := F_law_draw, g_law_draw := PySem.W.mg_of X G n_law_draw, a_law_pick := a_law_pick, d_law_pick := d_law_pick, F_law_pick := F_law_pick, g_law_pick := PySem.W.mg_of X G n_law_pick, a_law_leap := a_law_leap, d_law_leap := d_law_leap, F_law_leap := F_law_leap, g_law_leap := PySem.W.mg_of X G n_law_leap, a_law_month := a_law_month, d_law_month := d_law_month, F_law_month := F_law_month, g_law_month := PySem.W.mg_of X G n_law_month, a_law_number := a_law_number, d_law_number := d_law_number, F_law_number := F_law_number, g_law_number := PySem.W.mg_of X G n_law_number, a_law_year := a_law_year, d_law_year := d_law_year, F_law_year := F_law_year, g_law_year := PySem.W.mg_of X G n_law_year, a_law_date := a_law_date, d_law_date := d_law_date, F_law_date := F_law_date, g_law_date := PySem.W.mg_of X G n_law_date, a_law_caught := a_law_caught, d_law_caught := d_law_caught, F_law_caught := F_law_caught, g_law_caught := PySem.W.mg_of X G n_law_caught, a_law_sort := a_law_sort, d_law_sort := d_law_sort, F_law_sort := F_law_sort, g_law_sort := PySem.W.mg_of X G n_law_sort, a_law_after := a_law_after, d_law_after := d_law_after, F_law_after := F_law_after, g_law_after := PySem.W.mg_of X G n_law_after, a_law_days_right := a_law_days_right, d_law_days_right := d_law_days_right, F_law_days_right := F_law_days_right, g_law_days_right := PySem.W.mg_of X G n_law_days_right, a_law_refused_right := a_law_refused_right, d_law_refused_right := d_law_refused_right, F_law_refused_right := F_law_refused_right, g_law_refused_right := PySem.W.mg_of X G n_law_refused_right, a_law_again_right := a_law_again_right, d_law_again_right := d_law_again_right, F_law_again_right := F_law_again_right, g_law_again_right := PySem.W.mg_of X G n_law_again_right, a_law := a_law, d_law := _, F_law := F_law, g_law := PySem.W.mg_of X G n_law, c_KeptError := cK, E_KeptError := eK.ok X G, u_KeptError := eK.up, c_BadDate := cD, E_BadDate := eD.ok X G, u_BadDate := eD.up, c_BadNumber := cN, E_BadNumber := eN.ok X G, u_BadNumber := eN.up, c_BadYear := cY, E_BadYear := eY.ok X G, u_BadYear := eY.up, q_DD := q1, q_NN := q2, q_YY := q3, z_type := PySem.W.mg_none_of X G z_type, z_int := PySem.W.mg_none_of X G z_int, z_str := PySem.W.mg_none_of X G z_str, z_tuple := PySem.W.mg_none_of X G z_tuple, z_len := PySem.W.mg_none_of X G z_len, z_set := PySem.W.mg_none_of X G z_set, z_range := PySem.W.mg_none_of X G z_range, z_isinstance := PySem.W.mg_none_of X G z_isinstance, z_abs := PySem.W.mg_none_of X G z_abs, z_min := PySem.W.mg_none_of X G z_min, z_sum := PySem.W.mg_none_of X G z_sum, z_repr := PySem.W.mg_none_of X G z_repr }
  have e := hfa.symm.trans (PySem.W.mg_of X G n_law)
  cases e
  let Tb : List (Addr × Str) := [(P1, qDays), (P2, qRef)]
  refine ⟨_, [(c_law_days_right, P1), (c_law_refused_right, P2)], spLaw K Tb, fun p hp => ?_, fun p hp => ?_, fun p hp => ?_, fun s u => .of_eq rfl, fun H a ns hl _ hH hS => ?_, fun base KB NB TB => ok_law T C ?_ ?_⟩
  · rcases List.mem_cons.mp hp with rfl | hp
    · exact o1
    · rw [List.mem_singleton.mp hp]
      exact o2
  · rcases List.mem_cons.mp hp with rfl | hp
    · exact w_law_days_right
    · rw [List.mem_singleton.mp hp]
      exact w_law_refused_right
  · rcases List.mem_cons.mp hp with rfl | hp
    · exact PySem.W.codeHd_of_K X h_law_days_right
    · rw [List.mem_singleton.mp hp]
      exact PySem.W.codeHd_of_K X h_law_refused_right
  · refine ⟨a, ns, rfl, hS, hl, fun p hp => ?_, fun _ => rfl⟩
    rcases List.mem_cons.mp hp with rfl | hp
    · exact TabS.nil (hH (c_law_days_right, P1) List.mem_cons_self)
    · rw [List.mem_singleton.mp hp]
      exact TabS.nil (hH (c_law_refused_right, P2) (List.mem_cons_of_mem _ List.mem_cons_self))
  · refine ok_days T C C_law_days_right (TB (c_law_days_right, P1) List.mem_cons_self) List.mem_cons_self fun p hp ep => ?_
    rcases List.mem_cons.mp hp with rfl | hp
    · rfl
    · rw [List.mem_singleton.mp hp] at ep
      exact absurd ep.symm nP
  · refine ok_refd T C C_law_refused_right (TB (c_law_refused_right, P2) (List.mem_cons_of_mem _ List.mem_cons_self)) (List.mem_cons_of_mem _ List.mem_cons_self) fun p hp ep => ?_
    rcases List.mem_cons.mp hp with rfl | hp
    · exact absurd ep nP
    · rw [List.mem_singleton.mp hp]
end Kx

set_option Elab.async false
set_option maxRecDepth 100000
open PySem PySem.W PyProof.Rows in
set_option maxRecDepth 100000 in
set_option maxHeartbeats 0 in
theorem PySem.Challenge.cw_housekept_k80_days_of_all_years_holds : PySem.Challenge.rw_housekept_k80_days_of_all_years.Holds := by
  w_on; o_law; k_head; (case hw => w_witness2)
  k_fill
  refine LamX.walk_ofTs (l := PySem.Challenge.rw_housekept_k80_days_of_all_years) (n := 63) (k := 10) (x := "script") (CX := fun _ => L2.CX0) rfl (by decide) rfl ⟨rfl, by decide, by decide⟩ (fun w h Y => PySem.W.km_in_of Y) ?F (fun _ _ _ _ _ z => z)
  case F =>
    intro w mg fa h Y KX G hmg
    have tb := PySem.W.km_tabs_of Y
    refine' Kx.all_mk KX G hmg ?t_is_between ?t_is_tuple ?t_is_leap ?t_month_length ?t_is_date ?t_check_date ?t_is_year ?t_days_ahead ?t_days_to ?t_weekday_of ?t_number_of ?t_date_at ?t_is_date_number ?t_date_of ?t_kind_of ?t_law_begun ?t_law_mixed ?t_law_draw ?t_law_pick ?t_law_leap ?t_law_month ?t_law_number ?t_law_year ?t_law_date ?t_law_caught ?t_law_sort ?t_law_after ?t_law_again_right ?t_law ?u1 ?u2 ?nP ?o1 ?o2 ?eK ?eD ?eN ?eY ?q1 ?q2 ?q3 ?k1 ?k2 ?k3 ?z_type ?z_int ?z_str ?z_tuple ?z_len ?z_set ?z_range ?z_isinstance ?z_abs ?z_min ?z_sum ?z_repr
    case t_is_between => (refine' Kx.textAt ?a ?l ?c ?k; (case a => k_is); (case l => k_is); (case c => k_is); (case k => k_is))
    case t_is_tuple => (refine' Kx.textAt ?a ?l ?c ?k; (case a => k_is); (case l => k_is); (case c => k_is); (case k => k_is))
    case t_is_leap => (refine' Kx.textAt ?a ?l ?c ?k; (case a => k_is); (case l => k_is); (case c => k_is); (case k => k_is))
    case t_month_length => (refine' Kx.textAt ?a ?l ?c ?k; (case a => k_is); (case l => k_is); (case c => k_is); (case k => k_is))
    case t_is_date => (refine' Kx.textAt ?a ?l ?c ?k; (case a => k_is); (case l => k_is); (case c => k_is); (case k => k_is))
    case t_check_date => (refine' Kx.textAt ?a ?l ?c ?k; (case a => k_is); (case l => k_is); (case c => k_is); (case k => k_is))
    case t_is_year => (refine' Kx.textAt ?a ?l ?c ?k; (case a => k_is); (case l => k_is); (case c => k_is); (case k => k_is))
    case t_days_ahead => (refine' Kx.textAt ?a ?l ?c ?k; (case a => k_is); (case l => k_is); (case c => k_is); (case k => k_is))
    case t_days_to => (refine' Kx.textAt ?a ?l ?c ?k; (case a => k_is); (case l => k_is); (case c => k_is); (case k => k_is))
    case t_weekday_of => (refine' Kx.textAt ?a ?l ?c ?k; (case a => k_is); (case l => k_is); (case c => k_is); (case k => k_is))
    case t_number_of => (refine' Kx.textAt ?a ?l ?c ?k; (case a => k_is); (case l => k_is); (case c => k_is); (case k => k_is))
    case t_date_at => (refine' Kx.textAt ?a ?l ?c ?k; (case a => k_is); (case l => k_is); (case c => k_is); (case k => k_is))
    case t_is_date_number => (refine' Kx.textAt ?a ?l ?c ?k; (case a => k_is); (case l => k_is); (case c => k_is); (case k => k_is))
    case t_date_of => (refine' Kx.textAt ?a ?l ?c ?k; (case a => k_is); (case l => k_is); (case c => k_is); (case k => k_is))
    case t_kind_of => (refine' Kx.textAt ?a ?l ?c ?k; (case a => k_is); (case l => k_is); (case c => k_is); (case k => k_is))
    case t_law_begun => (refine' Kx.textAt ?a ?l ?c ?k; (case a => k_is); (case l => k_is); (case c => k_is); (case k => k_is))
    case t_law_mixed => (refine' Kx.textAt ?a ?l ?c ?k; (case a => k_is); (case l => k_is); (case c => k_is); (case k => k_is))
    case t_law_draw => (refine' Kx.textAt ?a ?l ?c ?k; (case a => k_is); (case l => k_is); (case c => k_is); (case k => k_is))
    case t_law_pick => (refine' Kx.textAt ?a ?l ?c ?k; (case a => k_is); (case l => k_is); (case c => k_is); (case k => k_is))
    case t_law_leap => (refine' Kx.textAt ?a ?l ?c ?k; (case a => k_is); (case l => k_is); (case c => k_is); (case k => k_is))
    case t_law_month => (refine' Kx.textAt ?a ?l ?c ?k; (case a => k_is); (case l => k_is); (case c => k_is); (case k => k_is))
    case t_law_number => (refine' Kx.textAt ?a ?l ?c ?k; (case a => k_is); (case l => k_is); (case c => k_is); (case k => k_is))
    case t_law_year => (refine' Kx.textAt ?a ?l ?c ?k; (case a => k_is); (case l => k_is); (case c => k_is); (case k => k_is))
    case t_law_date => (refine' Kx.textAt ?a ?l ?c ?k; (case a => k_is); (case l => k_is); (case c => k_is); (case k => k_is))
    case t_law_caught => (refine' Kx.textAt ?a ?l ?c ?k; (case a => k_is); (case l => k_is); (case c => k_is); (case k => k_is))
    case t_law_sort => (refine' Kx.textAt ?a ?l ?c ?k; (case a => k_is); (case l => k_is); (case c => k_is); (case k => k_is))
    case t_law_after => (refine' Kx.textAt ?a ?l ?c ?k; (case a => k_is); (case l => k_is); (case c => k_is); (case k => k_is))
    case t_law_again_right => (refine' Kx.textAt ?a ?l ?c ?k; (case a => k_is); (case l => k_is); (case c => k_is); (case k => k_is))
    case t_law => (refine' Kx.textAt ?a ?l ?c ?k; (case a => k_is); (case l => k_is); (case c => k_is); (case k => k_is))
    case u1 => (refine' Kx.tabAt (P := 280) ?a ?l ?d ?k ?n ?e; (case a => k_is); (case l => k_is); (case d => k_is); (case k => k_is); (case n => first | k_is | kernel_rfl); (case e => kernel_rfl))
    case u2 => (refine' Kx.tabAt (P := 287) ?a ?l ?d ?k ?n ?e; (case a => k_is); (case l => k_is); (case d => k_is); (case k => k_is); (case n => first | k_is | kernel_rfl); (case e => kernel_rfl))
    case nP => decide
    case o1 => exact tb _ (by decide)
    case o2 => exact tb _ (by decide)
    case eK => (refine' Kx.ErrAt.mk ?e1 ?e2 ?e3 ?e4 ?e5 ?e6 ?e7 ?e8 ?e9 ?e10 ?e11 ?e12 ?e13; (case e1 => first | k_is | kernel_rfl); (case e2 => first | k_is | kernel_rfl); (case e3 => first | k_is | kernel_rfl); (case e4 => first | k_is | kernel_rfl); (case e5 => first | k_is | kernel_rfl); (case e6 => first | k_is | kernel_rfl); (case e7 => first | k_is | kernel_rfl); (case e8 => first | k_is | kernel_rfl); (case e9 => first | k_is | kernel_rfl); (case e10 => first | k_is | kernel_rfl); (case e11 => first | k_is | kernel_rfl); (case e12 => first | k_is | kernel_rfl); (case e13 => first | k_is | rfl))
    case eD => (refine' Kx.ErrAt.mk ?e1 ?e2 ?e3 ?e4 ?e5 ?e6 ?e7 ?e8 ?e9 ?e10 ?e11 ?e12 ?e13; (case e1 => first | k_is | kernel_rfl); (case e2 => first | k_is | kernel_rfl); (case e3 => first | k_is | kernel_rfl); (case e4 => first | k_is | kernel_rfl); (case e5 => first | k_is | kernel_rfl); (case e6 => first | k_is | kernel_rfl); (case e7 => first | k_is | kernel_rfl); (case e8 => first | k_is | kernel_rfl); (case e9 => first | k_is | kernel_rfl); (case e10 => first | k_is | kernel_rfl); (case e11 => first | k_is | kernel_rfl); (case e12 => first | k_is | kernel_rfl); (case e13 => first | k_is | rfl))
    case eN => (refine' Kx.ErrAt.mk ?e1 ?e2 ?e3 ?e4 ?e5 ?e6 ?e7 ?e8 ?e9 ?e10 ?e11 ?e12 ?e13; (case e1 => first | k_is | kernel_rfl); (case e2 => first | k_is | kernel_rfl); (case e3 => first | k_is | kernel_rfl); (case e4 => first | k_is | kernel_rfl); (case e5 => first | k_is | kernel_rfl); (case e6 => first | k_is | kernel_rfl); (case e7 => first | k_is | kernel_rfl); (case e8 => first | k_is | kernel_rfl); (case e9 => first | k_is | kernel_rfl); (case e10 => first | k_is | kernel_rfl); (case e11 => first | k_is | kernel_rfl); (case e12 => first | k_is | kernel_rfl); (case e13 => first | k_is | rfl))
    case eY => (refine' Kx.ErrAt.mk ?e1 ?e2 ?e3 ?e4 ?e5 ?e6 ?e7 ?e8 ?e9 ?e10 ?e11 ?e12 ?e13; (case e1 => first | k_is | kernel_rfl); (case e2 => first | k_is | kernel_rfl); (case e3 => first | k_is | kernel_rfl); (case e4 => first | k_is | kernel_rfl); (case e5 => first | k_is | kernel_rfl); (case e6 => first | k_is | kernel_rfl); (case e7 => first | k_is | kernel_rfl); (case e8 => first | k_is | kernel_rfl); (case e9 => first | k_is | kernel_rfl); (case e10 => first | k_is | kernel_rfl); (case e11 => first | k_is | kernel_rfl); (case e12 => first | k_is | kernel_rfl); (case e13 => first | k_is | rfl))
    case q1 => first | k_is | rfl
    case q2 => first | k_is | rfl
    case q3 => first | k_is | rfl
    case k1 => kernel_rfl
    case k2 => kernel_rfl
    case k3 => kernel_rfl
    case z_type => k_is
    case z_int => k_is
    case z_str => k_is
    case z_tuple => k_is
    case z_len => k_is
    case z_set => k_is
    case z_range => k_is
    case z_isinstance => k_is
    case z_abs => k_is
    case z_min => k_is
    case z_sum => k_is
    case z_repr => k_is
