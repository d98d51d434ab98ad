import PyProof.Rows.All
import Wide.All
import OpenK.AllK
import Wide.FinOn
import HandS.ForExc
import HandS.ForMost
import HandS.IsInst
import HandS.Style
import HandS.Zip
import HandS.RevRange
import HandS.Lambda
import HandS.TryOnly
import HandS.TryMany
import HandS.ExcOwn
import HandS.ExcInit
import HandS.ExcField
import HandS.ExcIs
import HandS.EndTab
import HandS.CallLocal
import KE.KExcIs
import KE.KNestM
import KE.IntBitsLaws
import HandS.WideBits
import KE.GoesEnum
import KE.GoesMore
import HandS.Codes
import HandS.Conv
import HandS.IntHex
import PyProof.FString3
import PyProof.StrOps2
import KE.IntText
import HandS.StrMore
import HandS.FStr
import HandS.Wide
import PySem.Challenge.RW_framejoins_k78_padding
set_option Elab.async false
set_option linter.all false
set_option maxRecDepth 100000
set_option maxHeartbeats 4000000
/-! Readings, step by step: one lemma for each form of a reading, and a walk over them. -/
namespace Z
open PySem PySem.Spec PyProof.Rows L2
/-! ### names for readings of calls -/
def rLen (K : PySem.W.Frag) : List V → Hp → VK → Prop := fun xs H Q => ∃ x n, xs = [x] ∧ LenV K x H n ∧ Q (.int n) H
def rAbs : List V → Hp → VK → Prop := fun xs H Q => ∃ i, xs = [.int i] ∧ Q (.int (if i < 0 then -i else i)) H
def rMax2 : List V → Hp → VK → Prop := fun xs H Q => ∃ i j, xs = [.int i, .int j] ∧ Q (.int (if j > i then j else i)) H
def rMin2 : List V → Hp → VK → Prop := fun xs H Q => ∃ i j, xs = [.int i, .int j] ∧ Q (.int (if j < i then j else i)) H
def rToInt : List V → Hp → VK → Prop := fun xs H Q => (∃ i, xs = [.int i] ∧ Q (.int i) H) ∨ ∃ k, xs = [.bl k] ∧ Q (.int (if k then 1 else 0)) H
def rToList (K : PySem.W.Frag) : List V → Hp → VK → Prop := fun xs H Q => ∃ p ys, xs = [.ref p] ∧ (SqL K H p ys ∨ SqT K H p ys) ∧ ∀ l, H l = none → Q (.ref l) (upd H l (.lst ys))
section
variable {X : Cx}
theorem cLen : CallR X (.builtin "len") (rLen X.K) := call_len
theorem cAbs : CallR X (.builtin "abs") rAbs := call_abs
theorem cMax (hc : X.calm = true) : CallR X (.builtin "max") rMax2 := call_max2 hc
theorem cMin (hc : X.calm = true) : CallR X (.builtin "min") rMin2 := call_min2 hc
theorem cInt : CallR X (.type "int") rToInt := call_int1
theorem cList : CallR X (.type "list") (rToList X.K) := call_list_of
end
/-! ### f(k = v, ..), nothing by position -/
section
variable {X : Cx} {CX : CXT} {k : Nat} {f : Addr} {fd : FuncData} {ps ks : List Str} {sp : Sp} {E : XK} {x : Str} {p pos : Pos} {kws : List Keyword} {tk : TA} {g : List Value → List Value → List Value} {gV : List V → List V → List V}
theorem pe_callK0 (F : FnOk X.prog X.w X.K X.mg X.base CX k f fd ps sp) (hr : Room k X.A) (hg : Gl X x) (hm : X.mg x = some (.ref f)) (hk : PySem.W.keepIn X.K (.ref f) = true) (hb : KBinds X.K fd ps ks g gV) (hx : Passes CX X E)
    (hkw : PK X kws tk) (hall : (backToKw pos (keywordEach kws X.env)).all (·.1.isSome) = true := by rfl) (hks : (backToKw pos (keywordEach kws X.env)).filterMap (·.1) = ks := by rfl)
    (hdb : (x == ("__debug__" : Str)) = false := by decide)
    (hpl : ((backTo pos (starEach [] X.env)).any (·.1) || (backToKw pos (keywordEach kws X.env)).any (·.1.isNone)) = false := by rfl) :
    PE X (.Call (.Name x p) [] kws pos) (tCallK sp gV E tNil tk) := by
  refine ⟨fun pins s σ H Q I h => ?_⟩
  refine wpAny_Call_Name_kw (ld_glob I hg hm ?_ hdb)
  refine PySem.W.callWith_KW0 (h₀ := X.base) I.ok.mod.kin hk hall (thn (hkw.run pos pins s σ H _ I h) fun ws s2 ⟨zs, H2, I2, rz, q2⟩ => ⟨I2.kIn, ?_⟩) hpl
  rw [hks]
  exact run_fnk (us := []) (vs := []) F hr hb hx I2 .nil rz q2
end
/-- the values by position and by keyword, put in the parameters' order -/
def kg {α : Type} (m n : Nat) (idx : List Nat) (us ws : List α) : List α := if us.length = m ∧ ws.length = n then idx.filterMap (fun i => (us ++ ws)[i]?) else []
theorem vals_pick {vs : List V} {us : List Value} (r : Vals vs us) : ∀ idx : List Nat, Vals (idx.filterMap fun i => vs[i]?) (idx.filterMap fun i => us[i]?)
  | [] => .nil
  | i :: l => by
    have ih := vals_pick r l
    cases e : vs[i]? with
    | none =>
      have e2 := r.none_of e
      rw [List.filterMap_cons_none e, List.filterMap_cons_none e2]
      exact ih
    | some v =>
      obtain ⟨u, e2, q⟩ := r.get e
      rw [List.filterMap_cons_some e, List.filterMap_cons_some e2]
      exact .cons q ih
theorem kg_rel {m n : Nat} {idx : List Nat} {vs : List V} {us : List Value} {zs : List V} {ws : List Value} (r : Vals vs us) (q : Vals zs ws) : Vals (kg m n idx vs zs) (kg m n idx us ws) := by
  unfold kg
  rw [r.length, q.length]
  split
  · exact vals_pick (r.append q) idx
  · exact .nil
theorem len0 {α : Type} {l : List α} (h : l.length = 0) : l = [] := List.length_eq_zero_iff.mp h
theorem len1 {α : Type} {l : List α} (h : l.length = 1) : ∃ a, l = [a] := List.length_eq_one_iff.mp h
theorem len2 {α : Type} : ∀ {l : List α}, l.length = 2 → ∃ a b, l = [a, b]
  | [a, b], _ => ⟨a, b, rfl⟩
theorem len3 {α : Type} : ∀ {l : List α}, l.length = 3 → ∃ a b c, l = [a, b, c]
  | [a, b, c], _ => ⟨a, b, c, rfl⟩
theorem len4 {α : Type} : ∀ {l : List α}, l.length = 4 → ∃ a b c d, l = [a, b, c, d]
  | [a, b, c, d], _ => ⟨a, b, c, d, rfl⟩
theorem kg_some {α : Type} {m n : Nat} {idx : List Nat} {us ws : List α} {j : Nat} (h : (kg m n idx us ws).length = j) (hj : 0 < j) : us.length = m ∧ ws.length = n := by
  unfold kg at h
  split at h
  · assumption
  · simp at h
    omega
/-! ### the readings -/
section
variable {X : Cx} {K : PySem.W.Frag} {σ : L2.St} {H : Hp} {Q : VK} {n : L2.St → Hp → Prop} {r : VK} {b c : L2.St → Hp → Prop} {ta tb tc te : TE} {tA tB1 : TT} {t u : TS} {v : V}
theorem rd_seq (h : t ⟨u ⟨n, r, b, c⟩, r, b, c⟩ σ H) : tSeq t u ⟨n, r, b, c⟩ σ H := h
theorem rd_start {D : Ends} {σ σ' : L2.St} (e : σ' = σ) (h : t D σ H) : t D σ' H := e ▸ h
theorem rd_next (h : n σ H) : tNext ⟨n, r, b, c⟩ σ H := h
theorem rd_asg {g : TG} (h : te σ H fun x H1 => g x σ H1 n) : tAsg te g ⟨n, r, b, c⟩ σ H := h
theorem rd_gname {i : Nat} {Q : L2.St → Hp → Prop} (h : Q (σ.set i (some v)) H) : gName i v σ H Q := h
theorem rd_gsub {to ti : TE} {s : TSet} {Q : L2.St → Hp → Prop} (h : to σ H fun o H1 => ti σ H1 fun i H2 => s o i v H2 fun H3 => Q σ H3) : gSub to ti s v σ H Q := h
theorem rd_ret (h : te σ H r) : tRet te ⟨n, r, b, c⟩ σ H := h
theorem rd_retn (h : r .non H) : tRetN ⟨n, r, b, c⟩ σ H := h
theorem rd_ifs (h : tA σ H fun d H1 => if d = true then t ⟨n, r, b, c⟩ σ H1 else u ⟨n, r, b, c⟩ σ H1) : tIfS tA t u ⟨n, r, b, c⟩ σ H := h
theorem rd_drop (h : te σ H fun _ H1 => n σ H1) : tDrop te ⟨n, r, b, c⟩ σ H := h
theorem rd_par {i j : Nat} {ts : TA} (h : ts σ H fun vs H1 => ∃ v w, vs = [v, w] ∧ n ((σ.set i (some v)).set j (some w)) H1) : tPar i j ts ⟨n, r, b, c⟩ σ H := h
theorem rd_par3 {i j l : Nat} {ts : TA} (h : ts σ H fun vs H1 => ∃ u v w, vs = [u, v, w] ∧ n (((σ.set i (some u)).set j (some v)).set l (some w)) H1) : tPar3 i j l ts ⟨n, r, b, c⟩ σ H := h
theorem rd_two {v w : V} {P : V → V → Prop} (h : P v w) : ∃ a b, [v, w] = [a, b] ∧ P a b := ⟨v, w, rfl, h⟩
theorem rd_three {u v w : V} {P : V → V → V → Prop} (h : P u v w) : ∃ a b c, [u, v, w] = [a, b, c] ∧ P a b c := ⟨u, v, w, rfl, h⟩
theorem rd_var {i : Nat} (e : σ[i]? = some (some v)) (h : Q v H) : tVar i σ H Q := ⟨v, e, h⟩
theorem rd_c (h : Q v H) : tC v σ H Q := h
theorem rd_op {o : R2} (h : ta σ H fun x H1 => tb σ H1 fun y H2 => o x y H2 Q) : tOp o ta tb σ H Q := h
theorem rd_un {o : V → Hp → VK → Prop} (h : ta σ H fun x H1 => o x H1 Q) : tUn o ta σ H Q := h
theorem rd_i0 {g : Int → Int → V} {i j : Int} (h : Q (g i j) H) : rI0 g (.int i) (.int j) H Q := ⟨i, j, rfl, rfl, h⟩
theorem rd_i {C : Int → Int → Prop} {g : Int → Int → V} {i j : Int} (hC : C i j) (h : Q (g i j) H) : rI C g (.int i) (.int j) H Q := ⟨i, j, rfl, rfl, hC, h⟩
theorem rd_u {g : Int → V} {i : Int} (h : Q (g i) H) : rU g (.int i) H Q := ⟨i, rfl, h⟩
theorem rd_eq {x y : V} (e : scal x y = true) (h : Q (.bl (decide (x = y))) H) : rEq x y H Q := ⟨e, h⟩
theorem rd_ne {x y : V} (e : scal x y = true) (h : Q (.bl (!decide (x = y))) H) : rNe x y H Q := ⟨e, h⟩
theorem rd_test {q : Bool → Hp → Prop} (h : te σ H fun x H' => ∃ k, x = .bl k ∧ q k H') : tTest te σ H q := h
theorem rd_b {q : Bool → Hp → Prop} (h : te σ H fun x H' => ∃ k, x = .bl k ∧ q k H') : tB te σ H q := h
theorem rd_bl {k : Bool} {P : Bool → Prop} (h : P k) : ∃ d, V.bl k = .bl d ∧ P d := ⟨k, rfl, h⟩
theorem rd_not {q : Bool → Hp → Prop} (h : tA σ H fun d H1 => q (!d) H1) : tNot tA σ H q := h
theorem rd_and {q : Bool → Hp → Prop} (h : tA σ H fun d H1 => if d = true then tB1 σ H1 q else q false H1) : tAnd tA tB1 σ H q := h
theorem rd_or {q : Bool → Hp → Prop} (h : tA σ H fun d H1 => if d = true then q true H1 else tB1 σ H1 q) : tOr tA tB1 σ H q := h
theorem rd_andV (h : ta σ H fun x H1 => ∃ c, x = .bl c ∧ if c = true then tb σ H1 Q else Q (.bl false) H1) : tAndV ta tb σ H Q := h
theorem rd_orV (h : ta σ H fun x H1 => ∃ c, x = .bl c ∧ if c = true then Q (.bl true) H1 else tb σ H1 Q) : tOrV ta tb σ H Q := h
theorem rd_notV (h : ta σ H fun x H1 => ∃ c, x = .bl c ∧ Q (.bl (!c)) H1) : tNotV ta σ H Q := h
theorem rd_if (h : tA σ H fun d H1 => if d = true then ta σ H1 Q else tb σ H1 Q) : tIf tA ta tb σ H Q := h
theorem rd_chain {o o' : R2} (h : ta σ H fun x H1 => tb σ H1 fun y H2 => o x y H2 fun z H3 => ∃ k, z = .bl k ∧ if k = true then tc σ H3 fun w' H4 => o' y w' H4 Q else Q (.bl false) H3) : tChain o o' ta tb tc σ H Q := h
theorem rd_call {sp : Sp} {dvs : List V} {E : XK} {ts : TA} (h : ts σ H fun vs H1 => sp (vs ++ dvs) H1 Q E) : tCall sp dvs E ts σ H Q := h
theorem rd_callK {sp : Sp} {gV : List V → List V → List V} {E : XK} {ts tk : TA} (h : ts σ H fun vs H1 => tk σ H1 fun zs H2 => sp (gV vs zs) H2 Q E) : tCallK sp gV E ts tk σ H Q := h
theorem rd_cb {rr : List V → Hp → VK → Prop} {ts : TA} (h : ts σ H fun vs H1 => rr vs H1 Q) : tCB rr ts σ H Q := h
theorem rd_cons {tr : TA} {q : List V → Hp → Prop} (h : te σ H fun x H1 => tr σ H1 fun xs H2 => q (x :: xs) H2) : tCons te tr σ H q := h
theorem rd_nil {q : List V → Hp → Prop} (h : q [] H) : tNil σ H q := h
theorem rd_tup {ts : TA} (h : ts σ H fun xs H1 => xs.length ≤ sizeLine ∧ ∀ p, H1 p = none → Q (.ref p) (upd H1 p (.tup xs))) : tTup ts σ H Q := h
theorem rd_lst {ts : TA} (h : ts σ H fun xs H1 => xs.length ≤ sizeLine ∧ ∀ p, H1 p = none → Q (.ref p) (upd H1 p (.lst xs))) : tLst ts σ H Q := h
theorem rd_int {i : Int} (h : Q (.int i) H) : rToInt [.int i] H Q := .inl ⟨i, rfl, h⟩
theorem rd_intb {k : Bool} (h : Q (.int (if k then 1 else 0)) H) : rToInt [.bl k] H Q := .inr ⟨k, rfl, h⟩
theorem rd_abs {i : Int} (h : Q (.int (if i < 0 then -i else i)) H) : rAbs [.int i] H Q := ⟨i, rfl, h⟩
theorem rd_max {i j : Int} (h : Q (.int (if j > i then j else i)) H) : rMax2 [.int i, .int j] H Q := ⟨i, j, rfl, h⟩
theorem rd_min {i j : Int} (h : Q (.int (if j < i then j else i)) H) : rMin2 [.int i, .int j] H Q := ⟨i, j, rfl, h⟩
theorem rd_lenL {p : Addr} {xs : List V} (e : SqL K H p xs) (h : Q (.int xs.length) H) : rLen K [.ref p] H Q := ⟨.ref p, xs.length, rfl, .inl ⟨xs, e, rfl⟩, h⟩
theorem rd_lenT {p : Addr} {xs : List V} (e : SqT K H p xs) (h : Q (.int xs.length) H) : rLen K [.ref p] H Q := ⟨.ref p, xs.length, rfl, .inr ⟨xs, e, rfl⟩, h⟩
theorem rd_ixL {p : Addr} {xs : List V} {i : Int} {v : V} (e : SqL K H p xs) (a : atI xs i = some v) (h : Q v H) : rIxL K (.ref p) (.int i) H Q := ⟨p, xs, i, v, rfl, rfl, e, a, h⟩
theorem rd_ixT {p : Addr} {xs : List V} {i : Int} {v : V} (e : SqT K H p xs) (a : atI xs i = some v) (h : Q v H) : rIxT K (.ref p) (.int i) H Q := ⟨p, xs, i, v, rfl, rfl, e, a, h⟩
theorem rd_setL {p : Addr} {xs : List V} {i : Int} {j : Nat} {v : V} {q : Hp → Prop} (e : H p = some (.lst xs)) (a : ixN xs.length i = some j) (h : q (upd H p (.lst (xs.set j v)))) : rSetL (.ref p) (.int i) v H q := ⟨p, xs, i, j, rfl, rfl, e, a, h⟩
theorem rd_listL {p : Addr} {xs : List V} (e : SqL K H p xs) (h : ∀ l, H l = none → Q (.ref l) (upd H l (.lst xs))) : rToList K [.ref p] H Q := ⟨p, xs, rfl, .inl e, h⟩
theorem rd_ite {d : Bool} {A B : Prop} (h1 : d = true → A) (h2 : d = false → B) : if d = true then A else B := by
  cases d with
  | true => rw [if_pos rfl]; exact h1 rfl
  | false => rw [if_neg Bool.false_ne_true]; exact h2 rfl
theorem rd_iteD {p : Prop} [Decidable p] {A B : Prop} (h1 : p → A) (h2 : ¬ p → B) : if decide p = true then A else B := by
  by_cases h : p
  · rw [if_pos (decide_eq_true h)]; exact h1 h
  · rw [decide_eq_false h, if_neg Bool.false_ne_true]; exact h2 h
theorem rd_iteN {p : Prop} [Decidable p] {A B : Prop} (h1 : ¬ p → A) (h2 : p → B) : if (!decide p) = true then A else B := by
  by_cases h : p
  · rw [decide_eq_true h]; exact iteF (h2 h)
  · rw [decide_eq_false h]; exact iteT (h1 h)
theorem iteNT {A B : Prop} (h : B) : if (!true) = true then A else B := iteF h
theorem iteNF {A B : Prop} (h : A) : if (!false) = true then A else B := iteT h
theorem rd_isi {x c : V} {t' u' : Value} {d : Bool} (k : ClsV c u') (ty : TyX K H x t') (e : PySem.W.kitOne K t' u' = some d) (h : Q (.bl d) H) : rIsi K [x, c] H Q := ⟨x, c, t', u', d, rfl, k, ty, e, h⟩
theorem isi_int_int {i : Int} (h : Q (.bl true) H) : rIsi K [.int i, .ty "int"] H Q := rd_isi (.ty "int") (.base (.int i)) (kit_ty (by decide +kernel)) h
theorem isi_int_bool {i : Int} (h : Q (.bl false) H) : rIsi K [.int i, .ty "bool"] H Q := rd_isi (.ty "bool") (.base (.int i)) (kit_ty (by decide +kernel)) h
theorem isi_int_str {i : Int} (h : Q (.bl false) H) : rIsi K [.int i, .ty "str"] H Q := rd_isi (.ty "str") (.base (.int i)) (kit_ty (by decide +kernel)) h
theorem isi_int_list {i : Int} (h : Q (.bl false) H) : rIsi K [.int i, .ty "list"] H Q := rd_isi (.ty "list") (.base (.int i)) (kit_ty (by decide +kernel)) h
theorem isi_int_tuple {i : Int} (h : Q (.bl false) H) : rIsi K [.int i, .ty "tuple"] H Q := rd_isi (.ty "tuple") (.base (.int i)) (kit_ty (by decide +kernel)) h
theorem isi_bl_int {i : Bool} (h : Q (.bl true) H) : rIsi K [.bl i, .ty "int"] H Q := rd_isi (.ty "int") (.base (.bl i)) (kit_ty (by decide +kernel)) h
theorem isi_bl_bool {i : Bool} (h : Q (.bl true) H) : rIsi K [.bl i, .ty "bool"] H Q := rd_isi (.ty "bool") (.base (.bl i)) (kit_ty (by decide +kernel)) h
theorem isi_bl_str {i : Bool} (h : Q (.bl false) H) : rIsi K [.bl i, .ty "str"] H Q := rd_isi (.ty "str") (.base (.bl i)) (kit_ty (by decide +kernel)) h
theorem isi_bl_list {i : Bool} (h : Q (.bl false) H) : rIsi K [.bl i, .ty "list"] H Q := rd_isi (.ty "list") (.base (.bl i)) (kit_ty (by decide +kernel)) h
theorem isi_bl_tuple {i : Bool} (h : Q (.bl false) H) : rIsi K [.bl i, .ty "tuple"] H Q := rd_isi (.ty "tuple") (.base (.bl i)) (kit_ty (by decide +kernel)) h
theorem isi_non_int  (h : Q (.bl false) H) : rIsi K [.non, .ty "int"] H Q := rd_isi (.ty "int") (.base .non) (kit_ty (by decide +kernel)) h
theorem isi_non_bool  (h : Q (.bl false) H) : rIsi K [.non, .ty "bool"] H Q := rd_isi (.ty "bool") (.base .non) (kit_ty (by decide +kernel)) h
theorem isi_non_str  (h : Q (.bl false) H) : rIsi K [.non, .ty "str"] H Q := rd_isi (.ty "str") (.base .non) (kit_ty (by decide +kernel)) h
theorem isi_non_list  (h : Q (.bl false) H) : rIsi K [.non, .ty "list"] H Q := rd_isi (.ty "list") (.base .non) (kit_ty (by decide +kernel)) h
theorem isi_non_tuple  (h : Q (.bl false) H) : rIsi K [.non, .ty "tuple"] H Q := rd_isi (.ty "tuple") (.base .non) (kit_ty (by decide +kernel)) h
theorem isi_str_int {z : Str} (h : Q (.bl false) H) : rIsi K [.str z, .ty "int"] H Q := rd_isi (.ty "int") (.base (.str z)) (kit_ty (by decide +kernel)) h
theorem isi_str_bool {z : Str} (h : Q (.bl false) H) : rIsi K [.str z, .ty "bool"] H Q := rd_isi (.ty "bool") (.base (.str z)) (kit_ty (by decide +kernel)) h
theorem isi_str_str {z : Str} (h : Q (.bl true) H) : rIsi K [.str z, .ty "str"] H Q := rd_isi (.ty "str") (.base (.str z)) (kit_ty (by decide +kernel)) h
theorem isi_str_list {z : Str} (h : Q (.bl false) H) : rIsi K [.str z, .ty "list"] H Q := rd_isi (.ty "list") (.base (.str z)) (kit_ty (by decide +kernel)) h
theorem isi_str_tuple {z : Str} (h : Q (.bl false) H) : rIsi K [.str z, .ty "tuple"] H Q := rd_isi (.ty "tuple") (.base (.str z)) (kit_ty (by decide +kernel)) h
theorem isi_lst_int {p : Addr} {xs : List V} (hp : H p = some (.lst xs)) (h : Q (.bl false) H) : rIsi K [.ref p, .ty "int"] H Q := rd_isi (.ty "int") (.base (.lst hp)) (kit_ty (by decide +kernel)) h
theorem isi_lst_bool {p : Addr} {xs : List V} (hp : H p = some (.lst xs)) (h : Q (.bl false) H) : rIsi K [.ref p, .ty "bool"] H Q := rd_isi (.ty "bool") (.base (.lst hp)) (kit_ty (by decide +kernel)) h
theorem isi_lst_str {p : Addr} {xs : List V} (hp : H p = some (.lst xs)) (h : Q (.bl false) H) : rIsi K [.ref p, .ty "str"] H Q := rd_isi (.ty "str") (.base (.lst hp)) (kit_ty (by decide +kernel)) h
theorem isi_lst_list {p : Addr} {xs : List V} (hp : H p = some (.lst xs)) (h : Q (.bl true) H) : rIsi K [.ref p, .ty "list"] H Q := rd_isi (.ty "list") (.base (.lst hp)) (kit_ty (by decide +kernel)) h
theorem isi_lst_tuple {p : Addr} {xs : List V} (hp : H p = some (.lst xs)) (h : Q (.bl false) H) : rIsi K [.ref p, .ty "tuple"] H Q := rd_isi (.ty "tuple") (.base (.lst hp)) (kit_ty (by decide +kernel)) h
theorem isi_tup_int {p : Addr} {xs : List V} (hp : H p = some (.tup xs)) (h : Q (.bl false) H) : rIsi K [.ref p, .ty "int"] H Q := rd_isi (.ty "int") (.base (.tup hp)) (kit_ty (by decide +kernel)) h
theorem isi_tup_bool {p : Addr} {xs : List V} (hp : H p = some (.tup xs)) (h : Q (.bl false) H) : rIsi K [.ref p, .ty "bool"] H Q := rd_isi (.ty "bool") (.base (.tup hp)) (kit_ty (by decide +kernel)) h
theorem isi_tup_str {p : Addr} {xs : List V} (hp : H p = some (.tup xs)) (h : Q (.bl false) H) : rIsi K [.ref p, .ty "str"] H Q := rd_isi (.ty "str") (.base (.tup hp)) (kit_ty (by decide +kernel)) h
theorem isi_tup_list {p : Addr} {xs : List V} (hp : H p = some (.tup xs)) (h : Q (.bl false) H) : rIsi K [.ref p, .ty "list"] H Q := rd_isi (.ty "list") (.base (.tup hp)) (kit_ty (by decide +kernel)) h
theorem isi_tup_tuple {p : Addr} {xs : List V} (hp : H p = some (.tup xs)) (h : Q (.bl true) H) : rIsi K [.ref p, .ty "tuple"] H Q := rd_isi (.ty "tuple") (.base (.tup hp)) (kit_ty (by decide +kernel)) h
theorem rd_for1 {ts : TA} {g : TG} {tb' : TS} {D : Ends} (h : ts σ H fun vs H1 => ∃ j : Int, vs = [.int j] ∧ -(2 ^ 62) ≤ j ∧ j < 2 ^ 62 ∧ (∃ W : Nat → Nat → L2.St → Hp → Prop, (∃ m, W 0 m σ H1) ∧ ∀ i m σ H, W i m σ H →
      ((Itr 0 j.toNat).stop i H ∧ D.nx σ H) ∨ ((Itr 0 j.toNat).go i H ∧ ∃ N : L2.St → Hp → Prop, (∀ σ' H', N σ' H' → ∃ m', m' < m ∧ W (i + 1) m' σ' H') ∧ ∀ x H', (Itr 0 j.toNat).yld i H x H' → g x σ H' fun σ2 H2 => tb' { D with nx := N, ct := N, bk := D.nx } σ2 H2))) : tFor (iRng1 ts) g tb' D σ H := h
theorem rd_all {n m : Nat} {P : Addr → Prop} (h1 : n ≤ m) (h : ∀ p, H p = none → P p) : n ≤ m ∧ ∀ p, H p = none → P p := ⟨h1, h⟩
theorem rd_ixP {p : Addr} {xs : List V} {i : Int} (Pm : V → Prop) (e : SqL K H p xs) (h0 : 0 ≤ i) (h1 : i < xs.length) (hP : ∀ v ∈ xs, Pm v) (h : ∀ v, Pm v → Q v H) : rIxL K (.ref p) (.int i) H Q := by
  obtain ⟨j, rfl⟩ : ∃ j : Nat, i = (j : Int) := ⟨i.toNat, by omega⟩
  have hj : j < xs.length := by omega
  have g : xs[j]? = some xs[j] := List.getElem?_eq_getElem hj
  exact ⟨p, xs, (j : Int), xs[j], rfl, rfl, e, atI_nat g, h _ (hP _ (List.getElem_mem hj))⟩
theorem rd_gtup {a : Addr} {xs : List V} {k : Nat} {ts : TGs} {q : L2.St → Hp → Prop} (e : SqT K H a xs) (l : xs.length = k) (h : ts xs σ H q) : gTup K k ts (.ref a) σ H q := ⟨a, xs, rfl, e, l, h⟩
theorem rd_gcons {g : TG} {ts : TGs} {v : V} {vs : List V} {q : L2.St → Hp → Prop} (h : g v σ H fun σ' H' => ts vs σ' H' q) : gCons g ts (v :: vs) σ H q := ⟨v, vs, rfl, h⟩
theorem rd_gnil {q : L2.St → Hp → Prop} (h : q σ H) : gNil [] σ H q := ⟨rfl, h⟩
def LpW (J : It) (g : TG) (tb : TS) (D : Ends) (σ : L2.St) (H1 : Hp) : Prop := ∃ W : Nat → Nat → L2.St → Hp → Prop, (∃ m, W 0 m σ H1) ∧ ∀ i m σ H, W i m σ H →
      (J.stop i H ∧ D.nx σ H) ∨ (J.go i H ∧ ∃ N : L2.St → Hp → Prop, (∀ σ' H', N σ' H' → ∃ m', m' < m ∧ W (i + 1) m' σ' H') ∧ ∀ x H', J.yld i H x H' → g x σ H' fun σ2 H2 => tb { D with nx := N, ct := N, bk := D.nx } σ2 H2)
theorem rd_forT {g : TG} {tb' : TS} {D : Ends} (h : te σ H fun x H1 => ∃ a, x = .ref a ∧ (∃ xs, SqT K H1 a xs) ∧ LpW (Itt K a) g tb' D σ H1) : tFor (iTup K te) g tb' D σ H := h
theorem rd_forL {g : TG} {tb' : TS} {D : Ends} (h : te σ H fun x H1 => ∃ a, x = .ref a ∧ (∃ xs, SqL K H1 a xs) ∧ LpW (Itl K a) g tb' D σ H1) : tFor (iList K te) g tb' D σ H := h
theorem rd_lpT {a : Addr} {xs : List V} {g : TG} {tb' : TS} {D : Ends} (e : SqT K H a xs) (h : LpW (Itt K a) g tb' D σ H) : ∃ b, V.ref a = .ref b ∧ (∃ xs, SqT K H b xs) ∧ LpW (Itt K b) g tb' D σ H := ⟨a, rfl, ⟨xs, e⟩, h⟩
theorem rd_lpL {a : Addr} {xs : List V} {g : TG} {tb' : TS} {D : Ends} (e : SqL K H a xs) (h : LpW (Itl K a) g tb' D σ H) : ∃ b, V.ref a = .ref b ∧ (∃ xs, SqL K H b xs) ∧ LpW (Itl K b) g tb' D σ H := ⟨a, rfl, ⟨xs, e⟩, h⟩
theorem rd_for2 {ts : TA} {g : TG} {tb' : TS} {D : Ends} (h : ts σ H fun vs H1 => ∃ i j : Int, vs = [.int i, .int j] ∧ (-(2 ^ 62) ≤ i ∧ i < 2 ^ 62 ∧ -(2 ^ 62) ≤ j ∧ j < 2 ^ 62) ∧ LpW (Itr i (j - i).toNat) g tb' D σ H1) : tFor (iRng2 ts) g tb' D σ H := h
theorem rd_n2 {i j : Int} {A : Int → Int → Prop} (h1 : -(2 ^ 62) ≤ i ∧ i < 2 ^ 62 ∧ -(2 ^ 62) ≤ j ∧ j < 2 ^ 62) (h : A i j) : ∃ k l : Int, [V.int i, V.int j] = [V.int k, V.int l] ∧ (-(2 ^ 62) ≤ k ∧ k < 2 ^ 62 ∧ -(2 ^ 62) ≤ l ∧ l < 2 ^ 62) ∧ A k l := ⟨i, j, rfl, h1, h⟩
theorem dp_ints : ∀ ns : List Int, DpAll K H (ns.map V.int) (ns.map PyData.int)
  | [] => .nil
  | n :: r => .cons (.int n) (dp_ints r)
theorem rd_neT2 {p q : Addr} {a b c d : Int} (hp : SqT K H p [.int a, .int b]) (hq : SqT K H q [.int c, .int d]) (e1 : a = c) (e2 : b = d) (h : Q (.bl false) H) : rNeD K (.ref p) (.ref q) H Q := by
  subst e1 e2
  exact ⟨_, _, .tup hp (dp_ints [a, b]), .tup hq (dp_ints [a, b]), rfl, rfl, by
    have e : PyData.eqv (.tuple ([a, b].map PyData.int)) (.tuple ([a, b].map PyData.int)) = true := by simp [PyData.eqv, PyData.eqvAll]
    rw [e]
    exact h⟩
def rIsN : R2 := fun x y H Q => y = .non ∧ Q (.bl (decide (x = .non))) H
theorem cIsN {X : Cx} : OpR X (compareOp .Is) rIsN := op_isN
theorem rd_isN {x : V} (h : Q (.bl (decide (x = .non))) H) : rIsN x .non H Q := ⟨rfl, h⟩
theorem rd_one {v : V} {P : V → Prop} (h : P v) : ∃ a, [v] = [a] ∧ P a := ⟨v, rfl, h⟩
theorem rd_n1 {j : Int} {A : Int → Prop} (h1 : -(2 ^ 62) ≤ j) (h2 : j < 2 ^ 62) (h : A j) : ∃ k : Int, [V.int j] = [V.int k] ∧ -(2 ^ 62) ≤ k ∧ k < 2 ^ 62 ∧ A k := ⟨j, rfl, h1, h2, h⟩
end
/-! ### heaps -/
theorem look_same {H H' : Hp} {a : Addr} {u : HO} (s : Same H H') (h : H a = some u) : H' a = some u := s a u h
theorem look_new {H : Hp} {p a : Addr} {o u : HO} (hp : H p = none) (h : H a = some u) : upd H p o a = some u := by rw [upd_ne (ne_of_none h hp)]; exact h
/-- all but the object at p stay -/
def Kp (p : Addr) (H H' : Hp) : Prop := ∀ a o, a ≠ p → H a = some o → H' a = some o
theorem Kp.refl {p : Addr} {H : Hp} : Kp p H H := fun _ _ _ h => h
theorem Kp.trans {p : Addr} {H H1 H2 : Hp} (a : Kp p H H1) (b : Kp p H1 H2) : Kp p H H2 := fun c o n h => b c o n (a c o n h)
theorem Kp.of {p : Addr} {H H' : Hp} (s : Same H H') : Kp p H H' := fun a o _ h => s a o h
theorem same_new {H : Hp} {p : Addr} {o : HO} (h : H p = none) : Same H (upd H p o) := fun b x e => look_new h e
theorem Kp.new {p q : Addr} {H : Hp} {o : HO} (h : H q = none) : Kp p H (upd H q o) := .of (same_new h)
theorem Kp.at {p : Addr} {H : Hp} {o : HO} : Kp p H (upd H p o) := fun a x n h => by rw [upd_ne n]; exact h
theorem same_kp {p : Addr} {H0 H H' : Hp} (s : Same H0 H) (n : H0 p = none) (k : Kp p H H') : Same H0 H' := fun a o h => k a o (ne_of_none h n) (s a o h)
theorem sqL_new {K : PySem.W.Frag} {p a : Addr} {H : Hp} {o : HO} {xs : List V} (n : H p = none) (h : SqL K H a xs) : SqL K (upd H p o) a xs := (same_new n).seq h
theorem sqL_same {K : PySem.W.Frag} {a : Addr} {H H' : Hp} {xs : List V} (s : Same H H') (h : SqL K H a xs) : SqL K H' a xs := s.seq h
theorem kp_seq {K : PySem.W.Frag} {p a : Addr} {H H' : Hp} {xs : List V} (k : Kp p H H') (n : a ≠ p) (h : SqL K H a xs) : SqL K H' a xs := by
  rcases h with (h | ⟨o, h⟩) | h
  · exact .inl (.inl (k _ _ n h))
  · exact .inl (.inr ⟨o, k _ _ n h⟩)
  · exact .inr h
theorem seqT_K {K : PySem.W.Frag} {a : Addr} {od : Option Addr} {its : Array Value} {n : Nat} {sl : Array (Option Value)} {xs : List V} (l : K.lookup a = some ⟨.type "tuple", od, .seq its n, sl⟩) (hs : its.size ≤ sizeLine) (hv : Vals xs its.toList) : ∀ H, SqT K H a xs := fun _ => .inr ⟨_, its, n, l, rfl, rfl, hs, hv⟩
theorem by_all {K : PySem.W.Frag} {a : Addr} {xs : List V} {H : Hp} (h : ∀ H, SqT K H a xs) : SqT K H a xs := h H
/-! ### the pool that a law draws from -/
def Pool (H : Hp) (p : Addr) : Prop := ∃ x y : Int, H p = some (.lst [.int x, .int y]) ∧ 0 ≤ x ∧ 0 ≤ y ∧ y < 2147483647
theorem look_kp {p a : Addr} {H H' : Hp} {u : HO} (k : Kp p H H') (n : a ≠ p) (h : H a = some u) : H' a = some u := k a u n h
theorem Pool.ne {H : Hp} {p a : Addr} (h : Pool H p) (n : H a = none) : a ≠ p := by
  obtain ⟨x, y, e, _⟩ := h
  exact (ne_of_none e n).symm
theorem Pool.ne' {H : Hp} {p a : Addr} (n : H a = none) (h : Pool H p) : a ≠ p := h.ne n
theorem Pool.new {H : Hp} {p q : Addr} {o : HO} (h : Pool H p) (n : H q = none) : Pool (upd H q o) p := by
  obtain ⟨x, y, e, r⟩ := h
  exact ⟨x, y, look_new n e, r⟩
theorem Pool.same {H H' : Hp} {p : Addr} (h : Pool H p) (s : Same H H') : Pool H' p := by
  obtain ⟨x, y, e, r⟩ := h
  exact ⟨x, y, s _ _ e, r⟩
theorem Pool.same' {H H' : Hp} {p : Addr} (s : Same H H') (h : Pool H p) : Pool H' p := h.same s
theorem Pool.new' {H : Hp} {p q : Addr} {o : HO} (n : H q = none) (h : Pool H p) : Pool (upd H q o) p := h.new n
def spTake : Sp := fun vs H Q _ => ∃ (p : Addr) (m : Int), vs = [.ref p, .int m] ∧ Pool H p ∧ 0 < m ∧ m < 1073741824 ∧ ∀ r H', 0 ≤ r → r < m → Pool H' p → Kp p H H' → Q (.int r) H'
theorem use_take {p : Addr} {m : Int} {H : Hp} {Q : VK} {E : XK} (h1 : Pool H p) (h2 : 0 < m) (h3 : m < 1073741824) (q : ∀ r H', 0 ≤ r → r < m → Pool H' p → Kp p H H' → Q (.int r) H') : spTake ([.ref p, .int m] ++ []) H Q E := ⟨p, m, rfl, h1, h2, h3, q⟩
def spPool (K : PySem.W.Frag) : Sp := fun vs H Q _ => ∃ (a : Addr) (ns : List Int) (k : Int), vs = [.ref a, .int k] ∧ SqL K H a (ns.map V.int) ∧ ns.length ≤ 63 ∧ 0 ≤ k ∧ k < 64 ∧ ∀ p H', H p = none → Same H H' → Pool H' p → Q (.ref p) H'
theorem use_pool {K : PySem.W.Frag} {a : Addr} {ns : List Int} {k : Int} {H : Hp} {Q : VK} {E : XK} (h1 : SqL K H a (ns.map V.int)) (h2 : ns.length ≤ 63) (h3 : 0 ≤ k) (h4 : k < 64) (q : ∀ p H', H p = none → Same H H' → Pool H' p → Q (.ref p) H') : spPool K ([.ref a, .int k] ++ []) H Q E := ⟨a, ns, k, rfl, h1, h2, h3, h4, q⟩
def spNumber : Sp := fun vs H Q _ => ∃ (p : Addr), vs = [.ref p] ∧ Pool H p ∧ ∀ r H', r.natAbs < 10 ^ 55 → Pool H' p → Kp p H H' → Q (.int r) H'
theorem pow9 : ∀ n : Nat, n ≤ 9 → (1000000 : Int) ^ n ≤ 1000000 ^ 9
  | 0, _ => by decide
  | 1, _ => by decide
  | 2, _ => by decide
  | 3, _ => by decide
  | 4, _ => by decide
  | 5, _ => by decide
  | 6, _ => by decide
  | 7, _ => by decide
  | 8, _ => by decide
  | 9, _ => by decide
  | n + 10, h => absurd h (by omega)
theorem great_nn (z : Int) (b : Bool) : 0 ≤ (if z < 0 then -z else z) * (if b = true then (1 : Int) else 0) := Int.mul_nonneg (by split <;> omega) (by split <;> decide)
theorem use_number {p : Addr} {H : Hp} {Q : VK} {E : XK} (h1 : Pool H p) (q : ∀ r H', r.natAbs < 10 ^ 55 → Pool H' p → Kp p H H' → Q (.int r) H') : spNumber ([.ref p] ++ []) H Q E := ⟨p, rfl, h1, q⟩
/-! ### integers among values -/
def isI : V → Bool
  | .int _ => true
  | _ => false
def TyV (H : Hp) : V → Prop
  | .non => True
  | .bl _ => True
  | .int _ => True
  | .str _ => True
  | .ref a => (∃ xs, H a = some (.lst xs)) ∨ ∃ xs, H a = some (.tup xs)
  | _ => False
def spIsI : Sp := fun vs H Q _ => ∃ x, vs = [x] ∧ TyV H x ∧ Q (.bl (isI x)) H
theorem use_isi {x : V} {H : Hp} {Q : VK} {E : XK} (t : TyV H x) (q : Q (.bl (isI x)) H) : spIsI ([x] ++ []) H Q E := ⟨x, rfl, t, q⟩
theorem use_isi_int {i : Int} {H : Hp} {Q : VK} {E : XK} (q : Q (.bl true) H) : spIsI ([.int i] ++ []) H Q E := ⟨_, rfl, trivial, q⟩
def inI (x : V) (lo hi : Int) : Bool := match x with
  | .int i => decide (lo ≤ i ∧ i ≤ hi)
  | _ => false
def spWithin : Sp := fun vs H Q _ => ∃ x lo hi, vs = [x, .int lo, .int hi] ∧ TyV H x ∧ Q (.bl (inI x lo hi)) H
theorem use_within {x : V} {lo hi : Int} {H : Hp} {Q : VK} {E : XK} (t : TyV H x) (q : Q (.bl (inI x lo hi)) H) : spWithin ([x, .int lo, .int hi] ++ []) H Q E := ⟨x, lo, hi, rfl, t, q⟩
theorem use_within_int {i lo hi : Int} {H : Hp} {Q : VK} {E : XK} (q : Q (.bl (decide (lo ≤ i ∧ i ≤ hi))) H) : spWithin ([.int i, .int lo, .int hi] ++ []) H Q E := ⟨_, lo, hi, rfl, trivial, q⟩
def spCkI : Sp := fun vs H Q _ => ∃ i, vs = [.int i] ∧ Q .non H
theorem use_cki {i : Int} {H : Hp} {Q : VK} {E : XK} (q : Q .non H) : spCkI ([.int i] ++ []) H Q E := ⟨_, rfl, q⟩
def spCkW : Sp := fun vs H Q _ => ∃ i lo hi, vs = [.int i, .int lo, .int hi] ∧ lo ≤ i ∧ i ≤ hi ∧ Q .non H
theorem use_ckw {i lo hi : Int} {H : Hp} {Q : VK} {E : XK} (h1 : lo ≤ i) (h2 : i ≤ hi) (q : Q .non H) : spCkW ([.int i, .int lo, .int hi] ++ []) H Q E := ⟨_, _, _, rfl, h1, h2, q⟩
def spQuant : Sp := fun vs H Q _ => ∃ v s, vs = [.int v, .int s] ∧ 1 ≤ s ∧ s ≤ 64 ∧ Q (.int ((2 * v + s) / (2 * s))) H
theorem use_quant {v s : Int} {H : Hp} {Q : VK} {E : XK} (h1 : 1 ≤ s) (h2 : s ≤ 64) (q : Q (.int ((2 * v + s) / (2 * s))) H) : spQuant ([.int v, .int s] ++ []) H Q E := ⟨v, s, rfl, h1, h2, q⟩
theorem use_quantK {v s : Int} {H : Hp} {Q : VK} {E : XK} (h1 : 1 ≤ s) (h2 : s ≤ 64) (q : Q (.int ((2 * v + s) / (2 * s))) H) : spQuant (kg 0 2 [1, 0] [] [.int s, .int v]) H Q E := ⟨v, s, rfl, h1, h2, q⟩
theorem quant_rest (v s : Int) (h : 0 < s) : -s ≤ 2 * (v - (2 * v + s) / (2 * s) * s) ∧ 2 * (v - (2 * v + s) / (2 * s) * s) < s := by
  have h2 : (0 : Int) < 2 * s := by omega
  have a := Int.mul_ediv_self_le (x := 2 * v + s) (k := 2 * s) (by omega)
  have b := Int.lt_mul_ediv_self_add (x := 2 * v + s) (k := 2 * s) h2
  have e : 2 * s * ((2 * v + s) / (2 * s)) = 2 * ((2 * v + s) / (2 * s) * s) := by rw [Int.mul_comm ((2 * v + s) / (2 * s)) s, Int.mul_assoc]
  rw [e] at a b
  generalize (2 * v + s) / (2 * s) * s = y at a b ⊢
  omega
theorem quant_mul (f s : Int) (h : 0 < s) : (2 * (f * s) + s) / (2 * s) = f := by
  have e : 2 * (f * s) + s = s + f * (2 * s) := by rw [Int.mul_left_comm]; omega
  rw [e, Int.add_mul_ediv_right _ _ (show 2 * s ≠ 0 by omega), Int.ediv_eq_zero_of_lt (by omega) (by omega), Int.zero_add]
theorem quant_one (v : Int) : (2 * v + 1) / (2 * 1) = v := by omega
theorem quant_add (v s : Int) (h : 0 < s) : (2 * (v + s) + s) / (2 * s) = (2 * v + s) / (2 * s) + 1 := by
  have e : 2 * (v + s) + s = 2 * v + s + 1 * (2 * s) := by omega
  rw [e, Int.add_mul_ediv_right _ _ (show 2 * s ≠ 0 by omega)]
/-! ### folding a pair -/
def cC (s : Int) : Int := if s = 0 then -1 else if s = 1 then -2 else if s = 2 then 1 else 2
def cD (s : Int) : Int := if s = 0 then 2 else if s = 1 then 3 else if s = 2 then -2 else -3
def foldP (s a b : Int) : Int × Int :=
  (a + (cC s * b + 2) / 4 + (cC s * (b + (cD s * (a + (cC s * b + 2) / 4) + 2) / 4) + 2) / 4, b + (cD s * (a + (cC s * b + 2) / 4) + 2) / 4)
def unfoldP (s a b : Int) : Int × Int :=
  (a - (cC s * b + 2) / 4 - (cC s * (b - (cD s * (a - (cC s * b + 2) / 4) + 2) / 4) + 2) / 4, b - (cD s * (a - (cC s * b + 2) / 4) + 2) / 4)
theorem unfold_fold (s a b : Int) : unfoldP s (foldP s a b).1 (foldP s a b).2 = (a, b) := by
  unfold unfoldP foldP
  dsimp only
  rw [Int.add_sub_cancel, Int.add_sub_cancel, Int.add_sub_cancel]
theorem fold_unfold (s a b : Int) : foldP s (unfoldP s a b).1 (unfoldP s a b).2 = (a, b) := by
  unfold unfoldP foldP
  dsimp only
  rw [Int.sub_add_cancel, Int.sub_add_cancel, Int.sub_add_cancel]
def spPair (f : Int → Int → Int → Int × Int) : Sp := fun vs H Q _ => ∃ s a b, vs = [.int s, .int a, .int b] ∧ 0 ≤ s ∧ s < 4 ∧ ∀ p, H p = none → Q (.ref p) (upd H p (.tup [.int (f s a b).1, .int (f s a b).2]))
theorem use_pair {f : Int → Int → Int → Int × Int} {s a b : Int} {H : Hp} {Q : VK} {E : XK} (h1 : 0 ≤ s) (h2 : s < 4) (q : ∀ p, H p = none → Q (.ref p) (upd H p (.tup [.int (f s a b).1, .int (f s a b).2]))) : spPair f ([.int s, .int a, .int b] ++ []) H Q E := ⟨s, a, b, rfl, h1, h2, q⟩
def spCkP : Sp := fun vs H Q _ => ∃ s a b, vs = [.int s, .int a, .int b] ∧ 0 ≤ s ∧ s < 4 ∧ Q .non H
theorem use_ckp {s a b : Int} {H : Hp} {Q : VK} {E : XK} (h1 : 0 ≤ s) (h2 : s < 4) (q : Q .non H) : spCkP ([.int s, .int a, .int b] ++ []) H Q E := ⟨s, a, b, rfl, h1, h2, q⟩
theorem four {s : Int} (h0 : 0 ≤ s) (h1 : s < 4) : s = 0 ∨ s = 1 ∨ s = 2 ∨ s = 3 := by omega
def spLFold : Sp := fun vs H Q _ => ∃ s a b, vs = [.int s, .int a, .int b] ∧ 0 ≤ s ∧ s < 4 ∧ ∀ p H', Same H H' → H' p = some (.tup [.int (foldP s a b).1, .int (foldP s a b).2]) → Q (.ref p) H'
theorem use_lfold {s a b : Int} {H : Hp} {Q : VK} {E : XK} (h1 : 0 ≤ s) (h2 : s < 4) (q : ∀ p H', Same H H' → H' p = some (.tup [.int (foldP s a b).1, .int (foldP s a b).2]) → Q (.ref p) H') : spLFold ([.int s, .int a, .int b] ++ []) H Q E := ⟨s, a, b, rfl, h1, h2, q⟩
def spIsPair : Sp := fun vs H Q _ => ∃ p x y, vs = [.ref p] ∧ H p = some (.tup [.int x, .int y]) ∧ Q (.bl true) H
theorem use_ispair {p : Addr} {x y : Int} {H : Hp} {Q : VK} {E : XK} (h : H p = some (.tup [.int x, .int y])) (q : Q (.bl true) H) : spIsPair ([.ref p] ++ []) H Q E := ⟨p, x, y, rfl, h, q⟩
theorem look_upd {H : Hp} {p a : Addr} {o u : HO} (n : a ≠ p) (h : H a = some u) : upd H p o a = some u := by rw [upd_ne n]; exact h
theorem ixN_nat {n j : Nat} (h : j < n) : ixN n (j : Int) = some j := by
  unfold ixN
  rw [if_pos (show (0 : Int) ≤ (j : Int) by omega), if_pos (show (j : Int) < (n : Int) by omega)]
  rfl
theorem at_ints {ns : List Int} {j : Nat} {z : Int} (h : ns[j]? = some z) : atI (ns.map V.int) (j : Int) = some (.int z) := atI_nat (by rw [List.getElem?_map, h]; rfl)
def Kp2 (p q : Addr) (H H' : Hp) : Prop := ∀ a o, a ≠ p → a ≠ q → H a = some o → H' a = some o
theorem Kp2.refl {p q : Addr} {H : Hp} : Kp2 p q H H := fun _ _ _ _ h => h
theorem Kp2.trans {p q : Addr} {H H1 H2 : Hp} (a : Kp2 p q H H1) (b : Kp2 p q H1 H2) : Kp2 p q H H2 := fun c o n m h => b c o n m (a c o n m h)
theorem Kp2.ofK {p q : Addr} {H H' : Hp} (k : Kp p H H') : Kp2 p q H H' := fun a o n _ h => k a o n h
theorem Kp2.ofS {p q : Addr} {H H' : Hp} (k : Same H H') : Kp2 p q H H' := fun a o _ _ h => k a o h
theorem Kp2.new {p q r : Addr} {H : Hp} {o : HO} (h : H r = none) : Kp2 p q H (upd H r o) := .ofS (same_new h)
theorem Kp2.at {p q : Addr} {H : Hp} {o : HO} : Kp2 p q H (upd H q o) := fun a x _ n h => by rw [upd_ne n]; exact h
theorem close_turn2 {p q : Addr} {H H1 H2 H3 H4 : Hp} (s : Same H H1) (n : H1 p = none) (s2 : Same H1 H2) (k : Kp p H2 H3) (m : H3 q = none) (k2 : Kp2 p q H3 H4) : Same H H4 := fun a o h => by
  have s3 : Same H H3 := same_kp (s.trans s2) (s.free n) k
  exact k2 a o (ne_of_none h (s.free n)) (ne_of_none (s3 _ _ h) m) (s3 _ _ h)
theorem close_turn {p : Addr} {H H1 H2 H3 : Hp} (s : Same H H1) (n : H1 p = none) (s2 : Same H1 H2) (k : Kp p H2 H3) : Same H H3 := same_kp (s.trans s2) (s.free n) k
/-! ### how many turns -/
theorem mm_lo (n c : Nat) : -(2 ^ 62) ≤ (if (if (c : Int) < (n : Int) then (c : Int) else (n : Int)) > 1 then (if (c : Int) < (n : Int) then (c : Int) else (n : Int)) else 1) := by
  split
  · split <;> omega
  · split <;> omega
theorem mm_hi (n c : Nat) (h : c ≤ 1000) : (if (if (c : Int) < (n : Int) then (c : Int) else (n : Int)) > 1 then (if (c : Int) < (n : Int) then (c : Int) else (n : Int)) else 1) < 2 ^ 62 := by
  split
  · split <;> omega
  · split <;> omega
theorem mm_nat (n c : Nat) (hc : 1 ≤ c) : (if (if (c : Int) < (n : Int) then (c : Int) else (n : Int)) > 1 then (if (c : Int) < (n : Int) then (c : Int) else (n : Int)) else 1).toNat ≤ c := by
  split
  · split <;> omega
  · split <;> omega
def spLaw (K : PySem.W.Frag) : Sp := fun vs H Q _ => ∃ (a : Addr) (ns : List Int), vs = [.ref a] ∧ SqL K H a (ns.map V.int) ∧ ns.length ≤ 63 ∧ ∀ H', Q (.bl true) H'
theorem if_no {c : Bool} {A B : Prop} (h : c = false) (q : B) : if c = true then A else B := by rw [h]; exact iteF q
theorem if_yes {c : Bool} {A B : Prop} (h : c = true) (q : A) : if c = true then A else B := by rw [h]; exact iteT q
theorem if_noD {p : Prop} [Decidable p] {A B : Prop} (h : ¬ p) (q : B) : if decide p = true then A else B := if_no (decide_eq_false h) q
theorem if_yesD {p : Prop} [Decidable p] {A B : Prop} (h : p) (q : A) : if decide p = true then A else B := if_yes (decide_eq_true h) q
theorem if_noN {p : Prop} [Decidable p] {A B : Prop} (h : p) (q : B) : if (!decide p) = true then A else B := if_no (by rw [decide_eq_true h]; rfl) q
theorem if_yesN {p : Prop} [Decidable p] {A B : Prop} (h : ¬ p) (q : A) : if (!decide p) = true then A else B := if_yes (by rw [decide_eq_false h]; rfl) q
/-! ### lists of ints compared -/
theorem canLay_ints : ∀ ns : List Int, PyData.canLayAll0 (ns.map PyData.int) = true
  | [] => rfl
  | n :: r => by
    show (PyData.canLay0 (.int n) && PyData.canLayAll0 (r.map PyData.int)) = true
    rw [canLay_ints r]
    rfl
theorem depth_ints : ∀ ns : List Int, PyData.depthAll (ns.map PyData.int) = 0
  | [] => rfl
  | n :: r => by
    show max (PyData.depth (.int n)) (PyData.depthAll (r.map PyData.int)) = 0
    rw [depth_ints r]
    rfl
theorem shaped_ints (ns : List Int) : SeqAt.shaped (.list (ns.map PyData.int)) = true := by
  show (PyData.canLayAll0 (ns.map PyData.int) && decide (PyData.depthAll (ns.map PyData.int) + 1 ≤ 64)) = true
  rw [canLay_ints, depth_ints]
  rfl
theorem eqv_ints : ∀ ns ms : List Int, PyData.eqvAll (ns.map PyData.int) (ms.map PyData.int) = decide (ns = ms)
  | [], [] => by simp [PyData.eqvAll]
  | [], m :: r => by simp [PyData.eqvAll]
  | n :: r, [] => by simp [PyData.eqvAll]
  | n :: r, m :: t => by
    show (PyData.eqv (.int n) (.int m) && PyData.eqvAll (r.map PyData.int) (t.map PyData.int)) = decide (n :: r = m :: t)
    rw [eqv_ints r t]
    show ((n == m) && decide (r = t)) = decide (n :: r = m :: t)
    by_cases h : n = m
    · subst h
      simp
    · have e : (n == m) = false := by simpa using h
      rw [e, Bool.false_and]
      exact (decide_eq_false fun z => h (List.cons.inj z).1).symm
section
variable {K : PySem.W.Frag} {H : Hp} {Q : VK} {p q : Addr} {ns ms : List Int}
theorem rd_neL (hp : SqL K H p (ns.map V.int)) (hq : SqL K H q (ms.map V.int)) (h : Q (.bl (!decide (ns = ms))) H) : rNeD K (.ref p) (.ref q) H Q :=
  ⟨_, _, .lst hp (dp_ints ns), .lst hq (dp_ints ms), shaped_ints ns, shaped_ints ms, by
    rw [show PyData.eqv (.list (ns.map PyData.int)) (.list (ms.map PyData.int)) = decide (ns = ms) by rw [← eqv_ints]; simp only [PyData.eqv]]
    exact h⟩
theorem rd_eqL (hp : SqL K H p (ns.map V.int)) (hq : SqL K H q (ms.map V.int)) (h : Q (.bl (decide (ns = ms))) H) : rEqD K (.ref p) (.ref q) H Q :=
  ⟨_, _, .lst hp (dp_ints ns), .lst hq (dp_ints ms), shaped_ints ns, shaped_ints ms, by
    rw [show PyData.eqv (.list (ns.map PyData.int)) (.list (ms.map PyData.int)) = decide (ns = ms) by rw [← eqv_ints]; simp only [PyData.eqv]]
    exact h⟩
theorem rd_neN (hp : SqL K H p (ns.map V.int)) (hq : SqL K H q []) (h : Q (.bl (!decide (ns = []))) H) : rNeD K (.ref p) (.ref q) H Q := rd_neL (ms := []) hp hq h
end
/-! ### loops over enumerate and zip -/
section
variable {K : PySem.W.Frag} {σ : L2.St} {H : Hp} {Q : VK} {g : TG} {tb : TS} {D : Ends}
theorem rd_forE {ts : TA} (h : ts σ H fun vs H1 => ∃ a xs, vs = [.ref a] ∧ SqL K H1 a xs ∧ LpW (Ite K a) g tb D σ H1) : tFor (iEnum K ts) g tb D σ H := h
theorem rd_lpE {a : Addr} {xs : List V} (e : SqL K H a xs) (h : LpW (Ite K a) g tb D σ H) : ∃ b ys, [V.ref a] = [.ref b] ∧ SqL K H b ys ∧ LpW (Ite K b) g tb D σ H := ⟨a, xs, rfl, e, h⟩
theorem for_enum {a : Addr} {xs : List V} (Pv : Nat → L2.St → Hp → Prop) (h0 : Pv 0 σ H) (hl : ∀ i σ H, i ≤ xs.length → Pv i σ H → SqL K H a xs)
    (hs : ∀ i x σ H T, xs[i]? = some x → Pv i σ H → H T = none → g (.ref T) σ (upd H T (.tup [.int (i : Nat), x])) fun σ2 H2 => tb { D with nx := Pv (i + 1), ct := Pv (i + 1), bk := D.nx } σ2 H2) (hd : ∀ σ H, Pv xs.length σ H → D.nx σ H) : LpW (Ite K a) g tb D σ H := by
  refine ⟨fun i m σ H => m = xs.length - i ∧ i ≤ xs.length ∧ Pv i σ H, ⟨xs.length, by simp, Nat.zero_le _, h0⟩, ?_⟩
  rintro i m σ H ⟨rfl, hi, p⟩
  have q := hl i σ H hi p
  by_cases hlt : i < xs.length
  · refine .inr ⟨⟨xs, xs[i], q, by simp [hlt]⟩, Pv (i + 1), fun σ' H' p' => ⟨xs.length - (i + 1), by omega, rfl, hlt, p'⟩, fun x H' y => ?_⟩
    obtain ⟨T, x1, rfl, nT, rfl, y⟩ := y
    exact hs i x1 σ H T (y xs q) p nT
  · have e : i = xs.length := by omega
    subst e
    exact .inl ⟨⟨xs, q, Nat.le_refl _⟩, hd σ H p⟩
theorem rd_forZ {ts : TA} (h : ts σ H fun vs H1 => ∃ a b xs ys, vs = [.ref a, .ref b] ∧ ((SqL K H1 a xs ∧ SqL K H1 b ys ∧ LpW (Itz K a b) g tb D σ H1) ∨ (SqT K H1 a xs ∧ SqT K H1 b ys ∧ LpW (RZ.ItzT K a b) g tb D σ H1))) : tFor (RZ.iZipA K ts) g tb D σ H := h
theorem for_zip {a b : Addr} {xs ys : List V} (hln : xs.length = ys.length) (Pv : Nat → L2.St → Hp → Prop) (h0 : Pv 0 σ H) (hl : ∀ i σ H, i ≤ xs.length → Pv i σ H → SqL K H a xs ∧ SqL K H b ys)
    (hs : ∀ i x y σ H T, xs[i]? = some x → ys[i]? = some y → Pv i σ H → H T = none → g (.ref T) σ (upd H T (.tup [x, y])) fun σ2 H2 => tb { D with nx := Pv (i + 1), ct := Pv (i + 1), bk := D.nx } σ2 H2) (hd : ∀ σ H, Pv xs.length σ H → D.nx σ H) : LpW (Itz K a b) g tb D σ H := by
  refine ⟨fun i m σ H => m = xs.length - i ∧ i ≤ xs.length ∧ Pv i σ H, ⟨xs.length, by simp, Nat.zero_le _, h0⟩, ?_⟩
  rintro i m σ H ⟨rfl, hi, p⟩
  obtain ⟨q1, q2⟩ := hl i σ H hi p
  by_cases hlt : i < xs.length
  · have hlt2 : i < ys.length := by omega
    refine .inr ⟨⟨xs, ys, xs[i], ys[i], q1, q2, by simp [hlt], by simp [hlt2]⟩, Pv (i + 1), fun σ' H' p' => ⟨xs.length - (i + 1), by omega, rfl, hlt, p'⟩, fun x H' y => ?_⟩
    obtain ⟨T, x1, y1, rfl, nT, rfl, f1, f2⟩ := y
    exact hs i x1 y1 σ H T (f1 xs q1) (f2 ys q2) p nT
  · have e : i = xs.length := by omega
    subst e
    exact .inl ⟨⟨xs, ys, q1, q2, .inl (Nat.le_refl _)⟩, hd σ H p⟩
theorem for_zipT {a b : Addr} {xs ys : List V} (hln : xs.length = ys.length) (Pv : Nat → L2.St → Hp → Prop) (h0 : Pv 0 σ H) (hl : ∀ i σ H, i ≤ xs.length → Pv i σ H → SqT K H a xs ∧ SqT K H b ys)
    (hs : ∀ i x y σ H T, xs[i]? = some x → ys[i]? = some y → Pv i σ H → H T = none → g (.ref T) σ (upd H T (.tup [x, y])) fun σ2 H2 => tb { D with nx := Pv (i + 1), ct := Pv (i + 1), bk := D.nx } σ2 H2) (hd : ∀ σ H, Pv xs.length σ H → D.nx σ H) : LpW (RZ.ItzT K a b) g tb D σ H := by
  refine ⟨fun i m σ H => m = xs.length - i ∧ i ≤ xs.length ∧ Pv i σ H, ⟨xs.length, by simp, Nat.zero_le _, h0⟩, ?_⟩
  rintro i m σ H ⟨rfl, hi, p⟩
  obtain ⟨q1, q2⟩ := hl i σ H hi p
  by_cases hlt : i < xs.length
  · have hlt2 : i < ys.length := by omega
    refine .inr ⟨⟨xs, ys, xs[i], ys[i], q1, q2, by simp [hlt], by simp [hlt2]⟩, Pv (i + 1), fun σ' H' p' => ⟨xs.length - (i + 1), by omega, rfl, hlt, p'⟩, fun x H' y => ?_⟩
    obtain ⟨T, x1, y1, rfl, nT, rfl, f1, f2⟩ := y
    exact hs i x1 y1 σ H T (f1 xs q1) (f2 ys q2) p nT
  · have e : i = xs.length := by omega
    subst e
    exact .inl ⟨⟨xs, ys, q1, q2, .inl (Nat.le_refl _)⟩, hd σ H p⟩
/-! ### list comprehensions over a range -/
def LcW (J : It) (g : TG) (tt : TT) (te : TE) (vs : List Nat) (Q : VK) (σ : L2.St) (H1 : Hp) (D : Addr) : Prop := ∃ W : Nat → Nat → Hp → Prop, (∃ m, W 0 m (upd H1 D (.lst []))) ∧ ∀ i m H, W i m H →
  (J.stop i H ∧ Q (.ref D) H) ∨ (J.go i H ∧ ∃ Nx : Hp → Prop, (∀ H', Nx H' → ∃ m', m' < m ∧ W (i + 1) m' H') ∧ ∀ x H', J.yld i H x H' → g x (wipe σ vs) H' fun σ2 H2 => wipe σ2 vs = wipe σ vs ∧ tt σ2 H2 fun b H3 =>
    if b = true then te σ2 H3 fun y H4 => ∃ acc, H4 D = some (.lst acc) ∧ acc.length < sizeLine ∧ Nx (upd H4 D (.lst (acc ++ [y]))) else Nx H3)
theorem rd_lc1 {ts : TA} {tt : TT} {te : TE} {vs : List Nat} (h : ts σ H fun us H1 => ∃ j : Int, us = [.int j] ∧ -(2 ^ 62) ≤ j ∧ j < 2 ^ 62 ∧ ∀ D, H1 D = none → LcW (Itr 0 j.toNat) g tt te vs Q σ H1 D) : tLc (iRng1 ts) g tt te vs σ H Q := h
theorem rd_yes {σ : L2.St} {H : Hp} {A B : Hp → Prop} (h : A H) : tYes σ H fun b H3 => if b = true then A H3 else B H3 := by
  show if true = true then A H else B H
  rw [if_pos rfl]
  exact h
theorem kp_app {p D : Addr} {H1 H H' : Hp} {o : HO} (hD : H1 D = none) (k : Kp p H1 H) (k2 : Kp p H H') : Kp p H1 (upd H' D o) := fun a x n e => by
  rw [upd_ne (ne_of_none e hD)]
  exact k2 a x n (k a x n e)
theorem rd_lcD {J : It} {tt : TT} {te : TE} {vs : List Nat} (h : ∀ D, H D = none → LcW J g tt te vs Q σ H D) : ∀ D, H D = none → LcW J g tt te vs Q σ H D := h
theorem lc_numbers {vs : List Nat} {i k : Nat} {p D : Addr} {n : Nat} {H1 : Hp} (hσ : ∀ v, ((wipe σ vs).set k (some v))[i]? = some (some (.ref p))) (hw : ∀ v, wipe ((wipe σ vs).set k (some v)) vs = wipe σ vs) (hP : Pool H1 p) (hD : H1 D = none) (hn : n ≤ 1000)
    (q : ∀ (ns : List Int) H', ns.length = n → (∀ z ∈ ns, z.natAbs < 10 ^ 55) → Pool H' p → Kp p H1 H' → H' D = some (.lst (ns.map V.int)) → Q (.ref D) H') :
    LcW (Itr 0 n) (gName k) tYes (tCall spNumber [] E0 (tCons (tVar i) tNil)) vs Q σ H1 D := by
  have hDp : D ≠ p := hP.ne hD
  refine lc_range (Pv := fun j H => ∃ ns : List Int, ns.length = j ∧ (∀ z ∈ ns, z.natAbs < 10 ^ 55) ∧ Pool H p ∧ Kp p H1 H ∧ H D = some (.lst (ns.map V.int))) ⟨[], rfl, List.forall_mem_nil _, hP.new hD, Kp.new hD, upd_same⟩ (fun j H hj hI => ?_) (fun H hI => ?_)
  · obtain ⟨ns, hl, hb, hP', hK, hd⟩ := hI
    refine ⟨hw _, rd_yes ?_⟩
    refine rd_call (rd_cons (rd_var (hσ _) (rd_nil (use_number hP' fun r H' hr hP2 hK2 => ?_))))
    refine ⟨_, hK2 _ _ hDp hd, ?_, ns ++ [r], ?_, ?_, ?_, kp_app hD hK hK2, ?_⟩
    · rw [List.length_map]
      exact small1000 (by omega)
    · rw [List.length_append, hl]
      rfl
    · intro z hz
      rcases List.mem_append.mp hz with hz | hz
      · exact hb z hz
      · rw [List.mem_singleton.mp hz]
        exact hr
    · obtain ⟨x, y, e, r⟩ := hP2
      exact ⟨x, y, by rw [upd_ne hDp.symm]; exact e, r⟩
    · rw [upd_same, List.map_append]
      rfl
  · obtain ⟨ns, hl, hb, hP', hK, hd⟩ := hI
    exact q ns H hl hb hP' hK hd
end
/-! ### values that a law takes for the same -/
def scalarV : V → Bool
  | .non => true
  | .bl _ => true
  | .int _ => true
  | .str _ => true
  | _ => false
def LstV (K : PySem.W.Frag) (H : Hp) (a : Addr) (xs : List V) : Prop := SqL K H a xs ∧ TyX K H (.ref a) (.type "list")
def TupV (K : PySem.W.Frag) (H : Hp) (a : Addr) (xs : List V) : Prop := SqT K H a xs ∧ TyX K H (.ref a) (.type "tuple")
def SmV (K : PySem.W.Frag) (H : Hp) : Nat → V → V → Prop
  | 0, x, y => x = y ∧ scalarV x = true
  | n + 1, x, y => (x = y ∧ scalarV x = true) ∨ (∃ a b xs ys, x = .ref a ∧ y = .ref b ∧ LstV K H a xs ∧ LstV K H b ys ∧ xs.length = ys.length ∧ ∀ (i : Nat) x y, xs[i]? = some x → ys[i]? = some y → SmV K H n x y) ∨
      ∃ a b xs ys, x = .ref a ∧ y = .ref b ∧ TupV K H a xs ∧ TupV K H b ys ∧ xs.length = ys.length ∧ ∀ (i : Nat) x y, xs[i]? = some x → ys[i]? = some y → SmV K H n x y
theorem LstV.of {K : PySem.W.Frag} {H : Hp} {a : Addr} {xs : List V} (h : H a = some (.lst xs)) : LstV K H a xs := ⟨SqL.of h, .base (.lst h)⟩
theorem TupV.of {K : PySem.W.Frag} {H : Hp} {a : Addr} {xs : List V} (h : H a = some (.tup xs)) : TupV K H a xs := ⟨SqT.of h, .base (.tup h)⟩
section
variable {K : PySem.W.Frag} {H H' : Hp}
theorem tyo_same {x : V} {t : Value} (s : Same H H') (h : TyOf K H x t) : TyOf K H' x t := by
  cases h with
  | non => exact .non
  | bl x => exact .bl x
  | int i => exact .int i
  | str x => exact .str x
  | flt x => exact .flt x
  | lst e => exact .lst (s _ _ e)
  | frz e => exact .frz (s _ _ e)
  | tup e => exact .tup (s _ _ e)
  | dK e => exact .dK (s _ _ e)
  | dT e => exact .dT (s _ _ e)
  | ins e cl ha hn htk hm => exact .ins (s _ _ e) cl ha hn htk hm
theorem tyx_same {x : V} {t : Value} (s : Same H H') (h : TyX K H x t) : TyX K H' x t := by
  cases h with
  | base b => exact .base (tyo_same s b)
  | byt b => exact .byt b
  | set e => exact .set (s _ _ e)
  | kList e c => exact .kList e c
  | kTuple e c => exact .kTuple e c
  | kDict e c => exact .kDict e c
  | fTuple e => exact .fTuple (s _ _ e)
  | fDict e => exact .fDict (s _ _ e)
theorem LstV.same {a : Addr} {xs : List V} (s : Same H H') (h : LstV K H a xs) : LstV K H' a xs := ⟨s.seq h.1, tyx_same s h.2⟩
theorem same_seqT {a : Addr} {xs : List V} (s : Same H H') (h : SqT K H a xs) : SqT K H' a xs := by
  rcases h with (h | ⟨o, h⟩) | h
  · exact .inl (.inl (s _ _ h))
  · exact .inl (.inr ⟨o, s _ _ h⟩)
  · exact .inr h
theorem TupV.same {a : Addr} {xs : List V} (s : Same H H') (h : TupV K H a xs) : TupV K H' a xs := ⟨same_seqT s h.1, tyx_same s h.2⟩
theorem SmV.same (s : Same H H') : ∀ (n : Nat) {x y : V}, SmV K H n x y → SmV K H' n x y
  | 0, _, _, h => h
  | n + 1, x, y, h => by
    rcases h with h | ⟨a, b, xs, ys, e1, e2, h1, h2, l, h⟩ | ⟨a, b, xs, ys, e1, e2, h1, h2, l, h⟩
    · exact .inl h
    · exact .inr (.inl ⟨a, b, xs, ys, e1, e2, h1.same s, h2.same s, l, fun i x y a b => SmV.same s n (h i x y a b)⟩)
    · exact .inr (.inr ⟨a, b, xs, ys, e1, e2, h1.same s, h2.same s, l, fun i x y a b => SmV.same s n (h i x y a b)⟩)
theorem isi_ty {Q : VK} {x : V} {t n : String} {d : Bool} (h : TyX K H x (.type t)) (e : kitB t n = some d) (q : Q (.bl d) H) : rIsi K [x, .ty n] H Q := rd_isi (.ty n) h (kit_ty e) q
theorem sm_ints {p q : Addr} {ns : List Int} (hp : H p = some (.lst (ns.map V.int))) (hq : H q = some (.lst (ns.map V.int))) : SmV K H 1 (.ref p) (.ref q) :=
  .inr (.inl ⟨p, q, _, _, rfl, rfl, .of hp, .of hq, rfl, fun i x y e1 e2 => by
    rw [e1] at e2
    have e := Option.some.inj e2
    subst e
    rw [List.getElem?_map] at e1
    cases g : ns[i]? with
    | none => rw [g] at e1; cases e1
    | some z => rw [g] at e1; cases e1; exact ⟨rfl, rfl⟩⟩)
end
theorem sm_sc {K : PySem.W.Frag} {H : Hp} {x : V} (h : scalarV x = true) : ∀ {n : Nat}, SmV K H n x x
  | 0 => ⟨rfl, h⟩
  | _ + 1 => .inl ⟨rfl, h⟩
def spSame (K : PySem.W.Frag) (n : Nat) : Sp := fun vs H Q _ => ∃ x y, vs = [x, y] ∧ SmV K H n x y ∧ ∀ H', Same H H' → Q (.bl true) H'
theorem use_same {K : PySem.W.Frag} {n : Nat} {x y : V} {H : Hp} {Q : VK} {E : XK} (h : SmV K H n x y) (q : ∀ H', Same H H' → Q (.bl true) H') : spSame K n ([x, y] ++ []) H Q E := ⟨x, y, rfl, h, q⟩
/-! ### blocks, code numbers, marks -/
def spItems (K : PySem.W.Frag) : Sp := fun vs H Q _ => ∃ (a : Addr) (ns : List Int), vs = [.ref a] ∧ SqL K H a (ns.map V.int) ∧ ∀ H', Same H H' → Q .non H'
theorem use_items {K : PySem.W.Frag} {a : Addr} {ns : List Int} {H : Hp} {Q : VK} {E : XK} (h : SqL K H a (ns.map V.int)) (q : ∀ H', Same H H' → Q .non H') : spItems K ([.ref a] ++ []) H Q E := ⟨a, ns, rfl, h, q⟩
def spBlock : Sp := fun vs H Q _ => ∃ (a : Addr) (ns : List Int) (least : Int), vs = [.ref a, .int least] ∧ H a = some (.lst (ns.map V.int)) ∧ least ≤ ns.length ∧ ns.length ≤ 64 ∧ ∀ H', Same H H' → Q .non H'
theorem use_block {a : Addr} {ns : List Int} {least : Int} {H : Hp} {Q : VK} {E : XK} (h : H a = some (.lst (ns.map V.int))) (h1 : least ≤ ns.length) (h2 : ns.length ≤ 64) (q : ∀ H', Same H H' → Q .non H') : spBlock ([.ref a, .int least] ++ []) H Q E := ⟨a, ns, least, rfl, h, h1, h2, q⟩
def codeU (n : Int) : Int := if n ≥ 0 then 2 * n else -2 * n - 1
def spCode : Sp := fun vs H Q _ => ∃ n, vs = [.int n] ∧ Q (.int (codeU n)) H
theorem use_code {n : Int} {H : Hp} {Q : VK} {E : XK} (q : Q (.int (codeU n)) H) : spCode ([.int n] ++ []) H Q E := ⟨n, rfl, q⟩
def markF (ns : List Int) : Int := ns.foldl (fun m n => (m * 31 + codeU n) % 9973) 1
theorem markF_snoc (ns : List Int) (z : Int) : markF (ns ++ [z]) = (markF ns * 31 + codeU z) % 9973 := by
  unfold markF
  rw [List.foldl_append]
  rfl
theorem foldm_bound : ∀ (ns : List Int) (m : Int), 0 ≤ m → m < 9973 → 0 ≤ ns.foldl (fun m n => (m * 31 + codeU n) % 9973) m ∧ ns.foldl (fun m n => (m * 31 + codeU n) % 9973) m < 9973
  | [], m, h0, h1 => ⟨h0, h1⟩
  | n :: r, m, _, _ => foldm_bound r _ (Int.emod_nonneg _ (by decide)) (Int.emod_lt_of_pos _ (by decide))
theorem markF_bound (ns : List Int) : 0 ≤ markF ns ∧ markF ns < 9973 := foldm_bound ns 1 (by decide) (by decide)
theorem foldm_eq : ∀ (ns : List Int) (m k : Int), 0 ≤ m → m < 9973 → 0 ≤ k → k < 9973 → (ns.foldl (fun m n => (m * 31 + codeU n) % 9973) m = ns.foldl (fun m n => (m * 31 + codeU n) % 9973) k ↔ m = k)
  | [], m, k, _, _, _, _ => Iff.rfl
  | n :: r, m, k, h0, h1, h2, h3 => by
    show (r.foldl (fun m n => (m * 31 + codeU n) % 9973) ((m * 31 + codeU n) % 9973) = r.foldl (fun m n => (m * 31 + codeU n) % 9973) ((k * 31 + codeU n) % 9973)) ↔ m = k
    rw [foldm_eq r _ _ (Int.emod_nonneg _ (by decide)) (Int.emod_lt_of_pos _ (by decide)) (Int.emod_nonneg _ (by decide)) (Int.emod_lt_of_pos _ (by decide))]
    generalize codeU n = u
    constructor
    · intro h
      omega
    · intro h
      rw [h]
theorem foldm_set : ∀ (ns : List Int) (m : Int) (j : Nat) (z old : Int), ns[j]? = some old → (ns.foldl (fun m n => (m * 31 + codeU n) % 9973) m = (ns.set j z).foldl (fun m n => (m * 31 + codeU n) % 9973) m ↔ (codeU z - codeU old) % 9973 = 0)
  | [], _, _, _, _, h => by simp at h
  | n :: r, m, 0, z, old, h => by
    have e : n = old := Option.some.inj h
    subst e
    show (r.foldl (fun m n => (m * 31 + codeU n) % 9973) ((m * 31 + codeU n) % 9973) = r.foldl (fun m n => (m * 31 + codeU n) % 9973) ((m * 31 + codeU z) % 9973)) ↔ (codeU z - codeU n) % 9973 = 0
    rw [foldm_eq r _ _ (Int.emod_nonneg _ (by decide)) (Int.emod_lt_of_pos _ (by decide)) (Int.emod_nonneg _ (by decide)) (Int.emod_lt_of_pos _ (by decide))]
    generalize codeU n = u
    generalize codeU z = w
    omega
  | n :: r, m, j + 1, z, old, h => foldm_set r _ j z old h
theorem markF_set {ns : List Int} {j : Nat} {z old : Int} (h : ns[j]? = some old) : (markF (ns.set j z) = markF ns ↔ (codeU z - codeU old) % 9973 = 0) := by
  rw [← foldm_set ns 1 j z old h]
  exact eq_comm
def spMark : Sp := fun vs H Q _ => ∃ (a : Addr) (ns : List Int), vs = [.ref a] ∧ H a = some (.lst (ns.map V.int)) ∧ ns.length ≤ 64 ∧ ∀ H', Same H H' → Q (.int (markF ns)) H'
theorem use_mark {a : Addr} {ns : List Int} {H : Hp} {Q : VK} {E : XK} (h : H a = some (.lst (ns.map V.int))) (h2 : ns.length ≤ 64) (q : ∀ H', Same H H' → Q (.int (markF ns)) H') : spMark ([.ref a] ++ []) H Q E := ⟨a, ns, rfl, h, h2, q⟩
theorem mark_bl {ms : List Int} {j : Nat} {z old : Int} (h : ms[j]? = some old) : V.bl (decide (V.int (markF (ms.set j z)) = V.int (markF ms))) = V.bl (decide (V.int ((codeU z - codeU old) % 9973) = V.int 0)) := by
  refine congrArg V.bl (decide_eq_decide.mpr ⟨fun e => congrArg V.int ((markF_set h).mp (V.int.inj e)), fun e => congrArg V.int ((markF_set h).mpr (V.int.inj e))⟩)
/-! ### joints -/
def jx (u v : V) : Bool := match u, v with
  | .int w, .int t => decide (0 < w) || decide (t = 0)
  | _, _ => false
def jt (u v : V) : Bool := inI u 0 8 && (inI v 0 3 && jx u v)
theorem dec_i0 (t : Int) : decide (V.int t = V.int 0) = decide (t = 0) := decide_eq_decide.mpr ⟨V.int.inj, congrArg V.int⟩
theorem jt_zero (t : Int) : jt (.int 0) (.int t) = decide (V.int t = V.int 0) := by
  rw [dec_i0]
  show (decide ((0 : Int) ≤ 0 ∧ (0 : Int) ≤ 8) && (decide (0 ≤ t ∧ t ≤ 3) && (decide ((0 : Int) < 0) || decide (t = 0)))) = decide (t = 0)
  by_cases h : t = 0
  · subst h; rfl
  · rw [decide_eq_false h]; simp
theorem jt_pos {w t : Int} (h : w ≠ 0) : jt (.int w) (.int t) = ((decide (1 ≤ w) && decide (w ≤ 8)) && (decide (0 ≤ t) && decide (t ≤ 3))) := by
  show (decide (0 ≤ w ∧ w ≤ 8) && (decide (0 ≤ t ∧ t ≤ 3) && (decide (0 < w) || decide (t = 0)))) = _
  by_cases h1 : 1 ≤ w
  · have e0 : (0 : Int) ≤ w := by omega
    have e1 : (0 : Int) < w := by omega
    simp [h1, e0, e1, Bool.decide_and]
  · have e0 : ¬ (0 : Int) ≤ w := by omega
    simp [h1, e0]
inductive JR (H : Hp) : V → Bool → Prop where
  | flat {x : V} (h : scalarV x = true) : JR H x false
  | lst {a : Addr} {xs : List V} (h : H a = some (.lst xs)) : JR H (.ref a) false
  | tupn {a : Addr} {xs : List V} (h : H a = some (.tup xs)) (n : xs.length ≠ 2) : JR H (.ref a) false
  | tup2 {a : Addr} {u v : V} (h : H a = some (.tup [u, v])) (hu : TyV H u) (hv : TyV H v) : JR H (.ref a) (jt u v)
def spJ : Sp := fun vs H Q _ => ∃ x b, vs = [x] ∧ JR H x b ∧ Q (.bl b) H
theorem use_j {x : V} {b : Bool} {H : Hp} {Q : VK} {E : XK} (h : JR H x b) (q : Q (.bl b) H) : spJ ([x] ++ []) H Q E := ⟨x, b, rfl, h, q⟩
def spRight : Sp := fun vs H Q _ => ∃ x b, vs = [x] ∧ JR H x b ∧ Q (.bl true) H
theorem use_right {x : V} {b : Bool} {H : Hp} {Q : VK} {E : XK} (h : JR H x b) (q : Q (.bl true) H) : spRight ([x] ++ []) H Q E := ⟨x, b, rfl, h, q⟩
def spValue : Sp := fun vs H Q _ => ∃ p, vs = [.ref p] ∧ Pool H p ∧ ∀ x b H', JR H' x b → Kp p H H' → Q x H'
theorem use_value {p : Addr} {H : Hp} {Q : VK} {E : XK} (h : Pool H p) (q : ∀ x b H', JR H' x b → Kp p H H' → Q x H') : spValue ([.ref p] ++ []) H Q E := ⟨p, rfl, h, q⟩
theorem inI_no {x : V} {lo hi : Int} (h : isI x = false) : inI x lo hi = false := by
  cases x <;> first | rfl | exact Bool.noConfusion h
theorem jt_no1 {u v : V} (h : inI u 0 8 = false) : jt u v = false := by unfold jt; rw [h]; rfl
theorem jt_no2 {u v : V} (h : inI v 0 3 = false) : jt u v = false := by unfold jt; rw [h, Bool.false_and, Bool.and_false]
theorem inI_isI {x : V} {lo hi : Int} (h : inI x lo hi = true) : isI x = true := by
  cases x <;> first | rfl | exact Bool.noConfusion h
theorem isI_yes {x : V} (h : isI x = true) : ∃ i, x = .int i := by
  cases x <;> first | exact ⟨_, rfl⟩ | exact Bool.noConfusion h
/-! ### levels -/
def spS : List Int → List Int
  | a :: b :: r => ((a + b) / 2) :: spS r
  | r => r
def spD : List Int → List Int
  | a :: b :: r => (a - b) :: spD r
  | _ => []
theorem spD_length : ∀ ns : List Int, (spD ns).length = ns.length / 2
  | [] => rfl
  | [_] => by simp [spD]
  | a :: b :: r => by
    show (spD r).length + 1 = (r.length + 1 + 1) / 2
    rw [spD_length r]
    omega
theorem spS_length : ∀ ns : List Int, (spS ns).length = (ns.length + 1) / 2
  | [] => rfl
  | [_] => by simp [spS]
  | a :: b :: r => by
    show (spS r).length + 1 = (r.length + 1 + 1 + 1) / 2
    rw [spS_length r]
    omega
theorem spS_get : ∀ (ns : List Int) (i : Nat) (a b : Int), ns[2 * i]? = some a → ns[2 * i + 1]? = some b → (spS ns)[i]? = some ((a + b) / 2)
  | [], i, a, b, h, _ => by simp at h
  | [x], 0, a, b, _, h => by simp at h
  | [x], i + 1, a, b, h, _ => by simp at h
  | x :: y :: r, 0, a, b, h1, h2 => by
    have e1 : x = a := Option.some.inj h1
    have e2 : y = b := Option.some.inj h2
    subst e1 e2
    rfl
  | x :: y :: r, i + 1, a, b, h1, h2 => by
    show (spS r)[i]? = _
    exact spS_get r i a b (by rw [show 2 * (i + 1) = 2 * i + 1 + 1 by omega] at h1; exact h1) (by rw [show 2 * (i + 1) + 1 = 2 * i + 1 + 1 + 1 by omega] at h2; exact h2)
theorem spD_get : ∀ (ns : List Int) (i : Nat) (a b : Int), ns[2 * i]? = some a → ns[2 * i + 1]? = some b → (spD ns)[i]? = some (a - b)
  | [], i, a, b, h, _ => by simp at h
  | [x], 0, a, b, _, h => by simp at h
  | [x], i + 1, a, b, h, _ => by simp at h
  | x :: y :: r, 0, a, b, h1, h2 => by
    have e1 : x = a := Option.some.inj h1
    have e2 : y = b := Option.some.inj h2
    subst e1 e2
    rfl
  | x :: y :: r, i + 1, a, b, h1, h2 => by
    show (spD r)[i]? = _
    exact spD_get r i a b (by rw [show 2 * (i + 1) = 2 * i + 1 + 1 by omega] at h1; exact h1) (by rw [show 2 * (i + 1) + 1 = 2 * i + 1 + 1 + 1 by omega] at h2; exact h2)
theorem spS_parts : ∀ ns : List Int, spS ns = (spS ns).take (ns.length / 2) ++ ns.drop (2 * (ns.length / 2))
  | [] => rfl
  | [_] => by simp [spS]
  | a :: b :: r => by
    have ih := spS_parts r
    show ((a + b) / 2) :: spS r = (((a + b) / 2) :: spS r).take ((r.length + 1 + 1) / 2) ++ (a :: b :: r).drop (2 * ((r.length + 1 + 1) / 2))
    rw [show (r.length + 1 + 1) / 2 = r.length / 2 + 1 by omega, show 2 * (r.length / 2 + 1) = 2 * (r.length / 2) + 1 + 1 by omega]
    show ((a + b) / 2) :: spS r = ((a + b) / 2) :: ((spS r).take (r.length / 2) ++ r.drop (2 * (r.length / 2)))
    rw [← ih]
/-- behind i levels: the sums, and the differences -/
def lvS (ns : List Int) : Nat → List Int
  | 0 => ns
  | i + 1 => spS (lvS ns i)
def lvR (ns : List Int) : Nat → List Int
  | 0 => []
  | i + 1 => spD (lvS ns i) ++ lvR ns i
def splitL (ns : List Int) (i : Nat) : List Int := lvS ns i ++ lvR ns i
theorem lvS_le (ns : List Int) : ∀ i, (lvS ns i).length ≤ ns.length
  | 0 => Nat.le_refl _
  | i + 1 => by
    have := lvS_le ns i
    show (spS (lvS ns i)).length ≤ _
    rw [spS_length]
    omega
theorem lv_length (ns : List Int) : ∀ i, (lvS ns i).length + (lvR ns i).length = ns.length
  | 0 => rfl
  | i + 1 => by
    have := lv_length ns i
    show (spS (lvS ns i)).length + (spD (lvS ns i) ++ lvR ns i).length = _
    rw [List.length_append, spS_length, spD_length]
    omega
theorem ex07 : splitL [9, 4, 7, 8, 1] (2 : Int).toNat = [6, 1, -1, 5, -1] := by
  show splitL [9, 4, 7, 8, 1] 2 = _
  simp [splitL, lvS, lvR, spS, spD]
theorem splitL_length (ns : List Int) (i : Nat) : (splitL ns i).length = ns.length := by
  unfold splitL
  rw [List.length_append]
  exact lv_length ns i
theorem last_odd {ns : List Int} (h : ns.length % 2 = 1) : ∃ z, ns[ns.length - 1]? = some z ∧ ns.drop (2 * (ns.length / 2)) = [z] ∧ atI (ns.map V.int) (-1) = some (.int z) := by
  have h1 : ns.length - 1 < ns.length := by omega
  refine ⟨ns[ns.length - 1], List.getElem?_eq_getElem h1, ?_, ?_⟩
  · rw [show 2 * (ns.length / 2) = ns.length - 1 by omega, List.drop_eq_getElem_cons h1, show ns.length - 1 + 1 = ns.length by omega, List.drop_length]
  · have e : ns.map V.int = (ns.dropLast.map V.int) ++ [.int ns[ns.length - 1]] := by
      have hne : ns ≠ [] := fun z => by rw [z] at h; simp at h
      have := List.dropLast_concat_getLast hne
      rw [List.getLast_eq_getElem] at this
      rw [← List.map_singleton, ← List.map_append, this]
    rw [e]
    exact atI_last _ _
theorem drop_even {ns : List Int} (h : ¬ ns.length % 2 = 1) : ns.drop (2 * (ns.length / 2)) = [] := by
  rw [show 2 * (ns.length / 2) = ns.length by omega, List.drop_length]
theorem cut_from (ns : List Int) (k : Nat) (hk : k ≤ ns.length) : cutV (ns.map V.int) (some (k : Int)) none = (ns.drop k).map V.int := by
  unfold cutV
  rw [show HT.sIx (ns.map V.int).length 0 (some (k : Int)) = min k (ns.map V.int).length from HT.sIx_nat _ 0 k, HT.sIx_none, List.length_map, Nat.min_eq_left hk, ← List.map_drop]
  rw [List.take_of_length_le (by rw [List.length_map, List.length_drop]; exact Nat.le_refl _)]
theorem rg2 (n : Nat) (h : n ≤ 64) : RgC 0 ((n : Int) - 1) 2 (n / 2) := by
  have hs : Builtin.Range.rangeSize 0 ((n : Int) - 1) 2 = ((n / 2 : Nat) : Int) := by
    unfold Builtin.Range.rangeSize
    rw [if_pos (by decide)]
    split <;> omega
  refine ⟨by decide, by decide, ?_, hs⟩
  unfold Builtin.Range.small
  rw [hs]
  simp only [Builtin.Range.rangeFitsLong, Bool.and_eq_true, Bool.or_eq_true, decide_eq_true_eq, beq_iff_eq, show ((2 : Int) > 0) by decide, if_true]
  omega
section
variable {K : PySem.W.Frag} {σ : L2.St} {H : Hp} {Q : VK} {g : TG} {tb : TS} {D : Ends}
theorem rd_for3 {ts : TA} (h : ts σ H fun vs H1 => ∃ (i j c : Int) (n : Nat), vs = [.int i, .int j, .int c] ∧ RgC i j c n ∧ LpW (Itc i c n) g tb D σ H1) : tFor (iRng3 ts) g tb D σ H := h
theorem rd_n3 {n : Nat} {A : Int → Int → Int → Nat → Prop} (h : n ≤ 64) (q : A 0 ((n : Int) - 1) 2 (n / 2)) : ∃ (i j c : Int) (k : Nat), [V.int 0, V.int ((n : Int) - 1), V.int 2] = [.int i, .int j, .int c] ∧ RgC i j c k ∧ A i j c k := ⟨_, _, _, _, rfl, rg2 n h, q⟩
theorem rd_catL {a b : Addr} {xs ys : List Int} (h1 : H a = some (.lst (xs.map V.int))) (h2 : H b = some (.lst (ys.map V.int))) (n : xs.length + ys.length ≤ 1000) (q : ∀ p, H p = none → Q (.ref p) (upd H p (.lst ((xs ++ ys).map V.int)))) : rCat (.ref a) (.ref b) H Q :=
  ⟨a, b, _, _, rfl, rfl, h1, h2, by rw [List.length_map, List.length_map]; exact Nat.le_of_lt (small1000 n), fun p hp => by rw [← List.map_append]; exact q p hp⟩
theorem rd_appI {a : Addr} {xs : List Int} {z : Int} (h : H a = some (.lst (xs.map V.int))) (n : xs.length ≤ 1000) (q : Q .non (upd H a (.lst ((xs ++ [z]).map V.int)))) : rAppend (.ref a) [.int z] H Q :=
  ⟨a, _, _, rfl, rfl, h, by rw [List.length_map]; exact small1000 n, by rw [List.map_append] at q; exact q⟩
theorem rd_sl {te : TE} {tl th : TO} {r : V → Option Int → Option Int → Hp → VK → Prop} (h : te σ H fun x H1 => tl σ H1 fun l H2 => th σ H2 fun u H3 => r x l u H3 Q) : L2.tSl r te tl th σ H Q := h
theorem rd_part {te : TE} {q : Option Int → Hp → Prop} (h : te σ H fun x H1 => ∃ i, x = .int i ∧ q (some i) H1) : tPart te σ H q := h
theorem rd_nopart {q : Option Int → Hp → Prop} (h : q none H) : tNoPart σ H q := h
theorem rd_oneI {i : Int} {P : Int → Prop} (h : P i) : ∃ j, V.int i = .int j ∧ P j := ⟨i, rfl, h⟩
def tyOkL (K : PySem.W.Frag) (H : Hp) (a : Addr) (xs : List V) : Prop := H a = some (.lst xs)
theorem rd_bm {m : V → List V → Hp → VK → Prop} {to : TE} {ts : TA} (h : to σ H fun x H1 => tyV K "list" x H1 ∧ ts σ H1 fun xs H2 => m x xs H2 Q) : tBM K "list" m to ts σ H Q := h
theorem rd_tyL {a : Addr} {xs : List V} {P : Prop} (h : H a = some (.lst xs)) (q : P) : tyV K "list" (.ref a) H ∧ P := ⟨.inl ⟨rfl, _, .inl (.inl h)⟩, q⟩
theorem rd_slF {a : Addr} {ns : List Int} {k : Nat} (h : SqL K H a (ns.map V.int)) (hk : k ≤ ns.length) (q : ∀ p, H p = none → Q (.ref p) (upd H p (.lst ((ns.drop k).map V.int)))) : rSlL K (.ref a) (some (k : Int)) none H Q :=
  ⟨a, _, rfl, h, fun p hp => by rw [cut_from ns k hk]; exact q p hp⟩
end
theorem lc_ints {σ : L2.St} {Q : VK} {vs : List Nat} {k : Nat} {D : Addr} {n : Nat} {H1 : Hp} {te : TE} (f : List Int) (hlen : f.length = n) (hw : ∀ v, wipe ((wipe σ vs).set k (some v)) vs = wipe σ vs) (hD : H1 D = none) (hn : n ≤ 1000)
    (turn : ∀ (i : Nat) (H : Hp) (z : Int) (Q' : VK), i < n → f[i]? = some z → Same H1 H → Q' (.int z) H → te ((wipe σ vs).set k (some (.int (0 + (i : Nat))))) H Q')
    (q : ∀ H', Same H1 H' → H' D = some (.lst (f.map V.int)) → Q (.ref D) H') : LcW (Itr 0 n) (gName k) tYes te vs Q σ H1 D := by
  refine lc_range (Pv := fun j H => Same H1 H ∧ H D = some (.lst ((f.take j).map V.int))) ⟨same_new hD, upd_same⟩ (fun j H hj hI => ?_) (fun H hI => ?_)
  · obtain ⟨hs, hd⟩ := hI
    have g := List.getElem?_eq_getElem (show j < f.length by omega)
    refine ⟨hw _, rd_yes ?_⟩
    refine turn j H _ _ hj g hs ?_
    refine ⟨_, hd, ?_, fun b x e => ?_, ?_⟩
    · rw [List.length_map, List.length_take]
      exact small1000 (by omega)
    · rw [upd_ne (ne_of_none e hD)]
      exact hs _ _ e
    · rw [upd_same, List.take_add_one, g, List.map_append]
      rfl
  · obtain ⟨hs, hd⟩ := hI
    rw [List.take_of_length_le (by omega)] at hd
    exact q H hs hd
def spOnce (K : PySem.W.Frag) : Sp := fun vs H Q _ => ∃ (a : Addr) (ns : List Int), vs = [.ref a] ∧ SqL K H a (ns.map V.int) ∧ ns.length ≤ 64 ∧ ∀ p s d H', Same H H' → H' p = some (.tup [.ref s, .ref d]) → H' s = some (.lst ((spS ns).map V.int)) → H' d = some (.lst ((spD ns).map V.int)) → H s = none → Q (.ref p) H'
theorem use_once {K : PySem.W.Frag} {a : Addr} {ns : List Int} {H : Hp} {Q : VK} {E : XK} (h : SqL K H a (ns.map V.int)) (n : ns.length ≤ 64) (q : ∀ p s d H', Same H H' → H' p = some (.tup [.ref s, .ref d]) → H' s = some (.lst ((spS ns).map V.int)) → H' d = some (.lst ((spD ns).map V.int)) → H s = none → Q (.ref p) H') : spOnce K ([.ref a] ++ []) H Q E := ⟨a, ns, rfl, h, n, q⟩
def spSplit : Sp := fun vs H Q _ => ∃ (a : Addr) (ns : List Int) (k : Int), vs = [.ref a, .int k] ∧ H a = some (.lst (ns.map V.int)) ∧ 1 ≤ ns.length ∧ ns.length ≤ 64 ∧ 0 ≤ k ∧ k ≤ 5 ∧ ∀ p H', H p = none → Same H H' → H' p = some (.lst ((splitL ns k.toNat).map V.int)) → Q (.ref p) H'
theorem use_split {a : Addr} {ns : List Int} {k : Int} {H : Hp} {Q : VK} {E : XK} (h : H a = some (.lst (ns.map V.int))) (h1 : 1 ≤ ns.length) (h2 : ns.length ≤ 64) (h3 : 0 ≤ k) (h4 : k ≤ 5) (q : ∀ p H', H p = none → Same H H' → H' p = some (.lst ((splitL ns k.toNat).map V.int)) → Q (.ref p) H') : spSplit ([.ref a, .int k] ++ []) H Q E := ⟨a, ns, k, rfl, h, h1, h2, h3, h4, q⟩
theorem use_splitK {a : Addr} {ns : List Int} {k : Int} {H : Hp} {Q : VK} {E : XK} (h : H a = some (.lst (ns.map V.int))) (h1 : 1 ≤ ns.length) (h2 : ns.length ≤ 64) (h3 : 0 ≤ k) (h4 : k ≤ 5) (q : ∀ p H', H p = none → Same H H' → H' p = some (.lst ((splitL ns k.toNat).map V.int)) → Q (.ref p) H') : spSplit (kg 0 2 [1, 0] [] [.int k, .ref a]) H Q E := ⟨a, ns, k, rfl, h, h1, h2, h3, h4, q⟩
/-! ### levels joined -/
def jn : List Int → List Int → List Int
  | s :: S, d :: D => (s - d / 2 + d) :: (s - d / 2) :: jn S D
  | S, _ => S
theorem jn_nil (S : List Int) : jn S [] = S := by
  cases S <;> simp [jn]
theorem jn_cons (s d : Int) (S D : List Int) : jn (s :: S) (d :: D) = (s - d / 2 + d) :: (s - d / 2) :: jn S D := by simp [jn]
theorem spS_cons (a b : Int) (r : List Int) : spS (a :: b :: r) = ((a + b) / 2) :: spS r := by simp [spS]
theorem spD_cons (a b : Int) (r : List Int) : spD (a :: b :: r) = (a - b) :: spD r := by simp [spD]
theorem jn_sp : ∀ xs : List Int, jn (spS xs) (spD xs) = xs
  | [] => by simp [jn, spS, spD]
  | [x] => by simp [jn, spS, spD]
  | a :: b :: r => by
    rw [spS_cons, spD_cons, jn_cons, jn_sp r]
    have e : (a + b) / 2 - (a - b) / 2 = b := by omega
    rw [e]
    congr 1
    omega
theorem jn_length : ∀ S D : List Int, D.length ≤ S.length → (jn S D).length = S.length + D.length
  | S, [], _ => by rw [jn_nil]; rfl
  | [], d :: D, h => by simp at h
  | s :: S, d :: D, h => by
    rw [jn_cons]
    have := jn_length S D (by simpa using h)
    simp only [List.length_cons]
    omega
theorem sp_jn : ∀ S D : List Int, D.length ≤ S.length → S.length ≤ D.length + 1 → spS (jn S D) = S ∧ spD (jn S D) = D
  | [], [], _, _ => by simp [jn, spS, spD]
  | [s], [], _, _ => by simp [jn, spS, spD]
  | s :: t :: S, [], _, h => by simp at h
  | [], d :: D, h, _ => by simp at h
  | s :: S, d :: D, h1, h2 => by
    have ih := sp_jn S D (by simpa using h1) (by simpa using h2)
    rw [jn_cons, spS_cons, spD_cons, ih.1, ih.2]
    constructor
    · congr 1
      omega
    · congr 1
      omega
/-- how many are coarse -/
def cc (n : Nat) : Nat → Nat
  | 0 => n
  | i + 1 => (cc n i + 1) / 2
theorem cc_le (n : Nat) : ∀ i, cc n (i + 1) ≤ cc n i
  | 0 => by show (n + 1) / 2 ≤ n; omega
  | i + 1 => by show (cc n (i + 1) + 1) / 2 ≤ cc n (i + 1); omega
theorem cc_n (n : Nat) : ∀ i, cc n i ≤ n
  | 0 => Nat.le_refl _
  | i + 1 => Nat.le_trans (cc_le n i) (cc_n n i)
theorem cc_pos (n : Nat) (h : 1 ≤ n) : ∀ i, 1 ≤ cc n i
  | 0 => h
  | i + 1 => by
    have := cc_pos n h i
    show 1 ≤ (cc n i + 1) / 2
    omega
/-- the values when j of m levels are joined -/
def wv (ns : List Int) (m : Nat) : Nat → List Int
  | 0 => ns.take (cc ns.length m)
  | j + 1 => jn (wv ns m j) ((ns.drop (cc ns.length (m - j))).take (cc ns.length (m - (j + 1)) - cc ns.length (m - j)))
theorem wv_step {ns : List Int} {m j : Nat} (h : j + 1 ≤ m) (hl : (wv ns m j).length = cc ns.length (m - j)) :
    ((ns.drop (cc ns.length (m - j))).take (cc ns.length (m - (j + 1)) - cc ns.length (m - j))).length = cc ns.length (m - (j + 1)) - cc ns.length (m - j) ∧ cc ns.length (m - j) = (cc ns.length (m - (j + 1)) + 1) / 2 := by
  have e : m - j = (m - (j + 1)) + 1 := by omega
  have c : cc ns.length (m - j) = (cc ns.length (m - (j + 1)) + 1) / 2 := by rw [e]; rfl
  refine ⟨?_, c⟩
  have := cc_n ns.length (m - (j + 1))
  rw [List.length_take, List.length_drop]
  omega
theorem wv_length (ns : List Int) (m : Nat) : ∀ j, j ≤ m → (wv ns m j).length = cc ns.length (m - j)
  | 0, _ => by
    show (ns.take (cc ns.length m)).length = cc ns.length m
    have := cc_n ns.length m
    rw [List.length_take]
    omega
  | j + 1, h => by
    have ih := wv_length ns m j (by omega)
    obtain ⟨h1, h2⟩ := wv_step h ih
    show (jn (wv ns m j) _).length = _
    rw [jn_length _ _ (by rw [h1, ih]; omega), h1, ih]
    omega
theorem wv_sp {ns : List Int} {m j : Nat} (h : j + 1 ≤ m) : spS (wv ns m (j + 1)) = wv ns m j ∧ spD (wv ns m (j + 1)) = (ns.drop (cc ns.length (m - j))).take (cc ns.length (m - (j + 1)) - cc ns.length (m - j)) := by
  have ih := wv_length ns m j (by omega)
  obtain ⟨h1, h2⟩ := wv_step h ih
  exact sp_jn _ _ (by rw [h1, ih]; omega) (by rw [h1, ih]; omega)
theorem lv_wv (ns : List Int) (m : Nat) : ∀ i, i ≤ m → lvS (wv ns m m) i = wv ns m (m - i) ∧ lvR (wv ns m m) i = ns.drop (cc ns.length i)
  | 0, _ => ⟨rfl, by
    show [] = ns.drop (cc ns.length 0)
    rw [show cc ns.length 0 = ns.length from rfl, List.drop_length]⟩
  | i + 1, h => by
    obtain ⟨a, b⟩ := lv_wv ns m i (by omega)
    have e : m - i = (m - (i + 1)) + 1 := by omega
    have w := wv_sp (ns := ns) (m := m) (j := m - (i + 1)) (by omega)
    rw [← e] at w
    refine ⟨?_, ?_⟩
    · show spS (lvS (wv ns m m) i) = _
      rw [a, w.1]
    · show spD (lvS (wv ns m m) i) ++ lvR (wv ns m m) i = _
      rw [a, b, w.2, show m - (m - (i + 1)) = i + 1 by omega, show m - (m - i) = i by omega]
      have c := cc_le ns.length i
      have d : cc ns.length i = cc ns.length (i + 1) + (cc ns.length i - cc ns.length (i + 1)) := by omega
      have z : ns.drop (cc ns.length i) = (ns.drop (cc ns.length (i + 1))).drop (cc ns.length i - cc ns.length (i + 1)) := by rw [List.drop_drop, ← d]
      rw [z, List.take_append_drop]
theorem lvS_len (ns : List Int) : ∀ i, (lvS ns i).length = cc ns.length i
  | 0 => rfl
  | i + 1 => by
    show (spS (lvS ns i)).length = (cc ns.length i + 1) / 2
    rw [spS_length, lvS_len ns i]
def joinL (ns : List Int) (m : Nat) : List Int := wv ns m m
theorem joinL_length (ns : List Int) (m : Nat) : (joinL ns m).length = ns.length := by
  unfold joinL
  rw [wv_length ns m m (Nat.le_refl _), Nat.sub_self]
  rfl
theorem split_join (ns : List Int) (m : Nat) : splitL (joinL ns m) m = ns := by
  unfold splitL joinL
  obtain ⟨a, b⟩ := lv_wv ns m m (Nat.le_refl _)
  rw [a, b, Nat.sub_self]
  exact List.take_append_drop _ _
theorem lv_inj {xs ys : List Int} (h : xs.length = ys.length) : ∀ m, lvS xs m = lvS ys m → lvR xs m = lvR ys m → xs = ys
  | 0, e, _ => e
  | m + 1, e1, e2 => by
    have e1' : spS (lvS xs m) = spS (lvS ys m) := e1
    have e2' : spD (lvS xs m) ++ lvR xs m = spD (lvS ys m) ++ lvR ys m := e2
    have l1 := lv_length xs m
    have l2 := lv_length ys m
    have l3 := lv_length xs (m + 1)
    have l4 := lv_length ys (m + 1)
    have le : (lvS xs m).length = (lvS ys m).length := by
      rw [lvS_len, lvS_len, h]
    have ld : (spD (lvS xs m)).length = (spD (lvS ys m)).length := by rw [spD_length, spD_length, le]
    obtain ⟨f1, f2⟩ := List.append_inj e2' ld
    have e3 : lvS xs m = lvS ys m := by rw [← jn_sp (lvS xs m), ← jn_sp (lvS ys m), e1', f1]
    exact lv_inj h m e3 f2
theorem split_inj {xs ys : List Int} (h : xs.length = ys.length) (m : Nat) (e : splitL xs m = splitL ys m) : xs = ys := by
  have e' : lvS xs m ++ lvR xs m = lvS ys m ++ lvR ys m := e
  have le : (lvS xs m).length = (lvS ys m).length := by rw [lvS_len, lvS_len, h]
  obtain ⟨a, b⟩ := List.append_inj e' le
  exact lv_inj h m a b
theorem join_split (xs : List Int) (m : Nat) : joinL (splitL xs m) m = xs := by
  refine split_inj ?_ m (split_join _ m)
  rw [joinL_length, splitL_length]
/-- the pairs of a join -/
def jp : List Int → List Int → List Int
  | s :: S, d :: D => (s - d / 2 + d) :: (s - d / 2) :: jp S D
  | _, _ => []
theorem jp_cons (s d : Int) (S D : List Int) : jp (s :: S) (d :: D) = (s - d / 2 + d) :: (s - d / 2) :: jp S D := by simp [jp]
theorem jn_jp : ∀ S D : List Int, D.length ≤ S.length → jn S D = jp S D ++ S.drop D.length
  | S, [], _ => by rw [jn_nil]; cases S <;> simp [jp]
  | [], d :: D, h => by simp at h
  | s :: S, d :: D, h => by
    rw [jn_cons, jp_cons, jn_jp S D (by simpa using h)]
    rfl
theorem jp_length : ∀ S D : List Int, D.length ≤ S.length → (jp S D).length = 2 * D.length
  | S, [], _ => by cases S <;> simp [jp]
  | [], d :: D, h => by simp at h
  | s :: S, d :: D, h => by
    rw [jp_cons]
    have := jp_length S D (by simpa using h)
    simp only [List.length_cons]
    omega
theorem jp_step : ∀ (S D : List Int) (i : Nat) (s d : Int), S[i]? = some s → D[i]? = some d → (jp S D).take (2 * (i + 1)) = (jp S D).take (2 * i) ++ [s - d / 2 + d, s - d / 2]
  | [], _, i, s, d, h, _ => by simp at h
  | _ :: _, [], i, s, d, _, h => by simp at h
  | x :: S, y :: D, 0, s, d, h1, h2 => by
    have e1 : x = s := Option.some.inj h1
    have e2 : y = d := Option.some.inj h2
    subst e1 e2
    rw [jp_cons]
    rfl
  | x :: S, y :: D, i + 1, s, d, h1, h2 => by
    have ih := jp_step S D i s d h1 h2
    rw [jp_cons, show 2 * (i + 1 + 1) = 2 * (i + 1) + 1 + 1 by omega, show 2 * (i + 1) = 2 * i + 1 + 1 by omega]
    rw [show 2 * (i + 1) = 2 * i + 1 + 1 by omega] at ih
    show (x - y / 2 + y) :: (x - y / 2) :: (jp S D).take (2 * i + 1 + 1) = (x - y / 2 + y) :: (x - y / 2) :: ((jp S D).take (2 * i) ++ _)
    rw [ih]
theorem cut_to (ns : List Int) (k : Nat) : cutV (ns.map V.int) none (some (k : Int)) = (ns.take k).map V.int := by
  unfold cutV
  rw [HT.sIx_none, show HT.sIx (ns.map V.int).length (ns.map V.int).length (some (k : Int)) = min k (ns.map V.int).length from HT.sIx_nat _ _ k, List.drop_zero, Nat.sub_zero, ← List.map_take]
  rw [List.length_map, show min k ns.length = min k ns.length from rfl, ← List.take_take, List.take_length]
theorem cut_mid (ns : List Int) (j k : Nat) (hj : j ≤ ns.length) (hk : k ≤ ns.length) : cutV (ns.map V.int) (some (j : Int)) (some (k : Int)) = ((ns.drop j).take (k - j)).map V.int := by
  unfold cutV
  rw [show HT.sIx (ns.map V.int).length 0 (some (j : Int)) = min j (ns.map V.int).length from HT.sIx_nat _ _ j, show HT.sIx (ns.map V.int).length (ns.map V.int).length (some (k : Int)) = min k (ns.map V.int).length from HT.sIx_nat _ _ k]
  rw [List.length_map, Nat.min_eq_left hj, Nat.min_eq_left hk, ← List.map_drop, ← List.map_take]
section
variable {K : PySem.W.Frag} {σ : L2.St} {H : Hp} {Q : VK} {g : TG} {tb : TS} {D : Ends}
theorem rd_slT {a : Addr} {ns : List Int} {k : Nat} (h : SqL K H a (ns.map V.int)) (q : ∀ p, H p = none → Q (.ref p) (upd H p (.lst ((ns.take k).map V.int)))) : rSlL K (.ref a) none (some (k : Int)) H Q :=
  ⟨a, _, rfl, h, fun p hp => by rw [cut_to ns k]; exact q p hp⟩
theorem rd_slM {a : Addr} {ns : List Int} {j k : Nat} (h : SqL K H a (ns.map V.int)) (hj : j ≤ ns.length) (hk : k ≤ ns.length) (q : ∀ p, H p = none → Q (.ref p) (upd H p (.lst (((ns.drop j).take (k - j)).map V.int)))) : rSlL K (.ref a) (some (j : Int)) (some (k : Int)) H Q :=
  ⟨a, _, rfl, h, fun p hp => by rw [cut_mid ns j k hj hk]; exact q p hp⟩
theorem rd_forV {te : TE} (h : te σ H fun x H1 => ∃ n, x = .int n ∧ (-(2 ^ 62) ≤ (0 : Int) ∧ (0 : Int) < 2 ^ 62 ∧ -(2 ^ 62) ≤ n ∧ n < 2 ^ 62 ∧ LpW (Itc (0 + (((n - 0).toNat : Nat) : Int) - 1) (-1) (n - 0).toNat) g tb D σ H1)) : tFor (iRevR (tRg1 te)) g tb D σ H := h
theorem rd_nV {n : Int} {P : Prop} (h1 : -(2 ^ 62) ≤ n) (h2 : n < 2 ^ 62) (q : P) : -(2 ^ 62) ≤ (0 : Int) ∧ (0 : Int) < 2 ^ 62 ∧ -(2 ^ 62) ≤ n ∧ n < 2 ^ 62 ∧ P := ⟨by decide, by decide, h1, h2, q⟩
end
def spCoarse : Sp := fun vs H Q _ => ∃ (n k : Nat), vs = [.int (n : Int), .int (k : Int)] ∧ 1 ≤ n ∧ n ≤ 64 ∧ k ≤ 5 ∧ Q (.int (cc n k : Nat)) H
theorem use_coarse {n k : Nat} {H : Hp} {Q : VK} {E : XK} (h1 : 1 ≤ n) (h2 : n ≤ 64) (h3 : k ≤ 5) (q : Q (.int (cc n k : Nat)) H) : spCoarse ([.int (n : Int), .int (k : Int)] ++ []) H Q E := ⟨n, k, rfl, h1, h2, h3, q⟩
def spJoin1 : Sp := fun vs H Q _ => ∃ (s d : Addr) (S D : List Int), vs = [.ref s, .ref d] ∧ H s = some (.lst (S.map V.int)) ∧ H d = some (.lst (D.map V.int)) ∧ D.length ≤ S.length ∧ S.length ≤ 64 ∧ ∀ p H', Same H H' → H p = none → H' p = some (.lst ((jn S D).map V.int)) → Q (.ref p) H'
theorem use_join1 {s d : Addr} {S D : List Int} {H : Hp} {Q : VK} {E : XK} (h1 : H s = some (.lst (S.map V.int))) (h2 : H d = some (.lst (D.map V.int))) (h3 : D.length ≤ S.length) (h4 : S.length ≤ 64) (q : ∀ p H', Same H H' → H p = none → H' p = some (.lst ((jn S D).map V.int)) → Q (.ref p) H') : spJoin1 ([.ref s, .ref d] ++ []) H Q E := ⟨s, d, S, D, rfl, h1, h2, h3, h4, q⟩
def spJoin : Sp := fun vs H Q _ => ∃ (a : Addr) (ns : List Int) (k : Int), vs = [.ref a, .int k] ∧ H a = some (.lst (ns.map V.int)) ∧ 1 ≤ ns.length ∧ ns.length ≤ 64 ∧ 0 ≤ k ∧ k ≤ 5 ∧ ∀ p H', H p = none → Same H H' → H' p = some (.lst ((joinL ns k.toNat).map V.int)) → Q (.ref p) H'
theorem use_join {a : Addr} {ns : List Int} {k : Int} {H : Hp} {Q : VK} {E : XK} (h : H a = some (.lst (ns.map V.int))) (h1 : 1 ≤ ns.length) (h2 : ns.length ≤ 64) (h3 : 0 ≤ k) (h4 : k ≤ 5) (q : ∀ p H', H p = none → Same H H' → H' p = some (.lst ((joinL ns k.toNat).map V.int)) → Q (.ref p) H') : spJoin ([.ref a, .int k] ++ []) H Q E := ⟨a, ns, k, rfl, h, h1, h2, h3, h4, q⟩
theorem use_joinK {a : Addr} {ns : List Int} {k : Int} {H : Hp} {Q : VK} {E : XK} (h : H a = some (.lst (ns.map V.int))) (h1 : 1 ≤ ns.length) (h2 : ns.length ≤ 64) (h3 : 0 ≤ k) (h4 : k ≤ 5) (q : ∀ p H', H p = none → Same H H' → H' p = some (.lst ((joinL ns k.toNat).map V.int)) → Q (.ref p) H') : spJoin (kg 0 2 [1, 0] [] [.int k, .ref a]) H Q E := ⟨a, ns, k, rfl, h, h1, h2, h3, h4, q⟩
def spInts : Sp := fun vs H Q _ => ∃ (a : Addr) (ns : List Int) (n : Int), vs = [.ref a, .int n] ∧ H a = some (.lst (ns.map V.int)) ∧ (ns.length : Int) = n ∧ Q (.bl true) H
theorem use_ints {a : Addr} {ns : List Int} {n : Int} {H : Hp} {Q : VK} {E : XK} (h : H a = some (.lst (ns.map V.int))) (h1 : (ns.length : Int) = n) (q : Q (.bl true) H) : spInts ([.ref a, .int n] ++ []) H Q E := ⟨a, ns, n, rfl, h, h1, q⟩
/-! ### levels in two goes -/
theorem lv_add (xs : List Int) (p : Nat) : ∀ q, lvS xs (p + q) = lvS (lvS xs p) q ∧ lvR xs (p + q) = lvR (lvS xs p) q ++ lvR xs p
  | 0 => ⟨rfl, rfl⟩
  | q + 1 => by
    obtain ⟨a, b⟩ := lv_add xs p q
    refine ⟨?_, ?_⟩
    · show spS (lvS xs (p + q)) = spS (lvS (lvS xs p) q)
      rw [a]
    · show spD (lvS xs (p + q)) ++ lvR xs (p + q) = spD (lvS (lvS xs p) q) ++ lvR (lvS xs p) q ++ lvR xs p
      rw [a, b, List.append_assoc]
theorem cc_add (n p : Nat) : ∀ q, cc (cc n p) q = cc n (p + q)
  | 0 => rfl
  | q + 1 => by
    show (cc (cc n p) q + 1) / 2 = (cc n (p + q) + 1) / 2
    rw [cc_add n p q]
theorem splitL_take (xs : List Int) (p : Nat) : (splitL xs p).take (cc xs.length p) = lvS xs p ∧ (splitL xs p).drop (cc xs.length p) = lvR xs p := by
  have h := lvS_len xs p
  unfold splitL
  rw [← h]
  exact ⟨List.take_left .., List.drop_left ..⟩
theorem split_two (xs : List Int) (p q : Nat) : splitL xs (p + q) = splitL ((splitL xs p).take (cc xs.length p)) q ++ (splitL xs p).drop (cc xs.length p) := by
  rw [(splitL_take xs p).1, (splitL_take xs p).2]
  obtain ⟨a, b⟩ := lv_add xs p q
  unfold splitL
  rw [a, b, List.append_assoc]
theorem join_two (xs : List Int) (p q : Nat) : joinL xs (p + q) = joinL (joinL (xs.take (cc xs.length p)) q ++ xs.drop (cc xs.length p)) p := by
  have hc := cc_n xs.length p
  have hl : (joinL (xs.take (cc xs.length p)) q).length = cc xs.length p := by rw [joinL_length, List.length_take]; omega
  have hn : (joinL (xs.take (cc xs.length p)) q ++ xs.drop (cc xs.length p)).length = xs.length := by rw [List.length_append, hl, List.length_drop]; omega
  refine split_inj (by rw [joinL_length, joinL_length, hn]) (p + q) ?_
  rw [split_join, split_two, joinL_length, hn, split_join]
  rw [List.take_left' hl, List.drop_left' hl, split_join, List.take_append_drop]
/-! ### levels of shifted values -/
theorem spS_shift (t : Int) : ∀ xs : List Int, spS (xs.map (· + t)) = (spS xs).map (· + t)
  | [] => by simp [spS]
  | [x] => by simp [spS]
  | a :: b :: r => by
    show spS ((a + t) :: (b + t) :: r.map (· + t)) = _
    rw [spS_cons, spS_cons, spS_shift t r]
    show _ = ((a + b) / 2 + t) :: (spS r).map (· + t)
    congr 1
    omega
theorem spD_shift (t : Int) : ∀ xs : List Int, spD (xs.map (· + t)) = spD xs
  | [] => by simp [spD]
  | [x] => by simp [spD]
  | a :: b :: r => by
    show spD ((a + t) :: (b + t) :: r.map (· + t)) = _
    rw [spD_cons, spD_cons, spD_shift t r]
    congr 1
    omega
theorem lv_shift (t : Int) (xs : List Int) : ∀ k, lvS (xs.map (· + t)) k = (lvS xs k).map (· + t) ∧ lvR (xs.map (· + t)) k = lvR xs k
  | 0 => ⟨rfl, rfl⟩
  | k + 1 => by
    obtain ⟨a, b⟩ := lv_shift t xs k
    refine ⟨?_, ?_⟩
    · show spS (lvS (xs.map (· + t)) k) = (spS (lvS xs k)).map (· + t)
      rw [a, spS_shift]
    · show spD (lvS (xs.map (· + t)) k) ++ lvR (xs.map (· + t)) k = spD (lvS xs k) ++ lvR xs k
      rw [a, spD_shift, b]
theorem split_shift (t : Int) (xs : List Int) (k : Nat) : splitL (xs.map (· + t)) k = ((splitL xs k).take (cc xs.length k)).map (· + t) ++ (splitL xs k).drop (cc xs.length k) := by
  rw [(splitL_take xs k).1, (splitL_take xs k).2]
  obtain ⟨a, b⟩ := lv_shift t xs k
  unfold splitL
  rw [a, b]
theorem join_shift (t : Int) (ns : List Int) (k : Nat) : joinL ((ns.take (cc ns.length k)).map (· + t) ++ ns.drop (cc ns.length k)) k = (joinL ns k).map (· + t) := by
  have hc := cc_n ns.length k
  have hn : ((ns.take (cc ns.length k)).map (· + t) ++ ns.drop (cc ns.length k)).length = ns.length := by rw [List.length_append, List.length_map, List.length_take, List.length_drop]; omega
  refine split_inj (by rw [joinL_length, hn, List.length_map, joinL_length]) k ?_
  rw [split_join, split_shift, joinL_length, split_join]
section
variable {K : PySem.W.Frag} {σ : L2.St} {H : Hp} {Q : VK} {g : TG}
theorem rd_lcL {ti te : TE} {tt : TT} {vs : List Nat} (h : ti σ H fun x H1 => ∃ a, x = .ref a ∧ (∃ xs, SqL K H1 a xs) ∧ ∀ D, H1 D = none → LcW (Itl K a) g tt te vs Q σ H1 D) : tLc (iList K ti) g tt te vs σ H Q := h
theorem rd_lcP {a : Addr} {xs : List V} {te : TE} {tt : TT} {vs : List Nat} (e : SqL K H a xs) (h : ∀ D, H D = none → LcW (Itl K a) g tt te vs Q σ H D) : ∃ b, V.ref a = .ref b ∧ (∃ xs, SqL K H b xs) ∧ ∀ D, H D = none → LcW (Itl K b) g tt te vs Q σ H D := ⟨a, rfl, ⟨xs, e⟩, h⟩
theorem lc_mapL {vs : List Nat} {k : Nat} {a D : Addr} {xs : List Int} {H1 : Hp} {te : TE} (f : Int → Int) (hS : SqL K H1 a (xs.map V.int)) (hn : xs.length ≤ 1000) (hw : ∀ v, wipe ((wipe σ vs).set k (some v)) vs = wipe σ vs) (hD : H1 D = none)
    (turn : ∀ (z : Int) (H : Hp) (Q' : VK), Same H1 H → Q' (.int (f z)) H → te ((wipe σ vs).set k (some (.int z))) H Q')
    (q : ∀ H', Same H1 H' → H' D = some (.lst ((xs.map f).map V.int)) → Q (.ref D) H') : LcW (Itl K a) (gName k) tYes te vs Q σ H1 D := by
  refine lc_list (xs := xs.map V.int) (Pv := fun j H => Same H1 H ∧ H D = some (.lst (((xs.map f).take j).map V.int))) ⟨same_new hD, upd_same⟩ (fun j H _ hI => hI.1.seq hS) (fun j v H hv hI => ?_) (fun H hI => ?_)
  · obtain ⟨hs, hd⟩ := hI
    obtain ⟨z, rfl, hz⟩ : ∃ z, v = .int z ∧ xs[j]? = some z := by
      rw [List.getElem?_map] at hv
      cases g : xs[j]? with
      | none => rw [g] at hv; cases hv
      | some z => rw [g] at hv; exact ⟨z, (Option.some.inj hv).symm, rfl⟩
    refine ⟨hw _, rd_yes ?_⟩
    refine turn z H _ hs ?_
    refine ⟨_, hd, ?_, fun b x e => ?_, ?_⟩
    · rw [List.length_map, List.length_take, List.length_map]
      exact small1000 (by omega)
    · rw [upd_ne (ne_of_none e hD)]
      exact hs _ _ e
    · rw [upd_same, List.take_add_one, List.getElem?_map, hz, List.map_append]
      rfl
  · obtain ⟨hs, hd⟩ := hI
    rw [List.take_of_length_le (by rw [List.length_map, List.length_map]; exact Nat.le_refl _)] at hd
    exact q H hs hd
end
/-! ### what stands behind the top -/
structure Dn (K : PySem.W.Frag) (mg : Str → Option Value) (x : Str) (st : Stmt) (ps : List Str) (f : Addr) (fd : FuncData) : Prop where
  F : Fun K x x st f fd
  g : mg x = some (.ref f)
  b : Binds K fd ps []
structure Bi (mg : Str → Option Value) : Prop where
  int_ : mg "int" = none
  bool_ : mg "bool" = none
  str_ : mg "str" = none
  list_ : mg "list" = none
  tuple_ : mg "tuple" = none
  len_ : mg "len" = none
  abs_ : mg "abs" = none
  max_ : mg "max" = none
  min_ : mg "min" = none
  range_ : mg "range" = none
  zip_ : mg "zip" = none
  isinstance_ : mg "isinstance" = none
  enumerate_ : mg "enumerate" = none
  reversed_ : mg "reversed" = none
end Z

/-! Errors of the program: made by their own __init__, raised, caught, looked at. -/
namespace Z
open PySem PySem.Spec PyProof.Rows L2
/-! ### isinstance of the caught error, which has a dict of its own -/
def rIsX (K : PySem.W.Frag) (C a : Addr) (cls : Value) (d : Option Addr) : List V → Hp → VK → Prop := fun xs H Q =>
  ∃ (c : V) (cv : Value) (b : Bool) (dd : Addr) (fs : List (Str × V)), xs = [.ref a, c] ∧ cls = .ref C ∧ d = some dd ∧ H dd = some (.xd fs) ∧ (∀ u, RelV c u → u = cv) ∧ PySem.W.kitOne K (.ref C) cv = some b ∧ Q (.bl b) H
theorem call_isX {X : Cx} {a D : Addr} {oe : Obj} {cls : Value} {d : Option Addr} {pn : List (Addr × Obj)} (T : ExcC X.K D) (hz : Zc cls d oe) (hf : ∃ vs, oe.data = .fields vs) :
    CallR (X.suite a ((a, oe) :: pn)) (.builtin "isinstance") (rIsX X.K D a cls d) := by
  intro pins s σ H xs us Q I r h
  obtain ⟨c, cv, b, dd, fs, e1, e2, e3, e4, hcv, hk, q⟩ := h
  subst e1 e2 e3
  match r with
  | .cons (b := u1) ra (.cons (b := u2) rc .nil) =>
    obtain rfl : u1 = Value.ref a := ra
    obtain rfl := hcv _ rc
    have hp := (I.pin (a, oe) (List.mem_append_left _ List.mem_cons_self)).1
    obtain ⟨fv, hfv⟩ := hf
    have ho : ObjOk X.prog X.w H s.heap dd (.xd fs) := I.hok dd _ e4
    obtain ⟨mA, hns, _⟩ := ho
    obtain ⟨od, hod, _⟩ := lookIn_ns hns
    have J : PySem.W.InstAt s.heap a oe D (some od) := ⟨hp, hz.1, by simp [PySem.W.notCls, hfv], by rw [hz.2]; exact hod⟩
    have hc : (PySem.W.clsIn X.K D).isSome = true := by
      have h5 := T.hd
      unfold PySem.W.hasDictIn at h5
      cases e : PySem.W.clsIn X.K D with
      | none => rw [e] at h5; exact Bool.noConfusion h5
      | some cd => rfl
    exact PySem.W.kia_one (PySem.W.kitx_exc hc T.hg T.hk T.hs T.ha T.hn T.ht T.hm) I.kIn J hk (fun z => nomatch z) fun tk => ⟨.bl b, H, I.kept (t' := tk) fun _ _ z => z, rfl, q⟩
/-! ### the making -/
theorem mk_heap {H : Hp} {a d : Addr} {o1 o2 o3 o4 : HO} (ha : H a = none) (hd : d ≠ a) : upd (del (upd (upd (upd H a o1) d o2) a o3) a) d o4 = upd H d o4 := by
  funext b
  by_cases h1 : b = d
  · subst h1; rw [upd_same, upd_same]
  · rw [upd_ne h1, upd_ne h1]
    by_cases h2 : b = a
    · subst h2; rw [del_same, ha]
    · rw [del_ne h2, upd_ne h2, upd_ne h1, upd_ne h2]
/-- an own error class C, its name x, its one field f, its __init__ at fI -/
structure EC (K : PySem.W.Frag) (mg : Str → Option Value) (x f : Str) (C fI : Addr) : Prop where
  o : OexC K C
  xf : XfC K C
  ec : ExcC K C
  g : mg x = some (.ref C)
  noF : PySem.W.findIn K (.ref C) f = some none
  te : PySem.W.exmOne K (.ref C) (.ref C) = some true
  iC : PySem.W.findIn K (.ref C) "__init__" = some (some (.ref fI))
  tI : PySem.W.typeIn K (.ref fI) = some (.type "function")
def spInit (K : PySem.W.Frag) (C : Addr) (f : Str) : Sp := fun vs H Q _ => ∃ (a : Addr) (v : V), vs = [.ref a, v] ∧ H a = some (exo a C none) ∧ ∀ dx, H dx = none → dx ≠ a → Q .non (upd (upd H dx (exd dx [(f, v)])) a (exo a C (some dx)))
/-- the reading of raise C(e) -/
def tRaiseX (K : PySem.W.Frag) (C : Addr) (f : Str) (W : WX) (ta : TA) : TS := fun _ σ H => tMkO C (spInit K C f) [] ta σ H fun cls d H' => W cls d σ H'
section
variable {X : Cx} {C fI : Addr} {x f : Str} {fd : FuncData} {W : WX} {e : Expr} {ta : TA} {p pos pos2 : Pos} {k : Nat} {ps : List Str}
theorem ps_raiseX (T : EC X.K X.mg x f C fI) (F : FnOk X.prog X.w X.K X.mg X.base CX0 k fI fd ps (spInit X.K C f)) (hb : Binds X.K fd ps []) (hc : X.calm = true) (hr : Room (k + 1) X.A) (tk : Takes X W) (ha : PA X [e] ta) (hg : Gl X x := by rfl)
    (hdb : (x == ("__debug__" : Str)) = false := by decide) (he : starEach (e :: []) X.env = (false, eval e X.env) :: starEach [] X.env := by rfl) (hpl : (backTo pos (starEach [] X.env)).any (·.1) = false := by rfl) :
    PS X (.Raise (some (.Call (.Name x p) [e] [] pos)) none pos2) (tRaiseX X.K C f W ta) :=
  ps_raise hc tk (pmk_oex T.o T.iC T.tI F hr hb .nil (fun _ _ _ _ _ _ _ z => z.elim) hg T.g ha hdb he hpl)
end
section
variable {K : PySem.W.Frag} {σ : L2.St} {H : Hp} {C : Addr} {f : Str} {W : WX} {ta : TA} {D : Ends}
theorem rd_raiseX (h : ta σ H fun vs H1 => ∃ v, vs = [v] ∧ ∀ d, H1 d = none → W (.ref C) (some d) σ (upd H1 d (.xd [(f, v)]))) (hm : ∀ {q q' : List V → Hp → Prop}, (∀ vs H, q vs H → q' vs H) → ta σ H q → ta σ H q') : tRaiseX K C f W ta D σ H := by
  refine hm (fun vs H1 h => ?_) h
  obtain ⟨v, rfl, h⟩ := h
  refine ⟨by simp, fun a ha => ⟨a, v, rfl, upd_same, fun dx hdx hne => ⟨rfl, dx, [(f, v)], upd_same, ?_, ?_, ?_⟩⟩⟩
  · rw [upd_ne hne, upd_same]
  · rw [upd_ne hne] at hdx
    exact hdx
  · rw [mk_heap ha hne]
    rw [upd_ne hne] at hdx
    exact h dx hdx
theorem rd_raise1 {te : TE} (h : te σ H fun v H1 => ∀ d, H1 d = none → W (.ref C) (some d) σ (upd H1 d (.xd [(f, v)]))) (hm : ∀ {q q' : V → Hp → Prop}, (∀ v H, q v H → q' v H) → te σ H q → te σ H q') : tRaiseX K C f W (tCons te tNil) D σ H :=
  rd_raiseX (hm (fun v H1 z => ⟨v, rfl, z⟩) h) fun {q q'} hq hh => hm (fun v H1 z => hq _ _ z) hh
theorem rd_raiseV {i : Nat} {v : V} (e : σ[i]? = some (some v)) (h : ∀ d, H d = none → W (.ref C) (some d) σ (upd H d (.xd [(f, v)]))) : tRaiseX K C f W (tCons (tVar i) tNil) D σ H :=
  rd_raise1 ⟨v, e, h⟩ fun hq ⟨v, e, z⟩ => ⟨v, e, hq _ _ z⟩
theorem rd_raiseC {v : V} (h : ∀ d, H d = none → W (.ref C) (some d) σ (upd H d (.xd [(f, v)]))) : tRaiseX K C f W (tCons (tC v) tNil) D σ H := rd_raise1 (te := tC v) h fun hq z => hq _ _ z
end
def spLawT (K : PySem.W.Frag) (T : List (Addr × Str)) : Sp := fun vs H Q _ => ∃ (a : Addr) (ns : List Int), vs = [.ref a] ∧ SqL K H a (ns.map V.int) ∧ ns.length ≤ 63 ∧ LamX.Tabs T H ∧ ∀ H', Q (.bl true) H'
/-- how an error leaves: of the class C, the field f holding v -/
def Err (C : Addr) (f : Str) (v : V) (H : Hp) (E : XK) : Prop := ∀ d H', Same H H' → H d = none → H' d = some (.xd [(f, v)]) → E (.ref C) (some d) H'
theorem Err.now {C : Addr} {f : Str} {v : V} {H : Hp} {E : XK} (h : Err C f v H E) : ∀ d, H d = none → E (.ref C) (some d) (upd H d (.xd [(f, v)])) := fun d n => h d _ (same_new n) n upd_same
theorem Err.same {C : Addr} {f : Str} {v : V} {H H' : Hp} {E : XK} (s : Same H H') (h : Err C f v H E) : Err C f v H' E := fun d H2 s2 n e => h d H2 (s.trans s2) (s.free n) e
/-- an own error class with its own __init__, ready to be made -/
def ErrK (P : Program) (w : World) (K : PySem.W.Frag) (mg : Str → Option Value) (base : Heap) (x f : Str) (C : Addr) : Prop :=
  ∃ (fI : Addr) (fd : FuncData), EC K mg x f C fI ∧ FnOk P w K mg base CX0 1 fI fd ["self", f] (spInit K C f) ∧ Binds K fd ["self", f] []
section
variable {P : Program} {w : World} {K : PySem.W.Frag} {mg : Str → Option Value} {base : Heap} {x f : Str} {C : Addr}
theorem ErrK.g (T : ErrK P w K mg base x f C) : mg x = some (.ref C) := let ⟨_, _, t, _⟩ := T; t.g
theorem ErrK.xf (T : ErrK P w K mg base x f C) : XfC K C := let ⟨_, _, t, _⟩ := T; t.xf
theorem ErrK.ec (T : ErrK P w K mg base x f C) : ExcC K C := let ⟨_, _, t, _⟩ := T; t.ec
theorem ErrK.noF (T : ErrK P w K mg base x f C) : PySem.W.findIn K (.ref C) f = some none := let ⟨_, _, t, _⟩ := T; t.noF
theorem ErrK.te (T : ErrK P w K mg base x f C) : PySem.W.exmOne K (.ref C) (.ref C) = some true := let ⟨_, _, t, _⟩ := T; t.te
end
section
variable {X : Cx} {C : Addr} {x f : Str} {W : WX} {e : Expr} {ta : TA} {p pos pos2 : Pos}
theorem ps_raiseE (T : ErrK X.prog X.w X.K X.mg X.base x f C) (hc : X.calm = true) (hr : Room 2 X.A) (tk : Takes X W) (ha : PA X [e] ta) (hg : Gl X x := by rfl)
    (hdb : (x == ("__debug__" : Str)) = false := by decide) (he : starEach (e :: []) X.env = (false, eval e X.env) :: starEach [] X.env := by rfl) (hpl : (backTo pos (starEach [] X.env)).any (·.1) = false := by rfl) :
    PS X (.Raise (some (.Call (.Name x p) [e] [] pos)) none pos2) (tRaiseX X.K C f W ta) := by
  obtain ⟨fI, fd, t, F, b⟩ := T
  exact ps_raiseX t F b hc hr tk ha hg hdb he hpl
end
/-! ### checks that raise -/
def spCkWX (C : Addr) : Sp := fun vs H Q E => ∃ x lo hi, vs = [x, .int lo, .int hi] ∧ TyV H x ∧ (inI x lo hi = false → Err C "value" x H E) ∧ (inI x lo hi = true → Q .non H)
theorem use_ckwx {C : Addr} {x : V} {lo hi : Int} {H : Hp} {Q : VK} {E : XK} (t : TyV H x) (h1 : inI x lo hi = false → Err C "value" x H E) (h2 : inI x lo hi = true → Q .non H) : spCkWX C ([x, .int lo, .int hi] ++ []) H Q E := ⟨x, lo, hi, rfl, t, h1, h2⟩
def spCkIX (C : Addr) : Sp := fun vs H Q E => ∃ x, vs = [x] ∧ TyV H x ∧ (isI x = false → Err C "value" x H E) ∧ (isI x = true → Q .non H)
theorem use_ckix {C : Addr} {x : V} {H : Hp} {Q : VK} {E : XK} (t : TyV H x) (h1 : isI x = false → Err C "value" x H E) (h2 : isI x = true → Q .non H) : spCkIX C ([x] ++ []) H Q E := ⟨x, rfl, t, h1, h2⟩
def spCoarseX (C : Addr) : Sp := fun vs H Q E => ∃ x y, vs = [x, y] ∧ TyV H x ∧ TyV H y ∧ (inI x 1 64 = false → Err C "value" x H E) ∧ (inI x 1 64 = true → inI y 0 5 = false → Err C "value" y H E) ∧
  ∀ n k : Nat, x = .int (n : Int) → y = .int (k : Int) → 1 ≤ n → n ≤ 64 → k ≤ 5 → Q (.int (cc n k : Nat)) H
theorem use_coarsex {C : Addr} {n k : Nat} {H : Hp} {Q : VK} {E : XK} (h1 : 1 ≤ n) (h2 : n ≤ 64) (h3 : k ≤ 5) (q : Q (.int (cc n k : Nat)) H) : spCoarseX C ([.int (n : Int), .int (k : Int)] ++ []) H Q E :=
  ⟨_, _, rfl, trivial, trivial, fun z => absurd z (by simp [inI]; omega), fun _ z => absurd z (by simp [inI]; omega), fun n' k' e1 e2 _ _ _ => by
    have e1' := Int.ofNat.inj (V.int.inj e1)
    have e2' := Int.ofNat.inj (V.int.inj e2)
    subst e1' e2'
    exact q⟩
theorem use_coarsexK {C : Addr} {n k : Nat} {H : Hp} {Q : VK} {E : XK} (h1 : 1 ≤ n) (h2 : n ≤ 64) (h3 : k ≤ 5) (q : Q (.int (cc n k : Nat)) H) : spCoarseX C (kg 0 2 [1, 0] [] [.int (k : Int), .int (n : Int)]) H Q E := use_coarsex h1 h2 h3 q
theorem inI_yes {x : V} {lo hi : Int} (h : inI x lo hi = true) : ∃ i, x = .int i ∧ lo ≤ i ∧ i ≤ hi := by
  cases x with
  | int i => exact ⟨i, rfl, of_decide_eq_true h⟩
  | _ => exact Bool.noConfusion h
/-! ### the relation that lets tables of code objects grow -/
open LamX
def KpN (p : Addr) (H H' : Hp) : Prop := ∀ b o, b ≠ p → H b = some o → (∀ ps, o ≠ .tbl ps) → H' b = some o
section
variable {p q : Addr} {H H' H1 H2 : Hp} {o u : HO}
theorem KpN.refl : KpN p H H := fun _ _ _ h _ => h
theorem KpN.trans (a : KpN p H H1) (b : KpN p H1 H2) : KpN p H H2 := fun c o n h t => b c o n (a c o n h t) t
theorem KpN.ofK (k : Kp p H H') : KpN p H H' := fun a o n h _ => k a o n h
theorem KpN.of (s : Same H H') : KpN p H H' := fun a o _ h _ => s a o h
theorem KpN.ofN (s : ExtN H H') : KpN p H H' := fun a o _ h t => s a o h t
theorem KpN.new (h : H q = none) : KpN p H (upd H q o) := .of (same_new h)
theorem KpN.at : KpN p H (upd H p o) := .ofK Kp.at
theorem close_turnN {H3 : Hp} (s : ExtN H H1) (n : H1 p = none) (s2 : Same H1 H2) (k : KpN p H2 H3) : ExtN H H3 := fun a o h t =>
  k a o (fun e => by rw [e] at h; have z := s _ _ h t; rw [n] at z; cases z) (s2 _ _ (s _ _ h t)) t
theorem lst_ntbl {xs : List V} : ∀ ps, HO.lst xs ≠ .tbl ps := fun _ z => nomatch z
theorem tup_ntbl {xs : List V} : ∀ ps, HO.tup xs ≠ .tbl ps := fun _ z => nomatch z
theorem look_extL {a : Addr} {xs : List V} (s : ExtN H H') (h : H a = some (.lst xs)) : H' a = some (.lst xs) := s _ _ h lst_ntbl
theorem look_extT {a : Addr} {xs : List V} (s : ExtN H H') (h : H a = some (.tup xs)) : H' a = some (.tup xs) := s _ _ h tup_ntbl
theorem extN_seq {K : PySem.W.Frag} {a : Addr} {xs : List V} (s : ExtN H H') (h : SqL K H a xs) : SqL K H' a xs := by
  rcases h with (h | ⟨o, h⟩) | h
  · exact .inl (.inl (s _ _ h lst_ntbl))
  · exact .inl (.inr ⟨o, s _ _ h (fun _ z => nomatch z)⟩)
  · exact .inr h
theorem Pool.ext (s : ExtN H H') (h : Pool H p) : Pool H' p := by
  obtain ⟨x, y, e, r⟩ := h
  exact ⟨x, y, s _ _ e lst_ntbl, r⟩
theorem Tabs.same {T : List (Addr × Str)} (s : Same H H') (t : Tabs T H) : Tabs T H' := t.ext fun b o h => s b o h
theorem Tabs.new {T : List (Addr × Str)} (n : H q = none) (t : Tabs T H) : Tabs T (upd H q o) := t.ext fun b o h => same_new n b o h
theorem codeO_lst {c : Addr} {q : Str} {xs : List V} : CodeO c q ≠ .lst xs := fun z => by
  unfold CodeO at z
  cases z
theorem Tabs.kp {T : List (Addr × Str)} (hp : Pool H p) (k : Kp p H H') (t : Tabs T H) : Tabs T H' := fun e he => by
  obtain ⟨x, y, hl, _⟩ := hp
  obtain ⟨ps, h1, h2, h3⟩ := t e he
  refine ⟨ps, k _ _ (fun z => by rw [z, hl] at h1; cases h1) h1, h2, fun pos cv hc => ?_⟩
  obtain ⟨c, e1, e2⟩ := h3 pos cv hc
  exact ⟨c, e1, k _ _ (fun z => by rw [z, hl] at e2; exact codeO_lst (Option.some.inj e2).symm) e2⟩
end
/-! ### drawn values: flat ones, and lists and tuples of flat ones, apart from the pool -/
def DV (p : Addr) (H : Hp) (v : V) : Prop := scalarV v = true ∨ ∃ a xs, v = .ref a ∧ a ≠ p ∧ (H a = some (.lst xs) ∨ H a = some (.tup xs)) ∧ ∀ x ∈ xs, scalarV x = true
section
variable {p : Addr} {H H' : Hp} {v : V} {K : PySem.W.Frag}
theorem DV.kpn (k : KpN p H H') (h : DV p H v) : DV p H' v := by
  rcases h with h | ⟨a, xs, e, n, h | h, s⟩
  · exact .inl h
  · exact .inr ⟨a, xs, e, n, .inl (k _ _ n h lst_ntbl), s⟩
  · exact .inr ⟨a, xs, e, n, .inr (k _ _ n h tup_ntbl), s⟩
theorem DV.ty (h : DV p H v) : TyV H v := by
  rcases h with h | ⟨a, xs, rfl, _, h | h, _⟩
  · cases v <;> first | exact True.intro | exact Bool.noConfusion h
  · exact .inl ⟨xs, h⟩
  · exact .inr ⟨xs, h⟩
theorem DV.sm (h : DV p H v) : SmV K H 1 v v := by
  rcases h with h | ⟨a, xs, rfl, _, h | h, s⟩
  · exact .inl ⟨rfl, h⟩
  · exact .inr (.inl ⟨a, a, xs, xs, rfl, rfl, .of h, .of h, rfl, fun i x y e1 e2 => by
      rw [e1] at e2
      exact ⟨Option.some.inj e2, s x (List.mem_of_getElem? e1)⟩⟩)
  · exact .inr (.inr ⟨a, a, xs, xs, rfl, rfl, .of h, .of h, rfl, fun i x y e1 e2 => by
      rw [e1] at e2
      exact ⟨Option.some.inj e2, s x (List.mem_of_getElem? e1)⟩⟩)
theorem DV.sc (h : scalarV v = true) : DV p H v := .inl h
theorem DV.lst {a : Addr} {xs : List V} (n : a ≠ p) (h : H a = some (.lst xs)) (s : ∀ x ∈ xs, scalarV x = true) : DV p H (.ref a) := .inr ⟨a, xs, rfl, n, .inl h, s⟩
theorem DV.tup {a : Addr} {xs : List V} (n : a ≠ p) (h : H a = some (.tup xs)) (s : ∀ x ∈ xs, scalarV x = true) : DV p H (.ref a) := .inr ⟨a, xs, rfl, n, .inr h, s⟩
end
/-- two lists of the same things, the last one a drawn value -/
theorem sm_last {K : PySem.W.Frag} {H : Hp} {a b : Addr} {xs : List V} {v : V} (ha : H a = some (.lst (xs ++ [v]))) (hb : H b = some (.lst (xs ++ [v]))) (hx : ∀ x ∈ xs, scalarV x = true) (hv : SmV K H 1 v v) : SmV K H 2 (.ref a) (.ref b) :=
  .inr (.inl ⟨a, b, _, _, rfl, rfl, .of ha, .of hb, rfl, fun i x y e1 e2 => by
    rw [e1] at e2
    have e := Option.some.inj e2
    subst e
    rcases List.mem_append.mp (List.mem_of_getElem? e1) with h | h
    · exact .inl ⟨rfl, hx x h⟩
    · rw [List.mem_singleton.mp h]; exact hv⟩)
/-! ### a lambda handed to the def that calls it -/
def tAct (N : List Str) (f c' : Addr) (q : Str) (tl : XK → Hp → VK → Prop) (W : WX) : TE := fun σ H Q => ∃ Ech : XK, (∀ cls d σ' H', Ech cls d H' → σ'.length = N.length → W cls d σ' H') ∧ σ[0]? = some (some (.ref f)) ∧ H c' = some (CodeO c' q) ∧ tl Ech H Q
theorem takes_len {X : Cx} {W : WX} (t : Takes X W) : Takes X fun cls d σ H => σ.length = X.N.length → W cls d σ H := fun u s' x => by
  obtain ⟨a, B, sI, pins, σ, H, cls, d, e, I, nb, up, sky, na, os, ag, w⟩ := x
  exact t u s' ⟨a, B, sI, pins, σ, H, cls, d, e, I, nb, up, sky, na, os, ag, w I.len⟩
theorem pe_act1 {Y : Cx} {f c' : Addr} {q a : Str} {tl : XK → Hp → VK → Prop}
    (act : ∀ (W : WX) (pn : List (Addr × Obj)) (xe : Value → Shared → Prop) (E : XK) (p1 p2 : Pos), Takes (Y.tr pn xe) W → (∀ cls d σ' H', E cls d H' → W cls d σ' H') →
      PE (Y.tr pn xe) (.Call (.Name a p1) [] [] p2) (fun σZ HZ Q => σZ[0]? = some (some (.ref f)) ∧ HZ c' = some (CodeO c' q) ∧ tl E HZ Q))
    (W : WX) (pn : List (Addr × Obj)) (xe : Value → Shared → Prop) (tk : Takes (Y.tr pn xe) W) {p1 p2 : Pos} : PE (Y.tr pn xe) (.Call (.Name a p1) [] [] p2) (tAct Y.N f c' q tl W) :=
  ⟨fun pins s σ H Q I h => by
    obtain ⟨Ech, hW, h1, h2, h3⟩ := h
    exact (act _ pn xe Ech p1 p2 (takes_len tk) hW).run pins s σ H Q I ⟨h1, h2, h3⟩⟩
/-- what the error that told caught becomes: a list of flags and of its field -/
def ErL (C : Addr) (f : Str) (L : V → List V) (Q : VK) : XK := fun cls d H' => cls = .ref C ∧ ∃ dd v, d = some dd ∧ H' dd = some (.xd [(f, v)]) ∧ ∀ p H'', Same H' H'' → H' p = none → H'' p = some (.lst (L v)) → Q (.ref p) H''
/-- try: a() / except C as e: return [.., e.f] / return None -/
def TTnone (C : Addr) (f : Str) (L : V → List V) : (XK → Hp → VK → Prop) → Hp → VK → Prop := fun tl H Q => tl (ErL C f L Q) H (fun _ H' => Q .non H')
theorem Err.erL {C : Addr} {f : Str} {L : V → List V} {v : V} {H : Hp} {Q : VK} (h : ∀ p H', Same H H' → H p = none → H' p = some (.lst (L v)) → Q (.ref p) H') : Err C f v H (ErL C f L Q) := fun d H' s n e => ⟨rfl, d, v, rfl, e, fun p H'' s2 n2 e2 => h p H'' (s.trans s2) (by
  cases g : H p with
  | none => rfl
  | some u => rw [s _ _ g] at n2; cases n2) e2⟩
theorem use_coarseE1 {C : Addr} {x y : V} {H : Hp} {Qn Q : VK} {L : V → List V} (t1 : TyV H x) (t2 : TyV H y) (h : inI x 1 64 = false) (q : ∀ p H', Same H H' → H p = none → H' p = some (.lst (L x)) → Q (.ref p) H') : spCoarseX C ([x, y] ++ []) H Qn (ErL C "value" L Q) :=
  ⟨x, y, rfl, t1, t2, fun _ => Err.erL q, fun z => by rw [h] at z; exact Bool.noConfusion z, fun n k e1 _ a b _ => by rw [e1] at h; exact absurd h (by simp [inI]; omega)⟩
theorem use_coarseE2 {C : Addr} {x y : V} {H : Hp} {Qn Q : VK} {L : V → List V} (t1 : TyV H x) (t2 : TyV H y) (h1 : inI x 1 64 = true) (h : inI y 0 5 = false) (q : ∀ p H', Same H H' → H p = none → H' p = some (.lst (L y)) → Q (.ref p) H') : spCoarseX C ([x, y] ++ []) H Qn (ErL C "value" L Q) :=
  ⟨x, y, rfl, t1, t2, fun z => by rw [h1] at z; exact Bool.noConfusion z, fun _ _ => Err.erL q, fun n k _ e2 _ _ c => by rw [e2] at h; exact absurd h (by simp [inI]; omega)⟩
theorem use_coarseE1K {C : Addr} {x y : V} {H : Hp} {Qn Q : VK} {L : V → List V} (t1 : TyV H x) (t2 : TyV H y) (h : inI x 1 64 = false) (q : ∀ p H', Same H H' → H p = none → H' p = some (.lst (L x)) → Q (.ref p) H') : spCoarseX C (kg 0 2 [1, 0] [] [y, x]) H Qn (ErL C "value" L Q) := use_coarseE1 t1 t2 h q
theorem use_coarseE2K {C : Addr} {x y : V} {H : Hp} {Qn Q : VK} {L : V → List V} (t1 : TyV H x) (t2 : TyV H y) (h1 : inI x 1 64 = true) (h : inI y 0 5 = false) (q : ∀ p H', Same H H' → H p = none → H' p = some (.lst (L y)) → Q (.ref p) H') : spCoarseX C (kg 0 2 [1, 0] [] [y, x]) H Qn (ErL C "value" L Q) := use_coarseE2 t1 t2 h1 h q
section
variable {K : PySem.W.Frag}
theorem kit_ref {C J : Addr} {b : Bool} (s : PySem.W.subIn K (.ref C) (.ref J) = some b) (n : C ≠ J) (i : PySem.W.isClsIn K J = true) (t : PySem.W.typeIn K (.ref J) = some (.type "type")) : PySem.W.kitOne K (.ref C) (.ref J) = some b := by
  unfold PySem.W.kitOne
  rw [if_neg (by simpa using n)]
  have i' : (PySem.W.clsIn K J).isSome = true := i
  show (if ((PySem.W.clsIn K J).isSome && PySem.W.typeIn K (.ref J) == some (.type "type")) = true then PySem.W.subIn K (.ref C) (.ref J) else none) = some b
  rw [i', t]
  exact s
theorem kit_type {C : Addr} {T : String} {b : Bool} (s : PySem.W.subIn K (.ref C) (.type T) = some b) (m : PySem.W.kitMeta T = true := by decide +kernel) : PySem.W.kitOne K (.ref C) (.type T) = some b := by
  unfold PySem.W.kitOne
  rw [if_neg (by simp)]
  show (if PySem.W.kitMeta T = true then PySem.W.subIn K (.ref C) (.type T) else none) = some b
  rw [if_pos m]
  exact s
end
/-- the facts of an own error class, gathered -/
theorem ec_mk {K : PySem.W.Frag} {mg : Str → Option Value} {x f : Str} {C fI N : Addr} {nm q : Str} {bs bm : List Value} {sn : List Str} {sub : List Value} {ab : Bool} {col : Option Bool} {dd : Option Addr} {m0 m1 m2 m3 m5 : Option Value}
    (g : mg x = some (.ref C)) (l : K.lookup C = some (PySem.excClassObj nm q C N bs bm true sn sub ab col dd m0 m1 m2 m3 m5 "ValueError.__new__")) (hb : PySem.HandSPX.refsVE bm = true)
    (sa : PySem.W.findIn K (.ref C) "__setattr__" = some (some (.builtin "object.__setattr__"))) (ga : PySem.W.findIn K (.ref C) "__getattribute__" = some (some (.builtin "BaseException.__getattribute__")))
    (gg : PySem.W.findIn K (.ref C) "__getattr__" = some none) (nf : PySem.W.findIn K (.ref C) f = some none) (ic : PySem.W.findIn K (.ref C) "__init__" = some (some (.ref fI))) (ti : PySem.W.typeIn K (.ref fI) = some (.type "function"))
    (ca : PySem.W.findIn K (.ref C) "__class__" = some (some (.builtin "object.__class__"))) (cn : PySem.W.specialIn K (.builtin "object.__class__") "__get__" = some (some (.builtin "getset_descriptor.__get__")))
    (ct : PySem.W.takesIn K (.builtin "object.__class__") = some true) (cm : PySem.W.mroIn K C (.type "object") = some true) (kp : PySem.W.keepIn K (.ref C) = true) (sb : PySem.W.subIn K (.ref C) (.type "BaseException") = some true)
    (tc : PySem.W.typeIn K (.ref C) = some (.type "type")) (hd : PySem.W.hasDictIn K C = true) (ss : PySem.W.subIn K (.ref C) (.ref C) = some true) : EC K mg x f C fI :=
  { o := ⟨⟨nm, q, N, bs, bm, sn, sub, ab, col, dd, m0, m1, m2, m3, m5, l, hb⟩, sa, sb, tc, kp⟩, xf := ⟨ga, gg, sb, hd⟩, ec := ⟨ga, gg, sb, hd, ca, cn, ct, cm⟩, g := g, noF := nf, te := PySem.W.exm_ref sb hd tc ss, iC := ic, tI := ti }
/-! ### the law's end: it makes lambdas -/
theorem okC {P : Program} {w : World} {K : PySem.W.Frag} {mg : Str → Option Value} {base : Heap} {x qual : Str} {st : Stmt} {f c : Addr} {N ps : List Str} {k : Nat} {sp : Sp} {oc : Value} {od an : Option Addr} {osl : Array (Option Value)} {kV doc pm ct : Value}
    (l : K.lookup f = some ⟨oc, od, .func (PySem.W.fnOf x qual (defArgs st) (defBody st) (defScope st) .none kV doc pm an (.ref c) ct), osl⟩) (hc : PySem.W.codeIn K (.ref c) qual = true) (S : FnScope N ps (defScope st)) (len : ∀ vs H Q E, sp vs H Q E → vs.length = ps.length)
    (hbody : ∀ (A : Around) (outer : List Env) (s : Shared) (H : Hp) (vs : List V) (Q : VK) (E : XK), Room k (A.deeper (envOfC qual (defScope st) s.heap.objs.size f (.ref c))) → sp vs H Q E →
      ∃ t, PSs (cxOf CX0 P w K mg base N qual (defScope st) f (.ref c) A outer s H E).nox (defBody st) t ∧ t { nx := fun _ H' => Q .non H', rt := Q } (L2.start N vs) H) :
    FnOk P w K mg base CX0 (k + 1) f (PySem.W.fnOf x qual (defArgs st) (defBody st) (defScope st) .none kV doc pm an (.ref c) ct) ps sp :=
  fn_of l hc S len fun A outer s H vs Q E hr h => by
    obtain ⟨t, h1, h2⟩ := hbody A outer s H vs Q E hr h
    exact ⟨t, h1.nox, h2⟩
theorem walk_ofTop {l : PySem.W.OpenLaw} {n k : Nat} {q : Program} {loose : List Str} {XP : (Str → Option Value) → Heap → Prop} {YP : World → Heap → Prop} {d : DefRec} {K : Params → PySem.W.Frag} {x : Str}
    (hn : l.most = some n) (hn2 : n ≤ sizeLine) (hdf : d.params.defaults = []) (hr : Room k callerA) (hY : ∀ (w : World) (h : Heap), YP w h → (K w.params).In h)
    (F : ∀ (w : World) (s0 : Shared) (mg mb : Str → Option Value) (fa : Addr) (h : Heap), PySem.W.Ground q loose [] XP w s0 mg mb h → (K w.params).In h → h.Ns mainGlobals mg → mg d.name = some (.ref fa) → LawAtS l w (K w.params) CX0 k n x mg fa h) :
    PySem.W.WalkO q loose XP YP l.row.toRowW d [] (fun f vs => PySem.call f vs) := by
  refine Att.attach_callB hn hdf fun w s0 s1 mg mb fa o pm cd doc a vs ns G Y ho hd hcd hmg hobj hints hlen hbits hg => ?_
  have KX := hY w _ Y
  obtain ⟨fd, cs, sp, hT, nT, C, hb, hsp, hF⟩ := F w s0 mg mb fa _ G KX G.T.g hmg
  exact law_callTs KX G.T.g G.T.b G.T.builtins G.T.nolimit hg hT nT C G.T.bmain hobj hints (Nat.le_trans hlen hn2) hr hF hb (fun H hH hS => hsp H a ns hlen hbits hH hS) fun H e s' z => z.elim
/-! ### the reading's steps -/
section
variable {X : Cx} {K : PySem.W.Frag} {σ : L2.St} {H : Hp} {Q : VK} {D : Ends} {n : L2.St → Hp → Prop} {r : VK} {b c : L2.St → Hp → Prop}
theorem rd_isX {C a dd : Addr} {cls : Value} {d : Option Addr} {c' : V} {cv : Value} {bb : Bool} {fs : List (Str × V)} (e1 : cls = .ref C) (e2 : d = some dd) (e3 : H dd = some (.xd fs)) (e4 : ∀ u, RelV c' u → u = cv) (k : PySem.W.kitOne K (.ref C) cv = some bb) (h : Q (.bl bb) H) : rIsX K C a cls d [.ref a, c'] H Q := ⟨c', cv, bb, dd, fs, rfl, e1, e2, e3, e4, k, h⟩
theorem rd_xf {C a : Addr} {cls : Value} {d : Option Addr} {f : Str} {te : TE} (h : te σ H fun x H1 => x = .ref a ∧ cls = .ref C ∧ ∃ (dd : Addr) (fs : List (Str × V)) (v : V), d = some dd ∧ H1 dd = some (.xd fs) ∧ fs.lookup f = some v ∧ Q v H1) : tXf a cls d C f te σ H Q := h
theorem rd_lam {T : List (Addr × Str)} {TT : (XK → Hp → VK → Prop) → Hp → VK → Prop} {t : XK → TE} (h1 : Tabs T H) (h2 : ∀ H1, ExtN H H1 → Tabs T H1 → TT (fun E H' Q' => t E σ H' Q') H1 Q) : tLam T TT t σ H Q := ⟨h1, h2⟩
theorem rd_told {C : Addr} {f : Str} {L : V → List V} {tl : XK → Hp → VK → Prop} (h : tl (ErL C f L Q) H (fun _ H' => Q .non H')) : TTnone C f L tl H Q := h
theorem rd_catG {a b : Addr} {xs ys : List V} (h1 : H a = some (.lst xs)) (h2 : H b = some (.lst ys)) (n : xs.length + ys.length ≤ 1000) (q : ∀ p, H p = none → Q (.ref p) (upd H p (.lst (xs ++ ys)))) : rCat (.ref a) (.ref b) H Q :=
  ⟨a, b, _, _, rfl, rfl, h1, h2, Nat.le_of_lt (small1000 n), fun p hp => q p hp⟩
end
end Z

/-! Tables of totals and counts. -/
namespace Z
open PySem PySem.Spec PyProof.Rows L2
def geZ : V → Bool
  | .int i => decide (0 ≤ i)
  | _ => false
def tt (u v : V) : Bool := isI u && (geZ u && inI v 1 15)
inductive TR (H : Hp) : V → Bool → Prop where
  | flat {x : V} (h : scalarV x = true) : TR H x false
  | lst {a : Addr} {xs : List V} (h : H a = some (.lst xs)) : TR H (.ref a) false
  | tupn {a : Addr} {xs : List V} (h : H a = some (.tup xs)) (n : xs.length ≠ 2) : TR H (.ref a) false
  | tup2 {a : Addr} {u v : V} (h : H a = some (.tup [u, v])) (hu : TyV H u) (hv : TyV H v) : TR H (.ref a) (tt u v)
inductive TSR (H : Hp) : V → Bool → Prop where
  | flat {x : V} (h : scalarV x = true) : TSR H x false
  | lst {a : Addr} {xs : List V} (h : H a = some (.lst xs)) : TSR H (.ref a) false
  | tupn {a : Addr} {xs : List V} (h : H a = some (.tup xs)) (n : xs.length ≠ 2) : TSR H (.ref a) false
  | tup2 {a : Addr} {u v : V} {b1 b2 : Bool} (h : H a = some (.tup [u, v])) (hu : TR H u b1) (hv : TR H v b2) : TSR H (.ref a) (b1 && b2)
def spTbl : Sp := fun vs H Q _ => ∃ x b, vs = [x] ∧ TR H x b ∧ Q (.bl b) H
theorem use_tbl {x : V} {b : Bool} {H : Hp} {Q : VK} {E : XK} (h : TR H x b) (q : Q (.bl b) H) : spTbl ([x] ++ []) H Q E := ⟨x, b, rfl, h, q⟩
def spTbls : Sp := fun vs H Q _ => ∃ x b, vs = [x] ∧ TSR H x b ∧ Q (.bl b) H
theorem use_tbls {x : V} {b : Bool} {H : Hp} {Q : VK} {E : XK} (h : TSR H x b) (q : Q (.bl b) H) : spTbls ([x] ++ []) H Q E := ⟨x, b, rfl, h, q⟩
theorem use_tblsK {x : V} {b : Bool} {H : Hp} {Q : VK} {E : XK} (h : TSR H x b) (q : Q (.bl b) H) : spTbls (kg 0 1 [0] [] [x]) H Q E := ⟨x, b, rfl, h, q⟩
theorem tt_no1 {u v : V} (h : isI u = false) : tt u v = false := by unfold tt; rw [h]; rfl
theorem tt_int {t : Int} {v : V} : tt (.int t) v = (decide (0 ≤ t) && inI v 1 15) := rfl
/-- the parameter of a table -/
def par (t c : Int) : Nat := Builtin.Int.intBits ((if 1 > (t + c - 1) / c then 1 else (t + c - 1) / c) - 1)
theorem par_spec {t c : Int} (ht : 0 ≤ t) (hc : 1 ≤ c) : (∀ j : Nat, j < par t c → c * 2 ^ j < t) ∧ t ≤ c * 2 ^ par t c := by
  have d1 := Int.mul_ediv_self_le (x := t + c - 1) (k := c) (by omega)
  have d2 : t + c - 1 < c * ((t + c - 1) / c) + c := Int.lt_mul_ediv_self_add (by omega)
  unfold par
  generalize (t + c - 1) / c = q at d1 d2 ⊢
  have key : ∃ m : Int, (if 1 > q then 1 else q) - 1 = m ∧ 0 ≤ m ∧ t ≤ c * (m + 1) ∧ (0 < m → c * m < t) := by
    by_cases h : 1 > q
    · rw [if_pos h]
      refine ⟨0, rfl, Int.le_refl _, ?_, fun z => absurd z (by decide)⟩
      have : c * q ≤ 0 := by
        have := Int.mul_le_mul_of_nonneg_left (show q ≤ 0 by omega) (show 0 ≤ c by omega)
        rw [Int.mul_zero] at this
        exact this
      omega
    · rw [if_neg h]
      refine ⟨q - 1, rfl, by omega, ?_, fun _ => ?_⟩
      · rw [show q - 1 + 1 = q by omega]; omega
      · rw [Int.mul_sub, Int.mul_one]; omega
  obtain ⟨m, e, m0, m1, m2⟩ := key
  rw [e]
  obtain ⟨n, rfl⟩ : ∃ n : Nat, m = (n : Int) := ⟨m.toNat, by omega⟩
  refine ⟨fun j hj => ?_, ?_⟩
  · have h1 : ¬ (Builtin.Int.intBits (n : Int) ≤ j) := by omega
    rw [PySem.intBits_le_iff, Int.natAbs_natCast] at h1
    have h2 : (2 ^ j : Nat) ≤ n := by omega
    have h3 : (0 : Nat) < 2 ^ j := Nat.two_pow_pos j
    have h4 : ((2 ^ j : Nat) : Int) ≤ (n : Int) := by exact_mod_cast h2
    have h5 := Int.mul_le_mul_of_nonneg_left h4 (show 0 ≤ c by omega)
    have h6 := m2 (by omega)
    have h7 : ((2 : Int) ^ j) = ((2 ^ j : Nat) : Int) := by norm_cast
    rw [h7]
    omega
  · have h1 := PySem.intBits_le_iff.mp (Nat.le_refl (Builtin.Int.intBits (n : Int)))
    rw [Int.natAbs_natCast] at h1
    generalize Builtin.Int.intBits (n : Int) = k at h1 ⊢
    have h4 : ((n : Int) + 1) ≤ ((2 ^ k : Nat) : Int) := by exact_mod_cast h1
    have h5 := Int.mul_le_mul_of_nonneg_left h4 (show 0 ≤ c by omega)
    have h7 : ((2 : Int) ^ k) = ((2 ^ k : Nat) : Int) := by norm_cast
    rw [h7]
    omega
theorem par_le {t c : Int} (ht : 0 ≤ t) (hc : 1 ≤ c) (hb : t < 10 ^ 60) (hc2 : c ≤ 15) : par t c ≤ 300 := by
  have d1 := Int.mul_ediv_self_le (x := t + c - 1) (k := c) (by omega)
  unfold par
  rw [PySem.intBits_le_iff]
  have e : (10 : Int) ^ 60 + 20 < 2 ^ 300 := by decide
  have q0 : 0 ≤ (t + c - 1) / c := Int.ediv_nonneg (by omega) (by omega)
  have q1 : (t + c - 1) / c ≤ t + c - 1 := Int.ediv_le_self _ (by omega)
  generalize (t + c - 1) / c = q at q0 q1 ⊢
  have e2 : ((2 ^ 300 : Nat) : Int) = 2 ^ 300 := by norm_cast
  split <;> omega
/-- drawn rows: drawn values, their numbers not too long -/
def smallV : V → Prop
  | .int i => i.natAbs < 10 ^ 58
  | _ => True
def RV (p : Addr) (H : Hp) (v : V) : Prop := scalarV v = true ∨ ∃ a xs, v = .ref a ∧ a ≠ p ∧ (H a = some (.lst xs) ∨ H a = some (.tup xs)) ∧ (∀ x ∈ xs, scalarV x = true) ∧ ∀ x ∈ xs, smallV x
section
variable {p : Addr} {H H' : Hp} {v : V}
theorem RV.dv (h : RV p H v) : DV p H v := by
  rcases h with h | ⟨a, xs, e, n, h, s, _⟩
  · exact .inl h
  · exact .inr ⟨a, xs, e, n, h, s⟩
theorem RV.kpn (k : KpN p H H') (h : RV p H v) : RV p H' v := by
  rcases h with h | ⟨a, xs, e, n, h | h, s, t⟩
  · exact .inl h
  · exact .inr ⟨a, xs, e, n, .inl (k _ _ n h lst_ntbl), s, t⟩
  · exact .inr ⟨a, xs, e, n, .inr (k _ _ n h tup_ntbl), s, t⟩
theorem RV.sc (h : scalarV v = true) : RV p H v := .inl h
theorem RV.lst {a : Addr} {xs : List V} (n : a ≠ p) (h : H a = some (.lst xs)) (s : ∀ x ∈ xs, scalarV x = true) (t : ∀ x ∈ xs, smallV x) : RV p H (.ref a) := .inr ⟨a, xs, rfl, n, .inl h, s, t⟩
theorem RV.tup {a : Addr} {xs : List V} (n : a ≠ p) (h : H a = some (.tup xs)) (s : ∀ x ∈ xs, scalarV x = true) (t : ∀ x ∈ xs, smallV x) : RV p H (.ref a) := .inr ⟨a, xs, rfl, n, .inr h, s, t⟩
theorem flat_ty {x : V} (h : scalarV x = true) : TyV H x := by cases x <;> first | exact True.intro | exact Bool.noConfusion h
/-- what a drawn row is as a table: no table, or two numbers in their limits -/
theorem RV.tr (h : RV p H v) : ∃ b, TR H v b ∧ (b = true → ∃ a t c, v = .ref a ∧ H a = some (.tup [.int t, .int c]) ∧ 0 ≤ t ∧ t < 10 ^ 60 ∧ 1 ≤ c ∧ c ≤ 15) := by
  rcases h with h | ⟨a, xs, rfl, n, h | h, s, t⟩
  · exact ⟨false, .flat h, fun z => Bool.noConfusion z⟩
  · exact ⟨false, .lst h, fun z => Bool.noConfusion z⟩
  · by_cases hl : xs.length = 2
    · obtain ⟨u, w, rfl⟩ := len2 hl
      have su := s u (by simp)
      have sw := s w (by simp)
      refine ⟨_, .tup2 h (flat_ty su) (flat_ty sw), fun z => ?_⟩
      unfold tt at z
      simp only [Bool.and_eq_true] at z
      obtain ⟨z1, z2, z3⟩ := z
      obtain ⟨i, rfl⟩ := isI_yes z1
      obtain ⟨j, rfl, j1, j2⟩ := inI_yes z3
      have hi : i.natAbs < 10 ^ 58 := t (.int i) (by simp)
      have h0 : 0 ≤ i := of_decide_eq_true z2
      exact ⟨a, i, j, rfl, h, h0, by omega, j1, j2⟩
    · exact ⟨false, .tupn h hl, fun z => Bool.noConfusion z⟩
theorem RV.ne {a : Addr} (h : RV p H (.ref a)) : a ≠ p := by
  rcases h with h | ⟨b, xs, e, n, _⟩
  · exact Bool.noConfusion h
  · cases e
    exact n
theorem RV.tsr (h : RV p H v) : TSR H v false := by
  rcases h with h | ⟨a, xs, rfl, n, h | h, s, t⟩
  · exact .flat h
  · exact .lst h
  · by_cases hl : xs.length = 2
    · obtain ⟨u, w, rfl⟩ := len2 hl
      exact .tup2 (b1 := false) (b2 := false) h (.flat (s u (by simp))) (.flat (s w (by simp)))
    · exact .tupn h hl
theorem RV.tr_keep {b : Bool} (r : RV p H v) (k : KpN p H H') (h : TR H v b) : TR H' v b := by
  rcases r with r | ⟨a, xs, rfl, n, r | r, s, t⟩
  · cases h with
    | flat h => exact .flat h
    | lst h => exact Bool.noConfusion r
    | tupn h n => exact Bool.noConfusion r
    | tup2 h hu hv => exact Bool.noConfusion r
  · cases h with
    | flat h => exact Bool.noConfusion h
    | lst h => exact .lst (k _ _ n h lst_ntbl)
    | tupn h n2 => rw [r] at h; cases h
    | tup2 h hu hv => rw [r] at h; cases h
  · cases h with
    | flat h => exact Bool.noConfusion h
    | lst h => rw [r] at h; cases h
    | tupn h n2 => exact .tupn (k _ _ n h tup_ntbl) n2
    | tup2 h hu hv =>
      have e := r.symm.trans h
      cases e
      exact .tup2 (k _ _ n h tup_ntbl) (flat_ty (s _ (by simp))) (flat_ty (s _ (by simp)))
end
theorem and_cut {Q : VK} {H : Hp} {b1 b2 : Bool} {T : Prop} (hT : Q (.bl b2) H → T) (hq : Q (.bl (b1 && b2)) H) : ∃ c, V.bl b1 = .bl c ∧ if c = true then T else Q (.bl false) H := by
  cases b1
  · exact ⟨false, rfl, iteF hq⟩
  · exact ⟨true, rfl, iteT (hT hq)⟩
theorem tupV_K {K : PySem.W.Frag} {a : Addr} {od : Option Addr} {its : Array Value} {n : Nat} {sl : Array (Option Value)} {xs : List V} (l : K.lookup a = some ⟨.type "tuple", od, .seq its n, sl⟩) (hs : its.size ≤ sizeLine) (hv : Vals xs its.toList) : ∀ H, TupV K H a xs := fun H => ⟨seqT_K l hs hv H, .kTuple l rfl⟩
theorem sm_start {K : PySem.W.Frag} {H : Hp} {a t0 t1 b u0 u1 : Addr} (h : TupV K H a [.ref t0, .ref t1]) (h0 : TupV K H t0 [.int 2, .int 1]) (h1 : TupV K H t1 [.int 2, .int 1]) (g : H b = some (.tup [.ref u0, .ref u1])) (g0 : H u0 = some (.tup [.int 2, .int 1])) (g1 : H u1 = some (.tup [.int 2, .int 1])) : SmV K H 2 (.ref a) (.ref b) := by
  have flat : ∀ (i : Nat) (x y : V), ([.int 2, .int 1] : List V)[i]? = some x → ([.int 2, .int 1] : List V)[i]? = some y → SmV K H 0 x y := fun i x y e1 e2 => by
    rcases i with _ | _ | i
    · cases e1; cases e2; exact ⟨rfl, rfl⟩
    · cases e1; cases e2; exact ⟨rfl, rfl⟩
    · simp at e1
  refine .inr (.inr ⟨a, b, _, _, rfl, rfl, h, .of g, rfl, fun i x y e1 e2 => ?_⟩)
  rcases i with _ | _ | i
  · cases e1; cases e2
    exact .inr (.inr ⟨_, _, _, _, rfl, rfl, h0, .of g0, rfl, flat⟩)
  · cases e1; cases e2
    exact .inr (.inr ⟨_, _, _, _, rfl, rfl, h1, .of g1, rfl, flat⟩)
  · simp at e1
def spRow : Sp := fun vs H Q _ => ∃ p, vs = [.ref p] ∧ Pool H p ∧ ∀ v H', RV p H' v → Pool H' p → Kp p H H' → Q v H'
theorem use_row {p : Addr} {H : Hp} {Q : VK} {E : XK} (h : Pool H p) (q : ∀ v H', RV p H' v → Pool H' p → Kp p H H' → Q v H') : spRow ([.ref p] ++ []) H Q E := ⟨p, rfl, h, q⟩
/-- parameter: of a table its parameter, else an error with what was given -/
def spPar (C : Addr) : Sp := fun vs H Q E => ∃ x b, vs = [x] ∧ TR H x b ∧ (b = false → Err C "value" x H E) ∧ ∀ a t c, x = .ref a → H a = some (.tup [.int t, .int c]) → 0 ≤ t → 1 ≤ c → c ≤ 15 → Q (.int (par t c : Nat)) H
theorem use_parE {C : Addr} {x : V} {H : Hp} {Qn Q : VK} {L : V → List V} (h : TR H x false) (q : ∀ p H', Same H H' → H p = none → H' p = some (.lst (L x)) → Q (.ref p) H') : spPar C ([x] ++ []) H Qn (ErL C "value" L Q) :=
  ⟨x, false, rfl, h, fun _ => Err.erL q, fun a t c e1 e2 h0 h1 h2 => by
    exfalso
    subst e1
    generalize hb : false = b at h
    cases h with
    | flat h => exact Bool.noConfusion h
    | lst h => rw [e2] at h; cases h
    | tupn h n => rw [e2] at h; cases h; exact n rfl
    | tup2 h hu hv =>
      rw [e2] at h
      cases h
      rw [tt_int, decide_eq_true h0] at hb
      simp [inI, h1, h2] at hb⟩
theorem use_parK {C : Addr} {a : Addr} {t c : Int} {H : Hp} {Q : VK} {E : XK} (h : H a = some (.tup [.int t, .int c])) (h0 : 0 ≤ t) (h1 : 1 ≤ c) (h2 : c ≤ 15) (q : Q (.int (par t c : Nat)) H) : spPar C (kg 0 1 [0] [] [.ref a]) H Q E :=
  ⟨.ref a, _, rfl, .tup2 h trivial trivial, fun z => by rw [tt_int, decide_eq_true h0] at z; simp [inI, h1, h2] at z, fun a' t' c' e1 e2 _ _ _ => by
    have e := V.ref.inj e1
    subst e
    rw [h] at e2
    cases e2
    exact q⟩
section
variable {K : PySem.W.Frag} {σ : L2.St} {H : Hp} {Q : VK}
theorem rd_bits {te : TE} (h : te σ H fun x H1 => ∃ i, x = .int i ∧ Q (.int (Builtin.Int.intBits i : Nat)) H1) : tBits te σ H Q := h
theorem rd_lstP {p : Addr} {xs : List V} {i : Int} (Pm : V → Prop) (e : H p = some (.lst xs)) (h0 : 0 ≤ i) (h1 : i < xs.length) (hP : ∀ v ∈ xs, Pm v) (h : ∀ v, Pm v → Q v H) : rIxL K (.ref p) (.int i) H Q := rd_ixP Pm (SqL.of e) h0 h1 hP h
end
end Z

/-! Folding whole lists. -/
namespace Z
open PySem PySem.Spec PyProof.Rows L2
/-- joints: place, width, shape -/
abbrev Jo := Nat × Nat × Nat
/-- the steps of a folding: shape, left, right -/
def prs1 (j : Jo) (i : Nat) : List (Nat × Nat × Nat) := (List.range i).map fun i => (j.2.2, j.1 - 1 - i, j.1 + i)
def prs (js : List Jo) : List (Nat × Nat × Nat) := js.flatMap fun j => prs1 j j.2.1
def stp (f : Int → Int → Int → Int × Int) (xs : List Int) (t : Nat × Nat × Nat) : List Int := (xs.set t.2.1 (f t.1 (xs.getD t.2.1 0) (xs.getD t.2.2 0)).1).set t.2.2 (f t.1 (xs.getD t.2.1 0) (xs.getD t.2.2 0)).2
def turnL (f : Int → Int → Int → Int × Int) (xs : List Int) (js : List Jo) : List Int := (prs js).foldl (stp f) xs
/-- the joints have room: behind the place b of a joint of the width wb, in a list of n values -/
def Rm (n : Nat) : Nat → Nat → List Jo → Prop
  | _, _, [] => True
  | b, wb, j :: r => b < j.1 ∧ j.1 < n ∧ b + wb + j.2.1 ≤ j.1 ∧ j.1 + j.2.1 ≤ n ∧ j.2.1 ≤ 8 ∧ j.2.2 ≤ 3 ∧ (j.2.1 = 0 → j.2.2 = 0) ∧ Rm n j.1 j.2.1 r
/-- triples apart -/
def Ap (n : Nat) (ts : List (Nat × Nat × Nat)) : Prop := (∀ t ∈ ts, t.2.1 < n ∧ t.2.2 < n ∧ t.2.1 ≠ t.2.2) ∧ ts.Pairwise fun t u => t.2.1 ≠ u.2.1 ∧ t.2.1 ≠ u.2.2 ∧ t.2.2 ≠ u.2.1 ∧ t.2.2 ≠ u.2.2
theorem stp_length {f : Int → Int → Int → Int × Int} {xs : List Int} {t : Nat × Nat × Nat} : (stp f xs t).length = xs.length := by simp [stp]
theorem foldl_length {f : Int → Int → Int → Int × Int} : ∀ (ts : List (Nat × Nat × Nat)) (xs : List Int), (ts.foldl (stp f) xs).length = xs.length
  | [], _ => rfl
  | t :: r, xs => by rw [List.foldl_cons, foldl_length r, stp_length]
theorem turnL_length {f : Int → Int → Int → Int × Int} {xs : List Int} {js : List Jo} : (turnL f xs js).length = xs.length := foldl_length _ _
theorem stp_out {f : Int → Int → Int → Int × Int} {xs : List Int} {t : Nat × Nat × Nat} {k : Nat} (h1 : t.2.1 ≠ k) (h2 : t.2.2 ≠ k) : (stp f xs t)[k]? = xs[k]? := by
  unfold stp
  rw [List.getElem?_set_ne h2, List.getElem?_set_ne h1]
theorem get_out {f : Int → Int → Int → Int × Int} : ∀ (ts : List (Nat × Nat × Nat)) (xs : List Int) (k : Nat), (∀ t ∈ ts, t.2.1 ≠ k ∧ t.2.2 ≠ k) → (ts.foldl (stp f) xs)[k]? = xs[k]?
  | [], _, _, _ => rfl
  | t :: r, xs, k, h => by
    rw [List.foldl_cons, get_out r _ k fun u hu => h u (List.mem_cons_of_mem _ hu), stp_out (h t List.mem_cons_self).1 (h t List.mem_cons_self).2]
theorem getD_of {xs ys : List Int} {k : Nat} (h : xs[k]? = ys[k]?) : xs.getD k 0 = ys.getD k 0 := by
  rw [List.getD_eq_getElem?_getD, List.getD_eq_getElem?_getD, h]
theorem get_in {f : Int → Int → Int → Int × Int} {n : Nat} : ∀ (ts : List (Nat × Nat × Nat)) (xs : List Int), xs.length = n → Ap n ts → ∀ t ∈ ts,
    (ts.foldl (stp f) xs)[t.2.1]? = some (f t.1 (xs.getD t.2.1 0) (xs.getD t.2.2 0)).1 ∧ (ts.foldl (stp f) xs)[t.2.2]? = some (f t.1 (xs.getD t.2.1 0) (xs.getD t.2.2 0)).2
  | [], _, _, _, t, h => absurd h List.not_mem_nil
  | u :: r, xs, hn, ⟨h1, h2⟩, t, ht => by
    obtain ⟨h3, h4⟩ := List.pairwise_cons.mp h2
    have hu := h1 u List.mem_cons_self
    rw [List.foldl_cons]
    rcases List.mem_cons.mp ht with rfl | ht
    · rw [get_out r _ _ fun v hv => ⟨(h3 v hv).1.symm, (h3 v hv).2.1.symm⟩, get_out r _ _ fun v hv => ⟨(h3 v hv).2.2.1.symm, (h3 v hv).2.2.2.symm⟩]
      unfold stp
      refine ⟨?_, ?_⟩
      · rw [List.getElem?_set_ne (Ne.symm hu.2.2), List.getElem?_set_self (by omega)]
      · rw [List.getElem?_set_self (by rw [List.length_set]; omega)]
    · have ih := get_in (f := f) r (stp f xs u) (by rw [stp_length, hn]) ⟨fun v hv => h1 v (List.mem_cons_of_mem _ hv), h4⟩ t ht
      have a := h3 t ht
      rw [getD_of (stp_out (f := f) (xs := xs) a.1 a.2.2.1), getD_of (stp_out (f := f) (xs := xs) a.2.1 a.2.2.2)] at ih
      exact ih
theorem prs_snoc (js : List Jo) (j : Jo) : prs (js ++ [j]) = prs js ++ prs1 j j.2.1 := by simp [prs]
theorem prs1_succ (j : Jo) (i : Nat) : prs1 j (i + 1) = prs1 j i ++ [(j.2.2, j.1 - 1 - i, j.1 + i)] := by simp [prs1, List.range_succ]
theorem mem_prs1 {j : Jo} {i : Nat} {t : Nat × Nat × Nat} : t ∈ prs1 j i ↔ ∃ k, k < i ∧ t = (j.2.2, j.1 - 1 - k, j.1 + k) := by
  simp only [prs1, List.mem_map, List.mem_range]
  exact ⟨fun ⟨k, h, e⟩ => ⟨k, h, e.symm⟩, fun ⟨k, h, e⟩ => ⟨k, h, e.symm⟩⟩
/-- each step lies within its joint's room -/
theorem rm_mem {n : Nat} : ∀ (js : List Jo) (b wb : Nat), Rm n b wb js → ∀ t ∈ prs js, b + wb ≤ t.2.1 ∧ t.2.1 < t.2.2 ∧ t.2.2 < n
  | [], _, _, _, t, h => absurd h List.not_mem_nil
  | j :: r, b, wb, ⟨a1, a2, a3, a4, a5, a6, a7, a8⟩, t, h => by
    have e : prs (j :: r) = prs1 j j.2.1 ++ prs r := by simp [prs]
    rw [e] at h
    rcases List.mem_append.mp h with h | h
    · obtain ⟨k, hk, rfl⟩ := mem_prs1.mp h
      dsimp only
      omega
    · have := rm_mem r j.1 j.2.1 a8 t h
      omega
theorem rm_ap {n : Nat} : ∀ (js : List Jo) (b wb : Nat), Rm n b wb js → Ap n (prs js)
  | [], _, _, _ => ⟨fun t h => absurd h List.not_mem_nil, List.Pairwise.nil⟩
  | j :: r, b, wb, h => by
    have hm := rm_mem (j :: r) b wb h
    refine ⟨fun t ht => ?_, ?_⟩
    · have := hm t ht
      omega
    · obtain ⟨a1, a2, a3, a4, a5, a6, a7, a8⟩ := h
      have e : prs (j :: r) = prs1 j j.2.1 ++ prs r := by simp [prs]
      rw [e]
      refine List.pairwise_append.mpr ⟨?_, (rm_ap r j.1 j.2.1 a8).2, fun t ht u hu => ?_⟩
      · unfold prs1
        refine List.pairwise_map.mpr (List.Pairwise.imp_of_mem (fun {x y} hx hy hxy => ?_) (List.nodup_range))
        have hx' := List.mem_range.mp hx
        have hy' := List.mem_range.mp hy
        dsimp only
        omega
      · obtain ⟨k, hk, rfl⟩ := mem_prs1.mp ht
        have := rm_mem r j.1 j.2.1 a8 u hu
        dsimp only
        omega
/-- the place that is folded with a place -/
def prt : List Jo → Nat → Option Nat
  | [], _ => none
  | j :: r, k => if j.1 ≤ k + j.2.1 ∧ k < j.1 + j.2.1 then some (2 * j.1 - 1 - k) else prt r k
theorem prt_none : ∀ (js : List Jo) (k : Nat), prt js k = none → (∀ j ∈ js, j.2.1 ≤ j.1) → ∀ t ∈ prs js, t.2.1 ≠ k ∧ t.2.2 ≠ k
  | [], _, _, _, t, h => absurd h List.not_mem_nil
  | j :: r, k, hp, hw, t, h => by
    have e : prs (j :: r) = prs1 j j.2.1 ++ prs r := by simp [prs]
    rw [e] at h
    unfold prt at hp
    split at hp
    · cases hp
    · rename_i c
      rcases List.mem_append.mp h with h | h
      · obtain ⟨i, hi, rfl⟩ := mem_prs1.mp h
        have := hw j List.mem_cons_self
        dsimp only
        omega
      · exact prt_none r k hp (fun j hj => hw j (List.mem_cons_of_mem _ hj)) t h
theorem prt_some : ∀ (js : List Jo) (k m : Nat), prt js k = some m → (∀ j ∈ js, j.2.1 ≤ j.1 ∧ 0 < j.1) → ∃ t ∈ prs js, (t.2.1 = k ∧ t.2.2 = m) ∨ (t.2.2 = k ∧ t.2.1 = m)
  | [], _, _, h, _ => by cases h
  | j :: r, k, m, hp, hw => by
    have e : prs (j :: r) = prs1 j j.2.1 ++ prs r := by simp [prs]
    have hj := hw j List.mem_cons_self
    unfold prt at hp
    split at hp
    · rename_i c
      have em := Option.some.inj hp
      by_cases c2 : k < j.1
      · refine ⟨(j.2.2, j.1 - 1 - (j.1 - 1 - k), j.1 + (j.1 - 1 - k)), by rw [e]; exact List.mem_append_left _ (mem_prs1.mpr ⟨j.1 - 1 - k, by omega, rfl⟩), .inl ⟨?_, ?_⟩⟩
        · dsimp only; omega
        · dsimp only; omega
      · refine ⟨(j.2.2, j.1 - 1 - (k - j.1), j.1 + (k - j.1)), by rw [e]; exact List.mem_append_left _ (mem_prs1.mpr ⟨k - j.1, by omega, rfl⟩), .inr ⟨?_, ?_⟩⟩
        · dsimp only; omega
        · dsimp only; omega
    · obtain ⟨t, ht, q⟩ := prt_some r k m hp fun j hj => hw j (List.mem_cons_of_mem _ hj)
      exact ⟨t, by rw [e]; exact List.mem_append_right _ ht, q⟩
theorem prt_of {n : Nat} : ∀ (js : List Jo) (b wb : Nat), Rm n b wb js → ∀ t ∈ prs js, prt js t.2.1 = some t.2.2 ∧ prt js t.2.2 = some t.2.1
  | [], _, _, _, t, h => absurd h List.not_mem_nil
  | j :: r, b, wb, ⟨a1, a2, a3, a4, a5, a6, a7, a8⟩, t, h => by
    have e : prs (j :: r) = prs1 j j.2.1 ++ prs r := by simp [prs]
    rw [e] at h
    rcases List.mem_append.mp h with h | h
    · obtain ⟨i, hi, rfl⟩ := mem_prs1.mp h
      dsimp only
      refine ⟨?_, ?_⟩
      · unfold prt
        rw [if_pos (by omega)]
        congr 1
        omega
      · unfold prt
        rw [if_pos (by omega)]
        congr 1
        omega
    · have ih := prt_of r j.1 j.2.1 a8 t h
      have hm := rm_mem r j.1 j.2.1 a8 t h
      refine ⟨?_, ?_⟩
      · unfold prt
        rw [if_neg (by omega)]
        exact ih.1
      · unfold prt
        rw [if_neg (by omega)]
        exact ih.2
theorem rm_all {n : Nat} : ∀ (js : List Jo) (b wb : Nat), Rm n b wb js → ∀ j ∈ js, j.2.1 ≤ j.1 ∧ 0 < j.1
  | [], _, _, _, j, h => absurd h List.not_mem_nil
  | k :: r, b, wb, ⟨a1, a2, a3, a4, a5, a6, a7, a8⟩, j, h => by
    rcases List.mem_cons.mp h with rfl | h
    · omega
    · exact rm_all r k.1 k.2.1 a8 j h
theorem turn_none {f : Int → Int → Int → Int × Int} {n k : Nat} {xs : List Int} {js : List Jo} (h : Rm n 0 0 js) (hp : prt js k = none) : (turnL f xs js)[k]? = xs[k]? :=
  get_out _ _ _ (prt_none js k hp fun j hj => (rm_all js 0 0 h j hj).1)
/-- a value changed: all places stay but this one and the other one of its pair -/
theorem turn_apart {f : Int → Int → Int → Int × Int} {n k c : Nat} {xs : List Int} {js : List Jo} {z : Int} (hn : xs.length = n) (h : Rm n 0 0 js) (h1 : k ≠ c) (h2 : prt js c ≠ some k) : (turnL f xs js)[k]? = (turnL f (xs.set c z) js)[k]? := by
  cases e : prt js k with
  | none => rw [turn_none h e, turn_none h e, List.getElem?_set_ne (Ne.symm h1)]
  | some m =>
    obtain ⟨t, ht, q⟩ := prt_some js k m e (rm_all js 0 0 h)
    obtain ⟨p1, p2⟩ := prt_of js 0 0 h t ht
    have g1 := get_in (f := f) (prs js) xs hn (rm_ap js 0 0 h) t ht
    have g2 := get_in (f := f) (prs js) (xs.set c z) (by rw [List.length_set, hn]) (rm_ap js 0 0 h) t ht
    have hc : t.2.1 ≠ c ∧ t.2.2 ≠ c := by
      rcases q with ⟨q1, q2⟩ | ⟨q1, q2⟩
      · refine ⟨fun z => h1 (by omega), fun z => ?_⟩
        rw [z] at p2
        exact h2 (by rw [p2, q1])
      · refine ⟨fun z => ?_, fun z => h1 (by omega)⟩
        rw [z] at p1
        exact h2 (by rw [p1, q1])
    have e1 : (xs.set c z).getD t.2.1 0 = xs.getD t.2.1 0 := getD_of (List.getElem?_set_ne (Ne.symm hc.1))
    have e2 : (xs.set c z).getD t.2.2 0 = xs.getD t.2.2 0 := getD_of (List.getElem?_set_ne (Ne.symm hc.2))
    rw [e1, e2] at g2
    show ((prs js).foldl (stp f) xs)[k]? = ((prs js).foldl (stp f) (xs.set c z))[k]?
    rcases q with ⟨q1, q2⟩ | ⟨q1, q2⟩
    · rw [← q1, g1.1, g2.1]
    · rw [← q1, g1.2, g2.2]
/-- the joint before the i-th one -/
def bef (b wb : Nat) : List Jo → Nat → Nat × Nat
  | _, 0 => (b, wb)
  | [], _ + 1 => (0, 0)
  | j :: r, i + 1 => bef j.1 j.2.1 r i
theorem rm_at {n : Nat} : ∀ (js : List Jo) (b wb : Nat), Rm n b wb js → ∀ (i : Nat) (j : Jo), js[i]? = some j → (bef b wb js i).1 < j.1 ∧ j.1 < n ∧ (bef b wb js i).1 + (bef b wb js i).2 + j.2.1 ≤ j.1 ∧ j.1 + j.2.1 ≤ n ∧ j.2.1 ≤ 8 ∧ j.2.2 ≤ 3 ∧ (j.2.1 = 0 → j.2.2 = 0)
  | [], _, _, _, i, j, h => by simp at h
  | k :: r, b, wb, ⟨a1, a2, a3, a4, a5, a6, a7, a8⟩, 0, j, h => by
    have e : k = j := Option.some.inj h
    subst e
    exact ⟨a1, a2, a3, a4, a5, a6, a7⟩
  | k :: r, b, wb, ⟨a1, a2, a3, a4, a5, a6, a7, a8⟩, i + 1, j, h => rm_at r k.1 k.2.1 a8 i j h
theorem bef_succ : ∀ (js : List Jo) (b wb i : Nat) (j : Jo), js[i]? = some j → bef b wb js (i + 1) = (j.1, j.2.1)
  | [], _, _, i, j, h => by simp at h
  | k :: r, b, wb, 0, j, h => by
    have e : k = j := Option.some.inj h
    subst e
    cases r <;> rfl
  | k :: r, b, wb, i + 1, j, h => bef_succ r k.1 k.2.1 i j h
/-! ### joints in the heap -/
def JsAt (H : Hp) (vs : List V) (js : List Jo) : Prop := vs.length = js.length ∧ ∀ (i : Nat) (v : V), vs[i]? = some v → ∃ (j : Jo) (a q : Addr), js[i]? = some j ∧ v = .ref a ∧ H a = some (.tup [.int (j.1 : Nat), .ref q]) ∧ H q = some (.tup [.int (j.2.1 : Nat), .int (j.2.2 : Nat)])
theorem JsAt.kp {p : Addr} {H H' : Hp} {vs : List V} {js : List Jo} (k : Kp p H H') (hp : ∃ xs, H p = some (.lst xs)) (h : JsAt H vs js) : JsAt H' vs js := ⟨h.1, fun i v e => by
  obtain ⟨j, a, q, e1, e2, e3, e4⟩ := h.2 i v e
  obtain ⟨xs, hp⟩ := hp
  exact ⟨j, a, q, e1, e2, k _ _ (fun z => by rw [z, hp] at e3; cases e3) e3, k _ _ (fun z => by rw [z, hp] at e4; cases e4) e4⟩⟩
theorem JsAt.same {H H' : Hp} {vs : List V} {js : List Jo} (k : Same H H') (h : JsAt H vs js) : JsAt H' vs js := ⟨h.1, fun i v e => by
  obtain ⟨j, a, q, e1, e2, e3, e4⟩ := h.2 i v e
  exact ⟨j, a, q, e1, e2, k _ _ e3, k _ _ e4⟩⟩
theorem jt_ok {j : Jo} (h1 : j.2.1 ≤ 8) (h2 : j.2.2 ≤ 3) (h3 : j.2.1 = 0 → j.2.2 = 0) : jt (.int (j.2.1 : Nat)) (.int (j.2.2 : Nat)) = true := by
  show (decide _ && (decide _ && (decide _ || decide _))) = true
  rw [decide_eq_true (by omega), decide_eq_true (by omega)]
  by_cases h : j.2.1 = 0
  · rw [h3 h, h]; rfl
  · rw [decide_eq_true (show (0 : Int) < (j.2.1 : Nat) by omega)]; rfl
def spSound : Sp := fun vs H Q _ => ∃ (a : Addr) (ns : List Int), vs = [.ref a] ∧ H a = some (.lst (ns.map V.int)) ∧ ∀ H', Same H H' → Q .non H'
theorem use_sound {a : Addr} {ns : List Int} {H : Hp} {Q : VK} {E : XK} (h : H a = some (.lst (ns.map V.int))) (q : ∀ H', Same H H' → Q .non H') : spSound ([.ref a] ++ []) H Q E := ⟨a, ns, rfl, h, q⟩
def spPlaced : Sp := fun vs H Q _ => ∃ (a q : Addr) (j : Jo), vs = [.ref a] ∧ H a = some (.tup [.int (j.1 : Nat), .ref q]) ∧ H q = some (.tup [.int (j.2.1 : Nat), .int (j.2.2 : Nat)]) ∧ j.2.1 ≤ 8 ∧ j.2.2 ≤ 3 ∧ (j.2.1 = 0 → j.2.2 = 0) ∧ Q (.bl true) H
def spRoom : Sp := fun vs H Q _ => ∃ (a q : Addr) (j : Jo) (b wb n : Nat), vs = [.ref a, .int (b : Nat), .int (wb : Nat), .int (n : Nat)] ∧ H a = some (.tup [.int (j.1 : Nat), .ref q]) ∧ H q = some (.tup [.int (j.2.1 : Nat), .int (j.2.2 : Nat)]) ∧ b < j.1 ∧ j.1 < n ∧ b + wb + j.2.1 ≤ j.1 ∧ j.1 + j.2.1 ≤ n ∧ Q (.bl true) H
def spJoints : Sp := fun vs H Q _ => ∃ (a : Addr) (refs : List V) (js : List Jo) (n : Nat), vs = [.ref a, .int (n : Nat)] ∧ H a = some (.lst refs) ∧ JsAt H refs js ∧ Rm n 0 0 js ∧ ∀ H', Same H H' → Q .non H'
theorem use_joints {a : Addr} {refs : List V} {js : List Jo} {n : Nat} {H : Hp} {Q : VK} {E : XK} (h1 : H a = some (.lst refs)) (h2 : JsAt H refs js) (h3 : Rm n 0 0 js) (q : ∀ H', Same H H' → Q .non H') : spJoints ([.ref a, .int (n : Nat)] ++ []) H Q E := ⟨a, refs, js, n, rfl, h1, h2, h3, q⟩
def spTurned (f : Int → Int → Int → Int × Int) (g : Addr) : Sp := fun vs H Q _ => ∃ (a b : Addr) (xs : List Int) (refs : List V) (js : List Jo), vs = [.ref a, .ref b, .ref g] ∧ H a = some (.lst (xs.map V.int)) ∧ H b = some (.lst refs) ∧ JsAt H refs js ∧ Rm xs.length 0 0 js ∧ xs.length ≤ 100 ∧
  ∀ p H', H p = none → Same H H' → H' p = some (.lst ((turnL f xs js).map V.int)) → Q (.ref p) H'
def spFolds (f : Int → Int → Int → Int × Int) : Sp := fun vs H Q _ => ∃ (a b : Addr) (xs : List Int) (refs : List V) (js : List Jo), vs = [.ref a, .ref b] ∧ H a = some (.lst (xs.map V.int)) ∧ H b = some (.lst refs) ∧ JsAt H refs js ∧ Rm xs.length 0 0 js ∧ xs.length ≤ 100 ∧
  ∀ p H', H p = none → Same H H' → H' p = some (.lst ((turnL f xs js).map V.int)) → Q (.ref p) H'
theorem use_folds {f : Int → Int → Int → Int × Int} {a b : Addr} {xs : List Int} {refs : List V} {js : List Jo} {H : Hp} {Q : VK} {E : XK} (h1 : H a = some (.lst (xs.map V.int))) (h2 : H b = some (.lst refs)) (h3 : JsAt H refs js) (h4 : Rm xs.length 0 0 js) (h5 : xs.length ≤ 100)
    (q : ∀ p H', H p = none → Same H H' → H' p = some (.lst ((turnL f xs js).map V.int)) → Q (.ref p) H') : spFolds f ([.ref a, .ref b] ++ []) H Q E := ⟨a, b, xs, refs, js, rfl, h1, h2, h3, h4, h5, q⟩
theorem rd_callL {σ : L2.St} {H : Hp} {Q : VK} {i : Nat} {f : Addr} {sp : Sp} {dvs : List V} {E : XK} {t : TA} (e : σ[i]? = some (some (.ref f))) (h : t σ H fun vs H1 => sp (vs ++ dvs) H1 Q E) : tCallL i f sp dvs E t σ H Q := ⟨e, h⟩
theorem map_stp {f : Int → Int → Int → Int × Int} {ys : List Int} {t : Nat × Nat × Nat} : ((ys.map V.int).set t.2.1 (.int (f t.1 (ys.getD t.2.1 0) (ys.getD t.2.2 0)).1)).set t.2.2 (.int (f t.1 (ys.getD t.2.1 0) (ys.getD t.2.2 0)).2) = (stp f ys t).map V.int := by
  unfold stp
  rw [List.map_set, List.map_set]
theorem at_getD {ys : List Int} {l : Nat} {z : Int} (h : l < ys.length) (e : z = (l : Int)) : atI (ys.map V.int) z = some (.int (ys.getD l 0)) := by
  rw [e]
  refine at_ints ?_
  rw [List.getD_eq_getElem?_getD, List.getElem?_eq_getElem h]
  rfl
theorem ix_of {n l : Nat} {z : Int} (h : l < n) (e : z = (l : Int)) : ixN n z = some l := by
  rw [e]
  exact ixN_nat h
section
variable {K : PySem.W.Frag} {H : Hp} {Q : VK}
theorem isiT_lst {a t : Addr} {xs : List V} (h : H a = some (.lst xs)) (ht : H t = some (.tup [.ty "list", .ty "tuple"])) (q : Q (.bl true) H) : rIsiT K [.ref a, .ref t] H Q :=
  ⟨.ref a, t, _, .type "list", [.type "list", .type "tuple"], true, rfl, ht, .cons (.ty "list") (.cons (.ty "tuple") .nil), .base (.lst h), rfl, q⟩
end
theorem bef_end : ∀ (js : List Jo) (b wb : Nat) (j : Jo), bef b wb (js ++ [j]) (js ++ [j]).length = (j.1, j.2.1) := fun js b wb j => by
  rw [List.length_append]
  exact bef_succ (js ++ [j]) b wb js.length j (by rw [List.getElem?_append_right (Nat.le_refl _), Nat.sub_self]; rfl)
theorem rm_snoc {n : Nat} : ∀ (js : List Jo) (b wb : Nat) (j : Jo), Rm n b wb js → (bef b wb js js.length).1 < j.1 → j.1 < n → (bef b wb js js.length).1 + (bef b wb js js.length).2 + j.2.1 ≤ j.1 → j.1 + j.2.1 ≤ n → j.2.1 ≤ 8 → j.2.2 ≤ 3 → (j.2.1 = 0 → j.2.2 = 0) → Rm n b wb (js ++ [j])
  | [], b, wb, j, _, h1, h2, h3, h4, h5, h6, h7 => ⟨h1, h2, h3, h4, h5, h6, h7, trivial⟩
  | k :: r, b, wb, j, ⟨a1, a2, a3, a4, a5, a6, a7, a8⟩, h1, h2, h3, h4, h5, h6, h7 => ⟨a1, a2, a3, a4, a5, a6, a7, rm_snoc r k.1 k.2.1 j a8 h1 h2 h3 h4 h5 h6 h7⟩
theorem rd_appG {a : Addr} {xs : List V} {v : V} {H : Hp} {Q : VK} (h : H a = some (.lst xs)) (n : xs.length ≤ 1000) (q : Q .non (upd H a (.lst (xs ++ [v])))) : rAppend (.ref a) [v] H Q := ⟨a, _, _, rfl, rfl, h, small1000 n, q⟩
theorem JsAt.snoc {H : Hp} {vs : List V} {js : List Jo} {j : Jo} {a q : Addr} (h : JsAt H vs js) (e1 : H a = some (.tup [.int (j.1 : Nat), .ref q])) (e2 : H q = some (.tup [.int (j.2.1 : Nat), .int (j.2.2 : Nat)])) : JsAt H (vs ++ [.ref a]) (js ++ [j]) := by
  refine ⟨by simp [h.1], fun i v hv => ?_⟩
  by_cases c : i < vs.length
  · rw [List.getElem?_append_left c] at hv
    obtain ⟨j', a', q', f1, f2, f3, f4⟩ := h.2 i v hv
    exact ⟨j', a', q', by rw [List.getElem?_append_left (by rw [← h.1]; exact c)]; exact f1, f2, f3, f4⟩
  · have hi : i = vs.length := by
      have := (List.getElem?_eq_some_iff.mp hv).1
      simp at this
      omega
    subst hi
    rw [List.getElem?_append_right (Nat.le_refl _), Nat.sub_self] at hv
    have ev : V.ref a = v := Option.some.inj hv
    subst ev
    refine ⟨j, a, q, ?_, rfl, e1, e2⟩
    rw [h.1, List.getElem?_append_right (Nat.le_refl _), Nat.sub_self]
    rfl
def spLJoints : Sp := fun vs H Q _ => ∃ (p : Addr) (n : Nat), vs = [.ref p, .int (n : Nat)] ∧ Pool H p ∧ n ≤ 100 ∧ ∀ D H' refs js, H D = none → H' D = some (.lst refs) → JsAt H' refs js → Rm n 0 0 js → Pool H' p → Kp p H H' → Q (.ref D) H'
theorem use_ljoints {p : Addr} {n : Nat} {H : Hp} {Q : VK} {E : XK} (h : Pool H p) (hn : n ≤ 100) (q : ∀ D H' refs js, H D = none → H' D = some (.lst refs) → JsAt H' refs js → Rm n 0 0 js → Pool H' p → Kp p H H' → Q (.ref D) H') : spLJoints ([.ref p, .int (n : Nat)] ++ []) H Q E := ⟨p, n, rfl, h, hn, q⟩
def optV : Option Nat → V
  | some m => .int (m : Nat)
  | none => .non
def spPartner : Sp := fun vs H Q _ => ∃ (b : Addr) (refs : List V) (js : List Jo) (n k : Nat), vs = [.ref b, .int (k : Nat)] ∧ H b = some (.lst refs) ∧ JsAt H refs js ∧ Rm n 0 0 js ∧ Q (optV (prt js k)) H
theorem use_partner {b : Addr} {refs : List V} {js : List Jo} {n k : Nat} {H : Hp} {Q : VK} {E : XK} (h1 : H b = some (.lst refs)) (h2 : JsAt H refs js) (h3 : Rm n 0 0 js) (q : Q (optV (prt js k)) H) : spPartner ([.ref b, .int (k : Nat)] ++ []) H Q E := ⟨b, refs, js, n, k, rfl, h1, h2, h3, q⟩
theorem prt_drop {js : List Jo} {i k : Nat} {j : Jo} (h : js[i]? = some j) : prt (js.drop i) k = if j.1 ≤ k + j.2.1 ∧ k < j.1 + j.2.1 then some (2 * j.1 - 1 - k) else prt (js.drop (i + 1)) k := by
  have hl := (List.getElem?_eq_some_iff.mp h).1
  have e : js.drop i = j :: js.drop (i + 1) := by
    rw [List.drop_eq_getElem_cons hl]
    rw [List.getElem?_eq_getElem hl] at h
    rw [Option.some.inj h]
  rw [e]
  rfl
theorem JsAt.pool {p : Addr} {H H' : Hp} {vs : List V} {js : List Jo} (hp : Pool H p) (k : Kp p H H') (h : JsAt H vs js) : JsAt H' vs js := by
  obtain ⟨x, y, e, _⟩ := hp
  exact h.kp k ⟨_, e⟩
theorem JsAt.new' {q : Addr} {H : Hp} {o : HO} {vs : List V} {js : List Jo} (n : H q = none) (h : JsAt H vs js) : JsAt (upd H q o) vs js := h.same (same_new n)
theorem JsAt.same' {H H' : Hp} {vs : List V} {js : List Jo} (s : Same H H') (h : JsAt H vs js) : JsAt H' vs js := h.same s
theorem JsAt.at' {q : Addr} {xs : List V} {H : Hp} {o : HO} {vs : List V} {js : List Jo} (n : H q = some (.lst xs)) (h : JsAt H vs js) : JsAt (upd H q o) vs js := h.kp Kp.at ⟨_, n⟩
/-! ### all but some objects stay -/
def KpL (l : List Addr) (H H' : Hp) : Prop := ∀ a o, a ∉ l → H a = some o → H' a = some o
section
variable {l : List Addr} {p q : Addr} {H H' H1 H2 : Hp} {o : HO}
theorem KpL.refl : KpL l H H := fun _ _ _ h => h
theorem KpL.trans (a : KpL l H H1) (b : KpL l H1 H2) : KpL l H H2 := fun c o n h => b c o n (a c o n h)
theorem KpL.ofS (s : Same H H') : KpL l H H' := fun a o _ h => s a o h
theorem KpL.ofK (m : p ∈ l) (k : Kp p H H') : KpL l H H' := fun a o n h => k a o (fun z => n (by rw [z]; exact m)) h
theorem KpL.new (n : H q = none) : KpL l H (upd H q o) := .ofS (same_new n)
theorem KpL.at (m : q ∈ l) : KpL l H (upd H q o) := fun a x n h => by
  have ne : a ≠ q := fun z => n (by rw [z]; exact m)
  rw [upd_ne ne]
  exact h
theorem KpL.mono {m : List Addr} (h : ∀ a ∈ l, a ∈ m) (k : KpL l H H') : KpL m H H' := fun a o n e => k a o (fun z => n (h a z)) e
theorem KpL.add3 {r : Addr} (k : KpL [p, q] H H') : KpL [p, q, r] H H' := k.mono fun a m => by
  simp only [List.mem_cons, List.not_mem_nil, or_false] at m ⊢
  rcases m with h | h
  · exact .inl h
  · exact .inr (.inl h)
theorem KpL.free (k : KpL l H H') (n : H' q = none) (m : q ∉ l) : H q = none := by
  cases e : H q with
  | none => rfl
  | some o => rw [k _ _ m e] at n; cases n
theorem close_turnL (s : Same H H1) (n : ∀ q ∈ l, H1 q = none) (k : KpL l H1 H2) : Same H H2 := fun a o h => k a o (fun m => by have z := s _ _ h; rw [n a m] at z; cases z) (s _ _ h)
end
end Z

/-! Lists or tuples: enumerate and for over either. -/
namespace Z
open PySem PySem.Spec PyProof.Rows L2
section
open Sem (wp)
open Builtin
set_option maxHeartbeats 1000000 in
theorem meets_enum1 {v : Value} {o : Obj} {HH : Heap → Prop} (BB : Begins v o HH) :
    Meets (Builtin.«enumerate.__new__» ⟨[.type "enumerate", v], []⟩) (fun _ R s => HH s.heap ∧
      R (.ok (.ret (.ref (s.heap.push o).objs.size))) { s with heap := (s.heap.push o).push { cls := .type "enumerate", data := .fields #[.none, .bool false, .ref s.heap.objs.size, rawInt 0, .none, .none] } }) :=
  .of_wp fun prog w A R s h => by
    obtain ⟨hp, g, d, tk, os⟩ := s; obtain ⟨h1, h⟩ := h
    have hsub := sub_enumerate
    have step : ∀ {A2 : Around} {E2 : Value → Shared → Prop} {Q2 : Value → Shared → Prop}, Q2 (.ref hp.objs.size) ⟨hp.push o, g, d, tk, os⟩ → wpAny (model prog w) A2 (pyIter v) Q2 E2 ⟨hp, g, d, tk, os⟩ :=
      fun z => BB.iter prog w _ _ ⟨hp, g, d, tk, os⟩ _ h1 z
    wp_walk using step
    refine wpAny_stack_any fun st => wpAny_pure ?_
    split
    · rename_i c _ _ _ _ _
      cases (c == Value.type "enumerate") <;> (wp_walk using step) <;> exact ⟨_, rfl, h⟩
    · wp_walk using step
      exact ⟨_, rfl, h⟩
theorem call_enum1 {prog : Program} {w : World} {A : Around} {E : Value → Shared → Prop} {s : Shared} {v : Value} {o : Obj} {HH : Heap → Prop} {Q : Value → Shared → Prop} (BB : Begins v o HH) (h1 : HH s.heap)
    (k : ∀ h2, IsEnum h2 (s.heap.objs.size + 1) s.heap.objs.size 0 .none → h2.get? s.heap.objs.size = some o → h2.objs.size = s.heap.objs.size + 2 →
      (∀ b u, s.heap.get? b = some u → h2.get? b = some u) → Q (.ref (s.heap.objs.size + 1)) { s with heap := h2 }) :
    wpAny (model prog w) A (call (.type "enumerate") [v]) Q E s := by
  refine callType_new F.called_enumerate (by decide) (F.typeCall_enumerate_1 _) (F.newCall_enumerate_1 _) (fun z => F.args_object_init_2 z _) F.entry_enumerate_new (meets_enum1 BB) ⟨h1, ?_⟩
  have z1 : (s.heap.push o).objs.size = s.heap.objs.size + 1 := Heap.size_push ..
  show _ ∧ _
  rw [z1]
  have e1 : IsEnum ((s.heap.push o).push { cls := .type "enumerate", data := .fields #[.none, .bool false, .ref s.heap.objs.size, rawInt 0, .none, .none] }) (s.heap.objs.size + 1) s.heap.objs.size 0 .none := by
    have z2 := Heap.get?_push_size (s.heap.push o) (o := { cls := .type "enumerate", data := .fields #[.none, .bool false, .ref s.heap.objs.size, rawInt 0, .none, .none] }) rfl
    rw [z1] at z2
    exact z2
  exact ⟨⟨_, e1, rfl⟩, k _ e1 (Heap.get?_push_of_some _ (Heap.get?_push_size _ BB.free)) (by rw [Heap.size_push, z1]) fun b u x => Heap.get?_push_of_some _ (Heap.get?_push_of_some _ x)⟩
end
/-- the tuple at a, each item in a new pair -/
def IteT (K : PySem.W.Frag) (a : Addr) : It :=
  ⟨fun i H => ∃ (xs : List V) (x : V), SqT K H a xs ∧ xs[i]? = some x, fun i H v H' => ∃ T x, v = .ref T ∧ H T = none ∧ H' = upd H T (.tup [.int (i : Nat), x]) ∧ ∀ xs, SqT K H a xs → xs[i]? = some x, fun i H => ∃ xs : List V, SqT K H a xs ∧ xs.length = i⟩
theorem turn_enumT {P : Program} {w : World} {K : PySem.W.Frag} {elts : List Expr} {kk : Nat} {tpos : Pos} (a e it : Addr) (hae : e ≠ a) (hai : a ≠ it) :
    Turn P w K (.Tuple elts kk tpos) (IteT K a) [e, it] e (fun i h => (∃ old, IsEnum h e it ((i : Nat) : Int) old) ∧ h.IsTupleIter it a i ∧ e ≠ it) where
  mem := List.mem_cons_self ..
  obj := fun i h st b hb => by
    obtain ⟨⟨old, h1⟩, ⟨o, h2, _, h3⟩, _⟩ := st
    rcases (show b = e ∨ b = it by simpa using hb) with z | z
    · rw [z]; exact ⟨_, h1, fun v q => nomatch q⟩
    · rw [z]; exact ⟨o, h2, fun v q => by rw [h3] at q; cases q⟩
  keep := fun i h h' st k => let ⟨⟨old, h1⟩, h2, n⟩ := st; ⟨⟨old, k e (List.mem_cons_self ..) _ h1⟩, h2.at fun o q => k it (by simp) o q, n⟩
  item := by
    intro X hP hw hK hc i pins s σ H E I hf st hg
    subst hP hw hK
    obtain ⟨⟨old, h1⟩, hit, hne⟩ := st
    obtain ⟨xs, x, hq, hx⟩ := hg
    obtain ⟨its, rv, p, hz⟩ := I.tuple hq
    obtain ⟨u, hu, ru⟩ := rv.get hx
    have hel : e < s.heap.objs.size := Heap.lt_size h1
    have hil : it < s.heap.objs.size := by obtain ⟨_, q, _⟩ := hit; exact Heap.lt_size q
    have hlt : i < its.toArray.size := by
      have z := (List.getElem?_eq_some_iff.mp hu).1
      simpa using z
    refine wpAny_pyNext_enum_itemD (Draws.tuple (A := X.A.in1) (I.ok.hd hc) it a hai its.toArray) h1 ⟨hit, p⟩ hlt hne (by simp; exact ⟨hne, hae⟩) fun u2 h2 tk hP ho hs2 hT hsz hk => ?_
    obtain rfl : u = u2 := by
      have z : its.toArray[i]? = some u := by simpa using hu
      rw [z] at hP
      exact Option.some.inj hP
    refine ⟨_, rfl, wpAny_letOwnedTupleGo_enum (s := { s with heap := h2, toks := tk + 1 }) ho fun h3 he3 sb => ?_⟩
    have hT2 : h3.get? s.heap.objs.size = some { cls := .type "tuple", data := .seq #[.int i tk, u] } := (sb.2 _ (Nat.ne_of_gt hel)).trans hT
    have new : ObjOk X.prog X.w (upd H s.heap.objs.size (.tup [.int (i : Nat), x])) h3 s.heap.objs.size (.tup [.int (i : Nat), x]) :=
      ⟨by show 2 ≤ sizeLine; decide, [.int i tk, u], .cons ⟨_, rfl⟩ (.cons ru .nil), ⟨_, hT2, rfl, _, rfl⟩⟩
    have I1 : Inv X pins σ (upd H s.heap.objs.size (.tup [.int (i : Nat), x])) { s with heap := h3, toks := tk + 1 } :=
      I.turnedNew (ch := [e, it]) (fun b ob hb q => (sb.2 b (fun z => hb (by simp [z]))).trans (hk b ob (fun z => hb (by simp [z])) (fun z => hb (by simp [z])) q)) hf (Nat.le_refl _) new
    refine ⟨.ref s.heap.objs.size, _, I1, rfl, ⟨_, x, rfl, I.hok.fresh (Nat.le_refl _), rfl, fun ys hy => by rw [I.tuple_inj hy hq]; exact hx⟩, ⟨⟨u, ?_⟩, hs2.1.at fun o q => (sb.2 it (Ne.symm hne)).trans q, hne⟩, fun b hb => ?_⟩
    · rw [show ((i + 1 : Nat) : Int) = (i : Int) + 1 by omega]
      exact he3
    · have hb' : b < s.heap.objs.size := by
        rcases (show b = e ∨ b = it by simpa using hb) with z | z
        · rw [z]; exact hel
        · rw [z]; exact hil
      rw [upd_ne (Nat.ne_of_lt hb')]
      exact (hf b hb).1
  done := by
    intro X hP hw hK hc i pins s σ H E I hf st hg
    subst hP hw hK
    obtain ⟨⟨old, h1⟩, hit, hne⟩ := st
    obtain ⟨xs, hq, hx⟩ := hg
    obtain ⟨its, rv, p, hz⟩ := I.tuple hq
    obtain ⟨f0, f1, f2, f3, f4, f5⟩ := hf it (by simp)
    have hl := rv.length
    have hi : i = its.toArray.size := by simp; omega
    subst hi
    exact wpAny_pyNext_enum_endD (Draws.tuple (A := X.A.in1) (I.ok.hd hc) it a hai its.toArray) h1 ⟨hit, p⟩ fun h2 eb => ⟨rfl, I.turned (t' := s.toks) (fun b o hb q => eb b o hb q) f0 f1 f3 f4 f5⟩
  self := fun A i s Q E st h => let ⟨⟨_, h1⟩, _⟩ := st; wpAny_pyIter_enum h1 h
def iEnumA (K : PySem.W.Frag) (ta : TA) : TI := fun σ H R => ta σ H fun vs H1 => ∃ a xs, vs = [.ref a] ∧ ((SqL K H1 a xs ∧ R (Ite K a) H1) ∨ (SqT K H1 a xs ∧ R (IteT K a) H1))
theorem pi_enumA {X : Cx} {e : Expr} {ta : TA} {p pos tpos : Pos} {elts : List Expr} {kk : Nat} (hg : Gl X "enumerate") (hm : X.mg "enumerate" = none) (ha : PA X [e] ta) (hs : starEach [e] X.env = [(false, eval e X.env)] := by rfl) :
    PI X (.Tuple elts kk tpos) (.Call (.Name "enumerate" p) [e] [] pos) (iEnumA X.K ta) := by
  constructor
  intro pins s σ H R I h
  refine Call_ (ld_blt I hg hm boot_enumerate (PyProof.Rows.callWith_type1 (thn (ha.run pos pins s σ H _ I h) fun us s1 ⟨vs, H1, I1, r1, q1⟩ => ?_) hs rfl))
  obtain ⟨a, xs, ex, q1⟩ := q1
  subst ex
  cases r1 with
  | cons r rr =>
    cases rr
    cases r
    have fr : ∀ b ∈ [s1.heap.objs.size + 1, s1.heap.objs.size], FpOk X pins H1 b := fun b hb => by
      have hle : s1.heap.objs.size ≤ b := by
        rcases (show b = s1.heap.objs.size + 1 ∨ b = s1.heap.objs.size by simpa using hb) with z | z
        · rw [z]; exact Nat.le_add_right _ _
        · rw [z]; exact Nat.le_refl _
      exact I1.fpOk hle (I1.hok.fresh hle)
    rcases q1 with ⟨hq, q⟩ | ⟨hq, q⟩
    · obtain ⟨its, rv, p', hz⟩ := I1.list hq
      refine call_enumerate_list p'.isList fun h2 he hit hsz hk => wpAny_pyIter_enum he ?_
      have I2 : Inv X pins σ H1 { s1 with heap := h2 } := I1.kept (t' := s1.toks) hk
      exact ⟨s1.heap.objs.size + 1, [s1.heap.objs.size + 1, s1.heap.objs.size], _, _, H1, rfl, I2, turn_enum a (s1.heap.objs.size + 1) s1.heap.objs.size, ⟨⟨.none, he⟩, hit, Nat.succ_ne_self _⟩, fr, q⟩
    · obtain ⟨its, rv, p', hz⟩ := I1.tuple hq
      have hal : a < s1.heap.objs.size := by
        obtain ⟨_, z, _⟩ := id p'
        exact Heap.lt_size z
      refine call_enum1 (begins_tuple a its.toArray) (show s1.heap.IsTuple a its.toArray from p') fun h2 he hit hsz hk => wpAny_pyIter_enum he ?_
      have I2 : Inv X pins σ H1 { s1 with heap := h2 } := I1.kept (t' := s1.toks) hk
      exact ⟨s1.heap.objs.size + 1, [s1.heap.objs.size + 1, s1.heap.objs.size], _, _, H1, rfl, I2, turn_enumT a (s1.heap.objs.size + 1) s1.heap.objs.size (Nat.ne_of_gt (Nat.lt_succ_of_lt hal)) (Nat.ne_of_lt hal), ⟨⟨.none, he⟩, ⟨_, hit, rfl, rfl⟩, Nat.succ_ne_self _⟩, fr, q⟩
def iSeq (K : PySem.W.Frag) (tl : TE) : TI := fun σ H R => tl σ H fun x H1 => ∃ a xs, x = .ref a ∧ ((SqL K H1 a xs ∧ R (Itl K a) H1) ∨ (SqT K H1 a xs ∧ R (Itt K a) H1))
theorem pi_seq {X : Cx} {tg l : Expr} {tl : TE} (hl : PE X l tl) : PI X tg l (iSeq X.K tl) := by
  constructor
  intro pins s σ H R I h
  refine thn (hl.run pins s σ H _ I h) fun v s1 ⟨x, H1, I1, r1, q1⟩ => ?_
  obtain ⟨a, xs, ex, q1⟩ := q1
  subst ex
  cases r1
  have fr : ∀ b ∈ [s1.heap.objs.size], FpOk X pins H1 b := fun b hb => by
    rw [List.mem_singleton.mp hb]
    exact I1.fpOk (Nat.le_refl _) (I1.hok.fresh (Nat.le_refl _))
  rcases q1 with ⟨hq, q⟩ | ⟨hq, q⟩
  · obtain ⟨its, rv, p, hz⟩ := I1.list hq
    refine wpAny_pyIter_list p.isList ?_
    exact ⟨s1.heap.objs.size, [s1.heap.objs.size], _, _, H1, rfl, I1.kept (t' := s1.toks) fun b o e => Heap.get?_push_of_some _ e, turn_list a _, ⟨_, Heap.get?_push_size _ rfl, rfl, rfl⟩, fr, q⟩
  · obtain ⟨its, rv, p, hz⟩ := I1.tuple hq
    refine wpAny_pyIter_tuple (show s1.heap.IsTuple a its.toArray from p) ?_
    exact ⟨s1.heap.objs.size, [s1.heap.objs.size], _, _, H1, rfl, I1.kept (t' := s1.toks) fun b o e => Heap.get?_push_of_some _ e, turn_tuple a _, ⟨_, Heap.get?_push_size _ rfl, rfl, rfl⟩, fr, q⟩
/-! ### a list or a tuple in the heap -/
def LT (H : Hp) (a : Addr) (xs : List V) : Prop := H a = some (.lst xs) ∨ H a = some (.tup xs)
section
variable {K : PySem.W.Frag} {σ : L2.St} {H H' : Hp} {Q : VK} {g : TG} {tb : TS} {D : Ends} {a : Addr} {xs : List V}
theorem LT.same (s : Same H H') (h : LT H a xs) : LT H' a xs := h.imp (s _ _) (s _ _)
theorem LT.same' (s : Same H H') (h : LT H a xs) : LT H' a xs := h.same s
theorem LT.new' {q : Addr} {o : HO} (n : H q = none) (h : LT H a xs) : LT (upd H q o) a xs := h.same (same_new n)
theorem LT.l (h : H a = some (.lst xs)) : LT H a xs := .inl h
theorem LT.t (h : H a = some (.tup xs)) : LT H a xs := .inr h
theorem LT.upd_ne {q : Addr} {o : HO} (n : a ≠ q) (h : LT H a xs) : LT (upd H q o) a xs := h.imp (look_upd n) (look_upd n)
theorem LT.ne {q : Addr} (h : LT H a xs) (n : H q = none) : a ≠ q := by
  rcases h with h | h
  · exact ne_of_none h n
  · exact ne_of_none h n
theorem rd_lenA (h : LT H a xs) (q : Q (.int xs.length) H) : rLen K [.ref a] H Q := by
  rcases h with h | h
  · exact rd_lenL (SqL.of h) q
  · exact rd_lenT (SqT.of h) q
theorem rd_listA (h : LT H a xs) (q : ∀ l, H l = none → Q (.ref l) (upd H l (.lst xs))) : rToList K [.ref a] H Q := by
  rcases h with h | h
  · exact ⟨a, xs, rfl, .inl (SqL.of h), q⟩
  · exact ⟨a, xs, rfl, .inr (SqT.of h), q⟩
theorem isiT_lt {t : Addr} (h : LT H a xs) (ht : H t = some (.tup [.ty "list", .ty "tuple"])) (q : Q (.bl true) H) : rIsiT K [.ref a, .ref t] H Q := by
  rcases h with h | h
  · exact isiT_lst h ht q
  · exact ⟨.ref a, t, _, .type "tuple", [.type "list", .type "tuple"], true, rfl, ht, .cons (.ty "list") (.cons (.ty "tuple") .nil), .base (.tup h), rfl, q⟩
theorem rd_forEA {ts : TA} (h : ts σ H fun vs H1 => ∃ a xs, vs = [.ref a] ∧ ((SqL K H1 a xs ∧ LpW (Ite K a) g tb D σ H1) ∨ (SqT K H1 a xs ∧ LpW (IteT K a) g tb D σ H1))) : tFor (iEnumA K ts) g tb D σ H := h
theorem rd_forS {te : TE} (h : te σ H fun x H1 => ∃ a xs, x = .ref a ∧ ((SqL K H1 a xs ∧ LpW (Itl K a) g tb D σ H1) ∨ (SqT K H1 a xs ∧ LpW (Itt K a) g tb D σ H1))) : tFor (iSeq K te) g tb D σ H := h
theorem for_enumT (Pv : Nat → L2.St → Hp → Prop) (h0 : Pv 0 σ H) (hl : ∀ i σ H, i ≤ xs.length → Pv i σ H → SqT K H a xs)
    (hs : ∀ i x σ H T, xs[i]? = some x → Pv i σ H → H T = none → g (.ref T) σ (upd H T (.tup [.int (i : Nat), x])) fun σ2 H2 => tb { D with nx := Pv (i + 1), ct := Pv (i + 1), bk := D.nx } σ2 H2) (hd : ∀ σ H, Pv xs.length σ H → D.nx σ H) : LpW (IteT K a) g tb D σ H := by
  refine ⟨fun i m σ H => m = xs.length - i ∧ i ≤ xs.length ∧ Pv i σ H, ⟨xs.length, by simp, Nat.zero_le _, h0⟩, ?_⟩
  rintro i m σ H ⟨rfl, hi, p⟩
  have q := hl i σ H hi p
  by_cases hlt : i < xs.length
  · refine .inr ⟨⟨xs, xs[i], q, by simp [hlt]⟩, Pv (i + 1), fun σ' H' p' => ⟨xs.length - (i + 1), by omega, rfl, hlt, p'⟩, fun x H' y => ?_⟩
    obtain ⟨T, x1, rfl, nT, rfl, y⟩ := y
    exact hs i x1 σ H T (y xs q) p nT
  · have e : i = xs.length := by omega
    subst e
    exact .inl ⟨⟨xs, q, rfl⟩, hd σ H p⟩
/-- a loop over enumerate(xs), xs a list or a tuple -/
theorem for_enumA (h : LT H a xs) (Pv : Nat → L2.St → Hp → Prop) (h0 : Pv 0 σ H) (hl : ∀ i σ H', i ≤ xs.length → Pv i σ H' → ∀ o, H a = some o → H' a = some o)
    (hs : ∀ i x σ H T, xs[i]? = some x → Pv i σ H → H T = none → g (.ref T) σ (upd H T (.tup [.int (i : Nat), x])) fun σ2 H2 => tb { D with nx := Pv (i + 1), ct := Pv (i + 1), bk := D.nx } σ2 H2) (hd : ∀ σ H, Pv xs.length σ H → D.nx σ H) :
    ∃ b ys, [V.ref a] = [.ref b] ∧ ((SqL K H b ys ∧ LpW (Ite K b) g tb D σ H) ∨ (SqT K H b ys ∧ LpW (IteT K b) g tb D σ H)) := by
  rcases h with h | h
  · exact ⟨a, xs, rfl, .inl ⟨SqL.of h, for_enum (xs := xs) Pv h0 (fun i σ H' hi p => SqL.of (hl i σ H' hi p _ h)) hs hd⟩⟩
  · exact ⟨a, xs, rfl, .inr ⟨SqT.of h, for_enumT (xs := xs) Pv h0 (fun i σ H' hi p => SqT.of (hl i σ H' hi p _ h)) hs hd⟩⟩
/-- a loop over xs, a list or a tuple that stands still -/
theorem for_seqA (h : LT H a xs) (Pv : Nat → L2.St → Hp → Prop) (h0 : Pv 0 σ H) (hl : ∀ i σ H', i ≤ xs.length → Pv i σ H' → ∀ o, H a = some o → H' a = some o)
    (hs : ∀ i x σ H, xs[i]? = some x → Pv i σ H → g x σ H fun σ2 H2 => tb { D with nx := Pv (i + 1), ct := Pv (i + 1), bk := D.nx } σ2 H2) (hd : ∀ σ H, Pv xs.length σ H → D.nx σ H) :
    ∃ b ys, V.ref a = .ref b ∧ ((SqL K H b ys ∧ LpW (Itl K b) g tb D σ H) ∨ (SqT K H b ys ∧ LpW (Itt K b) g tb D σ H)) := by
  rcases h with h | h
  · exact ⟨a, xs, rfl, .inl ⟨SqL.of h, for_list (xs := xs) Pv h0 (fun i σ H' hi p => SqL.of (hl i σ H' hi p _ h)) hs hd⟩⟩
  · exact ⟨a, xs, rfl, .inr ⟨SqT.of h, for_tup (xs := xs) Pv h0 (fun i σ H' hi p => SqT.of (hl i σ H' hi p _ h)) hs hd⟩⟩
theorem rd_cut {t u : TS} (M : L2.St → Hp → Prop) (h1 : t { D with nx := M } σ H) (h2 : ∀ σ' H', M σ' H' → u D σ' H') : C8.tCut t u D σ H := ⟨M, h1, h2⟩
end
/-! ### folding by the first values -/
def stpO (f : Int → Int → Int → Int × Int) (xs0 ys : List Int) (t : Nat × Nat × Nat) : List Int := (ys.set t.2.1 (f t.1 (xs0.getD t.2.1 0) (xs0.getD t.2.2 0)).1).set t.2.2 (f t.1 (xs0.getD t.2.1 0) (xs0.getD t.2.2 0)).2
theorem stpO_length {f : Int → Int → Int → Int × Int} {xs0 ys : List Int} {t : Nat × Nat × Nat} : (stpO f xs0 ys t).length = ys.length := by simp [stpO]
theorem foldO_length {f : Int → Int → Int → Int × Int} {xs0 : List Int} : ∀ (ts : List (Nat × Nat × Nat)) (ys : List Int), (ts.foldl (stpO f xs0) ys).length = ys.length
  | [], _ => rfl
  | t :: r, ys => by rw [List.foldl_cons, foldO_length r, stpO_length]
theorem foldO_eq {f : Int → Int → Int → Int × Int} {n : Nat} {xs : List Int} : ∀ (ts : List (Nat × Nat × Nat)) (ys : List Int), Ap n ts → (∀ t ∈ ts, ys[t.2.1]? = xs[t.2.1]? ∧ ys[t.2.2]? = xs[t.2.2]?) → ts.foldl (stpO f xs) ys = ts.foldl (stp f) ys
  | [], _, _, _ => rfl
  | u :: r, ys, ⟨h1, h2⟩, h => by
    obtain ⟨h3, h4⟩ := List.pairwise_cons.mp h2
    have hu := h u List.mem_cons_self
    have e : stpO f xs ys u = stp f ys u := by
      unfold stpO stp
      rw [getD_of hu.1, getD_of hu.2]
    rw [List.foldl_cons, List.foldl_cons, e]
    refine foldO_eq r _ ⟨fun v hv => h1 v (List.mem_cons_of_mem _ hv), h4⟩ fun t ht => ?_
    have a := h3 t ht
    rw [stp_out a.1 a.2.2.1, stp_out a.2.1 a.2.2.2]
    exact h t (List.mem_cons_of_mem _ ht)
theorem turnO {f : Int → Int → Int → Int × Int} {n : Nat} {xs : List Int} {js : List Jo} (h : Rm n 0 0 js) : (prs js).foldl (stpO f xs) xs = turnL f xs js := foldO_eq _ _ (rm_ap js 0 0 h) fun _ _ => ⟨rfl, rfl⟩
theorem getD_some {xs : List Int} {k : Nat} {z : Int} (h : xs[k]? = some z) : xs.getD k 0 = z := by rw [List.getD_eq_getElem?_getD, h]; rfl
theorem get_getD {xs : List Int} {k : Nat} (h : k < xs.length) : xs[k]? = some (xs.getD k 0) := by
  rw [List.getD_eq_getElem?_getD, List.getElem?_eq_getElem h]
  rfl
theorem turn_inv {f g : Int → Int → Int → Int × Int} {n : Nat} {xs : List Int} {js : List Jo} (hfg : ∀ s a b, g s (f s a b).1 (f s a b).2 = (a, b)) (hn : xs.length = n) (h : Rm n 0 0 js) : turnL g (turnL f xs js) js = xs := by
  refine List.ext_getElem? fun k => ?_
  cases e : prt js k with
  | none => rw [turn_none h e, turn_none h e]
  | some m =>
    obtain ⟨t, ht, q⟩ := prt_some js k m e (rm_all js 0 0 h)
    have g1 := get_in (f := f) (prs js) xs hn (rm_ap js 0 0 h) t ht
    have g2 := get_in (f := g) (prs js) (turnL f xs js) (by rw [turnL_length, hn]) (rm_ap js 0 0 h) t ht
    have b := (rm_ap js 0 0 h).1 t ht
    have d1 : (turnL f xs js).getD t.2.1 0 = _ := getD_some g1.1
    have d2 : (turnL f xs js).getD t.2.2 0 = _ := getD_some g1.2
    rw [d1, d2, hfg] at g2
    rcases q with ⟨q1, _⟩ | ⟨q1, _⟩
    · rw [← q1, get_getD (xs := xs) (by omega)]
      exact g2.1
    · rw [← q1, get_getD (xs := xs) (by omega)]
      exact g2.2
theorem map_stpO {f : Int → Int → Int → Int × Int} {xs ys : List Int} {t : Nat × Nat × Nat} : ((ys.map V.int).set t.2.1 (.int (f t.1 (xs.getD t.2.1 0) (xs.getD t.2.2 0)).1)).set t.2.2 (.int (f t.1 (xs.getD t.2.1 0) (xs.getD t.2.2 0)).2) = (stpO f xs ys t).map V.int := by
  unfold stpO
  rw [List.map_set, List.map_set]
/-! ### joints as data -/
def jd (j : Jo) : PyData := .tuple [.int (j.1 : Nat), .tuple [.int (j.2.1 : Nat), .int (j.2.2 : Nat)]]
theorem JsAt.tail {H : Hp} {v : V} {vs : List V} {j : Jo} {js : List Jo} (h : JsAt H (v :: vs) (j :: js)) : JsAt H vs js := ⟨Nat.succ.inj h.1, fun i w e => h.2 (i + 1) w e⟩
theorem dp_js {K : PySem.W.Frag} {H : Hp} : ∀ (vs : List V) (js : List Jo), JsAt H vs js → DpAll K H vs (js.map jd)
  | [], [], _ => .nil
  | [], j :: r, h => nomatch h.1
  | v :: r, [], h => nomatch h.1
  | v :: r, j :: s, h => by
    obtain ⟨j', a, q, e1, rfl, e3, e4⟩ := h.2 0 v rfl
    obtain rfl : j = j' := Option.some.inj e1
    exact .cons (.tup (SqT.of e3) (.cons (.int _) (.cons (.tup (SqT.of e4) (.cons (.int _) (.cons (.int _) .nil))) .nil))) (dp_js r s h.tail)
theorem canLay_js : ∀ js : List Jo, PyData.canLayAll0 (js.map jd) = true
  | [] => rfl
  | j :: r => by
    show (PyData.canLay0 (jd j) && PyData.canLayAll0 (r.map jd)) = true
    rw [canLay_js r]
    rfl
theorem depth_js : ∀ js : List Jo, PyData.depthAll (js.map jd) ≤ 2
  | [] => Nat.zero_le _
  | j :: r => by
    show max (PyData.depth (jd j)) (PyData.depthAll (r.map jd)) ≤ 2
    exact Nat.max_le.mpr ⟨Nat.le_refl _, depth_js r⟩
theorem shaped_js (js : List Jo) : SeqAt.shaped (.list (js.map jd)) = true := by
  show (PyData.canLayAll0 (js.map jd) && decide (PyData.depthAll (js.map jd) + 1 ≤ 64)) = true
  rw [canLay_js, decide_eq_true (by have := depth_js js; omega)]
  rfl
theorem rd_neJ {K : PySem.W.Frag} {H : Hp} {Q : VK} {p q : Addr} {vs : List V} {js : List Jo} (hp : H p = some (.lst vs)) (hq : H q = some (.lst vs)) (hj : JsAt H vs js) (h : Q (.bl false) H) : rNeD K (.ref p) (.ref q) H Q :=
  ⟨.list (js.map jd), .list (js.map jd), .lst (SqL.of hp) (dp_js vs js hj), .lst (SqL.of hq) (dp_js vs js hj), shaped_js js, shaped_js js, by
    rw [SeqAt.eqv_refl _ (SeqAt.canLay_of_shaped (shaped_js js))]
    exact h⟩
/-! ### promises over lists or tuples -/
def rToTup (K : PySem.W.Frag) : List V → Hp → VK → Prop := fun xs H Q => ∃ p ys, xs = [.ref p] ∧ ((SqL K H p ys ∧ ∀ l, H l = none → Q (.ref l) (upd H l (.tup ys))) ∨ (SqT K H p ys ∧ Q (.ref p) H))
theorem cTuple {X : Cx} : CallR X (.type "tuple") (rToTup X.K) := call_tuple_of
theorem rd_tupL {K : PySem.W.Frag} {H : Hp} {Q : VK} {p : Addr} {xs : List V} (h : SqL K H p xs) (q : ∀ l, H l = none → Q (.ref l) (upd H l (.tup xs))) : rToTup K [.ref p] H Q := ⟨p, xs, rfl, .inl ⟨h, q⟩⟩
def spItemsA : Sp := fun vs H Q _ => ∃ (a : Addr) (ns : List Int), vs = [.ref a] ∧ LT H a (ns.map V.int) ∧ ∀ H', Same H H' → Q .non H'
theorem use_itemsA {a : Addr} {ns : List Int} {H : Hp} {Q : VK} {E : XK} (h : LT H a (ns.map V.int)) (q : ∀ H', Same H H' → Q .non H') : spItemsA ([.ref a] ++ []) H Q E := ⟨a, ns, rfl, h, q⟩
def spSoundA : Sp := spItemsA
theorem use_soundA {a : Addr} {ns : List Int} {H : Hp} {Q : VK} {E : XK} (h : LT H a (ns.map V.int)) (q : ∀ H', Same H H' → Q .non H') : spSoundA ([.ref a] ++ []) H Q E := ⟨a, ns, rfl, h, q⟩
def spJointsA : Sp := fun vs H Q _ => ∃ (a : Addr) (refs : List V) (js : List Jo) (n : Nat), vs = [.ref a, .int (n : Nat)] ∧ LT H a refs ∧ JsAt H refs js ∧ Rm n 0 0 js ∧ ∀ H', Same H H' → Q .non H'
theorem use_jointsA {a : Addr} {refs : List V} {js : List Jo} {n : Nat} {H : Hp} {Q : VK} {E : XK} (h1 : LT H a refs) (h2 : JsAt H refs js) (h3 : Rm n 0 0 js) (q : ∀ H', Same H H' → Q .non H') : spJointsA ([.ref a, .int (n : Nat)] ++ []) H Q E := ⟨a, refs, js, n, rfl, h1, h2, h3, q⟩
def spTurnedA (f : Int → Int → Int → Int × Int) (g : Addr) : Sp := fun vs H Q _ => ∃ (a b : Addr) (xs : List Int) (refs : List V) (js : List Jo), vs = [.ref a, .ref b, .ref g] ∧ LT H a (xs.map V.int) ∧ LT H b refs ∧ JsAt H refs js ∧ Rm xs.length 0 0 js ∧ xs.length ≤ 100 ∧
  ∀ p H', H p = none → Same H H' → H' p = some (.lst ((turnL f xs js).map V.int)) → Q (.ref p) H'
def spFoldsA (f : Int → Int → Int → Int × Int) : Sp := fun vs H Q _ => ∃ (a b : Addr) (xs : List Int) (refs : List V) (js : List Jo), vs = [.ref a, .ref b] ∧ LT H a (xs.map V.int) ∧ LT H b refs ∧ JsAt H refs js ∧ Rm xs.length 0 0 js ∧ xs.length ≤ 100 ∧
  ∀ p H', H p = none → Same H H' → H' p = some (.lst ((turnL f xs js).map V.int)) → Q (.ref p) H'
theorem use_foldsA {f : Int → Int → Int → Int × Int} {a b : Addr} {xs : List Int} {refs : List V} {js : List Jo} {H : Hp} {Q : VK} {E : XK} (h1 : LT H a (xs.map V.int)) (h2 : LT H b refs) (h3 : JsAt H refs js) (h4 : Rm xs.length 0 0 js) (h5 : xs.length ≤ 100)
    (q : ∀ p H', H p = none → Same H H' → H' p = some (.lst ((turnL f xs js).map V.int)) → Q (.ref p) H') : spFoldsA f ([.ref a, .ref b] ++ []) H Q E := ⟨a, b, xs, refs, js, rfl, h1, h2, h3, h4, h5, q⟩
theorem use_foldsAK {f : Int → Int → Int → Int × Int} {a b : Addr} {xs : List Int} {refs : List V} {js : List Jo} {H : Hp} {Q : VK} {E : XK} (h1 : LT H a (xs.map V.int)) (h2 : LT H b refs) (h3 : JsAt H refs js) (h4 : Rm xs.length 0 0 js) (h5 : xs.length ≤ 100)
    (q : ∀ p H', H p = none → Same H H' → H' p = some (.lst ((turnL f xs js).map V.int)) → Q (.ref p) H') : spFoldsA f (kg 0 2 [1, 0] [] [.ref b, .ref a]) H Q E := ⟨a, b, xs, refs, js, rfl, h1, h2, h3, h4, h5, q⟩
end Z

/-! Bits as lists of signs. -/
namespace Z
open PySem PySem.Spec PyProof.Rows L2
/-- the last k binary digits of u, as signs -/
def lowB (u : Nat) : Nat → List Nat
  | 0 => []
  | k + 1 => lowB (u / 2) k ++ [48 + u % 2]
/-- the number of signs -/
def valB (l : List Nat) : Nat := l.foldl (fun a c => 2 * a + (c - 48)) 0
theorem lowB_length (u : Nat) : ∀ k, (lowB u k).length = k
  | 0 => rfl
  | k + 1 => by
    show (lowB (u / 2) k ++ [48 + u % 2]).length = k + 1
    rw [List.length_append, lowB_length (u / 2) k]
    rfl
theorem lowB_bin : ∀ (k u : Nat), ∀ c ∈ lowB u k, c = 48 ∨ c = 49
  | 0, _, c, h => absurd h List.not_mem_nil
  | k + 1, u, c, h => by
    rcases List.mem_append.mp h with h | h
    · exact lowB_bin k (u / 2) c h
    · rw [List.mem_singleton.mp h]
      omega
theorem valB_snoc (l : List Nat) (c : Nat) : valB (l ++ [c]) = 2 * valB l + (c - 48) := by
  unfold valB
  rw [List.foldl_append]
  rfl
theorem valB_lowB : ∀ k u : Nat, valB (lowB u k) = u % 2 ^ k
  | 0, u => by
    show 0 = u % 1
    omega
  | k + 1, u => by
    show valB (lowB (u / 2) k ++ [48 + u % 2]) = _
    rw [valB_snoc, valB_lowB k (u / 2), Nat.pow_succ, Nat.mul_comm (2 ^ k) 2, Nat.mod_mul]
    omega
/-- how many binary digits -/
def nb (u : Nat) : Nat := if u = 0 then 1 else Nat.log2 u + 1
theorem nb_half {u : Nat} (h : 2 ≤ u) : nb u = nb (u / 2) + 1 := by
  unfold nb
  rw [if_neg (by omega), if_neg (by omega), Nat.log2_def, if_pos h]
theorem nb_lt (u : Nat) : u < 2 ^ nb u := by
  unfold nb
  split
  · omega
  · exact Nat.lt_log2_self
theorem nb_le {u : Nat} (h : u ≠ 0) : 2 ^ (nb u - 1) ≤ u := by
  unfold nb
  rw [if_neg h]
  exact Nat.log2_self_le h
/-- the binary digits, as Python writes them -/
def binB (u : Nat) : List Nat := lowB u (nb u)
theorem toD_two : ∀ u : Nat, (Nat.toDigits 2 u).map Char.toNat = binB u := by
  intro u
  induction u using Nat.strongRecOn with
  | _ u ih =>
    by_cases h : u < 2
    · rcases (show u = 0 ∨ u = 1 by omega) with rfl | rfl
      · decide
      · decide
    · have e : Nat.toDigits 2 u = Nat.toDigits 2 (u / 2) ++ [Nat.digitChar (u % 2)] := by
        have := Nat.toDigits_append_toDigits (b := 2) (n := u / 2) (d := u % 2) (by omega) (by omega) (by omega)
        rw [Nat.div_add_mod] at this
        rw [← this]
        congr 1
        exact Nat.toDigits_of_lt_base (by omega)
      rw [e, List.map_append, ih (u / 2) (by omega)]
      unfold binB
      rw [nb_half (u := u) (by omega)]
      show _ = lowB (u / 2) (nb (u / 2)) ++ [48 + u % 2]
      congr 1
      rcases (show u % 2 = 0 ∨ u % 2 = 1 by omega) with e | e
      · rw [e]; rfl
      · rw [e]; rfl
theorem lowB_drop (a : Nat) : ∀ (k u : Nat), (lowB u (a + k)).drop a = lowB u k
  | 0, u => List.drop_eq_nil_of_le (by rw [lowB_length]; exact Nat.le_refl _)
  | k + 1, u => by
    show (lowB (u / 2) (a + k) ++ [48 + u % 2]).drop a = lowB (u / 2) k ++ [48 + u % 2]
    rw [List.drop_append_of_le_length (by rw [lowB_length]; omega), lowB_drop a k (u / 2)]
theorem lowB_zero : ∀ a : Nat, lowB 0 a = List.replicate a 48
  | 0 => rfl
  | a + 1 => by
    show lowB 0 a ++ [48] = _
    rw [lowB_zero a, List.replicate_succ']
theorem lowB_big (a : Nat) : ∀ (j u : Nat), u < 2 ^ j → lowB u (a + j) = List.replicate a 48 ++ lowB u j
  | 0, u, h => by
    have e : u = 0 := by have : (2 : Nat) ^ 0 = 1 := rfl; omega
    subst e
    rw [lowB_zero]
    exact (List.append_nil _).symm
  | j + 1, u, h => by
    show lowB (u / 2) (a + j) ++ [48 + u % 2] = List.replicate a 48 ++ (lowB (u / 2) j ++ [48 + u % 2])
    rw [lowB_big a j (u / 2) (by rw [Nat.pow_succ] at h; omega), List.append_assoc]
theorem lowB_front : ∀ (k u : Nat), lowB u (k + 1) = (48 + u / 2 ^ k % 2) :: lowB u k
  | 0, u => by
    show [] ++ [48 + u % 2] = [48 + u / 1 % 2]
    rw [Nat.div_one]
    rfl
  | k + 1, u => by
    show lowB (u / 2) (k + 1) ++ [48 + u % 2] = (48 + u / 2 ^ (k + 1) % 2) :: (lowB (u / 2) k ++ [48 + u % 2])
    rw [lowB_front k (u / 2), Nat.div_div_eq_div_mul, Nat.pow_succ, Nat.mul_comm 2 (2 ^ k)]
    rfl
theorem nb_min {u j : Nat} (h : u < 2 ^ j) (hj : 1 ≤ j) : nb u ≤ j := by
  by_cases e : u = 0
  · unfold nb
    rw [if_pos e]
    exact hj
  · have h1 := nb_le e
    have h2 : 2 ^ (nb u - 1) < 2 ^ j := Nat.lt_of_le_of_lt h1 h
    have h3 := (Nat.pow_lt_pow_iff_right (by decide : 1 < 2)).mp h2
    omega
theorem nb_pos (u : Nat) : 1 ≤ nb u := by
  unfold nb
  split <;> omega
theorem binB_length (u : Nat) : (binB u).length = nb u := lowB_length _ _
/-- the last k signs of the digits, filled up with zeros -/
theorem low_fill (u k : Nat) : ((if k ≤ nb u then binB u else List.replicate (k - nb u) 48 ++ binB u).drop ((if k ≤ nb u then binB u else List.replicate (k - nb u) 48 ++ binB u).length - k)) = lowB u k := by
  by_cases h : k ≤ nb u
  · rw [if_pos h, binB_length]
    have e := lowB_drop (nb u - k) k u
    rw [Nat.sub_add_cancel h] at e
    exact e
  · rw [if_neg h, List.length_append, List.length_replicate, binB_length, show k - nb u + nb u - k = 0 by omega, List.drop_zero]
    have e := lowB_big (k - nb u) (nb u) u (nb_lt u)
    rw [show k - nb u + nb u = k by omega] at e
    exact e.symm
theorem low_fill2 (u k j : Nat) (h : u < 2 ^ j) : (List.replicate k 48 ++ lowB u j).drop ((List.replicate k 48 ++ lowB u j).length - k) = lowB u k := by
  rw [← lowB_big k j u h, lowB_length, show k + j - k = j by omega, Nat.add_comm k j]
  exact lowB_drop j k u
/-- the bits of a code number -/
def encB (u k : Nat) : List Nat := if u / 2 ^ k < 20 then List.replicate (u / 2 ^ k) 49 ++ [48] ++ lowB u k else List.replicate (19 + nb u) 49 ++ [48] ++ binB u
theorem encB_len (u k : Nat) : (encB u k).length ≤ 21 + k + 2 * nb u := by
  unfold encB
  split
  · rw [List.length_append, List.length_append, List.length_replicate, lowB_length]
    show _ + 1 + k ≤ _
    omega
  · rw [List.length_append, List.length_append, List.length_replicate, binB_length]
    show _ + 1 + _ ≤ _
    omega
theorem encB_bin (u k : Nat) : ∀ c ∈ encB u k, c = 48 ∨ c = 49 := by
  intro c h
  unfold encB at h
  split at h
  · rcases List.mem_append.mp h with h | h
    · rcases List.mem_append.mp h with h | h
      · exact .inr (List.eq_of_mem_replicate h)
      · exact .inl (List.mem_singleton.mp h)
    · exact lowB_bin _ _ c h
  · rcases List.mem_append.mp h with h | h
    · rcases List.mem_append.mp h with h | h
      · exact .inr (List.eq_of_mem_replicate h)
      · exact .inl (List.mem_singleton.mp h)
    · exact lowB_bin _ _ c h
/-! ### tables, and numbers written with them -/
abbrev Tb := Int × Int
def tbB (t : Tb) (u : Nat) : Tb := if t.2 + 1 > 15 then ((t.1 + (u : Int)) / 2, 8) else (t.1 + (u : Int), t.2 + 1)
def uOf (n : Int) : Nat := (codeU n).toNat
theorem uOf_eq (n : Int) : ((uOf n : Nat) : Int) = codeU n := by
  unfold uOf codeU
  split <;> omega
def wst (ns : List Int) (first : Nat) (T : Tb × Tb) : Nat → List (List Nat) × (Tb × Tb)
  | 0 => ([], T)
  | i + 1 =>
    let s := wst ns first T i
    let u := uOf (ns.getD i 0)
    if i < first then (s.1 ++ [encB u (par s.2.1.1 s.2.1.2)], (tbB s.2.1 u, s.2.2)) else (s.1 ++ [encB u (par s.2.2.1 s.2.2.2)], (s.2.1, tbB s.2.2 u))
/-- a table in its limits, its total at most m -/
def TbOk (m : Int) (t : Tb) : Prop := 0 ≤ t.1 ∧ t.1 ≤ m ∧ 1 ≤ t.2 ∧ t.2 ≤ 15
theorem tbB_ok {m : Int} {t : Tb} {u : Nat} (h : TbOk m t) (hu : (u : Int) ≤ 10 ^ 56) : TbOk (m + 10 ^ 56) (tbB t u) := by
  obtain ⟨h1, h2, h3, h4⟩ := h
  unfold tbB
  split
  · refine ⟨?_, ?_, by show (1 : Int) ≤ 8; decide, by show (8 : Int) ≤ 15; decide⟩
    · show 0 ≤ (t.1 + (u : Int)) / 2
      omega
    · show (t.1 + (u : Int)) / 2 ≤ m + 10 ^ 56
      omega
  · exact ⟨by show 0 ≤ t.1 + (u : Int); omega, by show t.1 + (u : Int) ≤ m + 10 ^ 56; omega, by show 1 ≤ t.2 + 1; omega, by show t.2 + 1 ≤ 15; omega⟩
theorem TbOk.mono {m n : Int} {t : Tb} (h : TbOk m t) (e : m ≤ n) : TbOk n t := ⟨h.1, Int.le_trans h.2.1 e, h.2.2⟩
theorem uOf_le {n : Int} (h : n.natAbs < 10 ^ 55) : ((uOf n : Nat) : Int) ≤ 10 ^ 56 := by
  rw [uOf_eq]
  unfold codeU
  split <;> omega
theorem wst_ok {ns : List Int} {first : Nat} {T : Tb × Tb} (hn : ∀ z ∈ ns, z.natAbs < 10 ^ 55) (h0 : TbOk (10 ^ 58) T.1) (h1 : TbOk (10 ^ 58) T.2) : ∀ i : Nat, i ≤ 64 → TbOk (10 ^ 58 + (i : Int) * 10 ^ 56) (wst ns first T i).2.1 ∧ TbOk (10 ^ 58 + (i : Int) * 10 ^ 56) (wst ns first T i).2.2
  | 0, _ => ⟨h0.mono (by omega), h1.mono (by omega)⟩
  | i + 1, hi => by
    obtain ⟨a, b⟩ := wst_ok (first := first) hn h0 h1 i (by omega)
    have hu : ((uOf (ns.getD i 0) : Nat) : Int) ≤ 10 ^ 56 := uOf_le (by
      rw [List.getD_eq_getElem?_getD]
      cases e : ns[i]? with
      | none => decide
      | some z => exact hn z (List.mem_of_getElem? e))
    show TbOk _ (if i < first then _ else _ : List (List Nat) × (Tb × Tb)).2.1 ∧ TbOk _ (if i < first then _ else _ : List (List Nat) × (Tb × Tb)).2.2
    by_cases c : i < first
    · rw [if_pos c]
      exact ⟨(tbB_ok a hu).mono (by push_cast; omega), b.mono (by push_cast; omega)⟩
    · rw [if_neg c]
      exact ⟨a.mono (by push_cast; omega), (tbB_ok b hu).mono (by push_cast; omega)⟩
theorem wst_len (ns : List Int) (first : Nat) (T : Tb × Tb) : ∀ i, (wst ns first T i).1.length = i
  | 0 => rfl
  | i + 1 => by
    show (if i < first then _ else _ : List (List Nat) × (Tb × Tb)).1.length = i + 1
    split
    · rw [List.length_append, wst_len ns first T i]; rfl
    · rw [List.length_append, wst_len ns first T i]; rfl
end Z

/-! Binary digits in an f-string. -/
namespace Z
open PySem PySem.Spec PyProof.Rows L2
open SX (S S_len S_cat S_inj)
/-! ### binary digits of a number -/
section
open PySem.Builtin PySem.Builtin.Str PySem.Builtin.Int PySem.Builtin.Float
def binD (n : Nat) : List Nat := (Nat.toDigits 2 n).map Char.toNat
theorem eb : Str.ofString "b" = S [98] := by rfl
theorem parse_b (name : String) : parseFormatSpec [98] name 62 = .ok { align := 62, type := some 98 } := by rfl
theorem cutName (n : Int) (t : Tok) : typeNameOfCut 200 (.int n t) = pure "int" := by rfl
theorem pad_no (D : List Nat) (h : D ≠ []) : (⟨(List.replicate (((-1 : Int) - 0 - ((if D.isEmpty then [] else List.replicate ((0 : Int).toNat - D.length) 48 ++ D : List Nat).length : Nat)).toNat) 32 ++ [] ++ [] ++ List.replicate 0 32 ++ (if D.isEmpty then [] else List.replicate ((0 : Int).toNat - D.length) 48 ++ D) ++ [] ++ List.replicate 0 32).toArray⟩ : Str) = S D := by
  have e : (if D.isEmpty then [] else List.replicate ((0 : Int).toNat - D.length) 48 ++ D : List Nat) = D := by
    cases D with
    | nil => exact absurd rfl h
    | cons c r =>
      show List.replicate (0 - _) 48 ++ c :: r = c :: r
      rw [Nat.zero_sub]
      rfl
  rw [e, show ((-1 : Int) - 0 - (D.length : Nat)).toNat = 0 by omega]
  simp
theorem binD_ne (n : Nat) : binD n ≠ [] := by
  unfold binD
  intro h
  have := List.map_eq_nil_iff.mp h
  exact absurd this Nat.toDigits_ne_nil
set_option maxHeartbeats 1000000 in
theorem fmtb_eq (n : Nat) (t u : Tok) : ∃ X, Builtin.«int.__format__» ⟨[.int (n : Int) t, .str (S [98]) u], []⟩ = retStr X ∧ X = S (binD n) := by
  refine ⟨_, rfl, ?_⟩
  exact pad_no _ (binD_ne n)
theorem gives_fmtb (n : Nat) (t u : Tok) : Gives (Builtin.«int.__format__» ⟨[.int (n : Int) t, .str (S [98]) u], []⟩) (.str (S (binD n))) := by
  obtain ⟨X, e, rfl⟩ := fmtb_eq n t u
  rw [e]
  exact .of_eq rfl
end
end Z

/-! Texts of bits. -/
namespace Z
open PySem PySem.Spec PyProof.Rows L2
open SX (S S_len S_cat S_inj)
/-! ### operators on texts, by their signs -/
theorem S_add (a b : List Nat) : S a ++ S b = S (a ++ b) := S_cat a b
def rAddT : R2 := fun x y H Q => ∃ a b : List Nat, x = .str (S a) ∧ y = .str (S b) ∧ a.length + b.length ≤ 16777216 ∧ Q (.str (S (a ++ b))) H
theorem op_addT {X : Cx} : OpR X (binaryOp .Add) rAddT := by
  intro pins s σ H x y v u Q I rx ry h
  obtain ⟨a, b, rfl, rfl, hl, q⟩ := h
  exact op_add_str pins s σ H _ _ v u Q I rx ry ⟨S a, S b, rfl, rfl, by rw [S_len, S_len]; exact hl, by rw [S_add]; exact q⟩
theorem fold_app : ∀ (n : Nat) (a acc : Array Nat), (List.replicate n a).foldl (· ++ ·) acc = acc ++ ((List.replicate n a.toList).flatten).toArray
  | 0, a, acc => by simp
  | n + 1, a, acc => by
    rw [List.replicate_succ, List.foldl_cons, fold_app n a, List.replicate_succ, List.flatten_cons]
    refine Array.toList_inj.mp ?_
    rw [Array.toList_append, Array.toList_append, Array.toList_append, List.append_assoc]
/-- a text, so many times -/
def repL (l : List Nat) (n : Nat) : List Nat := (List.replicate n l).flatten
theorem repL_one (c n : Nat) : repL [c] n = List.replicate n c := by
  induction n with
  | zero => rfl
  | succ n ih =>
    unfold repL at ih ⊢
    rw [List.replicate_succ, List.flatten_cons, ih]
    rfl
theorem repL_length (l : List Nat) : ∀ n, (repL l n).length = n * l.length
  | 0 => by simp [repL]
  | n + 1 => by
    have ih := repL_length l n
    unfold repL at ih ⊢
    rw [List.replicate_succ, List.flatten_cons, List.length_append, ih, Nat.succ_mul, Nat.add_comm]
theorem repL_nil : ∀ n, repL [] n = []
  | 0 => rfl
  | n + 1 => by
    have ih := repL_nil n
    unfold repL at ih ⊢
    rw [List.replicate_succ, List.flatten_cons, ih]
    rfl
def rMulT : R2 := fun x y H Q => ∃ (a : List Nat) (k : Int), x = .str (S a) ∧ y = .int k ∧ -1000000 ≤ k ∧ k ≤ 1000000 ∧ a.length * k.toNat ≤ 1000000 ∧ Q (.str (S (repL a k.toNat))) H
theorem tooLong_no {n : Nat} (h : n ≤ 1000000) : Builtin.Str.tooLong n = false := by
  have z : 1000000 < sizeLine := by decide
  unfold Builtin.Str.tooLong
  first
    | exact decide_eq_false (by omega)
    | (simp; omega)
theorem op_mulT {X : Cx} : OpR X (binaryOp .Mult) rMulT := by
  intro pins s σ H x y v u Q I rx ry h
  obtain ⟨a, k, rfl, rfl, h1, h2, hl, q⟩ := h
  obtain ⟨t, rfl⟩ := rx
  obtain ⟨t', rfl⟩ := ry
  refine P.mul_str (by rw [decide_eq_false (by omega), decide_eq_false (by omega)]; rfl) (fun c _ z => ?_) (fun _ _ => tooLong_no (by rw [S_len]; exact hl)) ?_
  · have hk : (1 : Int) ≤ k := by omega
    rw [S_len] at z
    have hl2 : (a.length : Int) * k ≤ 1000000 := by
      obtain ⟨m, rfl⟩ : ∃ m : Nat, k = (m : Int) := ⟨k.toNat, by omega⟩
      rw [Int.toNat_natCast] at hl
      have z0 := Int.ofNat_le.mpr hl
      rw [Int.natCast_mul] at z0
      exact z0
    have z2 : (a.length : Int) ≤ (a.length : Int) * k := by
      have := Int.mul_le_mul_of_nonneg_left hk (show (0 : Int) ≤ a.length by omega)
      rw [Int.mul_one] at this
      exact this
    have z3 : (1000000 : Int) ≤ (2 ^ 63 - 1) / k := (Int.le_ediv_iff_mul_le (by omega)).mpr (Int.le_trans (Int.mul_le_mul_of_nonneg_left h2 (show (0 : Int) ≤ 1000000 by decide)) (by decide))
    omega
  · by_cases c : k < 1
    · rw [if_pos c]
      have e : k.toNat = 0 := by omega
      rw [e] at q
      exact ⟨by decide, ⟨.str Str.empty, H, I.tok _, ⟨_, rfl⟩, q⟩⟩
    · rw [if_neg c]
      cases d : (k == 1 || (S a).length == 0) with
      | true =>
        rw [if_pos rfl]
        have e : repL a k.toNat = a := by
          rw [Bool.or_eq_true, beq_iff_eq, beq_iff_eq, S_len] at d
          rcases d with d | d
          · rw [d]
            exact List.append_nil a
          · rw [List.length_eq_zero_iff] at d
            rw [d]
            exact repL_nil _
        rw [e] at q
        exact ⟨.str (S a), H, I, ⟨t, rfl⟩, q⟩
      | false =>
        rw [if_neg Bool.false_ne_true]
        have e : (⟨(List.replicate k.toNat (S a).cps).foldl (· ++ ·) #[]⟩ : Str) = S (repL a k.toNat) := by
          rw [fold_app]
          exact TL.ext_tl (by
            show (#[] ++ _ : Array Nat).toList = _
            rw [Array.toList_append]
            rfl)
        rw [e]
        exact ⟨by rw [S_len, repL_length, Nat.mul_comm]; exact Nat.le_trans hl (by decide), ⟨.str _, H, I.tok _, ⟨_, rfl⟩, q⟩⟩
theorem e_empty : Str.ofString "" = S [] := by rfl
theorem e_0 : Str.ofString "0" = S [48] := by rfl
theorem e_1 : Str.ofString "1" = S [49] := by rfl
theorem e_01 : Str.ofString "01" = S [48, 49] := by rfl
section
variable {X : Cx}
def tFmtB (te ts : TE) : TE := fun σ H Q => te σ H fun x H1 => ts σ H1 fun y H2 => ∃ n : Nat, x = .int (n : Int) ∧ y = .str (S [98]) ∧ nb n ≤ 16777216 ∧ Q (.str (S (binB n))) H2
theorem pe_fmtb {e spec : Expr} {te ts : TE} {pos : Pos} (he : PE X e te) (hs : PE X spec ts) : PE X (.FormattedValue e (-1) (some spec) pos) (tFmtB te ts) := by
  constructor
  intro pins s σ H Q I h
  refine wpAny_FormattedValue_spec (thn (he.run pins s σ H _ I h) fun v s1 hv => ?_)
  obtain ⟨x, H1, I1, r1, q⟩ := hv
  refine thn (hs.run pins s1 σ H1 _ I1 q) fun r s2 hr2 => ?_
  obtain ⟨y, H2, I2, r2, n, rfl, rfl, hl, q2⟩ := hr2
  obtain ⟨t, rfl⟩ := r1
  obtain ⟨t2, rfl⟩ := r2
  have hb : binD n = binB n := toD_two n
  refine ⟨S [98], t2, rfl, wpAny_formatField_spec (T := "int") rfl (fun s' => typeIs_int s' _ t) F.slot_int_format F.entry_int_format (F.args_int_format_2) (fun u => gives_fmtb n t u) ?_ (by rw [S_len]; decide) (by rw [S_len, hb, binB_length]; exact hl)⟩
  rw [hb]
  exact ⟨.str (S (binB n)), H2, I2.tok _, ⟨_, rfl⟩, q2⟩
def rZf : V → List V → Hp → VK → Prop := fun x xs H Q => ∃ (l : List Nat) (k : Nat), x = .str (S l) ∧ xs = [.int (k : Int)] ∧ k ≤ 100000 ∧ (∀ c ∈ l, c = 48 ∨ c = 49) ∧ Q (.str (S (if k ≤ l.length then l else List.replicate (k - l.length) 48 ++ l))) H
theorem zf_S {l : List Nat} {k : Nat} (h : ∀ c ∈ l, c = 48 ∨ c = 49) : Txt.zfill (S l) (k : Int) = S (if k ≤ l.length then l else List.replicate (k - l.length) 48 ++ l) := by
  unfold Txt.zfill
  by_cases c : k ≤ l.length
  · rw [if_pos c, if_pos (by rw [S_len]; omega)]
  · rw [if_neg c, if_neg (by rw [S_len]; omega), S_len, Int.toNat_natCast]
    have e : ∀ m, Builtin.Str.padded (S l) m 0 48 = S (List.replicate m 48 ++ l) := fun m => TL.ext_tl (by
      show (Array.replicate m 48 ++ l.toArray ++ Array.replicate 0 48).toList = _
      simp)
    unfold zfilled
    split
    · rename_i g
      exfalso
      cases l with
      | nil => simp [S] at g
      | cons d r =>
        have g2 : some d = some 43 := by simpa [S] using g
        have := h d List.mem_cons_self
        have := Option.some.inj g2
        omega
    · rename_i g
      exfalso
      cases l with
      | nil => simp [S] at g
      | cons d r =>
        have g2 : some d = some 45 := by simpa [S] using g
        have := h d List.mem_cons_self
        have := Option.some.inj g2
        omega
    · exact e _
theorem pad_ok {k : Nat} (h : k ≤ 100000) : PadOk (k : Int) = true := by
  unfold PadOk
  have z : (100000 : Nat) ≤ 1000000 := by decide
  rw [Int.toNat_natCast, tooLong_no (Nat.le_trans h z)]
  have e : fitsSsize (k : Int) = true := by
    unfold fitsSsize
    first
      | exact Bool.and_eq_true_iff.mpr ⟨decide_eq_true (by omega), decide_eq_true (by omega)⟩
      | (simp; omega)
  rw [e]
  rfl
theorem mt_zf : MtR X "str.zfill" rZf := by
  intro pins s σ H x xs v us Q I rx rs h
  obtain ⟨l, k, rfl, rfl, hk, hb, q⟩ := h
  exact mt_zfill pins s σ H _ _ v us Q I rx rs ⟨S l, (k : Int), rfl, rfl, pad_ok hk, by rw [zf_S hb]; exact q⟩
end
theorem joinL_flat : ∀ ys : List (List Nat), TL.joinL [] ys = ys.flatten
  | [] => rfl
  | [p] => (List.append_nil p).symm
  | p :: q :: r => by
    show p ++ ([] ++ TL.joinL [] (q :: r)) = p ++ (q :: r).flatten
    rw [joinL_flat (q :: r)]
    rfl
def rJoin (K : PySem.W.Frag) : V → List V → Hp → VK → Prop := fun x xs H Q => ∃ a p, ∃ ys : List Str, x = .str a ∧ xs = [.ref p] ∧ (SqL K H p (ys.map V.str) ∨ SqT K H p (ys.map V.str)) ∧
    (ys.map (·.length)).sum + ys.length * a.length ≤ 16777216 ∧ Q (.str (Txt.join a ys)) H
theorem mt_joinK {X : Cx} : MtR X "str.join" (rJoin X.K) := mt_join
section
variable {K : PySem.W.Frag} {σ : L2.St} {H : Hp} {Q : VK}
theorem rd_addT {a b : List Nat} {x y : Str} (e1 : x = S a) (e2 : y = S b) (hl : a.length + b.length ≤ 16777216) (h : Q (.str (S (a ++ b))) H) : rAddT (.str x) (.str y) H Q := ⟨a, b, congrArg V.str e1, congrArg V.str e2, hl, h⟩
theorem rd_mulT {c : Nat} {x : Str} {k : Nat} (e1 : x = S [c]) (hl : k ≤ 1000000) (h : Q (.str (S (List.replicate k c))) H) : rMulT (.str x) (.int (k : Int)) H Q :=
  ⟨[c], (k : Int), congrArg V.str e1, rfl, by omega, by omega, by rw [Int.toNat_natCast]; show 1 * k ≤ _; omega, by rw [Int.toNat_natCast, repL_one]; exact h⟩
theorem rd_lenS {l : List Nat} (hl : l.length ≤ 16777216) (h : Q (.int (l.length : Nat)) H) : rLen K [.str (S l)] H Q := ⟨.str (S l), l.length, rfl, ⟨by rw [S_len]; exact hl, (S_len l).symm⟩, h⟩
theorem rd_zf {l : List Nat} {k : Nat} (hk : k ≤ 100000) (hb : ∀ c ∈ l, c = 48 ∨ c = 49) (h : Q (.str (S (if k ≤ l.length then l else List.replicate (k - l.length) 48 ++ l))) H) : rZf (.str (S l)) [.int (k : Int)] H Q := ⟨l, k, rfl, rfl, hk, hb, h⟩
theorem rd_slSF {l : List Nat} {k : Nat} (hl : l.length ≤ 16777216) (h : Q (.str (S (l.drop k))) H) : C8.rSlX (.str (S l)) (some (k : Int)) none H Q := ⟨S l, rfl, by rw [S_len]; exact hl, by rw [SX.slice_from (by omega), Int.toNat_natCast]; exact h⟩
theorem rd_slST {l : List Nat} {k : Nat} (hl : l.length ≤ 16777216) (h : Q (.str (S (l.take k))) H) : C8.rSlX (.str (S l)) none (some (k : Int)) H Q := ⟨S l, rfl, by rw [S_len]; exact hl, by rw [SX.slice_to (by omega), Int.toNat_natCast]; exact h⟩
theorem rd_joinS {p : Addr} {ls : List (List Nat)} {x : Str} (e : x = S []) (hp : SqL K H p (ls.map fun l => V.str (S l))) (hl : ls.flatten.length ≤ 16777216) (h : Q (.str (S ls.flatten)) H) : rJoin K (.str x) [.ref p] H Q := by
  refine ⟨S [], p, ls.map S, congrArg V.str e, rfl, .inl ?_, ?_, ?_⟩
  · rw [List.map_map]
    exact hp
  · rw [SX.lens]
    show _ + _ * 0 ≤ _
    rw [Nat.mul_zero, Nat.add_zero, ← List.length_flatten]
    exact hl
  · rw [SX.join_S, joinL_flat]
    exact h
theorem rd_fmtb {te ts : TE} (h : te σ H fun x H1 => ts σ H1 fun y H2 => ∃ n : Nat, x = .int (n : Int) ∧ y = .str (S [98]) ∧ nb n ≤ 16777216 ∧ Q (.str (S (binB n))) H2) : tFmtB te ts σ H Q := h
theorem rd_fmtn {n : Nat} {x : Str} {P : Nat → Prop} (e : x = S [98]) (hl : nb n ≤ 16777216) (h : P n) : ∃ m : Nat, V.int (n : Int) = .int (m : Int) ∧ V.str x = .str (S [98]) ∧ nb m ≤ 16777216 ∧ P m := ⟨n, rfl, congrArg V.str e, hl, h⟩
theorem rd_ixS {l : List Nat} {x : Str} {i c : Nat} (e : x = S l) (hl : l.length ≤ 16777216) (a : l[i]? = some c) (h : Q (.str (S [c])) H) : rIxS (.str x) (.int (i : Int)) H Q := ⟨S l, (i : Int), c, congrArg V.str e, rfl, by rw [S_len]; exact hl, atI_nat a, h⟩
theorem rd_bmS {m : V → List V → Hp → VK → Prop} {to : TE} {ts : TA} (h : to σ H fun x H1 => tyV K "str" x H1 ∧ ts σ H1 fun xs H2 => m x xs H2 Q) : tBM K "str" m to ts σ H Q := h
theorem rd_tyS {x : Str} {P : Prop} (q : P) : tyV K "str" (.str x) H ∧ P := ⟨rfl, q⟩
end
end Z

/-! Many clauses of one try, each with its name. -/
namespace Z
open PySem PySem.Spec PyProof.Rows L2
/-- the ends of a suite whose name goes behind it -/
def goEnds (i : Nat) (D : Ends) : Ends := ⟨fun σ H => D.nx (σ.set i none) H, D.rt, fun σ H => D.bk (σ.set i none) H, fun σ H => D.ct (σ.set i none) H⟩
def wNamed (K : PySem.W.Frag) (Wo : WX) (D : Ends) : List (Value × Nat × (Addr → Value → Option Addr → TS)) → WX
  | [] => Wo
  | e :: r => fun k d σ H => ∃ b, PySem.W.exmOne K k e.1 = some b ∧ (b = true → ∀ a, H a = none → e.2.2 a k d (goEnds e.2.1 D) (σ.set e.2.1 (some (.ref a))) H) ∧ (b = false → wNamed K Wo D r k d σ H)
inductive NamedOk (X : Cx) : List ExceptHandler → List (Value × Nat × (Addr → Value → Option Addr → TS)) → Prop
  | nil : NamedOk X [] []
  | cons {x n : Str} {c : Value} {i : Nat} {ts : Addr → Value → Option Addr → TS} {b : Stmt} {bs : List Stmt} {p q : Pos} {r : List ExceptHandler} {l : List (Value × Nat × (Addr → Value → Option Addr → TS))}
      (hi : X.N[i]? = some n) (hn : X.env.kindOf n = some .local) (hc : Names X x c) (su : ∀ (a : Addr) (oe : Obj) (k : Value) (d : Option Addr) (pn : List (Addr × Obj)), Zc k d oe → (∃ vs, oe.data = .fields vs) → PSs (X.suite a ((a, oe) :: pn)) (b :: bs) (ts a k d))
      (m : NamedOk X r l) : NamedOk X (.ExceptHandler (some (.Name x p)) (some n) (b :: bs) q :: r) ((c, i, ts) :: l)
theorem ps_try_named {X : Cx} {body : List Stmt} {h0 : ExceptHandler} {hds : List ExceptHandler} {l : List (Value × Nat × (Addr → Value → Option Addr → TS))} {pos : Pos} {tb : WX → TS} {Wo : WX}
    (e1 : X.stack = X.env :: X.outer) (e2 : X.env.frame = some X.env.locals) (nd : X.N.Nodup) (tk : Takes X Wo)
    (hb : ∀ (W : WX) (pn : List (Addr × Obj)) (xe : Value → Shared → Prop), Takes (X.tr pn xe) W → PassesOwn (model X.prog X.w) X.A X.env xe → PSs (X.tr pn xe) body (tb W))
    (hh : NamedOk X (h0 :: hds) l) : PS X (.Try body (h0 :: hds) [] [] pos) (fun D σ H => tb (wNamed X.K Wo D l) D σ H) := by
  constructor
  intro pins s σ H D I h
  have ok := I.ok
  have fr : X.A.frames = some (X.env :: X.outer) := ok.frames.trans (congrArg some e1)
  apply wpAny_Try_except
  have run := (hb (wNamed X.K Wo D l) (X.pn ++ pins) (fun e z => wpAny (model X.prog X.w) X.A (noteFrame e X.env) (fun _ z => wpAny (model X.prog X.w) X.A (setFlight e none) (fun _ z => wpAny (model X.prog X.w) X.A (handleBy e X.env (h0 :: hds)) (SP X pins D) X.xe z) X.xe z) X.xe z)
    ?caught PassesOwn.looking).run [] s σ H D (I.toTry _) h
  case caught =>
    rintro u z ⟨a, B, sI, pn2, τ, G, k, d, rfl, J0, nb, up, sky, na, os, ag, w⟩
    have J : Inv X pins τ G sI := J0.ofTry ok
    have sk : Sky B (X.env :: X.outer) a (Zc k d) X.env.locals z.heap := e1 ▸ sky
    show wpAny _ X.A (noteFrame (.ref a) X.env) _ _ _
    refine Sky.land Zc.steady fr e2 sk fun g3 f3 u3 => ?_
    have J3 : Inv X pins τ G { z with heap := g3 } := J.landed nb f3.1 (up.trans u3) os ag
    obtain ⟨o3, vs3, q1, q2, q3⟩ := f3.there
    have off : a ∉ frs (X.env :: X.outer) := fun hm => by
      obtain ⟨_, o', z1, z2⟩ := f3.2.2.1.mem hm
      have z3 := Option.some.inj (q1.symm.trans z1)
      subst z3
      exact z2 _ q3
    have offL : a ≠ X.env.locals := fun y => off (List.mem_filterMap.mpr ⟨_, .head _, by rw [e2, y]⟩)
    have offF : a ∉ X.fs := fun hm => let ⟨e, y1, y2⟩ := List.mem_filterMap.mp hm; off (List.mem_filterMap.mpr ⟨e, .tail _ y1, y2⟩)
    have S3 := J3.suite q1 q3 na offL offF
    suffices go : ∀ {hs2 : List ExceptHandler} {l2 : List (Value × Nat × (Addr → Value → Option Addr → TS))}, NamedOk X hs2 l2 → wNamed X.K Wo D l2 k d τ G → wpAny (model X.prog X.w) X.A (handleBy (.ref a) X.env hs2) (SP X pins D) X.xe { z with heap := g3 } from go hh w
    intro hs2 l2 hk
    induction hk with
    | nil =>
      intro w
      apply wpAny_handleBy_nil
      obtain ⟨_, _, _, oe, vs, T, oT, tS, y1, y2, y3, y4, y5⟩ := id f3
      unfold PySem.passOn
      refine wpAny_bind (wpAny_field y1 y3 y4 ?_)
      rw [if_neg (by simp : ¬ ((Value.ref T == Value.none) = true))]
      have last : wpAny (model X.prog X.w) X.A (setFlight (.ref a) X.env.frame) (fun _ y => wpAny (model X.prog X.w) X.A (throw (.ref a) : Sem Flow) (SP X pins D) X.xe y) X.xe { z with heap := g3 } :=
        e2 ▸ HandSPX.setFlight_upZ f3 fun g4 f4 u4 => wpAny_throw (tk _ _ ⟨a, B, sI, pins, τ, G, k, d, rfl, J, nb, (up.trans u3).trans u4, .inr (.inr (e1 ▸ f4)), na, os, ag, w⟩)
      first
        | exact wpAny_bind last
        | exact wpAny_bind (wpAny_pure (wpAny_bind last))
    | @cons x n c i ts b bs p q r l3 hi hn hc su m ih =>
      rintro ⟨t, t1, t2, t3⟩
      refine wpAny_handleBy_cons (codeAny_handlers_test ?_) (fun q => nomatch q)
      have look : PySem.W.Looks (model X.prog X.w) g3 (typeOf (.ref a)) k := fun A Q E s y v => wpAny_typeOf_ref (y _ _ q1) (q2.1.symm ▸ v)
      have name : ∀ {Q E : Value → Shared → Prop}, Q c { z with heap := g3 } → wpAny (model X.prog X.w) (X.A.mark (some (.ref a))) (eval (.Name x p) X.env) Q E { z with heap := g3 } := by
        intro Q E v
        obtain ⟨y1, y2, y3⟩ := hc
        cases y3 with
        | inl y3 => exact ld_glob (X := X.suite a ((a, o3) :: (X.pn ++ pins))) S3 y1 y3 v y2
        | inr y3 => exact ld_blt (X := X.suite a ((a, o3) :: (X.pn ++ pins))) S3 y1 y3.1 y3.2.1 v y3.2.2 y2
      refine name ((PySem.W.exm_one (M := model X.prog X.w) J3.kIn look t1).here ?_)
      cases t with
      | false => exact ih (t3 rfl)
      | true =>
        apply codeAny_handlers_suite_as
        refine HandSPX.lands_againZ f3 fun g4 f4 u4 => ?_
        have J4 : Inv X pins τ G { z with heap := g4 } := J.landed nb f4.1 ((up.trans u3).trans u4) os ag
        obtain ⟨o4, vs4, r1, r2, r3⟩ := f4.there
        refine store_ok (X := X.suite a ((a, o4) :: (X.pn ++ pins))) (v := .ref a) (J4.suite r1 r3 na offL offF) nd hi (.inl hn) rfl (fun s5 S5 => ?_) (.inr hn)
        refine wpAny_mono ((su a o4 k d _ r2 ⟨_, r3⟩).run [] s5 _ G _ S5 (t2 rfl a na)) (fun f s6 hp => ?_) (fun _ _ v => v.elim)
        have close : ∀ {τ' : L2.St} {G' : Hp} {Q : Shared → Prop}, Inv (X.suite a ((a, o4) :: (X.pn ++ pins))) [] τ' G' s6 → (∀ y, Inv X pins (τ'.set i none) G' y → Q y) →
            wpAny (model X.prog X.w) X.A (do bindName X.env n .none; unbindBehindTheSuite X.env n q) (fun _ y => Q y) X.xe s6 := fun S6 hq => gone_ok (S6.unsuite ok) nd hi hn hq
        cases f with
        | ret v =>
          obtain ⟨v', τ', G', S6, y1, y2⟩ := hp
          exact close S6 fun y Jy => ⟨v', _, G', Jy, y1, y2⟩
        | next => exact let ⟨τ', G', S6, y⟩ := hp; close S6 fun _ Jy => ⟨_, G', Jy, y⟩
        | brk => exact let ⟨τ', G', S6, y⟩ := hp; close S6 fun _ Jy => ⟨_, G', Jy, y⟩
        | cont => exact let ⟨τ', G', S6, y⟩ := hp; close S6 fun _ Jy => ⟨_, G', Jy, y⟩
  refine wpAny_mono run (fun f y hp => ?_) (fun _ _ v => v)
  cases f with
  | next => exact let ⟨τ', G', J, v⟩ := hp; wpAny_execs_nil ⟨τ', G', J.ofTry ok, v⟩
  | brk => exact let ⟨τ', G', J, v⟩ := hp; ⟨τ', G', J.ofTry ok, v⟩
  | cont => exact let ⟨τ', G', J, v⟩ := hp; ⟨τ', G', J.ofTry ok, v⟩
  | ret u => exact let ⟨v, τ', G', J, r, y⟩ := hp; ⟨v, τ', G', J.ofTry ok, r, y⟩
end Z

/-! Blocks of any values. -/
namespace Z
open PySem PySem.Spec PyProof.Rows L2
/-- told: what the errors of a call become, and what its end becomes -/
def ErM (L : List (Addr × Str × (V → List V))) (Q : VK) : XK := fun cls d H' => ∃ e ∈ L, ErL e.1 e.2.1 e.2.2 Q cls d H'
def TTm (L : List (Addr × Str × (V → List V))) (Fin : V → Hp → VK → Prop) : (XK → Hp → VK → Prop) → Hp → VK → Prop := fun tl H Q => ∀ Qn : VK, (∀ v H', Fin v H' Q → Qn v H') → tl (ErM L Q) H Qn
theorem rd_toldM {L : List (Addr × Str × (V → List V))} {Fin : V → Hp → VK → Prop} {tl : XK → Hp → VK → Prop} {H : Hp} {Q : VK} (h : ∀ Qn : VK, (∀ v H', Fin v H' Q → Qn v H') → tl (ErM L Q) H Qn) : TTm L Fin tl H Q := h
theorem Err.erM {L : List (Addr × Str × (V → List V))} {C : Addr} {f : Str} {g : V → List V} (m : (C, f, g) ∈ L) {v : V} {H : Hp} {Q : VK} (h : ∀ p H', Same H H' → H p = none → H' p = some (.lst (g v)) → Q (.ref p) H') : Err C f v H (ErM L Q) :=
  fun d H' s n x => ⟨_, m, Err.erL h d H' s n x⟩
def mk2 (t : Str) : V → List V := fun v => [.str t, v]
/-- an int or a list -/
def FinLI (t : Str) : V → Hp → VK → Prop := fun v H' Q => ((∃ i, v = .int i) ∨ ∃ a xs, v = .ref a ∧ H' a = some (.lst xs)) ∧ ∀ p H'', Same H' H'' → H' p = none → H'' p = some (.lst (mk2 t .non)) → Q (.ref p) H''
/-- the first item that is no integer -/
inductive IT (H : Hp) (xs : List V) : Option Nat → Prop where
  | bad {i : Nat} {v : V} (b : ∀ j, j < i → ∃ z, xs[j]? = some (.int z)) (e : xs[i]? = some v) (n : isI v = false) (t : ∀ x ∈ xs, TyV H x) : IT H xs (some i)
  | good {ns : List Int} (e : xs = ns.map V.int) : IT H xs none
theorem tyvS {H H' : Hp} {v : V} (s : Same H H') (h : TyV H v) : TyV H' v := by
  cases v with
  | ref a => exact h.elim (fun ⟨xs, e⟩ => .inl ⟨xs, s _ _ e⟩) fun ⟨xs, e⟩ => .inr ⟨xs, s _ _ e⟩
  | _ => exact h
theorem IT.same {H H' : Hp} {xs : List V} {o : Option Nat} (s : Same H H') (h : IT H xs o) : IT H' xs o := by
  cases h with
  | bad b e n t => exact .bad b e n fun x hx => tyvS s (t x hx)
  | good e => exact .good e
theorem it_ex {H : Hp} : ∀ (xs : List V), (∀ x ∈ xs, TyV H x) → ∃ o, IT H xs o
  | [], _ => ⟨none, .good (ns := []) rfl⟩
  | x :: r, t => by
    by_cases h : isI x = true
    · obtain ⟨z, rfl⟩ := isI_yes h
      obtain ⟨o, ih⟩ := it_ex r fun y hy => t y (List.mem_cons_of_mem _ hy)
      cases ih with
      | @bad i v b e n _ =>
        exact ⟨some (i + 1), .bad (v := v) (fun j hj => by
          cases j with
          | zero => exact ⟨z, rfl⟩
          | succ j => exact b j (by omega)) e n t⟩
      | @good ns e => exact ⟨none, .good (ns := z :: ns) (by rw [e]; rfl)⟩
    · exact ⟨some 0, .bad (v := x) (fun j hj => absurd hj (Nat.not_lt_zero j)) rfl (by simpa using h) t⟩
theorem IT.at {H : Hp} {xs : List V} {o : Option Nat} {i : Nat} {v : V} (h : IT H xs o) (e : xs[i]? = some v) (hi : ∀ k, o = some k → i ≤ k) : (o = some i ∧ isI v = false ∧ TyV H v) ∨ (∃ z, v = .int z) ∧ ∀ k, o = some k → i + 1 ≤ k := by
  cases h with
  | @bad k u b eu n t =>
    have hk := hi k rfl
    by_cases hik : i = k
    · subst hik
      rw [e] at eu
      cases eu
      exact .inl ⟨rfl, n, t v (List.mem_of_getElem? e)⟩
    · obtain ⟨z, hz⟩ := b i (by omega)
      rw [e] at hz
      cases hz
      exact .inr ⟨⟨z, rfl⟩, fun k' e' => by cases e'; omega⟩
  | @good ns eu =>
    subst eu
    rw [List.getElem?_map] at e
    cases g : ns[i]? with
    | none => rw [g] at e; cases e
    | some z => rw [g] at e; cases e; exact .inr ⟨⟨z, rfl⟩, fun k' e' => nomatch e'⟩
theorem IT.len {H : Hp} {xs : List V} {o : Option Nat} (h : IT H xs o) (hi : ∀ k, o = some k → xs.length ≤ k) : o = none := by
  cases h with
  | bad b e n t => exact absurd (hi _ rfl) (Nat.not_le.mpr (List.getElem?_eq_some_iff.mp e).1)
  | good e => rfl
/-- what a block check says of a value -/
inductive BR (H : Hp) : V → Option V → Prop where
  | flat {x : V} (h : scalarV x = true) : BR H x (some .non)
  | tup {a : Addr} {xs : List V} (h : H a = some (.tup xs)) : BR H (.ref a) (some .non)
  | size {a : Addr} {xs : List V} (h : H a = some (.lst xs)) (n : ¬ (1 ≤ xs.length ∧ xs.length ≤ 64)) (m : xs.length ≤ 1000) : BR H (.ref a) (some .non)
  | item {a : Addr} {xs : List V} {o : Option Nat} (h : H a = some (.lst xs)) (n1 : 1 ≤ xs.length) (n2 : xs.length ≤ 64) (t : IT H xs o) : BR H (.ref a) (o.map fun i => .int (i : Nat))
theorem BR.same {H H' : Hp} {x : V} {o : Option V} (s : Same H H') (h : BR H x o) : BR H' x o := by
  cases h with
  | flat h => exact .flat h
  | tup h => exact .tup (s _ _ h)
  | size h n m => exact .size (s _ _ h) n m
  | item h n1 n2 t => exact .item (s _ _ h) n1 n2 (t.same s)
theorem br_ex {H : Hp} {a : Addr} {xs : List V} (h : H a = some (.lst xs)) (t : ∀ x ∈ xs, TyV H x) (m : xs.length ≤ 1000) : ∃ o, BR H (.ref a) o := by
  by_cases n : 1 ≤ xs.length ∧ xs.length ≤ 64
  · obtain ⟨o, i⟩ := it_ex xs t
    exact ⟨_, .item h n.1 n.2 i⟩
  · exact ⟨_, .size h n m⟩
theorem BR.fine {H : Hp} {x : V} (h : BR H x none) : ∃ (a : Addr) (ns : List Int), x = .ref a ∧ H a = some (.lst (ns.map V.int)) ∧ 1 ≤ ns.length ∧ ns.length ≤ 64 := by
  obtain ⟨o, ho, h⟩ : ∃ o : Option V, o = none ∧ BR H x o := ⟨_, rfl, h⟩
  cases h with
  | flat _ => cases ho
  | tup _ => cases ho
  | size _ _ _ => cases ho
  | @item a xs o h n1 n2 t =>
    cases t with
    | bad _ _ _ _ => cases ho
    | @good ns e =>
      subst e
      rw [List.length_map] at n1 n2
      exact ⟨a, ns, rfl, h, n1, n2⟩
theorem BR.ty {H : Hp} {x : V} {o : Option V} (h : BR H x o) : TyV H x := by
  cases h with
  | flat h => cases x <;> first | exact True.intro | exact Bool.noConfusion h
  | tup h => exact .inr ⟨_, h⟩
  | size h _ _ => exact .inl ⟨_, h⟩
  | item h _ _ _ => exact .inl ⟨_, h⟩
def spItemsX (C : Addr) : Sp := fun vs H Q E => ∃ (a : Addr) (xs : List V) (o : Option Nat), vs = [.ref a] ∧ H a = some (.lst xs) ∧ IT H xs o ∧ (∀ i, o = some i → Err C "index" (.int (i : Nat)) H E) ∧ (o = none → ∀ H', Same H H' → Q .non H')
theorem use_itemsX {C a : Addr} {xs : List V} {o : Option Nat} {H : Hp} {Q : VK} {E : XK} (h : H a = some (.lst xs)) (t : IT H xs o) (e : ∀ i, o = some i → Err C "index" (.int (i : Nat)) H E) (q : o = none → ∀ H', Same H H' → Q .non H') : spItemsX C ([.ref a] ++ []) H Q E := ⟨a, xs, o, rfl, h, t, e, q⟩
def spBlkX (C : Addr) : Sp := fun vs H Q E => ∃ (x : V) (o : Option V), vs = [x, .int 1] ∧ BR H x o ∧ (∀ e, o = some e → Err C "index" e H E) ∧ (o = none → ∀ H', Same H H' → Q .non H')
theorem use_blkX {C : Addr} {x : V} {o : Option V} {H : Hp} {Q : VK} {E : XK} (h : BR H x o) (e : ∀ e, o = some e → Err C "index" e H E) (q : o = none → ∀ H', Same H H' → Q .non H') : spBlkX C ([x, .int 1] ++ []) H Q E := ⟨x, o, rfl, h, e, q⟩
/-- split_levels, join_levels on any values -/
def spLevX (CS CN : Addr) : Sp := fun vs H Q E => ∃ (x y : V) (o : Option V), vs = [x, y] ∧ BR H x o ∧ TyV H y ∧ (∀ e, o = some e → Err CS "index" e H E) ∧ (o = none → inI y 0 5 = false → Err CN "value" y H E) ∧
  (o = none → inI y 0 5 = true → ∀ p H' xs, H p = none → Same H H' → H' p = some (.lst xs) → Q (.ref p) H')
theorem use_levX {CS CN : Addr} {x y : V} {o : Option V} {H : Hp} {Q : VK} {E : XK} (h : BR H x o) (t : TyV H y) (e1 : ∀ e, o = some e → Err CS "index" e H E) (e2 : o = none → inI y 0 5 = false → Err CN "value" y H E)
    (q : o = none → inI y 0 5 = true → ∀ p H' xs, H p = none → Same H H' → H' p = some (.lst xs) → Q (.ref p) H') : spLevX CS CN ([x, y] ++ []) H Q E := ⟨x, y, o, rfl, h, t, e1, e2, q⟩
def spQuantX (C : Addr) : Sp := fun vs H Q E => ∃ x y, vs = [x, y] ∧ TyV H x ∧ TyV H y ∧ (isI x = false → Err C "value" x H E) ∧ (isI x = true → inI y 1 64 = false → Err C "value" y H E) ∧ (isI x = true → inI y 1 64 = true → ∀ i, Q (.int i) H)
theorem use_quantX {C : Addr} {x y : V} {H : Hp} {Q : VK} {E : XK} (t1 : TyV H x) (t2 : TyV H y) (e1 : isI x = false → Err C "value" x H E) (e2 : isI x = true → inI y 1 64 = false → Err C "value" y H E) (q : isI x = true → inI y 1 64 = true → ∀ i, Q (.int i) H) : spQuantX C ([x, y] ++ []) H Q E := ⟨x, y, rfl, t1, t2, e1, e2, q⟩
/-! ### what the law expects -/
def dueB (o : Option V) (y : V) : List V := match o with
  | some e => mk2 "sound" e
  | none => if inI y 0 5 then mk2 "fine" .non else mk2 "number" y
def dueQ (x y : V) : List V := if isI x then (if inI y 1 64 then mk2 "fine" .non else mk2 "number" y) else mk2 "number" x
def spDueB : Sp := fun vs H Q _ => ∃ (x y : V) (o : Option V), vs = [x, y] ∧ BR H x o ∧ TyV H y ∧ ∀ p H', H p = none → Same H H' → H' p = some (.lst (dueB o y)) → Q (.ref p) H'
theorem use_dueB {x y : V} {o : Option V} {H : Hp} {Q : VK} {E : XK} (h : BR H x o) (t : TyV H y) (q : ∀ p H', H p = none → Same H H' → H' p = some (.lst (dueB o y)) → Q (.ref p) H') : spDueB ([x, y] ++ []) H Q E := ⟨x, y, o, rfl, h, t, q⟩
def spDueQ : Sp := fun vs H Q _ => ∃ (x y : V), vs = [x, y] ∧ TyV H x ∧ TyV H y ∧ ∀ p H', H p = none → Same H H' → H' p = some (.lst (dueQ x y)) → Q (.ref p) H'
theorem use_dueQ {x y : V} {H : Hp} {Q : VK} {E : XK} (t1 : TyV H x) (t2 : TyV H y) (q : ∀ p H', H p = none → Same H H' → H' p = some (.lst (dueQ x y)) → Q (.ref p) H') : spDueQ ([x, y] ++ []) H Q E := ⟨x, y, rfl, t1, t2, q⟩
theorem dueB_bad {o : Option V} {y e : V} (h : o = some e) : dueB o y = mk2 "sound" e := by rw [h]; rfl
theorem dueB_fine {o : Option V} {y : V} (h : o = none) (h2 : inI y 0 5 = true) : dueB o y = mk2 "fine" .non := by rw [h]; show (if inI y 0 5 then _ else _) = _; rw [h2]; rfl
theorem dueB_num {o : Option V} {y : V} (h : o = none) (h2 : inI y 0 5 = false) : dueB o y = mk2 "number" y := by rw [h]; show (if inI y 0 5 then _ else _) = _; rw [h2]; rfl
/-! ### values with data, off some places -/
def scOk : V → Bool
  | .non => true
  | .bl _ => true
  | .int _ => true
  | .str s => PyData.strOk s
  | _ => false
theorem scOk.sc {v : V} (h : scOk v = true) : scalarV v = true := by cases v <;> first | rfl | exact Bool.noConfusion h
def EV (l : List Addr) (H : Hp) (v : V) : Prop := scOk v = true ∨ ∃ a xs, v = .ref a ∧ a ∉ l ∧ (H a = some (.lst xs) ∨ H a = some (.tup xs)) ∧ ∀ x ∈ xs, scOk x = true
def KpLN (l : List Addr) (H H' : Hp) : Prop := ∀ a o, a ∉ l → H a = some o → (∀ ps, o ≠ .tbl ps) → H' a = some o
section
variable {l : List Addr} {p q : Addr} {H H' H1 H2 : Hp} {o : HO} {v : V} {K : PySem.W.Frag}
theorem nm_cons {a b : Addr} {m : List Addr} (h : a ≠ b) (k : a ∉ m) : a ∉ b :: m := fun z => (List.mem_cons.mp z).elim h k
theorem ne_new {a b : Addr} {u : HO} (h : H a = none) (k : H b = some u) : a ≠ b := fun z => by rw [z, k] at h; cases h
theorem ixN_int {n : Nat} {r : Int} (h0 : 0 ≤ r) (h1 : r < n) : ixN n r = some r.toNat := by
  obtain ⟨j, rfl⟩ : ∃ j : Nat, r = (j : Int) := ⟨r.toNat, by omega⟩
  exact ixN_nat (by omega)
theorem KpLN.refl : KpLN l H H := fun _ _ _ h _ => h
theorem KpLN.trans (a : KpLN l H H1) (b : KpLN l H1 H2) : KpLN l H H2 := fun c o n h t => b c o n (a c o n h t) t
theorem KpLN.ofL (k : KpL l H H') : KpLN l H H' := fun a o n h _ => k a o n h
theorem KpLN.of (s : Same H H') : KpLN l H H' := fun a o _ h _ => s a o h
theorem KpLN.ofN (s : LamX.ExtN H H') : KpLN l H H' := fun a o _ h t => s a o h t
theorem KpLN.ofK (m : p ∈ l) (k : Kp p H H') : KpLN l H H' := .ofL (KpL.ofK m k)
theorem KpLN.new (n : H q = none) : KpLN l H (upd H q o) := .of (same_new n)
theorem KpLN.at (m : q ∈ l) : KpLN l H (upd H q o) := .ofL (KpL.at m)
theorem EV.kp (k : KpLN l H H') (h : EV l H v) : EV l H' v := by
  rcases h with h | ⟨a, xs, e, n, h | h, s⟩
  · exact .inl h
  · exact .inr ⟨a, xs, e, n, .inl (k _ _ n h lst_ntbl), s⟩
  · exact .inr ⟨a, xs, e, n, .inr (k _ _ n h tup_ntbl), s⟩
theorem EV.set {xs : List V} {j : Nat} {S : Addr} {u : HO} (h : ∀ x ∈ xs, EV l H x) (hv : EV l H v) (m : S ∈ l) : ∀ x ∈ xs.set j v, EV l (upd H S u) x := fun x hx => by
  have k : KpLN l H (upd H S u) := .at m
  rcases List.mem_or_eq_of_mem_set hx with hx | rfl
  · exact (h x hx).kp k
  · exact hv.kp k
theorem EV.less {m : List Addr} (h : ∀ a ∈ m, a ∈ l) (e : EV l H v) : EV m H v := by
  rcases e with e | ⟨a, xs, e, n, r, s⟩
  · exact .inl e
  · exact .inr ⟨a, xs, e, fun z => n (h a z), r, s⟩
theorem EV.ty (h : EV l H v) : TyV H v := by
  rcases h with h | ⟨a, xs, rfl, _, h | h, _⟩
  · cases v <;> first | exact True.intro | exact Bool.noConfusion h
  · exact .inl ⟨xs, h⟩
  · exact .inr ⟨xs, h⟩
theorem EV.sm (h : EV l H v) : SmV K H 1 v v := by
  rcases h with h | ⟨a, xs, rfl, _, h | h, s⟩
  · exact .inl ⟨rfl, scOk.sc h⟩
  · exact .inr (.inl ⟨a, a, xs, xs, rfl, rfl, .of h, .of h, rfl, fun i x y e1 e2 => by
      rw [e1] at e2
      exact ⟨Option.some.inj e2, scOk.sc (s x (List.mem_of_getElem? e1))⟩⟩)
  · exact .inr (.inr ⟨a, a, xs, xs, rfl, rfl, .of h, .of h, rfl, fun i x y e1 e2 => by
      rw [e1] at e2
      exact ⟨Option.some.inj e2, scOk.sc (s x (List.mem_of_getElem? e1))⟩⟩)
theorem EV.sc (h : scOk v = true) : EV l H v := .inl h
theorem EV.lst {a : Addr} {xs : List V} (n : a ∉ l) (h : H a = some (.lst xs)) (s : ∀ x ∈ xs, scOk x = true) : EV l H (.ref a) := .inr ⟨a, xs, rfl, n, .inl h, s⟩
theorem EV.tup {a : Addr} {xs : List V} (n : a ∉ l) (h : H a = some (.tup xs)) (s : ∀ x ∈ xs, scOk x = true) : EV l H (.ref a) := .inr ⟨a, xs, rfl, n, .inr h, s⟩
theorem sc_dp (h : scOk v = true) : ∃ d, Dp K H v d ∧ PyData.canLay0 d = true ∧ PyData.depth d = 0 := by
  cases v with
  | non => exact ⟨_, .non, rfl, rfl⟩
  | bl b => exact ⟨_, .bl b, rfl, rfl⟩
  | int i => exact ⟨_, .int i, rfl, rfl⟩
  | str s => exact ⟨_, .str s, h, rfl⟩
  | _ => exact Bool.noConfusion h
theorem all_dp {P : V → Prop} {m : Nat} (hP : ∀ v, P v → ∃ d, Dp K H v d ∧ PyData.canLay0 d = true ∧ PyData.depth d ≤ m) : ∀ xs : List V, (∀ x ∈ xs, P x) → ∃ ds, DpAll K H xs ds ∧ PyData.canLayAll0 ds = true ∧ PyData.depthAll ds ≤ m
  | [], _ => ⟨[], .nil, rfl, Nat.zero_le _⟩
  | x :: r, h => by
    obtain ⟨d, a1, a2, a3⟩ := hP x (h x List.mem_cons_self)
    obtain ⟨ds, b1, b2, b3⟩ := all_dp hP r fun y hy => h y (List.mem_cons_of_mem _ hy)
    exact ⟨d :: ds, .cons a1 b1, by show (_ && _) = true; rw [a2, b2]; rfl, Nat.max_le.mpr ⟨a3, b3⟩⟩
theorem EV.dp (h : EV l H v) : ∃ d, Dp K H v d ∧ PyData.canLay0 d = true ∧ PyData.depth d ≤ 1 := by
  rcases h with h | ⟨a, xs, rfl, _, h | h, s⟩
  · obtain ⟨d, h1, h2, h3⟩ := sc_dp (K := K) (H := H) h
    exact ⟨d, h1, h2, by omega⟩
  · obtain ⟨ds, h1, h2, h3⟩ := all_dp (K := K) (H := H) (P := fun v => scOk v = true) (m := 0) (fun v hv => by obtain ⟨d, a, b, c⟩ := sc_dp (K := K) (H := H) hv; exact ⟨d, a, b, by omega⟩) xs s
    exact ⟨.list ds, .lst (SqL.of h) h1, h2, by show PyData.depthAll ds + 1 ≤ 1; omega⟩
  · obtain ⟨ds, h1, h2, h3⟩ := all_dp (K := K) (H := H) (P := fun v => scOk v = true) (m := 0) (fun v hv => by obtain ⟨d, a, b, c⟩ := sc_dp (K := K) (H := H) hv; exact ⟨d, a, b, by omega⟩) xs s
    exact ⟨.tuple ds, .tup (SqT.of h) h1, h2, by show PyData.depthAll ds + 1 ≤ 1; omega⟩
theorem rd_neEV {Q : VK} {xs : List V} (hp : SqL K H p xs) (hq : SqL K H q xs) (s : ∀ x ∈ xs, EV l H x) (h : Q (.bl false) H) : rNeD K (.ref p) (.ref q) H Q := by
  obtain ⟨ds, h1, h2, h3⟩ := all_dp (K := K) (H := H) (P := EV l H) (m := 1) (fun v hv => hv.dp) xs s
  have sh : SeqAt.shaped (.list ds) = true := by
    show (PyData.canLayAll0 ds && decide (PyData.depthAll ds + 1 ≤ 64)) = true
    rw [h2, decide_eq_true (by omega)]
    rfl
  exact ⟨.list ds, .list ds, .lst hp h1, .lst hq h1, sh, sh, by rw [SeqAt.eqv_refl _ (SeqAt.canLay_of_shaped sh)]; exact h⟩
/-- .. against an empty list -/
theorem rd_neE {Q : VK} {xs : List V} (hp : SqL K H p xs) (hq : SqL K H q []) (s : ∀ x ∈ xs, EV l H x) (h : Q (.bl (!decide (xs = []))) H) : rNeD K (.ref p) (.ref q) H Q := by
  obtain ⟨ds, h1, h2, h3⟩ := all_dp (K := K) (H := H) (P := EV l H) (m := 1) (fun v hv => hv.dp) xs s
  have sh : SeqAt.shaped (.list ds) = true := by
    show (PyData.canLayAll0 ds && decide (PyData.depthAll ds + 1 ≤ 64)) = true
    rw [h2, decide_eq_true (by omega)]
    rfl
  refine ⟨.list ds, .list [], .lst hp h1, .lst hq .nil, sh, rfl, ?_⟩
  have e : PyData.eqv (.list ds) (.list []) = decide (xs = []) := by
    cases h1 with
    | nil => rfl
    | cons a b => rfl
  rw [e]
  exact h
def spOddE : Sp := fun vs H Q _ => ∃ (p : Addr), vs = [.ref p] ∧ Pool H p ∧ ∀ v H', EV [p] H' v → Pool H' p → Kp p H H' → Q v H'
theorem use_oddE {Q : VK} {E : XK} (h : Pool H p) (q : ∀ v H', EV [p] H' v → Pool H' p → Kp p H H' → Q v H') : spOddE ([.ref p] ++ []) H Q E := ⟨p, rfl, h, q⟩
theorem same2 {t : Str} {v : V} {a b : Addr} (ha : H a = some (.lst (mk2 t v))) (hb : H b = some (.lst (mk2 t v))) (hv : SmV K H 1 v v) : SmV K H 2 (.ref a) (.ref b) := sm_last (xs := [.str t]) ha hb (fun x hx => by rw [List.mem_singleton.mp hx]; rfl) hv
end
/-! ### the block that a law gives: the list, or another value -/
def GV (p : Addr) (H : Hp) (xs : List V) (x : V) : Prop := (∃ a, x = .ref a ∧ a ≠ p ∧ H a = some (.lst xs)) ∨ scalarV x = true ∨ ∃ a ys, x = .ref a ∧ a ≠ p ∧ H a = some (.tup ys)
section
variable {p S : Addr} {H H' H1 H2 H3 : Hp} {xs ys : List V} {x : V} {o : Option V} {T : List (Addr × Str)}
theorem GV.kp (k : KpLN [p] H H') (h : GV p H xs x) : GV p H' xs x := by
  rcases h with ⟨a, e, n, h⟩ | h | ⟨a, ys, e, n, h⟩
  · exact .inl ⟨a, e, n, k _ _ (nm_cons n List.not_mem_nil) h lst_ntbl⟩
  · exact .inr (.inl h)
  · exact .inr (.inr ⟨a, ys, e, n, k _ _ (nm_cons n List.not_mem_nil) h tup_ntbl⟩)
theorem GV.br (h : GV p H xs x) (t : ∀ y ∈ xs, TyV H y) (m : xs.length ≤ 1000) : ∃ o, BR H x o := by
  rcases h with ⟨a, rfl, n, h⟩ | h | ⟨a, ys, rfl, n, h⟩
  · exact br_ex h t m
  · exact ⟨_, .flat h⟩
  · exact ⟨_, .tup h⟩
theorem tyvE (s : LamX.ExtN H H') (h : TyV H x) : TyV H' x := by
  cases x with
  | ref a => exact h.elim (fun ⟨xs, e⟩ => .inl ⟨xs, s _ _ e lst_ntbl⟩) fun ⟨xs, e⟩ => .inr ⟨xs, s _ _ e tup_ntbl⟩
  | _ => exact h
theorem BR.scal {e : V} (h : BR H x o) (ho : o = some e) : scalarV e = true := by
  cases h with
  | flat _ => cases ho; rfl
  | tup _ => cases ho; rfl
  | size _ _ _ => cases ho; rfl
  | item _ _ _ t =>
    cases t with
    | bad _ _ _ _ => cases ho; rfl
    | good _ => cases ho
theorem BR.ext (s : LamX.ExtN H H') (h : BR H x o) : BR H' x o := by
  cases h with
  | flat h => exact .flat h
  | tup h => exact .tup (s _ _ h tup_ntbl)
  | size h n m => exact .size (s _ _ h lst_ntbl) n m
  | item h n1 n2 t =>
    refine .item (s _ _ h lst_ntbl) n1 n2 ?_
    cases t with
    | bad b e n t => exact .bad b e n fun x hx => tyvE s (t x hx)
    | good e => exact .good e
theorem KpLN.drop {l : List Addr} (k : KpLN (S :: l) H H') (n : H S = none) : KpLN l H H' := fun a o m h t => k a o (nm_cons (fun z => by rw [z, n] at h; cases h) m) h t
theorem KpLN.swap {q : Addr} (k : KpLN [p, q] H H') : KpLN [q, p] H H' := fun a o m h t => k a o (fun z => m (by rcases List.mem_cons.mp z with z | z <;> simp_all)) h t
theorem close_turnLN (s : LamX.ExtN H H1) (n : H1 p = none) (s2 : Same H1 H2) (k : KpLN [p] H2 H3) : LamX.ExtN H H3 := fun a o h t =>
  k a o (nm_cons (fun e => by rw [e] at h; have z := s _ _ h t; rw [n] at z; cases z) List.not_mem_nil) (s2 _ _ (s _ _ h t)) t
theorem Tabs.setL (h : H S = some (.lst xs)) (t : LamX.Tabs T H) : LamX.Tabs T (upd H S (.lst ys)) := fun e he => by
  obtain ⟨ps, h1, h2, h3⟩ := t e he
  refine ⟨ps, by rw [upd_ne (fun z => by rw [z, h] at h1; cases h1)]; exact h1, h2, fun pos cv hc => ?_⟩
  obtain ⟨c, e1, e2⟩ := h3 pos cv hc
  exact ⟨c, e1, by rw [upd_ne (fun z => by rw [z, h] at e2; exact codeO_lst (Option.some.inj e2).symm)]; exact e2⟩
theorem Pool.setL (n : S ≠ p) (h : Pool H p) {u : HO} : Pool (upd H S u) p := by
  obtain ⟨x, y, e, r⟩ := h
  exact ⟨x, y, by rw [upd_ne n.symm]; exact e, r⟩
theorem extN_same (s : Same H H') : LamX.ExtN H H' := .of fun b o e => s b o e
theorem extN_trans (s : LamX.ExtN H H1) (t : LamX.ExtN H1 H2) : LamX.ExtN H H2 := fun a o h n => t a o (s a o h n) n
end
end Z

/-! Joints of any values. -/
namespace Z
open PySem PySem.Spec PyProof.Rows L2
/-! ### plain values of any depth, off some places -/
def PV (l : List Addr) (H : Hp) : Nat → V → Prop
  | 0, v => scOk v = true
  | n + 1, v => scOk v = true ∨ ∃ a xs, v = .ref a ∧ a ∉ l ∧ LT H a xs ∧ ∀ x ∈ xs, PV l H n x
section
variable {l : List Addr} {p q S : Addr} {H H' : Hp} {v : V} {K : PySem.W.Frag}
theorem LT.kpln {a : Addr} {xs : List V} (k : KpLN l H H') (n : a ∉ l) (h : LT H a xs) : LT H' a xs := h.imp (fun e => k _ _ n e lst_ntbl) fun e => k _ _ n e tup_ntbl
theorem PV.kp (k : KpLN l H H') : ∀ {n : Nat} {v : V}, PV l H n v → PV l H' n v
  | 0, _, h => h
  | n + 1, v, h => by
    rcases h with h | ⟨a, xs, e, m, h, s⟩
    · exact .inl h
    · exact .inr ⟨a, xs, e, m, h.kpln k m, fun x hx => PV.kp k (s x hx)⟩
theorem PV.sc (h : scOk v = true) : ∀ {n : Nat}, PV l H n v
  | 0 => h
  | _ + 1 => .inl h
theorem PV.less {m : List Addr} (s : ∀ a ∈ m, a ∈ l) : ∀ {n : Nat} {v : V}, PV l H n v → PV m H n v
  | 0, _, h => h
  | n + 1, v, h => by
    rcases h with h | ⟨a, xs, e, k, h, t⟩
    · exact .inl h
    · exact .inr ⟨a, xs, e, fun z => k (s a z), h, fun x hx => PV.less s (t x hx)⟩
theorem PV.up : ∀ {n : Nat} {v : V}, PV l H n v → PV l H (n + 1) v
  | 0, _, h => .inl h
  | n + 1, v, h => by
    rcases h with h | ⟨a, xs, e, k, h, t⟩
    · exact .inl h
    · exact .inr ⟨a, xs, e, k, h, fun x hx => (t x hx).up⟩
theorem PV.tup {n : Nat} {a : Addr} {xs : List V} (m : a ∉ l) (h : H a = some (.tup xs)) (s : ∀ x ∈ xs, PV l H n x) : PV l H (n + 1) (.ref a) := .inr ⟨a, xs, rfl, m, .inr h, s⟩
theorem PV.lst {n : Nat} {a : Addr} {xs : List V} (m : a ∉ l) (h : H a = some (.lst xs)) (s : ∀ x ∈ xs, PV l H n x) : PV l H (n + 1) (.ref a) := .inr ⟨a, xs, rfl, m, .inl h, s⟩
theorem PV.ty : ∀ {n : Nat} {v : V}, PV l H n v → TyV H v
  | 0, v, h => by cases v <;> first | exact True.intro | exact Bool.noConfusion h
  | n + 1, v, h => by
    rcases h with h | ⟨a, xs, rfl, m, h | h, s⟩
    · cases v <;> first | exact True.intro | exact Bool.noConfusion h
    · exact .inl ⟨xs, h⟩
    · exact .inr ⟨xs, h⟩
theorem PV.dp : ∀ {n : Nat} {v : V}, PV l H n v → ∃ d, Dp K H v d ∧ PyData.canLay0 d = true ∧ PyData.depth d ≤ n
  | 0, v, h => by obtain ⟨d, a, b, c⟩ := sc_dp (K := K) (H := H) (v := v) h; exact ⟨d, a, b, by omega⟩
  | n + 1, v, h => by
    rcases h with h | ⟨a, xs, rfl, m, h | h, s⟩
    · obtain ⟨d, a, b, c⟩ := sc_dp (K := K) (H := H) h
      exact ⟨d, a, b, by omega⟩
    · obtain ⟨ds, h1, h2, h3⟩ := all_dp (K := K) (H := H) (P := PV l H n) (m := n) (fun v hv => PV.dp hv) xs s
      exact ⟨.list ds, .lst (SqL.of h) h1, h2, by show PyData.depthAll ds + 1 ≤ _; omega⟩
    · obtain ⟨ds, h1, h2, h3⟩ := all_dp (K := K) (H := H) (P := PV l H n) (m := n) (fun v hv => PV.dp hv) xs s
      exact ⟨.tuple ds, .tup (SqT.of h) h1, h2, by show PyData.depthAll ds + 1 ≤ _; omega⟩
theorem shaped_PV {n : Nat} (hn : n < 60) {xs : List V} (s : ∀ x ∈ xs, PV l H n x) : ∃ ds, DpAll K H xs ds ∧ SeqAt.shaped (.list ds) = true := by
  obtain ⟨ds, h1, h2, h3⟩ := all_dp (K := K) (H := H) (P := PV l H n) (m := n) (fun v hv => hv.dp) xs s
  refine ⟨ds, h1, ?_⟩
  show (PyData.canLayAll0 ds && decide (PyData.depthAll ds + 1 ≤ 64)) = true
  rw [h2, decide_eq_true (by omega)]
  rfl
theorem rd_nePV {n : Nat} {Q : VK} {xs : List V} (hn : n < 60) (hp : SqL K H p xs) (hq : SqL K H q xs) (s : ∀ x ∈ xs, PV l H n x) (h : Q (.bl false) H) : rNeD K (.ref p) (.ref q) H Q := by
  obtain ⟨ds, h1, sh⟩ := shaped_PV (K := K) hn s
  exact ⟨.list ds, .list ds, .lst hp h1, .lst hq h1, sh, sh, by rw [SeqAt.eqv_refl _ (SeqAt.canLay_of_shaped sh)]; exact h⟩
theorem rd_nePE {n : Nat} {Q : VK} {xs : List V} (hn : n < 60) (hp : SqL K H p xs) (hq : SqL K H q []) (s : ∀ x ∈ xs, PV l H n x) (h : Q (.bl (!decide (xs = []))) H) : rNeD K (.ref p) (.ref q) H Q := by
  obtain ⟨ds, h1, sh⟩ := shaped_PV (K := K) hn s
  refine ⟨.list ds, .list [], .lst hp h1, .lst hq .nil, sh, rfl, ?_⟩
  have e : PyData.eqv (.list ds) (.list []) = decide (xs = []) := by
    cases h1 with
    | nil => rfl
    | cons a b => rfl
  rw [e]
  exact h
theorem PV.set {n : Nat} {xs : List V} {j : Nat} {u : HO} (h : ∀ x ∈ xs, PV l H n x) (hv : PV l H n v) (m : S ∈ l) : ∀ x ∈ xs.set j v, PV l (upd H S u) n x := fun x hx => by
  have k : KpLN l H (upd H S u) := .at m
  rcases List.mem_or_eq_of_mem_set hx with hx | rfl
  · exact (h x hx).kp k
  · exact hv.kp k
theorem PV.app {n : Nat} {xs : List V} {u : HO} (h : ∀ x ∈ xs, PV l H n x) (hv : PV l H n v) (m : S ∈ l) : ∀ x ∈ xs ++ [v], PV l (upd H S u) n x := fun x hx => by
  have k : KpLN l H (upd H S u) := .at m
  rcases List.mem_append.mp hx with hx | hx
  · exact (h x hx).kp k
  · rw [List.mem_singleton.mp hx]; exact hv.kp k
theorem isiT_flat {t : Addr} {x : V} {Q : VK} (h : scalarV x = true) (ht : H t = some (.tup [.ty "list", .ty "tuple"])) (q : Q (.bl false) H) : rIsiT K [x, .ref t] H Q := by
  cases x with
  | non => exact ⟨.non, t, _, _, [.type "list", .type "tuple"], false, rfl, ht, .cons (.ty "list") (.cons (.ty "tuple") .nil), .base .non, rfl, q⟩
  | bl b => exact ⟨.bl b, t, _, _, [.type "list", .type "tuple"], false, rfl, ht, .cons (.ty "list") (.cons (.ty "tuple") .nil), .base (.bl b), rfl, q⟩
  | int i => exact ⟨.int i, t, _, _, [.type "list", .type "tuple"], false, rfl, ht, .cons (.ty "list") (.cons (.ty "tuple") .nil), .base (.int i), rfl, q⟩
  | str s => exact ⟨.str s, t, _, _, [.type "list", .type "tuple"], false, rfl, ht, .cons (.ty "list") (.cons (.ty "tuple") .nil), .base (.str s), rfl, q⟩
  | _ => exact Bool.noConfusion h
end
/-! ### a sound -/
inductive SR (H : Hp) (n : Nat) : V → Option V → Prop where
  | flat {x : V} (h : scalarV x = true) : SR H n x (some .non)
  | seq {a : Addr} {xs : List V} {o : Option Nat} (h : LT H a xs) (e : xs.length = n) (m : n ≤ 1000) (t : IT H xs o) : SR H n (.ref a) (o.map fun i => .int (i : Nat))
/-! ### a placed joint -/
inductive PJ (H : Hp) : V → Option (Int × Int × Int) → Prop where
  | flat {x : V} (h : scalarV x = true) : PJ H x none
  | lst {a : Addr} {xs : List V} (h : H a = some (.lst xs)) : PJ H (.ref a) none
  | tupn {a : Addr} {xs : List V} (h : H a = some (.tup xs)) (n : xs.length ≠ 2) : PJ H (.ref a) none
  | noi {a : Addr} {u v : V} (h : H a = some (.tup [u, v])) (t : TyV H u) (n : isI u = false) : PJ H (.ref a) none
  | noj {a : Addr} {i : Int} {v : V} (h : H a = some (.tup [.int i, v])) (t : JR H v false) : PJ H (.ref a) none
  | good {a b : Addr} {i w s : Int} (h : H a = some (.tup [.int i, .ref b])) (g : H b = some (.tup [.int w, .int s])) (t : jt (.int w) (.int s) = true) : PJ H (.ref a) (some (i, w, s))
inductive All2 {α β : Type} (R : α → β → Prop) : List α → List β → Prop where
  | nil : All2 R [] []
  | cons {a : α} {b : β} {as : List α} {bs : List β} (h : R a b) (t : All2 R as bs) : All2 R (a :: as) (b :: bs)
theorem All2.imp {α β : Type} {R S : α → β → Prop} (f : ∀ a b, R a b → S a b) {as : List α} {bs : List β} (h : All2 R as bs) : All2 S as bs := by
  induction h with
  | nil => exact .nil
  | cons h _ ih => exact .cons (f _ _ h) ih
theorem All2.get {α β : Type} {R : α → β → Prop} {as : List α} {bs : List β} (h : All2 R as bs) : ∀ (i : Nat) (a : α), as[i]? = some a → ∃ b r, R a b ∧ bs.drop i = b :: r ∧ bs.drop (i + 1) = r := by
  induction h with
  | nil => intro i a e; simp at e
  | @cons a b as bs h t ih =>
    intro i x e
    cases i with
    | zero => cases e; exact ⟨b, bs, h, rfl, rfl⟩
    | succ i => exact ih i x e
theorem All2.len {α β : Type} {R : α → β → Prop} {as : List α} {bs : List β} (h : All2 R as bs) : as.length = bs.length := by
  induction h with
  | nil => rfl
  | cons _ _ ih => exact congrArg (· + 1) ih
def rmB (n : Nat) (l b : Int) (i w : Int) : Bool := decide (l < i ∧ i < n ∧ l + b + w ≤ i ∧ i + w ≤ n)
/-- the first item that can not stand -/
def jb (n : Nat) : Nat → Int → Int → List (Option (Int × Int × Int)) → Option Nat
  | _, _, _, [] => none
  | k, _, _, none :: _ => some k
  | k, l, b, some (i, w, s) :: r => if rmB n l b i w then jb n (k + 1) i w r else some k
inductive JP (H : Hp) (n : Nat) : V → Option V → Prop where
  | flat {x : V} (h : scalarV x = true) : JP H n x (some .non)
  | seq {a : Addr} {xs : List V} {ps : List (Option (Int × Int × Int))} (h : LT H a xs) (m : xs.length ≤ 1000) (t : All2 (PJ H) xs ps) : JP H n (.ref a) ((jb n 0 0 0 ps).map fun i => .int (i : Nat))
section
variable {H H' : Hp} {n : Nat} {x : V} {o : Option V}
theorem jr_ext (s : LamX.ExtN H H') {b : Bool} (h : JR H x b) : JR H' x b := by
  cases h with
  | flat h => exact .flat h
  | lst h => exact .lst (s _ _ h lst_ntbl)
  | tupn h n => exact .tupn (s _ _ h tup_ntbl) n
  | tup2 h u v => exact .tup2 (s _ _ h tup_ntbl) (tyvE s u) (tyvE s v)
theorem pj_ext (s : LamX.ExtN H H') {j : Option (Int × Int × Int)} (h : PJ H x j) : PJ H' x j := by
  cases h with
  | flat h => exact .flat h
  | lst h => exact .lst (s _ _ h lst_ntbl)
  | tupn h n => exact .tupn (s _ _ h tup_ntbl) n
  | noi h t n => exact .noi (s _ _ h tup_ntbl) (tyvE s t) n
  | noj h t => exact .noj (s _ _ h tup_ntbl) (jr_ext s t)
  | good h g t => exact .good (s _ _ h tup_ntbl) (s _ _ g tup_ntbl) t
theorem lt_ext {a : Addr} {xs : List V} (s : LamX.ExtN H H') (h : LT H a xs) : LT H' a xs := h.imp (fun e => s _ _ e lst_ntbl) fun e => s _ _ e tup_ntbl
theorem it_ext {xs : List V} {o : Option Nat} (s : LamX.ExtN H H') (h : IT H xs o) : IT H' xs o := by
  cases h with
  | bad b e n t => exact .bad b e n fun x hx => tyvE s (t x hx)
  | good e => exact .good e
theorem SR.ext (s : LamX.ExtN H H') (h : SR H n x o) : SR H' n x o := by
  cases h with
  | flat h => exact .flat h
  | seq h e m t => exact .seq (lt_ext s h) e m (it_ext s t)
theorem JP.ext (s : LamX.ExtN H H') (h : JP H n x o) : JP H' n x o := by
  cases h with
  | flat h => exact .flat h
  | seq h m t => exact .seq (lt_ext s h) m (t.imp fun _ _ => pj_ext s)
theorem SR.same (s : Same H H') (h : SR H n x o) : SR H' n x o := h.ext (extN_same s)
theorem JP.same (s : Same H H') (h : JP H n x o) : JP H' n x o := h.ext (extN_same s)
theorem SR.scal {e : V} (h : SR H n x o) (ho : o = some e) : scalarV e = true := by
  cases h with
  | flat _ => cases ho; rfl
  | @seq a xs o _ _ _ t => cases o with
    | none => cases ho
    | some k => cases ho; rfl
theorem JP.scal {e : V} (h : JP H n x o) (ho : o = some e) : scalarV e = true := by
  cases h with
  | flat _ => cases ho; rfl
  | @seq a xs ps _ _ t =>
    cases g : jb n 0 0 0 ps with
    | none => rw [g] at ho; cases ho
    | some k => rw [g] at ho; cases ho; rfl
theorem jr_ex {l : List Addr} {m : Nat} {v : V} (h : PV l H m v) : ∃ b, JR H v b ∧ (b = true → ∃ (a : Addr) (w s : Int), v = .ref a ∧ H a = some (.tup [.int w, .int s]) ∧ jt (.int w) (.int s) = true) := by
  cases m with
  | zero => exact ⟨false, .flat (scOk.sc h), fun z => Bool.noConfusion z⟩
  | succ m =>
    rcases h with h | ⟨a, xs, rfl, _, h | h, t⟩
    · exact ⟨false, .flat (scOk.sc h), fun z => Bool.noConfusion z⟩
    · exact ⟨false, .lst h, fun z => Bool.noConfusion z⟩
    · by_cases e : xs.length = 2
      · obtain ⟨u, v, rfl⟩ := len2 e
        refine ⟨jt u v, .tup2 h (t u (by simp)).ty (t v (by simp)).ty, fun z => ?_⟩
        have z' := z
        unfold jt at z'
        rw [Bool.and_eq_true, Bool.and_eq_true] at z'
        obtain ⟨w, rfl⟩ := isI_yes (inI_isI z'.1)
        obtain ⟨s, rfl⟩ := isI_yes (inI_isI z'.2.1)
        exact ⟨a, w, s, rfl, h, z⟩
      · exact ⟨false, .tupn h e, fun z => Bool.noConfusion z⟩
theorem pj_ex {l : List Addr} {m : Nat} {v : V} (h : PV l H m v) : ∃ j, PJ H v j := by
  cases m with
  | zero => exact ⟨_, .flat (scOk.sc h)⟩
  | succ m =>
    rcases h with h | ⟨a, xs, rfl, _, h | h, t⟩
    · exact ⟨_, .flat (scOk.sc h)⟩
    · exact ⟨_, .lst h⟩
    · by_cases e : xs.length = 2
      · obtain ⟨u, v, rfl⟩ := len2 e
        by_cases c : isI u = true
        · obtain ⟨i, rfl⟩ := isI_yes c
          obtain ⟨b, hj, hb⟩ := jr_ex (t v (by simp))
          cases b with
          | false => exact ⟨_, .noj h hj⟩
          | true =>
            obtain ⟨q, w, s, rfl, g, z⟩ := hb rfl
            exact ⟨_, .good h g z⟩
        · exact ⟨_, .noi h (t u (by simp)).ty (by simpa using c)⟩
      · exact ⟨_, .tupn h e⟩
theorem all_pj {l : List Addr} {m : Nat} : ∀ xs : List V, (∀ x ∈ xs, PV l H m x) → ∃ ps, All2 (PJ H) xs ps
  | [], _ => ⟨[], .nil⟩
  | x :: r, h => by
    obtain ⟨j, hj⟩ := pj_ex (h x List.mem_cons_self)
    obtain ⟨ps, hp⟩ := all_pj r fun y hy => h y (List.mem_cons_of_mem _ hy)
    exact ⟨j :: ps, .cons hj hp⟩
theorem jt_nat {w s : Int} (h : jt (.int w) (.int s) = true) : ∃ a b : Nat, w = (a : Int) ∧ s = (b : Int) ∧ a ≤ 8 ∧ b ≤ 3 ∧ (a = 0 → b = 0) := by
  unfold jt at h
  simp only [Bool.and_eq_true, jx, Bool.or_eq_true, decide_eq_true_eq, inI] at h
  obtain ⟨h1, h2, h3⟩ := h
  exact ⟨w.toNat, s.toNat, by omega, by omega, by omega, by omega, by omega⟩
/-- no item is refused: they are joints with room -/
theorem jb_none : ∀ (ps : List (Option (Int × Int × Int))) (xs : List V) (k l b : Nat), All2 (PJ H) xs ps → jb n k (l : Int) (b : Int) ps = none → ∃ js : List Jo, JsAt H xs js ∧ Rm n l b js
  | _, _, k, l, b, .nil, _ => ⟨[], ⟨rfl, fun i v e => by simp at e⟩, True.intro⟩
  | none :: _, _, k, l, b, .cons _ _, h => by cases h
  | some (i, w, s) :: r, x :: xs, k, l, b, .cons hp t, h => by
    have h' : (if rmB n l b i w then jb n (k + 1) i w r else some k) = none := h
    by_cases c : rmB n l b i w = true
    · rw [if_pos c] at h'
      have c := of_decide_eq_true c
      cases hp with
      | @good a q _ _ _ e1 e2 ht =>
        obtain ⟨w', s', rfl, rfl, w8, s3, w0⟩ := jt_nat ht
        obtain ⟨i', rfl⟩ : ∃ i' : Nat, i = (i' : Int) := ⟨i.toNat, by omega⟩
        obtain ⟨js, hj, hr⟩ := jb_none r xs (k + 1) i' w' t h'
        refine ⟨(i', w', s') :: js, ⟨congrArg (· + 1) hj.1, fun m v e => ?_⟩, ?_⟩
        · cases m with
          | zero => cases e; exact ⟨(i', w', s'), a, q, rfl, rfl, e1, e2⟩
          | succ m => exact hj.2 m v e
        · exact ⟨by dsimp only; omega, by dsimp only; omega, by dsimp only; omega, by dsimp only; omega, w8, s3, w0, hr⟩
    · rw [if_neg c] at h'
      cases h'
end
/-! ### promises -/
def spItemsXA (C : Addr) : Sp := fun vs H Q E => ∃ (a : Addr) (xs : List V) (o : Option Nat), vs = [.ref a] ∧ LT H a xs ∧ IT H xs o ∧ (∀ i, o = some i → Err C "index" (.int (i : Nat)) H E) ∧ (o = none → ∀ H', Same H H' → Q .non H')
theorem use_itemsXA {C a : Addr} {xs : List V} {o : Option Nat} {H : Hp} {Q : VK} {E : XK} (h : LT H a xs) (t : IT H xs o) (e : ∀ i, o = some i → Err C "index" (.int (i : Nat)) H E) (q : o = none → ∀ H', Same H H' → Q .non H') : spItemsXA C ([.ref a] ++ []) H Q E := ⟨a, xs, o, rfl, h, t, e, q⟩
def spSoundX (C : Addr) : Sp := fun vs H Q E => ∃ (x : V) (n : Nat) (o : Option V), vs = [x] ∧ SR H n x o ∧ (∀ e, o = some e → Err C "index" e H E) ∧ (o = none → ∀ H', Same H H' → Q .non H')
theorem use_soundX {C : Addr} {x : V} {n : Nat} {o : Option V} {H : Hp} {Q : VK} {E : XK} (h : SR H n x o) (e : ∀ e, o = some e → Err C "index" e H E) (q : o = none → ∀ H', Same H H' → Q .non H') : spSoundX C ([x] ++ []) H Q E := ⟨x, n, o, rfl, h, e, q⟩
def spJointsX (C : Addr) : Sp := fun vs H Q E => ∃ (y : V) (n : Nat) (o : Option V), vs = [y, .int (n : Nat)] ∧ JP H n y o ∧ (∀ e, o = some e → Err C "index" e H E) ∧ (o = none → ∀ H', Same H H' → Q .non H')
theorem use_jointsX {C : Addr} {y : V} {n : Nat} {o : Option V} {H : Hp} {Q : VK} {E : XK} (h : JP H n y o) (e : ∀ e, o = some e → Err C "index" e H E) (q : o = none → ∀ H', Same H H' → Q .non H') : spJointsX C ([y, .int (n : Nat)] ++ []) H Q E := ⟨y, n, o, rfl, h, e, q⟩
def spPlacedX : Sp := fun vs H Q _ => ∃ x j, vs = [x] ∧ PJ H x j ∧ Q (.bl j.isSome) H
theorem use_placedX {x : V} {j : Option (Int × Int × Int)} {H : Hp} {Q : VK} {E : XK} (h : PJ H x j) (q : Q (.bl j.isSome) H) : spPlacedX ([x] ++ []) H Q E := ⟨x, j, rfl, h, q⟩
def spRoomX : Sp := fun vs H Q _ => ∃ (a b : Addr) (i w s l b0 : Int) (n : Nat), vs = [.ref a, .int l, .int b0, .int (n : Nat)] ∧ H a = some (.tup [.int i, .ref b]) ∧ H b = some (.tup [.int w, .int s]) ∧ Q (.bl (rmB n l b0 i w)) H
theorem use_roomX {a b : Addr} {i w s l b0 : Int} {n : Nat} {H : Hp} {Q : VK} {E : XK} (h : H a = some (.tup [.int i, .ref b])) (g : H b = some (.tup [.int w, .int s])) (q : Q (.bl (rmB n l b0 i w)) H) : spRoomX ([.ref a, .int l, .int b0, .int (n : Nat)] ++ []) H Q E := ⟨a, b, i, w, s, l, b0, n, rfl, h, g, q⟩
def spFoldsX (CS CP : Addr) : Sp := fun vs H Q E => ∃ (x y : V) (n : Nat) (o o2 : Option V), vs = [x, y] ∧ SR H n x o ∧ JP H n y o2 ∧ (∀ e, o = some e → Err CS "index" e H E) ∧ (o = none → ∀ e, o2 = some e → Err CP "index" e H E) ∧ (o = none → o2 = none → ∀ p H' ys, H p = none → Same H H' → H' p = some (.lst ys) → Q (.ref p) H')
theorem use_foldsX {CS CP : Addr} {x y : V} {n : Nat} {o o2 : Option V} {H : Hp} {Q : VK} {E : XK} (h : SR H n x o) (t : JP H n y o2) (e1 : ∀ e, o = some e → Err CS "index" e H E) (e2 : o = none → ∀ e, o2 = some e → Err CP "index" e H E) (q : o = none → o2 = none → ∀ p H' ys, H p = none → Same H H' → H' p = some (.lst ys) → Q (.ref p) H') :
    spFoldsX CS CP ([x, y] ++ []) H Q E := ⟨x, y, n, o, o2, rfl, h, t, e1, e2, q⟩
def spTurnedX (CS CP g : Addr) : Sp := fun vs H Q E => ∃ (x y : V) (n : Nat) (o o2 : Option V), vs = [x, y, .ref g] ∧ SR H n x o ∧ JP H n y o2 ∧ (∀ e, o = some e → Err CS "index" e H E) ∧ (o = none → ∀ e, o2 = some e → Err CP "index" e H E) ∧ (o = none → o2 = none → ∀ p H' ys, H p = none → Same H H' → H' p = some (.lst ys) → Q (.ref p) H')
def dueJ (o o2 : Option V) : List V := match o with
  | some e => mk2 "sound" e
  | none => match o2 with
    | some e => mk2 "plan" e
    | none => mk2 "list" .non
def spDueJ : Sp := fun vs H Q _ => ∃ (x y : V) (n : Nat) (o o2 : Option V), vs = [x, y] ∧ SR H n x o ∧ JP H n y o2 ∧ ∀ p H', H p = none → Same H H' → H' p = some (.lst (dueJ o o2)) → Q (.ref p) H'
theorem use_dueJ {x y : V} {n : Nat} {o o2 : Option V} {H : Hp} {Q : VK} {E : XK} (h : SR H n x o) (t : JP H n y o2) (q : ∀ p H', H p = none → Same H H' → H' p = some (.lst (dueJ o o2)) → Q (.ref p) H') : spDueJ ([x, y] ++ []) H Q E := ⟨x, y, n, o, o2, rfl, h, t, q⟩
theorem SR.fine {H : Hp} {n : Nat} {x : V} (h : SR H n x none) : ∃ (a : Addr) (ns : List Int), x = .ref a ∧ LT H a (ns.map V.int) ∧ ns.length = n ∧ n ≤ 1000 := by
  obtain ⟨o, ho, h⟩ : ∃ o : Option V, o = none ∧ SR H n x o := ⟨_, rfl, h⟩
  cases h with
  | flat _ => cases ho
  | @seq a xs o h e m t =>
    cases t with
    | bad _ _ _ _ => cases ho
    | @good ns e2 =>
      subst e2
      exact ⟨a, ns, rfl, h, by rw [← e, List.length_map], m⟩
theorem JP.fine {H : Hp} {n : Nat} {x : V} (h : JP H n x none) : ∃ (a : Addr) (refs : List V) (js : List Jo), x = .ref a ∧ LT H a refs ∧ JsAt H refs js ∧ Rm n 0 0 js := by
  obtain ⟨o, ho, h⟩ : ∃ o : Option V, o = none ∧ JP H n x o := ⟨_, rfl, h⟩
  cases h with
  | flat _ => cases ho
  | @seq a xs ps hL m t =>
    cases g : jb n 0 0 0 ps with
    | some k => rw [g] at ho; cases ho
    | none =>
      obtain ⟨js, h1, h2⟩ := jb_none ps xs 0 0 0 t g
      exact ⟨a, xs, js, rfl, hL, h1, h2⟩
/-- only ints or lists -/
def FinL (t : Str) : V → Hp → VK → Prop := fun v H' Q => (∃ a xs, v = .ref a ∧ H' a = some (.lst xs)) ∧ ∀ p H'', Same H' H'' → H' p = none → H'' p = some (.lst (mk2 t .non)) → Q (.ref p) H''
def Al (l : List Addr) (H : Hp) : Prop := ∀ a ∈ l, ∃ o, H a = some o
theorem nm_al {l : List Addr} {p q : Addr} {H H1 : Hp} (hl : Al l H) (k : Kp p H H1) (hp : Pool H1 p) (n : H1 q = none) : q ∉ l := fun z => by
  obtain ⟨o, e⟩ := hl _ z
  by_cases c : q = p
  · obtain ⟨x, y, e2, _⟩ := hp
    rw [c, e2] at n
    cases n
  · rw [k _ _ c e] at n
    cases n
def spItemV : Sp := fun vs H Q _ => ∃ (p : Addr) (n : Nat) (l : Int) (m : List Addr), vs = [.ref p, .int (n : Nat), .int l] ∧ Pool H p ∧ n ≤ 1000 ∧ Al m H ∧ ∀ v H', PV m H' 2 v → Pool H' p → Kp p H H' → Q v H'
theorem use_itemV {p : Addr} {n : Nat} {l : Int} {m : List Addr} {H : Hp} {Q : VK} {E : XK} (h : Pool H p) (hn : n ≤ 1000) (hm : Al m H) (q : ∀ v H', PV m H' 2 v → Pool H' p → Kp p H H' → Q v H') : spItemV ([.ref p, .int (n : Nat), .int l] ++ []) H Q E := ⟨p, n, l, m, rfl, h, hn, hm, q⟩
def spItemsV : Sp := fun vs H Q _ => ∃ (p : Addr) (n : Nat) (m : List Addr), vs = [.ref p, .int (n : Nat)] ∧ Pool H p ∧ n ≤ 1000 ∧ p ∈ m ∧ Al m H ∧ ∀ D xs H', H D = none → H' D = some (.lst xs) → xs.length ≤ 5 → (∀ v ∈ xs, PV m H' 2 v) → Pool H' p → Kp p H H' → Q (.ref D) H'
theorem use_itemsV {p : Addr} {n : Nat} {m : List Addr} {H : Hp} {Q : VK} {E : XK} (h : Pool H p) (hn : n ≤ 1000) (hp : p ∈ m) (hm : Al m H) (q : ∀ D xs H', H D = none → H' D = some (.lst xs) → xs.length ≤ 5 → (∀ v ∈ xs, PV m H' 2 v) → Pool H' p → Kp p H H' → Q (.ref D) H') : spItemsV ([.ref p, .int (n : Nat)] ++ []) H Q E := ⟨p, n, m, rfl, h, hn, hp, hm, q⟩
/-! ### a sequence that a law gives, or another value -/
def GQ (p : Addr) (H : Hp) (xs : List V) (x : V) : Prop := (∃ a, x = .ref a ∧ a ≠ p ∧ LT H a xs) ∨ scalarV x = true
section
variable {p : Addr} {H H' : Hp} {xs : List V} {x : V} {m : Nat}
theorem GQ.kp (k : KpLN [p] H H') (h : GQ p H xs x) : GQ p H' xs x := h.imp (fun ⟨a, e, n, h⟩ => ⟨a, e, n, h.kpln k (nm_cons n List.not_mem_nil)⟩) id
theorem GQ.sr (h : GQ p H xs x) (t : ∀ y ∈ xs, TyV H y) (hm : xs.length ≤ 1000) : ∃ n o, SR H n x o ∧ ((∃ a, x = .ref a ∧ a ≠ p ∧ LT H a xs) → n = xs.length) := by
  rcases h with ⟨a, rfl, n, h⟩ | h
  · obtain ⟨o, i⟩ := it_ex xs t
    exact ⟨xs.length, _, .seq h rfl hm i, fun _ => rfl⟩
  · exact ⟨xs.length, _, .flat h, fun _ => rfl⟩
theorem GQ.jp {n : Nat} (h : GQ p H xs x) (t : ∀ y ∈ xs, PV [p] H m y) (hm : xs.length ≤ 1000) : ∃ o, JP H n x o := by
  rcases h with ⟨a, rfl, _, h⟩ | h
  · obtain ⟨ps, hp⟩ := all_pj xs t
    exact ⟨_, .seq h hm hp⟩
  · exact ⟨_, .flat h⟩
end
/-- as many texts -/
theorem lc_same {K : PySem.W.Frag} {σ : L2.St} {Q : VK} {vs : List Nat} {k : Nat} {a D : Addr} {xs : List V} {H1 : Hp} {l : List Nat} (hS : SqL K H1 a xs) (hn : xs.length ≤ 1000) (hw : ∀ v, wipe ((wipe σ vs).set k (some v)) vs = wipe σ vs) (hD : H1 D = none)
    (q : ∀ H', Same H1 H' → H' D = some (.lst ((List.replicate xs.length l).map fun l => V.str (SX.S l))) → Q (.ref D) H') : LcW (Itl K a) (gName k) tYes (tC (.str (SX.S l))) vs Q σ H1 D := by
  refine lc_list (xs := xs) (Pv := fun j H => Same H1 H ∧ H D = some (.lst ((List.replicate j l).map fun l => V.str (SX.S l)))) ⟨same_new hD, upd_same⟩ (fun j H _ hI => hI.1.seq hS) (fun j v H hv hI => ?_) (fun H hI => ?_)
  · obtain ⟨hs, hd⟩ := hI
    refine ⟨hw _, rd_yes ?_⟩
    refine ⟨_, hd, small1000 (by rw [List.length_map, List.length_replicate]; have := (List.getElem?_eq_some_iff.mp hv).1; omega), ?_, ?_⟩
    · exact fun b o e => by rw [upd_ne (ne_of_none e hD)]; exact hs _ _ e
    · rw [upd_same, List.replicate_succ', List.map_append]
      rfl
  · exact q H hI.1 hI.2
end Z

/-! Budgets: sizes, the least delay, padding. -/
namespace Z
open PySem PySem.Spec PyProof.Rows L2
section
variable {σ : L2.St} {H : Hp} {n : L2.St → Hp → Prop} {r : VK} {b c : L2.St → Hp → Prop} {te : TE}
theorem rd_aug {i : Nat} {ti : TIp} {x : V} (e : σ[i]? = some (some x)) (h : te σ H fun y H1 => ti x y H1 fun z H2 => n (σ.set i (some z)) H2) : tAug i te ti ⟨n, r, b, c⟩ σ H := ⟨x, e, h⟩
theorem rd_ipI {f : Int → Int → Int} {i j : Int} {Q : VK} (h : Q (.int (f i j)) H) : ipI f (.int i) (.int j) H Q := ⟨i, j, rfl, rfl, h⟩
end
/-! ### takes of any size -/
def spTakeB : Sp := fun vs H Q _ => ∃ (p : Addr) (m : Int), vs = [.ref p, .int m] ∧ Pool H p ∧ 0 < m ∧ m < 18446744073709551616 ∧ ∀ r H', 0 ≤ r → r < m → Pool H' p → Kp p H H' → Q (.int r) H'
theorem use_takeB {p : Addr} {m : Int} {H : Hp} {Q : VK} {E : XK} (h1 : Pool H p) (h2 : 0 < m) (h3 : m < 18446744073709551616) (q : ∀ r H', 0 ≤ r → r < m → Pool H' p → Kp p H H' → Q (.int r) H') : spTakeB ([.ref p, .int m] ++ []) H Q E := ⟨p, m, rfl, h1, h2, h3, q⟩
/-! ### sizes and lengths -/
abbrev Sz := Int × Int
def SzAt (H : Hp) (v : V) (s : Sz) : Prop := ∃ a, v = .ref a ∧ H a = some (.tup [.int s.1, .int s.2])
def SzsAt (H : Hp) (vs : List V) (ss : List Sz) : Prop := All2 (SzAt H) vs ss
def SzOk (s : Sz) : Prop := 0 ≤ s.1 ∧ s.1 ≤ 1000000000 ∧ 1 ≤ s.2 ∧ s.2 ≤ 1000000000
def LKT (H H' : Hp) : Prop := ∀ b o, H b = some o → (∀ xs, o ≠ .lst xs) → H' b = some o
theorem SzsAt.lk {H H' : Hp} {vs : List V} {ss : List Sz} (s : LKT H H') (h : SzsAt H vs ss) : SzsAt H' vs ss := h.imp fun _ _ ⟨a, e, q⟩ => ⟨a, e, s _ _ q (fun _ z => nomatch z)⟩
theorem LKT.of {H H' : Hp} (s : Same H H') : LKT H H' := fun b o e _ => s b o e
theorem LKT.new {H : Hp} {q : Addr} {o : HO} (n : H q = none) : LKT H (upd H q o) := .of (same_new n)
theorem LKT.trans {H H1 H2 : Hp} (a : LKT H H1) (b : LKT H1 H2) : LKT H H2 := fun x o e n => b x o (a x o e n) n
theorem LKT.pool {H H' : Hp} {p : Addr} (h : Pool H p) (k : Kp p H H') : LKT H H' := fun b x e nl => k b x (fun z => by
  obtain ⟨x', y', e', _⟩ := h
  rw [z, e'] at e
  cases e
  exact nl _ rfl) e
theorem LKT.at {H : Hp} {q : Addr} {o : HO} {ys : List V} (n : H q = some (.lst ys)) : LKT H (upd H q o) := fun b x e nl => by
  rw [upd_ne (fun z => by rw [z, n] at e; cases e; exact nl _ rfl)]
  exact e
theorem SzsAt.same {H H' : Hp} {vs : List V} {ss : List Sz} (s : Same H H') (h : SzsAt H vs ss) : SzsAt H' vs ss := h.lk (.of s)
theorem All2.snoc' {α β : Type} {R : α → β → Prop} {as : List α} {bs : List β} {a : α} {b : β} (h : All2 R as bs) (k : R a b) : All2 R (as ++ [a]) (bs ++ [b]) := by
  induction h with
  | nil => exact .cons k .nil
  | cons h _ ih => exact .cons h ih
theorem All2.at_ {α β : Type} {R : α → β → Prop} {as : List α} {bs : List β} (h : All2 R as bs) : ∀ (i : Nat) (a : α), as[i]? = some a → ∃ b, bs[i]? = some b ∧ R a b ∧ bs.drop i = b :: bs.drop (i + 1) := by
  induction h with
  | nil => intro i a e; simp at e
  | @cons a b as bs h t ih =>
    intro i x e
    cases i with
    | zero => cases e; exact ⟨b, rfl, h, rfl⟩
    | succ i => exact ih i x e
theorem dp_szs {K : PySem.W.Frag} {H : Hp} {vs : List V} {ss : List Sz} (h : SzsAt H vs ss) : DpAll K H vs (ss.map fun s => .tuple [.int s.1, .int s.2]) := by
  induction h with
  | nil => exact .nil
  | cons h _ ih =>
    obtain ⟨a, rfl, e⟩ := h
    exact .cons (.tup (SqT.of e) (.cons (.int _) (.cons (.int _) .nil))) ih
theorem canLay_szs : ∀ ss : List Sz, PyData.canLayAll0 (ss.map fun s => .tuple [.int s.1, .int s.2]) = true
  | [] => rfl
  | s :: r => by
    show (true && _) = true
    exact canLay_szs r
theorem depth_szs : ∀ ss : List Sz, PyData.depthAll (ss.map fun s => .tuple [.int s.1, .int s.2]) ≤ 1
  | [] => Nat.zero_le _
  | s :: r => Nat.max_le.mpr ⟨Nat.le_refl 1, depth_szs r⟩
theorem shaped_szs (ss : List Sz) : SeqAt.shaped (.list (ss.map fun s => .tuple [.int s.1, .int s.2])) = true := by
  have := depth_szs ss
  show (PyData.canLayAll0 (ss.map fun s => .tuple [.int s.1, .int s.2]) && decide (PyData.depthAll (ss.map fun s => .tuple [.int s.1, .int s.2]) + 1 ≤ 64)) = true
  rw [canLay_szs, decide_eq_true (by omega)]
  rfl
theorem rd_neSz {K : PySem.W.Frag} {H : Hp} {Q : VK} {p q : Addr} {vs ws : List V} {ss : List Sz} (hp : SqL K H p vs) (hq : SqL K H q ws) (h1 : SzsAt H vs ss) (h2 : SzsAt H ws ss) (h : Q (.bl false) H) : rNeD K (.ref p) (.ref q) H Q :=
  ⟨_, _, .lst hp (dp_szs h1), .lst hq (dp_szs h2), shaped_szs ss, shaped_szs ss, by rw [SeqAt.eqv_refl _ (SeqAt.canLay_of_shaped (shaped_szs ss))]; exact h⟩
def spIsSz : Sp := fun vs H Q _ => ∃ (a : Addr) (s : Sz), vs = [.ref a] ∧ H a = some (.tup [.int s.1, .int s.2]) ∧ SzOk s ∧ Q (.bl true) H
theorem use_issz {a : Addr} {s : Sz} {H : Hp} {Q : VK} {E : XK} (h : H a = some (.tup [.int s.1, .int s.2])) (ok : SzOk s) (q : Q (.bl true) H) : spIsSz ([.ref a] ++ []) H Q E := ⟨a, s, rfl, h, ok, q⟩
def spCkSz : Sp := fun vs H Q _ => ∃ (a : Addr) (us : List V) (ss : List Sz), vs = [.ref a] ∧ LT H a us ∧ SzsAt H us ss ∧ (∀ s ∈ ss, SzOk s) ∧ ∀ H', Same H H' → Q .non H'
theorem use_cksz {a : Addr} {us : List V} {ss : List Sz} {H : Hp} {Q : VK} {E : XK} (h1 : LT H a us) (h2 : SzsAt H us ss) (h3 : ∀ s ∈ ss, SzOk s) (q : ∀ H', Same H H' → Q .non H') : spCkSz ([.ref a] ++ []) H Q E := ⟨a, us, ss, rfl, h1, h2, h3, q⟩
def mxI (i j : Int) : Int := if j > i then j else i
def ldS (r : Int) : List Sz → Int → Int → Int → Int
  | [], d, _, _ => d
  | s :: t, d, a, p => ldS r t (mxI d (a + s.1 - r * p)) (a + s.1) (p + s.2)
def inT (r : Int) : List Sz → Int → Int → Bool
  | [], _, _ => true
  | s :: t, a, w => if a + s.1 > w then false else inT r t (a + s.1) (w + r * s.2)
theorem inT_cons (r : Int) (s : Sz) (t : List Sz) (a w : Int) : inT r (s :: t) a w = if a + s.1 > w then false else inT r t (a + s.1) (w + r * s.2) := rfl
theorem mx_le {i j w : Int} : mxI i j ≤ w ↔ i ≤ w ∧ j ≤ w := by unfold mxI; split <;> omega
theorem ld_ge (r : Int) : ∀ (ss : List Sz) (d a p : Int), d ≤ ldS r ss d a p
  | [], d, _, _ => Int.le_refl d
  | s :: t, d, a, p => by
    have h1 := ld_ge r t (mxI d (a + s.1 - r * p)) (a + s.1) (p + s.2)
    have h2 : d ≤ mxI d (a + s.1 - r * p) := by unfold mxI; split <;> omega
    exact Int.le_trans h2 h1
theorem inT_ld (r : Int) : ∀ (ss : List Sz) (d a p w : Int), d ≤ w → (inT r ss a (w + r * p) = true ↔ ldS r ss d a p ≤ w)
  | [], d, a, p, w, h => ⟨fun _ => h, fun _ => rfl⟩
  | s :: t, d, a, p, w, h => by
    unfold inT ldS
    have e : w + r * p + r * s.2 = w + r * (p + s.2) := by rw [Int.mul_add]; omega
    by_cases c : a + s.1 > w + r * p
    · rw [if_pos c]
      refine ⟨fun z => Bool.noConfusion z, fun z => ?_⟩
      have := ld_ge r t (mxI d (a + s.1 - r * p)) (a + s.1) (p + s.2)
      have := (mx_le.mp (Int.le_trans this z)).2
      omega
    · rw [if_neg c, e]
      exact inT_ld r t _ _ _ w (mx_le.mpr ⟨h, by omega⟩)
def spLeast : Sp := fun vs H Q _ => ∃ (a : Addr) (us : List V) (ss : List Sz) (r : Int), vs = [.ref a, .int r] ∧ LT H a us ∧ SzsAt H us ss ∧ (∀ s ∈ ss, SzOk s) ∧ 0 ≤ r ∧ r ≤ 1000000000 ∧ ∀ H', Same H H' → Q (.int (ldS r ss 0 0 0)) H'
theorem use_least {a : Addr} {us : List V} {ss : List Sz} {r : Int} {H : Hp} {Q : VK} {E : XK} (h1 : LT H a us) (h2 : SzsAt H us ss) (h3 : ∀ s ∈ ss, SzOk s) (h4 : 0 ≤ r) (h5 : r ≤ 1000000000) (q : ∀ H', Same H H' → Q (.int (ldS r ss 0 0 0)) H') : spLeast ([.ref a, .int r] ++ []) H Q E := ⟨a, us, ss, r, rfl, h1, h2, h3, h4, h5, q⟩
theorem use_leastK {a : Addr} {us : List V} {ss : List Sz} {r : Int} {H : Hp} {Q : VK} {E : XK} (h1 : LT H a us) (h2 : SzsAt H us ss) (h3 : ∀ s ∈ ss, SzOk s) (h4 : 0 ≤ r) (h5 : r ≤ 1000000000) (q : ∀ H', Same H H' → Q (.int (ldS r ss 0 0 0)) H') : spLeast (kg 0 2 [1, 0] [] [.int r, .ref a]) H Q E := ⟨a, us, ss, r, rfl, h1, h2, h3, h4, h5, q⟩
def spInT : Sp := fun vs H Q _ => ∃ (a : Addr) (us : List V) (ss : List Sz) (r w : Int), vs = [.ref a, .int r, .int w] ∧ H a = some (.lst us) ∧ SzsAt H us ss ∧ 0 ≤ r ∧ r ≤ 1000000000 ∧ Q (.bl (inT r ss 0 w)) H
theorem use_inT {a : Addr} {us : List V} {ss : List Sz} {r w : Int} {H : Hp} {Q : VK} {E : XK} (h1 : H a = some (.lst us)) (h2 : SzsAt H us ss) (h4 : 0 ≤ r) (h5 : r ≤ 1000000000) (q : Q (.bl (inT r ss 0 w)) H) : spInT ([.ref a, .int r, .int w] ++ []) H Q E := ⟨a, us, ss, r, w, rfl, h1, h2, h4, h5, q⟩
def spSizes : Sp := fun vs H Q _ => ∃ (p : Addr) (r : Int), vs = [.ref p, .int r] ∧ Pool H p ∧ 0 ≤ r ∧ r ≤ 1000000000 ∧ ∀ D us ss H', H D = none → H' D = some (.lst us) → SzsAt H' us ss → (∀ s ∈ ss, SzOk s) → us.length ≤ 30 → Pool H' p → Kp p H H' → Q (.ref D) H'
theorem use_sizes {p : Addr} {r : Int} {H : Hp} {Q : VK} {E : XK} (h1 : Pool H p) (h4 : 0 ≤ r) (h5 : r ≤ 1000000000) (q : ∀ D us ss H', H D = none → H' D = some (.lst us) → SzsAt H' us ss → (∀ s ∈ ss, SzOk s) → us.length ≤ 30 → Pool H' p → Kp p H H' → Q (.ref D) H') : spSizes ([.ref p, .int r] ++ []) H Q E := ⟨p, r, rfl, h1, h4, h5, q⟩
end Z

/-! Padding. -/
namespace Z
open PySem PySem.Spec PyProof.Rows L2
abbrev PdR := List Int ⊕ (Int × Int)
def pos (x : Int) : Int := if x > 0 then x else 0
theorem pos_mx (x : Int) : (if 0 > x then 0 else x) = pos x := by unfold pos; split <;> split <;> omega
def pcat (us : List Int) : PdR → PdR
  | .inl vs => .inl (us ++ vs)
  | .inr p => .inr p
def uS (r st : Int) (s : Sz) (t : List Sz) (sent due : Int) : Int := if t.isEmpty then 0 else pos (due + r * s.2 - st - sent - s.1)
def pdS (r st : Int) : List Sz → Int → Int → Int → Int → PdR
  | [], _, _, _, _ => .inl []
  | s :: t, first, k, sent, due =>
    if sent + (s.1 + uS r st s t sent due) > due then .inr (first, k)
    else pcat [uS r st s t sent due] (pdS r st t (if uS r st s t sent due > 0 then k + 1 else first) (k + 1) (sent + (s.1 + uS r st s t sent due)) (due + r * s.2))
theorem pdS_cons (r st : Int) (s : Sz) (t : List Sz) (first k sent due : Int) : pdS r st (s :: t) first k sent due = if sent + (s.1 + uS r st s t sent due) > due then .inr (first, k)
    else pcat [uS r st s t sent due] (pdS r st t (if uS r st s t sent due > 0 then k + 1 else first) (k + 1) (sent + (s.1 + uS r st s t sent due)) (due + r * s.2)) := rfl
def pdF (r st : Int) (ss : List Sz) (d : Int) : PdR := pdS r st ss 0 0 0 d
theorem pcat_nil (x : PdR) : pcat [] x = x := by cases x <;> rfl
theorem pcat_snoc (us : List Int) (u : Int) (x : PdR) : pcat (us ++ [u]) x = pcat us (pcat [u] x) := by
  cases x with
  | inl vs => show Sum.inl _ = Sum.inl _; rw [List.append_assoc]
  | inr p => rfl
def PdAt (H : Hp) (v : V) : PdR → Prop
  | .inl us => ∃ D, v = .ref D ∧ H D = some (.lst (us.map V.int))
  | .inr p => ∃ D, v = .ref D ∧ H D = some (.tup [.int p.1, .int p.2])
theorem PdAt.same {H H' : Hp} {v : V} (s : Same H H') : ∀ {x : PdR}, PdAt H v x → PdAt H' v x
  | .inl _, ⟨D, e, h⟩ => ⟨D, e, s _ _ h⟩
  | .inr _, ⟨D, e, h⟩ => ⟨D, e, s _ _ h⟩
theorem sm_pd {K : PySem.W.Frag} {H : Hp} {v w : V} : ∀ {x : PdR}, PdAt H v x → PdAt H w x → SmV K H 1 v w
  | .inl _, ⟨D, e, h⟩, ⟨E, e2, h2⟩ => by subst e e2; exact sm_ints h h2
  | .inr p, ⟨D, e, h⟩, ⟨E, e2, h2⟩ => by
    subst e e2
    refine .inr (.inr ⟨D, E, _, _, rfl, rfl, .of h, .of h2, rfl, fun i x y e1 e2 => ?_⟩)
    rcases i with _ | _ | i
    · cases e1; cases e2; exact sm_sc rfl
    · cases e1; cases e2; exact sm_sc rfl
    · simp at e1
def spPad : Sp := fun vs H Q _ => ∃ (a : Addr) (us : List V) (ss : List Sz) (r d st : Int), vs = [.ref a, .int r, .int d, .int st] ∧ LT H a us ∧ SzsAt H us ss ∧ (∀ s ∈ ss, SzOk s) ∧ ss.length ≤ 100 ∧ (0 ≤ r ∧ r ≤ 1000000000) ∧ (0 ≤ d ∧ d ≤ 1000000000) ∧ (0 ≤ st ∧ st ≤ 1000000000) ∧ ∀ v H', Same H H' → PdAt H' v (pdF r st ss d) → Q v H'
theorem use_pad {a : Addr} {us : List V} {ss : List Sz} {r d st : Int} {H : Hp} {Q : VK} {E : XK} (h1 : LT H a us) (h2 : SzsAt H us ss) (h3 : ∀ s ∈ ss, SzOk s) (hl : ss.length ≤ 100) (h4 : 0 ≤ r ∧ r ≤ 1000000000) (h5 : 0 ≤ d ∧ d ≤ 1000000000) (h6 : 0 ≤ st ∧ st ≤ 1000000000) (q : ∀ v H', Same H H' → PdAt H' v (pdF r st ss d) → Q v H') : spPad ([.ref a, .int r, .int d, .int st] ++ []) H Q E := ⟨a, us, ss, r, d, st, rfl, h1, h2, h3, hl, h4, h5, h6, q⟩
theorem use_padK {a : Addr} {us : List V} {ss : List Sz} {r d st : Int} {H : Hp} {Q : VK} {E : XK} (h1 : LT H a us) (h2 : SzsAt H us ss) (h3 : ∀ s ∈ ss, SzOk s) (hl : ss.length ≤ 100) (h4 : 0 ≤ r ∧ r ≤ 1000000000) (h5 : 0 ≤ d ∧ d ≤ 1000000000) (h6 : 0 ≤ st ∧ st ≤ 1000000000) (q : ∀ v H', Same H H' → PdAt H' v (pdF r st ss d) → Q v H') : spPad (kg 0 4 [3, 2, 1, 0] [] [.int st, .int d, .int r, .ref a]) H Q E := ⟨a, us, ss, r, d, st, rfl, h1, h2, h3, hl, h4, h5, h6, q⟩
theorem uS_pos (r st : Int) (s : Sz) (t : List Sz) (sent due : Int) : pos (if t.isEmpty then 0 else due + r * s.2 - st - sent - s.1) = uS r st s t sent due := by
  unfold uS
  cases t.isEmpty <;> rfl
theorem at_end {xs : List V} {v : V} {k : Nat} (hl : xs.length = k + 1) (h : xs[k]? = some v) : atI xs (-1) = some v := by
  have e : ixN xs.length (-1) = some k := by
    rw [hl]
    unfold ixN
    rw [if_neg (by decide), if_pos (by omega)]
    exact congrArg some (by omega)
  unfold atI
  rw [e]
  exact h
theorem drop_more {α : Type} {l : List α} {i : Nat} (h : i + 1 < l.length) : (l.drop (i + 1)).isEmpty = false := by
  cases e : l.drop (i + 1) with
  | nil => have := congrArg List.length e; simp at this; omega
  | cons _ _ => rfl
theorem drop_last {α : Type} {l : List α} {i : Nat} (h : l.length ≤ i + 1) : (l.drop (i + 1)).isEmpty = true := by
  rw [List.drop_eq_nil_of_le h]
  rfl
end Z

namespace Z
open PySem PySem.Spec PyProof.Rows L2
def topS (i : Nat) : Stmt := PySem.Challenge.pw_framejoins_k78_padding.main.body.getD i (.Pass ⟨0, 0, 0, 0⟩)
-- a look into the heap
local macro_rules | `(tactic| walk_at "hg") => `(tactic| first
  | assumption
  | (with_reducible exact upd_same)
  | ((with_reducible refine' look_new ?k1 ?k2); (case k1 => assumption); (case k2 => walk_at "hg"))
  | ((with_reducible refine' look_same ?k1 ?k2); (case k1 => assumption); (case k2 => walk_at "hg"))
  | ((with_reducible refine' look_kp ?k1 ?k2 ?k3); (case k1 => assumption); (case k2 => walk_at "ne"); (case k3 => walk_at "hg"))
  | ((with_reducible refine' look_upd ?k1 ?k2); (case k1 => assumption); (case k2 => walk_at "hg"))
  | fail)
local macro_rules | `(tactic| walk_at "ne") => `(tactic| first
  | assumption
  | ((with_reducible refine' Pool.ne' ?k1 ?k2); (case k1 => assumption); (case k2 => walk_at "pl"))
  | fail)
-- one step of a reading
local macro_rules | `(tactic| walk_at "r1") => `(tactic| first
  | (with_reducible refine rd_seq ?_) | (with_reducible refine rd_asg ?_) | (with_reducible refine rd_gname ?_) | (with_reducible refine rd_ret ?_) | (with_reducible refine rd_ifs ?_)
  | ((with_reducible refine' rd_var ?k1 ?_); (case k1 => exact rfl))
  | ((with_reducible refine' rd_ixL ?k1 ?k2 ?_); (case k1 => walk_at "sq"); (case k2 => walk_at "at"))
  | ((with_reducible refine' rd_ixT ?k1 ?k2 ?_); (case k1 => walk_at "sqt"); (case k2 => walk_at "at"))
  | ((with_reducible refine' rd_setL ?k1 ?k2 ?_); (case k1 => walk_at "hg"); (case k2 => walk_at "ixn"))
  | ((with_reducible refine' rd_lenL ?k1 ?_); (case k1 => walk_at "sq"))
  | ((with_reducible refine' rd_listL ?k1 fun _ _ => ?_); (case k1 => walk_at "sq"))
  | ((with_reducible refine' rd_lenT ?k1 ?_); (case k1 => walk_at "sqt"))
  | ((with_reducible refine' rd_gtup ?k1 ?k2 ?_); (case k1 => walk_at "sqt"); (case k2 => exact rfl))
  | (with_reducible refine rd_gcons ?_) | (with_reducible refine rd_gnil ?_) | (with_reducible refine rd_forT ?_) | (with_reducible refine rd_forL ?_) | (with_reducible refine rd_for2 ?_)
  | ((with_reducible refine' rd_neT2 ?k1 ?k2 ?k3 ?k4 ?_); (case k1 => walk_at "sqt"); (case k2 => walk_at "sqt"); (case k3 => walk_at "f1"); (case k4 => walk_at "f2"))
  | ((with_reducible refine rd_n1 ?k1 ?k2 ?_); (case k1 => omega); (case k2 => omega))
  | ((with_reducible refine rd_n2 ?k1 ?_); (case k1 => exact ⟨by omega, by omega, by omega, by omega⟩))
  | (with_reducible refine rd_lcD fun _ _ => ?_)
  | ((with_reducible refine' lc_numbers ?k1 ?k2 ?k3 ?k4 ?k5 fun _ _ _ _ _ _ _ => ?_); (case k1 => exact fun _ => rfl); (case k2 => exact fun _ => rfl); (case k3 => walk_at "pl"); (case k4 => assumption); (case k5 => walk_at "sd"))
  | (with_reducible refine rd_for3 ?_) | (with_reducible refine rd_bm ?_)
  | ((with_reducible refine rd_n3 ?k1 ?_); (case k1 => walk_at "sd"))
  | ((with_reducible refine' rd_tyL ?k1 ?_); (case k1 => walk_at "hg"))
  | ((with_reducible refine' rd_catL ?k1 ?k2 ?k3 fun _ _ => ?_); (case k1 => walk_at "hg"); (case k2 => walk_at "hg"); (case k3 => walk_at "sd"))
  | ((with_reducible refine' rd_appI ?k1 ?k2 ?_); (case k1 => walk_at "hg"); (case k2 => walk_at "sd"))
  | ((with_reducible refine' use_once ?k1 ?k2 fun _ _ _ _ _ _ _ _ _ => ?_); (case k1 => walk_at "sq"); (case k2 => walk_at "sd"))
  | ((with_reducible refine' use_split ?k1 ?k2 ?k3 ?k4 ?k5 fun _ _ _ _ _ => ?_); (case k1 => walk_at "hg"); (case k2 => walk_at "sd"); (case k3 => walk_at "sd"); (case k4 => walk_at "sd"); (case k5 => walk_at "sd"))
  | ((with_reducible refine' use_splitK ?k1 ?k2 ?k3 ?k4 ?k5 fun _ _ _ _ _ => ?_); (case k1 => walk_at "hg"); (case k2 => walk_at "sd"); (case k3 => walk_at "sd"); (case k4 => walk_at "sd"); (case k5 => walk_at "sd"))
  | (with_reducible refine rd_sl ?_) | (with_reducible refine rd_part ?_) | (with_reducible refine rd_nopart ?_) | (with_reducible refine rd_oneI ?_)
  | (with_reducible refine rd_lcL ?_)
  | (with_reducible refine rd_forV ?_)
  | ((with_reducible refine rd_nV ?k1 ?k2 ?_); (case k1 => omega); (case k2 => omega))
  | ((with_reducible refine' use_join1 ?k1 ?k2 ?k3 ?k4 fun _ _ _ _ _ => ?_); (case k1 => walk_at "hg"); (case k2 => walk_at "hg"); (case k3 => walk_at "sd"); (case k4 => walk_at "sd"))
  | ((with_reducible refine' use_join ?k1 ?k2 ?k3 ?k4 ?k5 fun _ _ _ _ _ => ?_); (case k1 => walk_at "hg"); (case k2 => walk_at "sd"); (case k3 => walk_at "sd"); (case k4 => walk_at "sd"); (case k5 => walk_at "sd"))
  | ((with_reducible refine' use_joinK ?k1 ?k2 ?k3 ?k4 ?k5 fun _ _ _ _ _ => ?_); (case k1 => walk_at "hg"); (case k2 => walk_at "sd"); (case k3 => walk_at "sd"); (case k4 => walk_at "sd"); (case k5 => walk_at "sd"))
  | ((with_reducible refine' use_ints ?k1 ?k2 ?_); (case k1 => walk_at "hg"); (case k2 => walk_at "sd"))
  | (with_reducible refine rd_isN ?_) | (with_reducible refine rd_lc1 ?_) | (with_reducible refine rd_forE ?_) | (with_reducible refine rd_forZ ?_)
  | ((with_reducible refine' rd_neL ?k1 ?k2 ?_); (case k1 => walk_at "sq"); (case k2 => walk_at "sq"))
  | ((with_reducible refine' rd_eqL ?k1 ?k2 ?_); (case k1 => walk_at "sq"); (case k2 => walk_at "sq"))
  | ((with_reducible refine' rd_neN ?k1 ?k2 ?_); (case k1 => walk_at "sq"); (case k2 => walk_at "sq"))
  | (with_reducible refine rd_c ?_) | (with_reducible refine rd_op ?_) | (with_reducible refine rd_un ?_) | (with_reducible refine rd_i0 ?_)
  | ((with_reducible refine rd_i ?k1 ?_); (case k1 => walk_at "side"))
  | (with_reducible refine rd_u ?_)
  | (with_reducible refine rd_eq rfl ?_) | (with_reducible refine rd_ne rfl ?_) | (with_reducible refine rd_test ?_) | (with_reducible refine rd_b ?_) | (with_reducible refine rd_bl ?_)
  | (with_reducible refine rd_not ?_) | (with_reducible refine rd_and ?_) | (with_reducible refine rd_or ?_) | (with_reducible refine rd_andV ?_) | (with_reducible refine rd_orV ?_) | (with_reducible refine rd_notV ?_)
  | (with_reducible refine rd_if ?_) | (with_reducible refine rd_chain ?_) | (with_reducible refine rd_call ?_) | (with_reducible refine rd_callK ?_) | (with_reducible refine rd_cb ?_)
  | (with_reducible refine rd_cons ?_) | (with_reducible refine rd_nil ?_) | (with_reducible refine rd_next ?_) | (with_reducible refine rd_drop ?_) | (with_reducible refine rd_gsub ?_)
  | (with_reducible refine rd_int ?_) | (with_reducible refine rd_intb ?_) | (with_reducible refine rd_abs ?_) | (with_reducible refine rd_max ?_) | (with_reducible refine rd_min ?_)
  | (with_reducible refine rd_par ?_) | (with_reducible refine rd_par3 ?_) | (with_reducible refine rd_two ?_) | (with_reducible refine rd_three ?_)
  | (with_reducible refine rd_retn ?_) | (with_reducible refine rd_tup ?_) | (with_reducible refine rd_lst ?_) | (with_reducible refine rd_for1 ?_) | (with_reducible refine rd_one ?_)
  | ((with_reducible refine rd_all ?k1 fun _ _ => ?_); (case k1 => exact Nat.le_of_ble_eq_true rfl))
  | ((with_reducible refine use_take ?k1 ?k2 ?k3 fun _ _ _ _ _ _ => ?_); (case k1 => walk_at "pl"); (case k2 => walk_at "sd"); (case k3 => walk_at "sd"))
  | ((with_reducible refine use_number ?k1 fun _ _ _ _ _ => ?_); (case k1 => walk_at "pl"))
  | ((with_reducible refine' use_pool ?k1 ?k2 ?k3 ?k4 fun _ _ _ _ _ => ?_); (case k1 => walk_at "sq"); (case k2 => assumption); (case k3 => walk_at "sd"); (case k4 => walk_at "sd"))
  | ((with_reducible refine use_ckp ?k1 ?k2 ?_); (case k1 => walk_at "sd"); (case k2 => walk_at "sd"))
  | ((with_reducible refine use_pair ?k1 ?k2 fun _ _ => ?_); (case k1 => walk_at "sd"); (case k2 => walk_at "sd"))
  | ((with_reducible refine use_lfold ?k1 ?k2 fun _ _ _ _ => ?_); (case k1 => walk_at "sd"); (case k2 => walk_at "sd"))
  | ((with_reducible refine' use_ispair ?k1 ?_); (case k1 => walk_at "hg"))
  | ((with_reducible refine' use_items ?k1 fun _ _ => ?_); (case k1 => walk_at "sq"))
  | ((with_reducible refine' use_block ?k1 ?k2 ?k3 fun _ _ => ?_); (case k1 => walk_at "hg"); (case k2 => walk_at "sd"); (case k3 => walk_at "sd"))
  | ((with_reducible refine' use_mark ?k1 ?k2 fun _ _ => ?_); (case k1 => walk_at "hg"); (case k2 => walk_at "sd"))
  | (with_reducible refine use_code ?_)
  | ((with_reducible refine' use_same ?k1 fun _ _ => ?_); (case k1 => walk_at "smv"))
  | ((with_reducible refine use_quant ?k1 ?k2 ?_); (case k1 => walk_at "sd"); (case k2 => walk_at "sd"))
  | ((with_reducible refine use_quantK ?k1 ?k2 ?_); (case k1 => walk_at "sd"); (case k2 => walk_at "sd"))
  | (with_reducible refine use_isi_int ?_) | (with_reducible refine use_within_int ?_) | (with_reducible refine use_cki ?_)
  | ((with_reducible refine use_ckw ?k1 ?k2 ?_); (case k1 => walk_at "sd"); (case k2 => walk_at "sd"))
  | (with_reducible refine iteT ?_) | (with_reducible refine iteF ?_)
  | (with_reducible refine iteNT ?_) | (with_reducible refine iteNF ?_)
  | (walk_at "isi")
  | fail)
local macro_rules | `(tactic| walk_at "isi") => `(tactic| first
  | (with_reducible refine isi_int_int ?_)
  | (with_reducible refine isi_int_bool ?_)
  | (with_reducible refine isi_int_str ?_)
  | (with_reducible refine isi_int_list ?_)
  | (with_reducible refine isi_int_tuple ?_)
  | (with_reducible refine isi_bl_int ?_)
  | (with_reducible refine isi_bl_bool ?_)
  | (with_reducible refine isi_bl_str ?_)
  | (with_reducible refine isi_bl_list ?_)
  | (with_reducible refine isi_bl_tuple ?_)
  | (with_reducible refine isi_non_int ?_)
  | (with_reducible refine isi_non_bool ?_)
  | (with_reducible refine isi_non_str ?_)
  | (with_reducible refine isi_non_list ?_)
  | (with_reducible refine isi_non_tuple ?_)
  | (with_reducible refine isi_str_int ?_)
  | (with_reducible refine isi_str_bool ?_)
  | (with_reducible refine isi_str_str ?_)
  | (with_reducible refine isi_str_list ?_)
  | (with_reducible refine isi_str_tuple ?_)
  | ((with_reducible refine' isi_lst_int ?k1 ?_); (case k1 => walk_at "hg"))
  | ((with_reducible refine' isi_lst_bool ?k1 ?_); (case k1 => walk_at "hg"))
  | ((with_reducible refine' isi_lst_str ?k1 ?_); (case k1 => walk_at "hg"))
  | ((with_reducible refine' isi_lst_list ?k1 ?_); (case k1 => walk_at "hg"))
  | ((with_reducible refine' isi_lst_tuple ?k1 ?_); (case k1 => walk_at "hg"))
  | ((with_reducible refine' isi_tup_int ?k1 ?_); (case k1 => walk_at "hg"))
  | ((with_reducible refine' isi_tup_bool ?k1 ?_); (case k1 => walk_at "hg"))
  | ((with_reducible refine' isi_tup_str ?k1 ?_); (case k1 => walk_at "hg"))
  | ((with_reducible refine' isi_tup_list ?k1 ?_); (case k1 => walk_at "hg"))
  | ((with_reducible refine' isi_tup_tuple ?k1 ?_); (case k1 => walk_at "hg"))
  | fail)
local macro_rules | `(tactic| walk_at "side") => `(tactic| first
  | (show (0 : Int) < _; omega)
  | exact ⟨by omega, by omega⟩
  | exact .inl ⟨by omega, by omega⟩
  | exact .inr ⟨by omega, by omega⟩
  | exact .inr ⟨by decide, by decide⟩
  | exact ⟨by decide, by decide, by decide⟩
  | decide
  | fail)
local macro_rules | `(tactic| walk_at "rd") => `(tactic| (repeat walk_at "r1"))
local macro_rules | `(tactic| walk_at "sq") => `(tactic| first
  | assumption
  | ((with_reducible refine' SqL.of ?k1); (case k1 => walk_at "hg"))
  | ((with_reducible refine' sqL_new ?k1 ?k2); (case k1 => assumption); (case k2 => walk_at "sq"))
  | ((with_reducible refine' sqL_same ?k1 ?k2); (case k1 => assumption); (case k2 => walk_at "sq"))
  | fail)
local macro_rules | `(tactic| walk_at "sqt") => `(tactic| first
  | assumption
  | exact by_all (by assumption)
  | ((with_reducible refine' SqT.of ?k1); (case k1 => walk_at "hg"))
  | fail)
local macro_rules | `(tactic| walk_at "at") => `(tactic| first | assumption | exact atI_nat (j := 0) rfl | exact atI_nat (j := 1) rfl | exact atI_nat (j := 2) rfl | exact atI_nat (j := 3) rfl | fail)
local macro_rules | `(tactic| walk_at "ixn") => `(tactic| first | assumption | rfl | fail)
local macro_rules | `(tactic| walk_at "sd") => `(tactic| first | omega | decide +kernel | fail)
local macro_rules | `(tactic| walk_at "pl") => `(tactic| first
  | assumption
  | ((with_reducible refine' Pool.new' ?k1 ?k2); (case k1 => assumption); (case k2 => walk_at "pl"))
  | ((with_reducible refine' Pool.same' ?k1 ?k2); (case k1 => assumption); (case k2 => walk_at "pl"))
  | fail)
local macro_rules | `(tactic| walk_at "allm") => `(tactic| ((repeat (refine List.forall_mem_cons.mpr ⟨⟨_, rfl, by first | decide | omega, by first | decide | omega⟩, ?_⟩)); exact List.forall_mem_nil _))
local macro_rules | `(tactic| walk_at "kp") => `(tactic| first
  | assumption
  | exact Kp.refl
  | ((with_reducible refine' Kp.trans ?k1 (Kp.new ?k2)); (case k2 => assumption); walk_at "kp")
  | (refine' Kp.trans ?k1 ?k2; (case k2 => assumption); walk_at "kp")
  | (refine' Kp.trans ?k1 (Kp.of ?k2); (case k2 => assumption); walk_at "kp")
  | ((with_reducible refine' Kp.trans ?k1 Kp.at); walk_at "kp")
  | fail)
local macro_rules | `(tactic| walk_at "ct") => `(tactic| (refine' close_turn ?k1 ?k2 ?k3 ?k4; (case k1 => assumption); (case k2 => assumption); (case k3 => assumption); (case k4 => walk_at "kp")))
local macro_rules | `(tactic| walk_at "sm") => `(tactic| first
  | (with_reducible assumption)
  | (with_reducible exact Same.refl _)
  | ((with_reducible refine' Same.trans ?k1 (same_new ?k2)); (case k2 => assumption); walk_at "sm")
  | ((with_reducible refine' Same.trans ?k1 ?k2); (case k2 => (with_reducible assumption)); walk_at "sm")
  | fail)
local macro_rules | `(tactic| walk_at "f1") => `(tactic| first | rfl | exact congrArg Prod.fst (fold_unfold _ _ _) | exact congrArg Prod.fst (unfold_fold _ _ _) | fail)
local macro_rules | `(tactic| walk_at "f2") => `(tactic| first | rfl | exact congrArg Prod.snd (fold_unfold _ _ _) | exact congrArg Prod.snd (unfold_fold _ _ _) | fail)
local macro_rules | `(tactic| walk_at "smv") => `(tactic| first
  | (with_reducible assumption)
  | ((with_reducible refine sm_sc ?k1); (case k1 => exact rfl))
  | ((with_reducible refine' sm_ints ?k1 ?k2); (case k1 => walk_at "hg"); (case k2 => walk_at "hg"))
  | fail)
local macro_rules | `(tactic| walk_at "kp2") => `(tactic| first
  | exact Kp2.refl
  | exact Kp2.at
  | ((with_reducible refine' Kp2.trans ?k1 Kp2.at); walk_at "kp2")
  | ((with_reducible refine' Kp2.trans ?k1 (Kp2.new ?k2)); (case k2 => assumption); walk_at "kp2")
  | (refine' Kp2.trans ?k1 (Kp2.ofK ?k2); (case k2 => assumption); walk_at "kp2")
  | (refine' Kp2.trans ?k1 (Kp2.ofS ?k2); (case k2 => assumption); walk_at "kp2")
  | fail)
local macro_rules | `(tactic| walk_at "ty") => `(tactic| first
  | exact True.intro
  | ((refine' Or.inl ⟨_, ?k1⟩); (case k1 => walk_at "hg"))
  | ((refine' Or.inr ⟨_, ?k1⟩); (case k1 => walk_at "hg"))
  | fail)
local macro_rules | `(tactic| walk_at "jr") => `(tactic| first
  | exact ⟨_, JR.flat rfl⟩
  | ((refine' ⟨_, JR.tup2 ?k1 ?k2 ?k3⟩); (case k1 => walk_at "hg"); (case k2 => walk_at "ty"); (case k3 => walk_at "ty"))
  | ((refine' ⟨_, JR.tupn ?k1 ?k2⟩); (case k1 => walk_at "hg"); (case k2 => simp))
  | ((refine' ⟨_, JR.lst ?k1⟩); (case k1 => walk_at "hg"))
  | fail)
local macro_rules | `(tactic| walk_at "jr1") => `(tactic| ((refine' List.forall_mem_cons.mpr ⟨?k1, ?_⟩); (case k1 => walk_at "jr")))
local macro_rules | `(tactic| walk_at "alljr") => `(tactic| ((repeat walk_at "jr1"); exact List.forall_mem_nil _))
local macro_rules | `(tactic| walk_at "r1") => `(tactic| first
  | ((with_reducible refine' rd_raiseV ?k1 ?_); (case k1 => exact rfl))
  | (with_reducible refine rd_raiseC ?_)
  | ((with_reducible refine' rd_lam ?k1 fun _ _ _ => ?_); (case k1 => walk_at "tb"))
  | (with_reducible refine rd_told ?_)
  | (with_reducible refine rd_xf ?_)
  | fail)
local macro_rules | `(tactic| walk_at "tb") => `(tactic| first
  | assumption
  | ((with_reducible refine' Tabs.new ?k1 ?k2); (case k1 => assumption); (case k2 => walk_at "tb"))
  | ((with_reducible refine' Tabs.same ?k1 ?k2); (case k1 => assumption); (case k2 => walk_at "tb"))
  | ((with_reducible refine' Tabs.kp ?k0 ?k1 ?k2); (case k1 => assumption); (case k0 => walk_at "pl"); (case k2 => walk_at "tb"))
  | fail)
local macro_rules | `(tactic| walk_at "kpn") => `(tactic| first
  | assumption
  | exact KpN.refl
  | ((with_reducible refine' KpN.trans ?k1 (KpN.new ?k2)); (case k2 => assumption); walk_at "kpn")
  | ((with_reducible refine' KpN.trans ?k1 ?k2); (case k2 => assumption); walk_at "kpn")
  | ((with_reducible refine' KpN.trans ?k1 (KpN.ofK ?k2)); (case k2 => assumption); walk_at "kpn")
  | ((with_reducible refine' KpN.trans ?k1 (KpN.of ?k2)); (case k2 => assumption); walk_at "kpn")
  | ((with_reducible refine' KpN.trans ?k1 (KpN.ofN ?k2)); (case k2 => assumption); walk_at "kpn")
  | ((with_reducible refine' KpN.trans ?k1 KpN.at); walk_at "kpn")
  | fail)
local macro_rules | `(tactic| walk_at "hg") => `(tactic| first
  | ((with_reducible refine' look_extL ?k1 ?k2); (case k1 => assumption); (case k2 => walk_at "hg"))
  | ((with_reducible refine' look_extT ?k1 ?k2); (case k1 => assumption); (case k2 => walk_at "hg"))
  | fail)
local macro_rules | `(tactic| walk_at "als") => `(tactic| ((repeat (refine List.forall_mem_cons.mpr ⟨rfl, ?_⟩)); exact List.forall_mem_nil _))
local macro_rules | `(tactic| walk_at "dv1") => `(tactic| first
  | exact DV.sc rfl
  | ((refine' DV.lst ?n ?e ?s); (case n => walk_at "ne"); (case e => walk_at "hg"); (case s => walk_at "als"))
  | ((refine' DV.tup ?n ?e ?s); (case n => walk_at "ne"); (case e => walk_at "hg"); (case s => walk_at "als"))
  | fail)
local macro_rules | `(tactic| walk_at "dvm1") => `(tactic| ((refine' List.forall_mem_cons.mpr ⟨⟨?d, ?i⟩, ?_⟩); (case d => walk_at "dv1"); (case i => first | rfl | decide)))
local macro_rules | `(tactic| walk_at "dvm") => `(tactic| ((repeat walk_at "dvm1"); exact List.forall_mem_nil _))
local macro_rules | `(tactic| walk_at "r1") => `(tactic| first
  | ((with_reducible refine' rd_callL ?k1 ?_); (case k1 => exact rfl))
  | ((with_reducible refine' use_sound ?k1 fun _ _ => ?_); (case k1 => walk_at "hg"))
  | fail)
local macro_rules | `(tactic| walk_at "r1") => `(tactic| first
  | ((with_reducible refine' use_ljoints ?k1 ?k2 fun _ _ _ _ _ _ _ _ _ _ => ?_); (case k1 => walk_at "pl"); (case k2 => walk_at "sd"))
  | fail)
local macro_rules | `(tactic| walk_at "r1") => `(tactic| first
  | ((with_reducible refine' use_folds ?k1 ?k2 ?k3 ?k4 ?k5 fun _ _ _ _ _ => ?_); (case k1 => walk_at "hg"); (case k2 => walk_at "hg"); (case k3 => walk_at "js"); (case k4 => assumption); (case k5 => walk_at "sd"))
  | ((with_reducible refine' use_partner ?k1 ?k2 ?k3 ?_); (case k1 => walk_at "hg"); (case k2 => walk_at "js"); (case k3 => assumption))
  | fail)
local macro_rules | `(tactic| walk_at "js") => `(tactic| first
  | assumption
  | ((with_reducible refine' JsAt.new' ?k1 ?k2); (case k1 => assumption); (case k2 => walk_at "js"))
  | ((with_reducible refine' JsAt.same' ?k1 ?k2); (case k1 => assumption); (case k2 => walk_at "js"))
  | ((with_reducible refine' JsAt.at' ?k1 ?k2); (case k1 => walk_at "hg"); (case k2 => walk_at "js"))
  | fail)
local macro_rules | `(tactic| walk_at "kpl") => `(tactic| first
  | assumption
  | exact KpL.refl
  | ((with_reducible refine' KpL.trans ?k1 (KpL.new ?k2)); (case k2 => assumption); walk_at "kpl")
  | ((with_reducible refine' KpL.trans ?k1 ?k2); (case k2 => assumption); walk_at "kpl")
  | ((with_reducible refine' KpL.trans ?k1 (KpL.ofK ?k3 ?k2)); (case k2 => assumption); (case k3 => simp); walk_at "kpl")
  | ((with_reducible refine' KpL.trans ?k1 (KpL.ofS ?k2)); (case k2 => assumption); walk_at "kpl")
  | ((with_reducible refine' KpL.trans ?k1 (KpL.at ?k3)); (case k3 => simp); walk_at "kpl")
  | fail)
local macro_rules | `(tactic| walk_at "lt") => `(tactic| first
  | assumption
  | ((with_reducible refine' LT.new' ?k1 ?k2); (case k1 => assumption); (case k2 => walk_at "lt"))
  | ((with_reducible refine' LT.same' ?k1 ?k2); (case k1 => assumption); (case k2 => walk_at "lt"))
  | ((with_reducible refine' LT.l ?k1); (case k1 => walk_at "hg"))
  | ((with_reducible refine' LT.t ?k1); (case k1 => walk_at "hg"))
  | fail)
local macro_rules | `(tactic| walk_at "r1") => `(tactic| first
  | (with_reducible refine rd_forEA ?_) | (with_reducible refine rd_forS ?_)
  | ((with_reducible refine' use_soundA ?k1 fun _ _ => ?_); (case k1 => walk_at "lt"))
  | ((with_reducible refine' use_itemsA ?k1 fun _ _ => ?_); (case k1 => walk_at "lt"))
  | ((with_reducible refine' rd_lenA ?k1 ?_); (case k1 => walk_at "lt"))
  | ((with_reducible refine' rd_listA ?k1 fun _ _ => ?_); (case k1 => walk_at "lt"))
  | ((with_reducible refine' rd_tupL ?k1 fun _ _ => ?_); (case k1 => walk_at "sq"))
  | ((with_reducible refine' use_foldsA ?k1 ?k2 ?k3 ?k4 ?k5 fun _ _ _ _ _ => ?_); (case k1 => walk_at "lt"); (case k2 => walk_at "lt"); (case k3 => walk_at "js"); (case k4 => assumption); (case k5 => walk_at "sd"))
  | ((with_reducible refine' use_foldsAK ?k1 ?k2 ?k3 ?k4 ?k5 fun _ _ _ _ _ => ?_); (case k1 => walk_at "lt"); (case k2 => walk_at "lt"); (case k3 => walk_at "js"); (case k4 => assumption); (case k5 => walk_at "sd"))
  | fail)
local macro_rules | `(tactic| walk_at "r1") => `(tactic| first
  | ((with_reducible refine' rd_aug ?k1 ?_); (case k1 => exact rfl))
  | (with_reducible refine rd_ipI ?_)
  | ((with_reducible refine use_takeB ?k1 ?k2 ?k3 fun _ _ _ _ _ _ => ?_); (case k1 => walk_at "pl"); (case k2 => walk_at "sd"); (case k3 => walk_at "sd"))
  | fail)
local macro_rules | `(tactic| walk_at "side") => `(tactic| exact wide_div (b := 64) (by omega) (by omega) (by decide) (by decide))
abbrev s_is_integer : Stmt := topS 5
theorem sc_is_integer : FnScope ["value"] ["value"] (defScope s_is_integer) := ⟨rfl, rfl, rfl, by decide +kernel, rfl, by decide +kernel, by decide +kernel⟩
abbrev s_is_within : Stmt := topS 6
theorem sc_is_within : FnScope ["value", "low", "high"] ["value", "low", "high"] (defScope s_is_within) := ⟨rfl, rfl, rfl, by decide +kernel, rfl, by decide +kernel, by decide +kernel⟩
abbrev s_check_within : Stmt := topS 7
theorem sc_check_within : FnScope ["value", "low", "high"] ["value", "low", "high"] (defScope s_check_within) := ⟨rfl, rfl, rfl, by decide +kernel, rfl, by decide +kernel, by decide +kernel⟩
abbrev s_least_delay : Stmt := topS 10
theorem sc_least_delay : FnScope ["sizes", "rate", "delay", "arrived", "start", "size", "length"] ["sizes", "rate"] (defScope s_least_delay) := ⟨rfl, rfl, rfl, by decide +kernel, rfl, by decide +kernel, by decide +kernel⟩
abbrev s_check_sizes : Stmt := topS 11
theorem sc_check_sizes : FnScope ["sizes", "index", "item"] ["sizes"] (defScope s_check_sizes) := ⟨rfl, rfl, rfl, by decide +kernel, rfl, by decide +kernel, by decide +kernel⟩
abbrev s_is_size : Stmt := topS 12
theorem sc_is_size : FnScope ["value"] ["value"] (defScope s_is_size) := ⟨rfl, rfl, rfl, by decide +kernel, rfl, by decide +kernel, by decide +kernel⟩
abbrev s_padding : Stmt := topS 13
theorem sc_padding : FnScope ["sizes", "rate", "delay", "store", "value", "units", "first", "sent", "due", "frame", "size", "length", "behind", "least"] ["sizes", "rate", "delay", "store"] (defScope s_padding) := ⟨rfl, rfl, rfl, by decide +kernel, rfl, by decide +kernel, by decide +kernel⟩
abbrev s_pool : Stmt := topS 15
theorem sc_pool : FnScope ["_law_script", "_law_k", "_law_cell", "_law_great", "_law_seed"] ["_law_script", "_law_k"] (defScope s_pool) := ⟨rfl, rfl, rfl, by decide +kernel, rfl, by decide +kernel, by decide +kernel⟩
abbrev s_take : Stmt := topS 16
theorem sc_take : FnScope ["_law_pool_here", "_law_many", "_law_found"] ["_law_pool_here", "_law_many"] (defScope s_take) := ⟨rfl, rfl, rfl, by decide +kernel, rfl, by decide +kernel, by decide +kernel⟩
abbrev s_same : Stmt := topS 17
theorem sc_same : FnScope ["_law_actual", "_law_due", "_law_one", "_law_other"] ["_law_actual", "_law_due"] (defScope s_same) := ⟨rfl, rfl, rfl, by decide +kernel, rfl, by decide +kernel, by decide +kernel⟩
abbrev s_sizes : Stmt := topS 18
theorem sc_sizes : FnScope ["_law_pool_here", "_law_pace", "_law_found", "_law_way", "_law_turn", "_law_many", "_law_size"] ["_law_pool_here", "_law_pace"] (defScope s_sizes) := ⟨rfl, rfl, rfl, by decide +kernel, rfl, by decide +kernel, by decide +kernel⟩
abbrev s_l_padding : Stmt := topS 19
theorem sc_l_padding : FnScope ["_law_parts", "_law_pace", "_law_waits", "_law_room", "_law_found", "_law_total", "_law_arrived", "_law_first", "_law_at", "_law_item", "_law_later", "_law_more"] ["_law_parts", "_law_pace", "_law_waits", "_law_room"] (defScope s_l_padding) := ⟨rfl, rfl, rfl, by decide +kernel, rfl, by decide +kernel, by decide +kernel⟩
abbrev s_law : Stmt := topS 20
theorem sc_law : FnScope ["_law_script", "_law_k", "_law_pool_here", "_law_speed", "_law_rows", "_law_least", "_law_wait", "_law_hold", "_law_given", "_law_due"] ["_law_script"] (defScope s_law) := ⟨rfl, rfl, rfl, by decide +kernel, rfl, by decide +kernel, by decide +kernel⟩
section
variable {P : Program} {w : World} {K : PySem.W.Frag} {mg : Str → Option Value} {base : Heap}
theorem ok_take {f : Addr} {fd : FuncData}     (D : Dn K mg "_law_take" s_take ["_law_pool_here", "_law_many"] f fd) (bi : Bi mg)     : FnOk P w K mg base CX0 1 f fd ["_law_pool_here", "_law_many"] spTakeB := by
  refine D.F.ok sc_take (fun vs H Q E h => ?_) (fun cdv A outer s H vs Q E hr h => ?_)
  · obtain ⟨p, m, rfl, _⟩ := h
    rfl
  · obtain ⟨p, m, rfl, ⟨x, y, hp, hx, hy0, hy1⟩, hm0, hm1, q⟩ := h
    refine ⟨_, (pss_cons (ps_if (pt_cmpR op_gt (pe_ix ix_list (pv 0) pe_int (fun _ _ => rfl)) pe_int (nomark _))
 (pss_cons (ps_set (i := 2) sc_take.nd rfl (Or.inl rfl) (pe_op op_mod (pe_callTy cInt (by rfl) bi.int_ (by decide +kernel) (pa_cons (pe_ix ix_list (pv 0) pe_int (fun _ _ => rfl)) pa_nil)) (pv 1)))
 (pss_cons (ps_asg (pe_op op_fdivW (pe_callTy cInt (by rfl) bi.int_ (by decide +kernel) (pa_cons (pe_ix ix_list (pv 0) pe_int (fun _ _ => rfl)) pa_nil)) (pv 1)) (pg_sub (pv 0) pe_int set_list))
 (pss_one (ps_ret (pv 2)))))
 pss_nil)
 (pss_cons (ps_asg (pe_op op_mod (pe_callTy cInt (by rfl) bi.int_ (by decide +kernel) (pa_cons (pe_op op_add (pe_op op_mul (pe_ix ix_list (pv 0) pe_int (fun _ _ => rfl)) pe_int) pe_int) pa_nil)) pe_int) (pg_sub (pv 0) pe_int set_list))
 (pss_one (ps_ret (pe_op op_mod (pe_op op_fdiv (pe_op op_mod (pe_callTy cInt (by rfl) bi.int_ (by decide +kernel) (pa_cons (pe_op op_mul (pe_ix ix_list (pv 0) pe_int (fun _ _ => rfl)) (pe_ix ix_list (pv 0) pe_int (fun _ _ => rfl))) pa_nil)) pe_int) pe_int) (pv 1)))))), ?_⟩
    refine rd_start (σ := [some (.ref p), some (.int m), none]) rfl ?_
    walk_at "rd"
    refine rd_iteD (fun c => ?_) (fun c => ?_)
    · walk_at "rd"
      exact q _ _ (Int.emod_nonneg _ (by omega)) (Int.emod_lt_of_pos _ hm0) ⟨x / m, y, upd_same, Int.ediv_nonneg hx (by omega), hy0, hy1⟩ Kp.at
    · have e0 := Int.emod_nonneg (y * 48271 + 11) (show (2147483647 : Int) ≠ 0 by decide)
      have e1 := Int.emod_lt_of_pos (y * 48271 + 11) (show (0 : Int) < 2147483647 by decide)
      walk_at "rd"
      exact q _ _ (Int.emod_nonneg _ (by omega)) (Int.emod_lt_of_pos _ hm0) ⟨x, (y * 48271 + 11) % 2147483647, upd_same, hx, e0, e1⟩ Kp.at

theorem ok_pool {f : Addr} {fd : FuncData}     (D : Dn K mg "_law_pool" s_pool ["_law_script", "_law_k"] f fd) (bi : Bi mg)     : FnOk P w K mg base CX0 1 f fd ["_law_script", "_law_k"] (spPool K) := by
  refine D.F.ok sc_pool (fun vs H Q E h => ?_) (fun cdv A outer s H vs Q E hr h => ?_)
  · obtain ⟨a, ns, k, rfl, _⟩ := h
    rfl
  · obtain ⟨a, ns, k, rfl, hS, hl, hk0, hk1, q⟩ := h
    refine ⟨_, (pss_cons (ps_set (i := 2) sc_pool.nd rfl (Or.inl rfl) pe_int)
 (pss_cons (ps_if (pt_cmpR op_lt (pv 1) (pe_callB cLen (by rfl) bi.len_ (by decide +kernel) (pa_cons (pv 0) pa_nil)) (nomark _))
 (pss_one (ps_set (i := 2) sc_pool.nd rfl (Or.inl rfl) (pe_callTy cInt (by rfl) bi.int_ (by decide +kernel) (pa_cons (pe_ix ix_list (pv 0) (pv 1) (fun _ _ => rfl)) pa_nil))))
 pss_nil)
 (pss_cons (ps_set (i := 3) sc_pool.nd rfl (Or.inl rfl) (pe_callB cAbs (by rfl) bi.abs_ (by decide +kernel) (pa_cons (pv 2) pa_nil)))
 (pss_cons (ps_set (i := 4) sc_pool.nd rfl (Or.inl rfl) (pe_op op_add (pe_op op_add (pe_op op_mod (pe_callTy cInt (by rfl) bi.int_ (by decide +kernel) (pa_cons (pv 2) pa_nil)) pe_int) (pe_op op_mul pe_int (pv 1))) pe_int))
 (pss_one (ps_ret (pe_lst (pa_cons (pe_op op_mul (pv 3) (pe_callTy cInt (by rfl) bi.int_ (by decide +kernel) (pa_cons (pe_cmpR op_ge (pv 3) (pe_op op_pow pe_int pe_int) (nomark _)) pa_nil))) (pa_cons (pe_op op_mod (pe_callTy cInt (by rfl) bi.int_ (by decide +kernel) (pa_cons (pe_op op_add (pe_op op_mul (pe_op op_mul (pv 4) (pv 4)) (pv 4)) (pe_op op_mul pe_int (pv 1))) pa_nil)) pe_int) pa_nil))))))))), ?_⟩
    refine rd_start (σ := [some (.ref a), some (.int k), none, none, none]) rfl ?_
    have hS' : SqL (cxOf CX0 P w K mg base ["_law_script", "_law_k", "_law_cell", "_law_great", "_law_seed"] "_law_pool" (defScope s_pool) f cdv A outer s H E).nox.K H a (ns.map V.int) := hS
    walk_at "rd"
    refine rd_iteD (fun c => ?_) (fun c => ?_)
    · rw [List.length_map] at c
      obtain ⟨j, rfl⟩ : ∃ j : Nat, k = (j : Int) := ⟨k.toNat, by omega⟩
      have hj : j < ns.length := by omega
      have hat : atI (ns.map V.int) (j : Int) = some (.int ns[j]) := atI_nat (by rw [List.getElem?_map, List.getElem?_eq_getElem hj]; rfl)
      have e0 := Int.emod_nonneg ns[j] (show (2147483629 : Int) ≠ 0 by decide)
      have e1 := Int.emod_lt_of_pos ns[j] (show (0 : Int) < 2147483629 by decide)
      walk_at "rd"
      rename_i p hp
      exact q _ _ hp (same_new hp) ⟨_, _, upd_same, great_nn _ _, Int.emod_nonneg _ (by decide), Int.emod_lt_of_pos _ (by decide)⟩
    · walk_at "rd"
      rename_i p hp
      exact q _ _ hp (same_new hp) ⟨_, _, upd_same, great_nn 0 _, Int.emod_nonneg _ (by decide), Int.emod_lt_of_pos _ (by decide)⟩

theorem ok_is_integer {f : Addr} {fd : FuncData}     (D : Dn K mg "is_integer" s_is_integer ["value"] f fd) (bi : Bi mg)     : FnOk P w K mg base CX0 1 f fd ["value"] spIsI := by
  refine D.F.ok sc_is_integer (fun vs H Q E h => ?_) (fun cdv A outer s H vs Q E hr h => ?_)
  · obtain ⟨x, rfl, _⟩ := h
    rfl
  · obtain ⟨x, rfl, t, q⟩ := h
    refine ⟨_, (pss_one (ps_ret (pe_and (pe_callB call_isi (by rfl) bi.isinstance_ (by decide +kernel) (pa_cons (pv 0) (pa_cons (pe_bltn (v := .ty "int") (by rfl) bi.int_ (by decide +kernel) rfl) pa_nil))) (pe_one (pe_not (pe_callB call_isi (by rfl) bi.isinstance_ (by decide +kernel) (pa_cons (pv 0) (pa_cons (pe_bltn (v := .ty "bool") (by rfl) bi.bool_ (by decide +kernel) rfl) pa_nil)))))))), ?_⟩
    refine rd_start (σ := [some x]) rfl ?_
    cases x with
    | non => walk_at "rd"; exact q
    | bl _ => walk_at "rd"; exact q
    | int _ => walk_at "rd"; exact q
    | str _ => walk_at "rd"; exact q
    | ref a =>
      rcases t with ⟨xs, t⟩ | ⟨xs, t⟩
      · walk_at "rd"; exact q
      · walk_at "rd"; exact q
    | byt _ => exact t.elim
    | flt _ => exact t.elim
    | ty _ => exact t.elim

theorem ok_is_within {f : Addr} {fd : FuncData} {f_is_integer : Addr} {fd_is_integer : FuncData}    (D : Dn K mg "is_within" s_is_within ["value", "low", "high"] f fd) (bi : Bi mg) (G_is_integer : FnOk P w K mg base CX0 1 f_is_integer fd_is_integer ["value"] spIsI) (D_is_integer : Dn K mg "is_integer" s_is_integer ["value"] f_is_integer fd_is_integer)    : FnOk P w K mg base CX0 2 f fd ["value", "low", "high"] spWithin := by
  refine D.F.ok sc_is_within (fun vs H Q E h => ?_) (fun cdv A outer s H vs Q E hr h => ?_)
  · obtain ⟨x, lo, hi, rfl, _⟩ := h
    rfl
  · obtain ⟨x, lo, hi, rfl, t, q⟩ := h
    refine ⟨_, (pss_one (ps_ret (pe_and (pe_call G_is_integer (hr.mono (by first | decide | exact Nat.le_refl _)) (by rfl) D_is_integer.g D_is_integer.F.kp D_is_integer.b .nil pass0 (pa_cons (pv 0) pa_nil)) (pe_one (pe_chain op_le op_le (pv 1) (pv 0) (pv 2)))))), ?_⟩
    refine rd_start (σ := [some x, some (.int lo), some (.int hi)]) rfl ?_
    walk_at "rd"
    refine use_isi t (rd_bl ?_)
    cases x with
    | int i =>
      refine if_yes (c := isI (V.int i)) rfl ?_
      walk_at "rd"
      refine rd_iteD (p := lo ≤ i) (fun c => ?_) (fun c => ?_)
      · walk_at "rd"
        have e : inI (.int i) lo hi = decide (i ≤ hi) := by simp [inI, c]
        rw [e] at q
        exact q
      · have e : inI (.int i) lo hi = false := by simp [inI, c]
        rw [e] at q
        exact q
    | non => exact iteF q
    | bl _ => exact iteF q
    | str _ => exact iteF q
    | ref _ => exact iteF q
    | byt _ => exact iteF q
    | flt _ => exact iteF q
    | ty _ => exact iteF q

theorem ok_check_within {f : Addr} {fd : FuncData} {f_is_within : Addr} {fd_is_within : FuncData}    (D : Dn K mg "check_within" s_check_within ["value", "low", "high"] f fd) (bi : Bi mg) (G_is_within : FnOk P w K mg base CX0 2 f_is_within fd_is_within ["value", "low", "high"] spWithin) (D_is_within : Dn K mg "is_within" s_is_within ["value", "low", "high"] f_is_within fd_is_within)    : FnOk P w K mg base CX0 3 f fd ["value", "low", "high"] spCkW := by
  refine D.F.ok sc_check_within (fun vs H Q E h => ?_) (fun cdv A outer s H vs Q E hr h => ?_)
  · obtain ⟨i, lo, hi, rfl, _⟩ := h
    rfl
  · obtain ⟨i, lo, hi, rfl, h1, h2, q⟩ := h
    refine ⟨_, (pss_one (ps_if (pt_not (pt_val (pe_call G_is_within (hr.mono (by first | decide | exact Nat.le_refl _)) (by rfl) D_is_within.g D_is_within.F.kp D_is_within.b .nil pass0 (pa_cons (pv 0) (pa_cons (pv 1) (pa_cons (pv 2) pa_nil))))))
 (pss_one ps_never)
 pss_nil)), ?_⟩
    refine rd_start (σ := [some (.int i), some (.int lo), some (.int hi)]) rfl ?_
    walk_at "rd"
    refine rd_iteN (p := lo ≤ i ∧ i ≤ hi) (fun c => (c ⟨h1, h2⟩).elim) (fun c => ?_)
    exact q

theorem ok_is_size {f : Addr} {fd : FuncData} {f_is_within : Addr} {fd_is_within : FuncData}    (D : Dn K mg "is_size" s_is_size ["value"] f fd) (bi : Bi mg) (G_is_within : FnOk P w K mg base CX0 2 f_is_within fd_is_within ["value", "low", "high"] spWithin) (D_is_within : Dn K mg "is_within" s_is_within ["value", "low", "high"] f_is_within fd_is_within)   (g_BUDGET_LIMIT : ∃ t, mg "BUDGET_LIMIT" = some (.int 1000000000 t)) : FnOk P w K mg base CX0 3 f fd ["value"] spIsSz := by
  refine D.F.ok sc_is_size (fun vs H Q E h => ?_) (fun cdv A outer s H vs Q E hr h => ?_)
  · obtain ⟨a, s, rfl, _⟩ := h
    rfl
  · obtain ⟨a, s, rfl, e1, ok, q⟩ := h
    obtain ⟨t64, g_BUDGET_LIMIT⟩ := g_BUDGET_LIMIT
    refine ⟨_, (pss_cons (ps_if (PW.pt (pw_or (pt_not (pt_val (pe_callB call_isi (by rfl) bi.isinstance_ (by decide +kernel) (pa_cons (pv 0) (pa_cons (pe_bltn (v := .ty "tuple") (by rfl) bi.tuple_ (by decide +kernel) rfl) pa_nil))))) (pw_or1 (pt_cmpR op_ne (pe_callB cLen (by rfl) bi.len_ (by decide +kernel) (pa_cons (pv 0) pa_nil)) pe_int (nomark _)))))
 (pss_one (ps_ret pe_bl))
 pss_nil)
 (pss_one (ps_ret (pe_and (pe_call G_is_within (hr.mono (by first | decide | exact Nat.le_refl _)) (by rfl) D_is_within.g D_is_within.F.kp D_is_within.b .nil pass0 (pa_cons (pe_ix ix_tup (pv 0) pe_int (fun _ _ => rfl)) (pa_cons pe_int (pa_cons (pe_glob (v := .int 1000000000) (by rfl) g_BUDGET_LIMIT ⟨_, rfl⟩) pa_nil)))) (pe_one (pe_call G_is_within (hr.mono (by first | decide | exact Nat.le_refl _)) (by rfl) D_is_within.g D_is_within.F.kp D_is_within.b .nil pass0 (pa_cons (pe_ix ix_tup (pv 0) pe_int (fun _ _ => rfl)) (pa_cons pe_int (pa_cons (pe_glob (v := .int 1000000000) (by rfl) g_BUDGET_LIMIT ⟨_, rfl⟩) pa_nil))))))))), ?_⟩
    refine rd_start (σ := [some (.ref a)]) rfl ?_
    obtain ⟨o1, o2, o3, o4⟩ := ok
    walk_at "rd"
    refine if_noN rfl ?_
    walk_at "rd"
    refine rd_iteD (fun c => ?_) (fun c => (c ⟨o1, o2⟩).elim)
    walk_at "rd"
    rw [decide_eq_true (⟨o3, o4⟩ : 1 ≤ s.2 ∧ s.2 ≤ 1000000000)]
    exact q

theorem ok_check_sizes {f : Addr} {fd : FuncData} {f_is_size : Addr} {fd_is_size : FuncData}    (D : Dn K mg "check_sizes" s_check_sizes ["sizes"] f fd) (bi : Bi mg) (G_is_size : FnOk P w K mg base CX0 3 f_is_size fd_is_size ["value"] spIsSz) (D_is_size : Dn K mg "is_size" s_is_size ["value"] f_is_size fd_is_size)    : FnOk P w K mg base CX0 4 f fd ["sizes"] spCkSz := by
  refine D.F.ok sc_check_sizes (fun vs H Q E h => ?_) (fun cdv A outer s H vs Q E hr h => ?_)
  · obtain ⟨a, us, ss, rfl, _⟩ := h
    rfl
  · obtain ⟨a, us, ss, rfl, hS, hz, ok, q⟩ := h
    refine ⟨_, (pss_cons (ps_if (pt_not (pt_val (pe_callB call_isiT (by rfl) bi.isinstance_ (by decide +kernel) (pa_cons (pv 0) (pa_cons (pe_tup (pa_cons (pe_bltn (v := .ty "list") (by rfl) bi.list_ (by decide +kernel) rfl) (pa_cons (pe_bltn (v := .ty "tuple") (by rfl) bi.tuple_ (by decide +kernel) rfl) pa_nil))) pa_nil)))))
 (pss_one ps_never)
 pss_nil)
 (pss_one (ps_for PassesOwn.never rfl (pi_enumA (by rfl) bi.enumerate_ (pa_cons (pv 0) pa_nil)) (pg_tup rfl (pgs_cons (pg_name (i := 1) sc_check_sizes.nd rfl (Or.inl rfl)) (pgs_cons (pg_name (i := 2) sc_check_sizes.nd rfl (Or.inl rfl)) pgs_nil)))
 (pss_one (ps_if (pt_not (pt_val (pe_call G_is_size (hr.mono (by first | decide | exact Nat.le_refl _)) (by rfl) D_is_size.g D_is_size.F.kp D_is_size.b .nil pass0 (pa_cons (pv 2) pa_nil))))
 (pss_one ps_never)
 pss_nil))))), ?_⟩
    refine rd_start (σ := [some (.ref a), none, none]) rfl ?_
    walk_at "rd"
    rename_i t ht
    refine isiT_lt (LT.new' ht hS) upd_same ?_
    walk_at "rd"
    have hs0 : Same H (upd H t (.tup [.ty "list", .ty "tuple"])) := same_new ht
    refine for_enumA (hS.same hs0) (fun i σ H' => ∃ x y, σ = [some (.ref a), x, y] ∧ Same (upd H t (.tup [.ty "list", .ty "tuple"])) H') ⟨none, none, rfl, Same.refl _⟩ (fun i σ H1 _ hI => ?_) (fun i v σ H1 T hv hI hT => ?_) (fun σ H1 hI => ?_)
    · obtain ⟨x, y, rfl, hs⟩ := hI
      exact hs _
    · obtain ⟨x, y, rfl, hs⟩ := hI
      obtain ⟨s, es, ⟨b, rfl, eb⟩, _⟩ := hz.at_ i v hv
      have eb' := look_new (o := .tup [.int (i : Nat), .ref b]) hT (hs _ _ (hs0 _ _ eb))
      walk_at "rd"
      refine use_issz eb' (ok _ (List.mem_of_getElem? es)) ?_
      walk_at "rd"
      exact ⟨_, _, rfl, hs.trans (same_new hT)⟩
    · obtain ⟨x, y, rfl, hs⟩ := hI
      walk_at "rd"
      exact q _ (hs0.trans hs)

theorem ok_least_delay {f : Addr} {fd : FuncData} {f_check_sizes : Addr} {fd_check_sizes : FuncData} {f_check_within : Addr} {fd_check_within : FuncData}    (D : Dn K mg "least_delay" s_least_delay ["sizes", "rate"] f fd) (bi : Bi mg) (G_check_sizes : FnOk P w K mg base CX0 4 f_check_sizes fd_check_sizes ["sizes"] spCkSz) (D_check_sizes : Dn K mg "check_sizes" s_check_sizes ["sizes"] f_check_sizes fd_check_sizes) (G_check_within : FnOk P w K mg base CX0 3 f_check_within fd_check_within ["value", "low", "high"] spCkW) (D_check_within : Dn K mg "check_within" s_check_within ["value", "low", "high"] f_check_within fd_check_within)   (g_BUDGET_LIMIT : ∃ t, mg "BUDGET_LIMIT" = some (.int 1000000000 t)) : FnOk P w K mg base CX0 5 f fd ["sizes", "rate"] spLeast := by
  refine D.F.ok sc_least_delay (fun vs H Q E h => ?_) (fun cdv A outer s H vs Q E hr h => ?_)
  · obtain ⟨a, us, ss, r, rfl, _⟩ := h
    rfl
  · obtain ⟨a, us, ss, r, rfl, hS, hz, ok, r0, r1, q⟩ := h
    obtain ⟨t64, g_BUDGET_LIMIT⟩ := g_BUDGET_LIMIT
    refine ⟨_, (pss_cons (ps_expr (pe_call G_check_sizes (hr.mono (by first | decide | exact Nat.le_refl _)) (by rfl) D_check_sizes.g D_check_sizes.F.kp D_check_sizes.b .nil pass0 (pa_cons (pv 0) pa_nil)))
 (pss_cons (ps_expr (pe_call G_check_within (hr.mono (by first | decide | exact Nat.le_refl _)) (by rfl) D_check_within.g D_check_within.F.kp D_check_within.b .nil pass0 (pa_cons (pv 1) (pa_cons pe_int (pa_cons (pe_glob (v := .int 1000000000) (by rfl) g_BUDGET_LIMIT ⟨_, rfl⟩) pa_nil)))))
 (pss_cons (ps_asg (pe_tup (pa_cons pe_int (pa_cons pe_int (pa_cons pe_int pa_nil)))) (pg_tup rfl (pgs_cons (pg_name (i := 2) sc_least_delay.nd rfl (Or.inl rfl)) (pgs_cons (pg_name (i := 3) sc_least_delay.nd rfl (Or.inl rfl)) (pgs_cons (pg_name (i := 4) sc_least_delay.nd rfl (Or.inl rfl)) pgs_nil)))))
 (pss_cons (ps_for PassesOwn.never rfl (pi_seq (pv 0)) (pg_tup rfl (pgs_cons (pg_name (i := 5) sc_least_delay.nd rfl (Or.inl rfl)) (pgs_cons (pg_name (i := 6) sc_least_delay.nd rfl (Or.inl rfl)) pgs_nil)))
 (pss_cons (ps_aug (i := 3) sc_least_delay.nd rfl (Or.inl rfl) (pv 5) ip_add)
 (pss_cons (ps_set (i := 2) sc_least_delay.nd rfl (Or.inl rfl) (pe_callB (cMax rfl) (by rfl) bi.max_ (by decide +kernel) (pa_cons (pv 2) (pa_cons (pe_op op_sub (pv 3) (pe_op op_mul (pv 1) (pv 4))) pa_nil))))
 (pss_one (ps_aug (i := 4) sc_least_delay.nd rfl (Or.inl rfl) (pv 6) ip_add)))))
 (pss_one (ps_ret (pv 2))))))), ?_⟩
    refine rd_start (σ := [some (.ref a), some (.int r), none, none, none, none, none]) rfl ?_
    walk_at "rd"
    refine use_cksz hS hz ok fun H1 hs1 => ?_
    walk_at "rd"
    rename_i t2 ht2
    have hs0 : Same H (upd H1 t2 (.tup [.int 0, .int 0, .int 0])) := hs1.trans (same_new ht2)
    refine for_seqA (hS.same hs0) (fun i σ H' => ∃ d s p x y, σ = [some (.ref a), some (.int r), some (.int d), some (.int s), some (.int p), x, y] ∧ Same H H' ∧ ldS r (ss.drop i) d s p = ldS r ss 0 0 0) ⟨0, 0, 0, none, none, rfl, hs0, rfl⟩ (fun i σ H1 _ hI => ?_) (fun i v σ H1 hv hI => ?_) (fun σ H1 hI => ?_)
    · obtain ⟨d, s, p, x, y, rfl, hs, hd⟩ := hI
      exact fun o e => by
        rcases hS with e' | e' <;> rw [hs0 _ _ e'] at e <;> cases e <;> exact hs _ _ e'
    · obtain ⟨d, s, p, x, y, rfl, hs, hd⟩ := hI
      obtain ⟨z, es, ⟨b, rfl, eb⟩, hdr⟩ := hz.at_ i v hv
      obtain ⟨o1, o2, o3, o4⟩ := ok _ (List.mem_of_getElem? es)
      have eb' := hs _ _ eb
      walk_at "rd"
      rw [hdr] at hd
      exact ⟨_, _, _, _, _, rfl, hs, hd⟩
    · obtain ⟨d, s, p, x, y, rfl, hs, hd⟩ := hI
      rw [hz.len, List.drop_length] at hd
      walk_at "rd"
      rw [show d = ldS r ss 0 0 0 from hd]
      exact q _ hs

theorem ok_padding {f : Addr} {fd : FuncData} {f_check_sizes : Addr} {fd_check_sizes : FuncData} {f_check_within : Addr} {fd_check_within : FuncData}    (D : Dn K mg "padding" s_padding ["sizes", "rate", "delay", "store"] f fd) (bi : Bi mg) (G_check_sizes : FnOk P w K mg base CX0 4 f_check_sizes fd_check_sizes ["sizes"] spCkSz) (D_check_sizes : Dn K mg "check_sizes" s_check_sizes ["sizes"] f_check_sizes fd_check_sizes) (G_check_within : FnOk P w K mg base CX0 3 f_check_within fd_check_within ["value", "low", "high"] spCkW) (D_check_within : Dn K mg "check_within" s_check_within ["value", "low", "high"] f_check_within fd_check_within)   (g_BUDGET_LIMIT : ∃ t, mg "BUDGET_LIMIT" = some (.int 1000000000 t)) : FnOk P w K mg base CX0 5 f fd ["sizes", "rate", "delay", "store"] spPad := by
  refine D.F.ok sc_padding (fun vs H Q E h => ?_) (fun cdv A outer s H vs Q E hr h => ?_)
  · obtain ⟨a, us, ss, r, d, st, rfl, _⟩ := h
    rfl
  · obtain ⟨a, us, ss, r, d, st, rfl, hS, hz, ok, hl, hrr, hd, hst, q⟩ := h
    obtain ⟨t64, g_BUDGET_LIMIT⟩ := g_BUDGET_LIMIT
    refine ⟨_, (pss_cons (ps_expr (pe_call G_check_sizes (hr.mono (by first | decide | exact Nat.le_refl _)) (by rfl) D_check_sizes.g D_check_sizes.F.kp D_check_sizes.b .nil pass0 (pa_cons (pv 0) pa_nil)))
 (pss_cons (ps_for PassesOwn.never rfl (pi_tup (pe_tup (pa_cons (pv 1) (pa_cons (pv 2) (pa_cons (pv 3) pa_nil))))) (pg_name (i := 4) sc_padding.nd rfl (Or.inl rfl))
 (pss_one (ps_expr (pe_call G_check_within (hr.mono (by first | decide | exact Nat.le_refl _)) (by rfl) D_check_within.g D_check_within.F.kp D_check_within.b .nil pass0 (pa_cons (pv 4) (pa_cons pe_int (pa_cons (pe_glob (v := .int 1000000000) (by rfl) g_BUDGET_LIMIT ⟨_, rfl⟩) pa_nil)))))))
 (pss_cons (ps_set (i := 5) sc_padding.nd rfl (Or.inl rfl) (pe_lst pa_nil))
 (pss_cons (ps_par3 (i := 6) (j := 7) (l := 8) rfl sc_padding.nd rfl rfl rfl (by decide) (by decide) (by decide) rfl rfl rfl (pa_cons pe_int (pa_cons pe_int (pa_cons (pv 2) pa_nil))) rfl)
 (pss_cons (ps_for PassesOwn.never rfl (pi_enumA (by rfl) bi.enumerate_ (pa_cons (pv 0) pa_nil)) (pg_tup rfl (pgs_cons (pg_name (i := 9) sc_padding.nd rfl (Or.inl rfl)) (pgs_cons (pg_tup rfl (pgs_cons (pg_name (i := 10) sc_padding.nd rfl (Or.inl rfl)) (pgs_cons (pg_name (i := 11) sc_padding.nd rfl (Or.inl rfl)) pgs_nil))) pgs_nil)))
 (pss_cons (ps_set (i := 12) sc_padding.nd rfl (Or.inl rfl) (pe_op op_add (pv 8) (pe_op op_mul (pv 1) (pv 11))))
 (C8.pss_cut (ps_set (i := 13) sc_padding.nd rfl (Or.inl rfl) (pe_ifExp (pt_cmpR op_lt (pv 9) (pe_op op_sub (pe_callB cLen (by rfl) bi.len_ (by decide +kernel) (pa_cons (pv 0) pa_nil)) pe_int) (nomark _)) (pe_op op_sub (pe_op op_sub (pe_op op_sub (pv 12) (pv 3)) (pv 7)) (pv 10)) pe_int))
 (pss_cons (ps_expr (pe_bm PySem.F.plainAttrs_list PySem.F.slot_list_append PySem.F.type_list_append mt_append (pv 5) (pa_cons (pe_callB (cMax rfl) (by rfl) bi.max_ (by decide +kernel) (pa_cons (pv 13) (pa_cons pe_int pa_nil))) pa_nil)))
 (pss_cons (ps_aug (i := 7) sc_padding.nd rfl (Or.inl rfl) (pe_op op_add (pv 10) (pe_ix ix_list (pv 5) (pe_un un_neg pe_int) (fun _ _ => rfl))) ip_add)
 (pss_cons (ps_if (pt_cmpR op_gt (pv 7) (pv 8) (nomark _))
 (pss_one (ps_ret (pe_tup (pa_cons (pv 6) (pa_cons (pv 9) pa_nil)))))
 pss_nil)
 (C8.pss_cut (ps_if (pt_cmpR op_gt (pe_ix ix_list (pv 5) (pe_un un_neg pe_int) (fun _ _ => rfl)) pe_int (nomark _))
 (pss_one (ps_set (i := 6) sc_padding.nd rfl (Or.inl rfl) (pe_op op_add (pv 9) pe_int)))
 pss_nil)
 (pss_one (ps_set (i := 8) sc_padding.nd rfl (Or.inl rfl) (pv 12))))))))))
 (pss_one (ps_ret (pv 5)))))))), ?_⟩
    refine rd_start (σ := [some (.ref a), some (.int r), some (.int d), some (.int st), none, none, none, none, none, none, none, none, none, none]) rfl ?_
    walk_at "rd"
    refine use_cksz hS hz ok fun H1 hs1 => ?_
    walk_at "rd"
    rename_i t2 ht2
    refine rd_lpT (SqT.of upd_same) ?_
    have hs2 : Same H (upd H1 t2 (.tup [.int r, .int d, .int st])) := hs1.trans (same_new ht2)
    refine for_tup (xs := [.int r, .int d, .int st]) (fun i σ H' => ∃ x, σ = [some (.ref a), some (.int r), some (.int d), some (.int st), x, none, none, none, none, none, none, none, none, none] ∧ H' = upd H1 t2 (.tup [.int r, .int d, .int st])) ⟨none, rfl, rfl⟩ (fun i σ H' _ hI => ?_) (fun i v σ H' hv hI => ?_) (fun σ H' hI => ?_)
    · obtain ⟨x, rfl, rfl⟩ := hI
      exact SqT.of upd_same
    · obtain ⟨x, rfl, rfl⟩ := hI
      obtain ⟨z, rfl, z0, z1⟩ : ∃ z, v = .int z ∧ 0 ≤ z ∧ z ≤ 1000000000 := by
        rcases i with _ | _ | _ | i
        · cases hv; exact ⟨_, rfl, hrr.1, hrr.2⟩
        · cases hv; exact ⟨_, rfl, hd.1, hd.2⟩
        · cases hv; exact ⟨_, rfl, hst.1, hst.2⟩
        · simp at hv
      walk_at "rd"
      exact ⟨_, rfl, rfl⟩
    · obtain ⟨x, rfl, rfl⟩ := hI
      generalize upd H1 t2 (.tup [.int r, .int d, .int st]) = H2 at hs2
      walk_at "rd"
      rename_i U hU
      have hs3 : Same H (upd H2 U (.lst [])) := hs2.trans (same_new hU)
      have hUn : H U = none := hs2.free hU
      have eU : (upd H2 U (.lst [])) U = some (.lst []) := upd_same
      refine for_enumA (hS.same hs3) (fun i σ H' => ∃ vs first sent due x y z u w w2, σ = [some (.ref a), some (.int r), some (.int d), some (.int st), x, some (.ref U), some (.int first), some (.int sent), some (.int due), y, z, u, w, w2] ∧ H' U = some (.lst (vs.map V.int)) ∧ vs.length = i ∧ Same H H' ∧ pcat vs (pdS r st (ss.drop i) first i sent due) = pdF r st ss d) ⟨[], _, _, _, _, _, _, _, _, _, rfl, eU, rfl, hs3, pcat_nil _⟩ (fun i σ H4 _ hI => ?_) (fun i v σ H4 T hv hI hT => ?_) (fun σ H4 hI => ?_)
      · obtain ⟨vs, first, sent, due, x, y, z, u, w, w2, rfl, e4, hvl, hs4, hpd⟩ := hI
        exact fun o e => by
          rcases hS with e' | e' <;> rw [hs3 _ _ e'] at e <;> cases e <;> exact hs4 _ _ e'
      · obtain ⟨vs, first, sent, due, x, y, z, u, w, w2, rfl, e4, hvl, hs4, hpd⟩ := hI
        obtain ⟨s1, es, ⟨b, rfl, eb⟩, hdr⟩ := hz.at_ i v hv
        obtain ⟨o1, o2, o3, o4⟩ := ok _ (List.mem_of_getElem? es)
        have ilt : i < ss.length := by
          rcases Nat.lt_or_ge i ss.length with h | h
          · exact h
          · rw [List.getElem?_eq_none h] at es; cases es
        have ul := hz.len
        have eb' := look_new (o := .tup [.int (i : Nat), .ref b]) hT (hs4 _ _ eb)
        have e4' := look_new (o := .tup [.int (i : Nat), .ref b]) hT e4
        have hs5 : Same H (upd H4 T (.tup [.int (i : Nat), .ref b])) := hs4.trans (same_new hT)
        have hS5 := hS.same hs5
        walk_at "rd"
        generalize upd H4 T (.tup [.int (i : Nat), .ref b]) = H5 at eb' e4' hs5 hS5 ⊢
        refine rd_cut (fun σ H' => H' = H5 ∧ ∃ le, σ = [some (.ref a), some (.int r), some (.int d), some (.int st), x, some (.ref U), some (.int first), some (.int sent), some (.int due), some (.int (i : Nat)), some (.int s1.1), some (.int s1.2), some (.int (due + r * s1.2)), some (.int le)] ∧ le = if (ss.drop (i + 1)).isEmpty then 0 else due + r * s1.2 - st - sent - s1.1) ?_ fun σ' H6 hM => ?_
        · walk_at "rd"
          refine rd_iteD (fun c => ?_) (fun c => ?_)
          · walk_at "rd"
            exact ⟨rfl, _, rfl, by rw [drop_more (by omega)]; rfl⟩
          · walk_at "rd"
            exact ⟨rfl, _, rfl, by rw [drop_last (by omega)]; rfl⟩
        obtain ⟨rfl, le, rfl, hle⟩ := hM
        walk_at "rd"
        rw [pos_mx, hle, uS_pos]
        generalize hu : uS r st s1 (ss.drop (i + 1)) sent due = u1
        have eA : (upd H6 U (.lst ((vs ++ [u1]).map V.int))) U = some (.lst ((vs ++ [u1]).map V.int)) := upd_same
        have at1 : atI ((vs ++ [u1]).map V.int) (-1) = some (.int u1) := at_end (k := i) (by simp [hvl]) (by rw [List.map_append, List.getElem?_append_right (by simp [hvl])]; simp [hvl])
        have hs6 : Same H (upd H6 U (.lst ((vs ++ [u1]).map V.int))) := fun b' o e => by
          rw [upd_ne (ne_of_none e hUn)]
          exact hs5 _ _ e
        generalize upd H6 U (.lst ((vs ++ [u1]).map V.int)) = H7 at eA hs6 ⊢
        refine rd_ixL (SqL.of eA) at1 ?_
        walk_at "rd"
        rw [hdr, pdS_cons, hu] at hpd
        refine rd_iteD (fun c => ?_) (fun c => ?_)
        · walk_at "rd"
          rename_i R hR
          rw [if_pos c] at hpd
          refine q _ _ (hs6.trans (same_new hR)) ?_
          rw [← hpd]
          exact ⟨R, rfl, upd_same⟩
        · rw [if_neg c, ← pcat_snoc] at hpd
          refine rd_cut (fun σ H' => H' = H7 ∧ ∃ le, σ = [some (.ref a), some (.int r), some (.int d), some (.int st), x, some (.ref U), some (.int (if u1 > 0 then (i : Int) + 1 else first)), some (.int (sent + (s1.1 + u1))), some (.int due), some (.int (i : Nat)), some (.int s1.1), some (.int s1.2), some (.int (due + r * s1.2)), some (.int le)]) ?_ fun σ' H8 hM => ?_
          · walk_at "rd"
            refine rd_iteD (fun c2 => ?_) (fun c2 => ?_)
            · walk_at "rd"
              exact ⟨rfl, _, by rw [if_pos c2]; rfl⟩
            · walk_at "rd"
              exact ⟨rfl, _, by rw [if_neg c2]; rfl⟩
          obtain ⟨rfl, le2, rfl⟩ := hM
          walk_at "rd"
          exact ⟨vs ++ [u1], _, _, _, _, _, _, _, _, _, rfl, eA, by simp [hvl], hs6, hpd⟩
      · obtain ⟨vs, first, sent, due, x, y, z, u, w, w2, rfl, e4, hvl, hs4, hpd⟩ := hI
        rw [hz.len, List.drop_length] at hpd
        walk_at "rd"
        refine q _ _ hs4 ?_
        rw [← hpd]
        exact ⟨U, rfl, by rw [List.append_nil]; exact e4⟩

theorem ok_sizes {f : Addr} {fd : FuncData} {f_take : Addr} {fd_take : FuncData}    (D : Dn K mg "_law_sizes" s_sizes ["_law_pool_here", "_law_pace"] f fd) (bi : Bi mg) (G_take : FnOk P w K mg base CX0 1 f_take fd_take ["_law_pool_here", "_law_many"] spTakeB) (D_take : Dn K mg "_law_take" s_take ["_law_pool_here", "_law_many"] f_take fd_take)    : FnOk P w K mg base CX0 2 f fd ["_law_pool_here", "_law_pace"] spSizes := by
  refine D.F.ok sc_sizes (fun vs H Q E h => ?_) (fun cdv A outer s H vs Q E hr h => ?_)
  · obtain ⟨p, r, rfl, _⟩ := h
    rfl
  · obtain ⟨p, r, rfl, hP, r0, r1, q⟩ := h
    refine ⟨_, (pss_cons (ps_par (i := 2) (j := 3) rfl sc_sizes.nd rfl rfl (by decide) rfl rfl (pa_cons (pe_lst pa_nil) (pa_cons (pe_call G_take (hr.mono (by first | decide | exact Nat.le_refl _)) (by rfl) D_take.g D_take.F.kp D_take.b .nil pass0 (pa_cons (pv 0) (pa_cons pe_int pa_nil))) pa_nil)) rfl)
 (pss_cons (ps_for PassesOwn.never rfl (pi_range1 (by rfl) bi.range_ (pa_cons (pe_ix ix_list (pe_lst (pa_cons pe_int (pa_cons pe_int (pa_cons pe_int (pa_cons pe_int (pa_cons pe_int (pa_cons pe_int pa_nil))))))) (pe_call G_take (hr.mono (by first | decide | exact Nat.le_refl _)) (by rfl) D_take.g D_take.F.kp D_take.b .nil pass0 (pa_cons (pv 0) (pa_cons pe_int pa_nil))) (fun _ _ => rfl)) pa_nil)) (pg_name (i := 4) sc_sizes.nd rfl (Or.inl rfl))
 (pss_cons (ps_set (i := 5) sc_sizes.nd rfl (Or.inl rfl) (pe_op op_add pe_int (pe_call G_take (hr.mono (by first | decide | exact Nat.le_refl _)) (by rfl) D_take.g D_take.F.kp D_take.b .nil pass0 (pa_cons (pv 0) (pa_cons pe_int pa_nil)))))
 (pss_cons (ps_set (i := 6) sc_sizes.nd rfl (Or.inl rfl) (pe_callB (cMax rfl) (by rfl) bi.max_ (by decide +kernel) (pa_cons pe_int (pa_cons (pe_op op_sub (pe_op op_add (pe_op op_mul (pv 1) (pv 5)) (pe_call G_take (hr.mono (by first | decide | exact Nat.le_refl _)) (by rfl) D_take.g D_take.F.kp D_take.b .nil pass0 (pa_cons (pv 0) (pa_cons pe_int pa_nil)))) pe_int) pa_nil))))
 (C8.pss_cut (ps_if (pt_cmpR op_eq (pv 3) pe_int (nomark _))
 (pss_one (ps_set (i := 6) sc_sizes.nd rfl (Or.inl rfl) (pe_ix ix_list (pe_lst (pa_cons pe_int (pa_cons (pv 6) (pa_cons (pe_call G_take (hr.mono (by first | decide | exact Nat.le_refl _)) (by rfl) D_take.g D_take.F.kp D_take.b .nil pass0 (pa_cons (pv 0) (pa_cons (pe_op op_add (pe_op op_mul (pe_op op_mul pe_int (pv 1)) (pv 5)) pe_int) pa_nil))) pa_nil)))) (pe_call G_take (hr.mono (by first | decide | exact Nat.le_refl _)) (by rfl) D_take.g D_take.F.kp D_take.b .nil pass0 (pa_cons (pv 0) (pa_cons pe_int pa_nil))) (fun _ _ => rfl))))
 pss_nil)
 (C8.pss_cut (ps_if (pt_cmpR op_eq (pv 3) pe_int (nomark _))
 (pss_one (ps_par (i := 6) (j := 5) rfl sc_sizes.nd rfl rfl (by decide) rfl rfl (pa_cons (pe_ix ix_list (pe_lst (pa_cons pe_int (pa_cons (pe_op op_pow pe_int pe_int) (pa_cons pe_int pa_nil)))) (pe_call G_take (hr.mono (by first | decide | exact Nat.le_refl _)) (by rfl) D_take.g D_take.F.kp D_take.b .nil pass0 (pa_cons (pv 0) (pa_cons pe_int pa_nil))) (fun _ _ => rfl)) (pa_cons (pe_ix ix_list (pe_lst (pa_cons pe_int (pa_cons (pe_op op_pow pe_int pe_int) (pa_cons pe_int pa_nil)))) (pe_call G_take (hr.mono (by first | decide | exact Nat.le_refl _)) (by rfl) D_take.g D_take.F.kp D_take.b .nil pass0 (pa_cons (pv 0) (pa_cons pe_int pa_nil))) (fun _ _ => rfl)) pa_nil)) rfl))
 pss_nil)
 (pss_one (ps_expr (pe_bm PySem.F.plainAttrs_list PySem.F.slot_list_append PySem.F.type_list_append mt_append (pv 2) (pa_cons (pe_tup (pa_cons (pe_callB (cMin rfl) (by rfl) bi.min_ (by decide +kernel) (pa_cons (pv 6) (pa_cons (pe_op op_pow pe_int pe_int) pa_nil))) (pa_cons (pv 5) pa_nil))) pa_nil)))))))))
 (pss_one (ps_ret (pv 2))))), ?_⟩
    refine rd_start (σ := [some (.ref p), some (.int r), none, none, none, none, none]) rfl ?_
    walk_at "rd"
    rename_i D hD way H1 hw0 hw1 hP1 hK1 pm hpm t6 H2 h60 h61 hP2 hK2
    have hDp : D ≠ p := hP.ne hD
    have hD1 : H1 D = some (.lst []) := hK1 _ _ hDp upd_same
    refine' rd_ixP (fun v => ∃ j : Int, v = .int j ∧ 0 ≤ j ∧ j ≤ 30) ?e ?h0 ?h1 ?hP fun v hv => ?_
    (case e => exact SqL.of (by walk_at "hg"))
    (case h0 => assumption)
    (case h1 => assumption)
    (case hP => walk_at "allm")
    obtain ⟨nn, rfl, hn0, hn1⟩ := hv
    walk_at "rd"
    have hD2 : H2 D = some (.lst []) := hK2 _ _ hDp (look_new hpm hD1)
    have hK02 : Kp p H H2 := (Kp.new hD).trans (hK1.trans ((Kp.new hpm).trans hK2))
    refine for_range (lo := 0) (n := nn.toNat) (fun i σ H' => ∃ us ss x4 x5 x6, σ = [some (.ref p), some (.int r), some (.ref D), some (.int way), x4, x5, x6] ∧ H' D = some (.lst us) ∧ SzsAt H' us ss ∧ (∀ s ∈ ss, SzOk s) ∧ us.length = i ∧ Pool H' p ∧ Kp p H H') ⟨[], [], none, none, none, rfl, hD2, .nil, fun s hs => (List.not_mem_nil hs).elim, rfl, hP2, hK02⟩ (fun i σ H3 hi hI => ?_) (fun σ H3 hI => ?_)
    · obtain ⟨us, ss, x4, x5, x6, rfl, hd, hz, ok, hl, hP3, hK3⟩ := hI
      walk_at "rd"
      rename_i t8 H4 h80 h81 hP4 hK4 t41 H5 h410 h411 hP5 hK5
      have hb0 : 0 ≤ r * (1 + t8) := Int.mul_nonneg r0 (by omega)
      have hb1 : r * (1 + t8) ≤ 1000000000 * 8 := Int.mul_le_mul r1 (by omega) (by omega) (by decide)
      have hb2 : 0 ≤ 3 * r * (1 + t8) := Int.mul_nonneg (by omega) (by omega)
      have hb3 : 3 * r * (1 + t8) ≤ 3000000000 * 8 := Int.mul_le_mul (by omega) (by omega) (by omega) (by decide)
      generalize hs1 : (if r * (1 + t8) + t41 - 20 > 0 then r * (1 + t8) + t41 - 20 else 0) = s1
      have hs10 : 0 ≤ s1 := by rw [← hs1]; split <;> omega
      have hz5 : SzsAt H5 us ss := (hz.lk (.pool hP3 hK4)).lk (.pool hP4 hK5)
      have hd5 : H5 D = some (.lst us) := hK5 _ _ hDp (hK4 _ _ hDp hd)
      have hK35 : Kp p H H5 := hK3.trans (hK4.trans hK5)
      refine rd_cut (fun σ H' => ∃ sz : Int, σ = [some (.ref p), some (.int r), some (.ref D), some (.int way), some (.int (0 + (i : Int))), some (.int (1 + t8)), some (.int sz)] ∧ 0 ≤ sz ∧ H' D = some (.lst us) ∧ SzsAt H' us ss ∧ Pool H' p ∧ Kp p H H') ?_ fun σ' H6 hM => ?_
      · walk_at "rd"
        refine rd_iteD (fun c => ?_) (fun c => ?_)
        · walk_at "rd"
          rename_i tb H6 hb60 hb61 hP6 hK6 pm2 hpm2 t3 H7 h30 h31 hP7 hK7
          refine' rd_ixP (fun v => ∃ j : Int, v = .int j ∧ 0 ≤ j ∧ True) ?e ?h0 ?h1 ?hP fun v hv => ?_
          (case e => exact SqL.of (by walk_at "hg"))
          (case h0 => assumption)
          (case h1 => assumption)
          (case hP => walk_at "allm")
          obtain ⟨sz, rfl, hz0, _⟩ := hv
          walk_at "rd"
          exact ⟨sz, rfl, hz0, hK7 _ _ hDp (look_new hpm2 (hK6 _ _ hDp hd5)), ((hz5.lk (.pool hP5 hK6)).lk (.new hpm2)).lk (.pool (hP6.new hpm2) hK7), hP7, hK35.trans (hK6.trans ((Kp.new hpm2).trans hK7))⟩
        · walk_at "rd"
          exact ⟨s1, rfl, hs10, hd5, hz5, hP5, hK35⟩
      obtain ⟨sz, rfl, hsz0, hd6, hz6, hP6, hK6⟩ := hM
      refine rd_cut (fun σ H' => ∃ sz mn : Int, σ = [some (.ref p), some (.int r), some (.ref D), some (.int way), some (.int (0 + (i : Int))), some (.int mn), some (.int sz)] ∧ 0 ≤ sz ∧ 1 ≤ mn ∧ mn ≤ 1000000000 ∧ H' D = some (.lst us) ∧ SzsAt H' us ss ∧ Pool H' p ∧ Kp p H H') ?_ fun σ' H7 hM => ?_
      · walk_at "rd"
        refine rd_iteD (fun c => ?_) (fun c => ?_)
        · walk_at "rd"
          rename_i pm3 hpm3 t3 H7 h30 h31 hP7 hK7
          refine' rd_ixP (fun v => ∃ j : Int, v = .int j ∧ 0 ≤ j ∧ True) ?e ?h0 ?h1 ?hP fun v hv => ?_
          (case e => exact SqL.of (by walk_at "hg"))
          (case h0 => assumption)
          (case h1 => assumption)
          (case hP => walk_at "allm")
          obtain ⟨sz2, rfl, hz20, _⟩ := hv
          walk_at "rd"
          rename_i pm4 hpm4 t4 H8 h40 h41 hP8 hK8
          refine' rd_ixP (fun v => ∃ j : Int, v = .int j ∧ 1 ≤ j ∧ j ≤ 1000000000) ?e ?h0 ?h1 ?hP fun v hv => ?_
          (case e => exact SqL.of (by walk_at "hg"))
          (case h0 => assumption)
          (case h1 => assumption)
          (case hP => walk_at "allm")
          obtain ⟨mn2, rfl, hm20, hm21⟩ := hv
          walk_at "rd"
          exact ⟨sz2, mn2, rfl, hz20, hm20, hm21, hK8 _ _ hDp (look_new hpm4 (hK7 _ _ hDp (look_new hpm3 hd6))), (((hz6.lk (.new hpm3)).lk (.pool (hP6.new hpm3) hK7)).lk (.new hpm4)).lk (.pool (hP7.new hpm4) hK8), hP8, hK6.trans ((Kp.new hpm3).trans (hK7.trans ((Kp.new hpm4).trans hK8)))⟩
        · walk_at "rd"
          exact ⟨sz, 1 + t8, rfl, hsz0, by omega, by omega, hd6, hz6, hP6, hK6⟩
      obtain ⟨sz, mn, rfl, hsz0, hm0, hm1, hd7, hz7, hP7, hK7⟩ := hM
      walk_at "rd"
      rename_i tp htp
      have e9 : (10 : Int) ^ Int.toNat 9 = 1000000000 := by decide
      rw [e9]
      generalize hs2 : (if 1000000000 < sz then 1000000000 else sz) = s2
      refine rd_appG (look_new htp hd7) (by omega) ?_
      walk_at "rd"
      have nD : tp ≠ D := (ne_of_none hd7 htp).symm
      refine ⟨us ++ [.ref tp], ss ++ [(s2, mn)], _, _, _, rfl, upd_same, ?_, ?_, ?_, ?_, ?_⟩
      · refine SzsAt.lk (.at (look_new htp hd7)) ?_
        exact (hz7.lk (.new htp)).snoc' ⟨tp, rfl, upd_same⟩
      · intro s hs
        rcases List.mem_append.mp hs with hs | hs
        · exact ok s hs
        · rw [List.mem_singleton.mp hs]
          refine ⟨?_, ?_, hm0, hm1⟩
          · show 0 ≤ s2
            rw [← hs2]
            split <;> omega
          · show s2 ≤ 1000000000
            rw [← hs2]
            split <;> omega
      · simp [hl]
      · obtain ⟨x', y', hpl', r'⟩ := hP7.new (o := .tup [.int s2, .int mn]) htp
        exact ⟨x', y', by rw [upd_ne hDp.symm]; exact hpl', r'⟩
      · intro b o nb e
        rw [upd_ne (ne_of_none e hD)]
        exact look_new htp (hK7 b o nb e)
    · obtain ⟨us, ss, x4, x5, x6, rfl, hd, hz, ok, hl, hP3, hK3⟩ := hI
      walk_at "rd"
      exact q D us ss _ hD hd hz ok (by omega) hP3 hK3

theorem ok_l_padding {f : Addr} {fd : FuncData}     (D : Dn K mg "_law_padding" s_l_padding ["_law_parts", "_law_pace", "_law_waits", "_law_room"] f fd) (bi : Bi mg)     : FnOk P w K mg base CX0 1 f fd ["_law_parts", "_law_pace", "_law_waits", "_law_room"] spPad := by
  refine D.F.ok sc_l_padding (fun vs H Q E h => ?_) (fun cdv A outer s H vs Q E hr h => ?_)
  · obtain ⟨a, us, ss, r, d, st, rfl, _⟩ := h
    rfl
  · obtain ⟨a, us, ss, r, d, st, rfl, hS, hz, ok, hl, hrr, hd, hst, q⟩ := h
    refine ⟨_, (pss_cons (ps_asg (pe_tup (pa_cons (pe_lst pa_nil) (pa_cons pe_int (pa_cons (pv 2) (pa_cons pe_int pa_nil))))) (pg_tup rfl (pgs_cons (pg_name (i := 4) sc_l_padding.nd rfl (Or.inl rfl)) (pgs_cons (pg_name (i := 5) sc_l_padding.nd rfl (Or.inl rfl)) (pgs_cons (pg_name (i := 6) sc_l_padding.nd rfl (Or.inl rfl)) (pgs_cons (pg_name (i := 7) sc_l_padding.nd rfl (Or.inl rfl)) pgs_nil))))))
 (pss_cons (ps_for PassesOwn.never rfl (pi_enumA (by rfl) bi.enumerate_ (pa_cons (pv 0) pa_nil)) (pg_tup rfl (pgs_cons (pg_name (i := 8) sc_l_padding.nd rfl (Or.inl rfl)) (pgs_cons (pg_name (i := 9) sc_l_padding.nd rfl (Or.inl rfl)) pgs_nil)))
 (pss_cons (ps_par3 (i := 5) (j := 10) (l := 11) rfl sc_l_padding.nd rfl rfl rfl (by decide) (by decide) (by decide) rfl rfl rfl (pa_cons (pe_op op_add (pv 5) (pe_ix ix_tup (pv 9) pe_int (fun _ _ => rfl))) (pa_cons (pe_op op_add (pv 6) (pe_op op_mul (pv 1) (pe_ix ix_tup (pv 9) pe_int (fun _ _ => rfl)))) (pa_cons pe_int pa_nil))) rfl)
 (C8.pss_cut (ps_if (pt_cmpR op_lt (pe_op op_add (pv 8) pe_int) (pe_callB cLen (by rfl) bi.len_ (by decide +kernel) (pa_cons (pv 0) pa_nil)) (nomark _))
 (pss_one (ps_set (i := 11) sc_l_padding.nd rfl (Or.inl rfl) (pe_callB (cMax rfl) (by rfl) bi.max_ (by decide +kernel) (pa_cons pe_int (pa_cons (pe_op op_sub (pe_op op_sub (pv 10) (pv 3)) (pv 5)) pa_nil)))))
 pss_nil)
 (pss_cons (ps_set (i := 5) sc_l_padding.nd rfl (Or.inl rfl) (pe_op op_add (pv 5) (pv 11)))
 (pss_cons (ps_if (pt_cmpR op_gt (pv 5) (pv 6) (nomark _))
 (pss_one (ps_ret (pe_tup (pa_cons (pv 7) (pa_cons (pv 8) pa_nil)))))
 pss_nil)
 (C8.pss_cut (ps_if (pt_cmpR op_gt (pv 11) pe_int (nomark _))
 (pss_one (ps_set (i := 7) sc_l_padding.nd rfl (Or.inl rfl) (pe_op op_add (pv 8) pe_int)))
 pss_nil)
 (pss_cons (ps_expr (pe_bm PySem.F.plainAttrs_list PySem.F.slot_list_append PySem.F.type_list_append mt_append (pv 4) (pa_cons (pv 11) pa_nil)))
 (pss_one (ps_set (i := 6) sc_l_padding.nd rfl (Or.inl rfl) (pv 10))))))))))
 (pss_one (ps_ret (pv 4))))), ?_⟩
    refine rd_start (σ := [some (.ref a), some (.int r), some (.int d), some (.int st), none, none, none, none, none, none, none, none]) rfl ?_
    walk_at "rd"
    rename_i U hU t4 ht4
    have hUn : H U = none := hU
    have hs3 : Same H (upd (upd H U (.lst [])) t4 (.tup [.ref U, .int 0, .int d, .int 0])) := (same_new hU).trans (same_new ht4)
    have eU : (upd (upd H U (.lst [])) t4 (.tup [.ref U, .int 0, .int d, .int 0])) U = some (.lst []) := look_new ht4 upd_same
    refine for_enumA (hS.same hs3) (fun i σ H' => ∃ vs first sent due x y z w, σ = [some (.ref a), some (.int r), some (.int d), some (.int st), some (.ref U), some (.int sent), some (.int due), some (.int first), x, y, z, w] ∧ H' U = some (.lst (vs.map V.int)) ∧ vs.length = i ∧ Same H H' ∧ pcat vs (pdS r st (ss.drop i) first i sent due) = pdF r st ss d) ⟨[], _, _, _, _, _, _, _, rfl, eU, rfl, hs3, pcat_nil _⟩ (fun i σ H4 _ hI => ?_) (fun i v σ H4 T hv hI hT => ?_) (fun σ H4 hI => ?_)
    · obtain ⟨vs, first, sent, due, x, y, z, w, rfl, e4, hvl, hs4, hpd⟩ := hI
      exact fun o e => by
        rcases hS with e' | e' <;> rw [hs3 _ _ e'] at e <;> cases e <;> exact hs4 _ _ e'
    · obtain ⟨vs, first, sent, due, x, y, z, w, rfl, e4, hvl, hs4, hpd⟩ := hI
      obtain ⟨s1, es, ⟨b, rfl, eb⟩, hdr⟩ := hz.at_ i v hv
      obtain ⟨o1, o2, o3, o4⟩ := ok _ (List.mem_of_getElem? es)
      have ilt : i < ss.length := by
        rcases Nat.lt_or_ge i ss.length with h | h
        · exact h
        · rw [List.getElem?_eq_none h] at es; cases es
      have ul := hz.len
      have eb' := look_new (o := .tup [.int (i : Nat), .ref b]) hT (hs4 _ _ eb)
      have e4' := look_new (o := .tup [.int (i : Nat), .ref b]) hT e4
      have hs5 : Same H (upd H4 T (.tup [.int (i : Nat), .ref b])) := hs4.trans (same_new hT)
      have hS5 := hS.same hs5
      walk_at "rd"
      generalize upd H4 T (.tup [.int (i : Nat), .ref b]) = H5 at eb' e4' hs5 hS5 ⊢
      refine rd_cut (fun σ H' => H' = H5 ∧ σ = [some (.ref a), some (.int r), some (.int d), some (.int st), some (.ref U), some (.int (sent + s1.1)), some (.int due), some (.int first), some (.int (i : Nat)), some (.ref b), some (.int (due + r * s1.2)), some (.int (uS r st s1 (ss.drop (i + 1)) sent due))]) ?_ fun σ' H6 hM => ?_
      · walk_at "rd"
        refine rd_iteD (fun c => ?_) (fun c => ?_)
        · walk_at "rd"
          refine ⟨rfl, ?_⟩
          unfold uS
          rw [drop_more (by omega)]
          simp only [Bool.false_eq_true, if_false]
          rw [show due + r * s1.2 - st - sent - s1.1 = due + r * s1.2 - st - (sent + s1.1) by omega]
          rfl
        · walk_at "rd"
          refine ⟨rfl, ?_⟩
          unfold uS
          rw [drop_last (by omega)]
          rfl
      obtain ⟨rfl, rfl⟩ := hM
      rw [hdr, pdS_cons] at hpd
      generalize hu : uS r st s1 (ss.drop (i + 1)) sent due = u1 at hpd ⊢
      rw [show sent + (s1.1 + u1) = sent + s1.1 + u1 by omega] at hpd
      walk_at "rd"
      refine rd_iteD (fun c => ?_) (fun c => ?_)
      · walk_at "rd"
        rename_i R hR
        rw [if_pos c] at hpd
        refine q _ _ (hs5.trans (same_new hR)) ?_
        rw [← hpd]
        exact ⟨R, rfl, upd_same⟩
      · rw [if_neg c, ← pcat_snoc] at hpd
        refine rd_cut (fun σ H' => H' = H6 ∧ σ = [some (.ref a), some (.int r), some (.int d), some (.int st), some (.ref U), some (.int (sent + s1.1 + u1)), some (.int due), some (.int (if u1 > 0 then (i : Int) + 1 else first)), some (.int (i : Nat)), some (.ref b), some (.int (due + r * s1.2)), some (.int u1)]) ?_ fun σ' H8 hM => ?_
        · walk_at "rd"
          refine rd_iteD (fun c2 => ?_) (fun c2 => ?_)
          · walk_at "rd"
            exact ⟨rfl, by rw [if_pos c2]; rfl⟩
          · walk_at "rd"
            exact ⟨rfl, by rw [if_neg c2]; rfl⟩
        obtain ⟨rfl, rfl⟩ := hM
        walk_at "rd"
        refine ⟨vs ++ [u1], _, _, _, _, _, _, _, rfl, upd_same, by simp [hvl], fun b' o e => ?_, hpd⟩
        rw [upd_ne (ne_of_none e hUn)]
        exact hs5 _ _ e
    · obtain ⟨vs, first, sent, due, x, y, z, w, rfl, e4, hvl, hs4, hpd⟩ := hI
      rw [hz.len, List.drop_length] at hpd
      walk_at "rd"
      refine q _ _ hs4 ?_
      rw [← hpd]
      exact ⟨U, rfl, by rw [List.append_nil]; exact e4⟩

theorem ok_same0 {f : Addr} {fd : FuncData} (D_same : Dn K mg "_law_same" s_same ["_law_actual", "_law_due"] f fd) (bi : Bi mg) : FnOk P w K mg base CX0 1 f fd ["_law_actual", "_law_due"] (spSame K 0) := by
  refine D_same.F.ok sc_same (fun vs H Q E h => ?_) (fun cdv A outer s H vs Q E hr h => ?_)
  · obtain ⟨x, y, rfl, _⟩ := h
    rfl
  · obtain ⟨x, y, rfl, HS, q⟩ := h
    obtain ⟨rfl, hx⟩ := HS
    refine ⟨_, (pss_cons (ps_if (pt_cmpR cIsN (pv 1) pe_non (nomark _))
 (pss_one (ps_ret (pe_cmpR cIsN (pv 0) pe_non (nomark _))))
 pss_nil)
 (pss_cons (ps_if (pt_val (pe_callB call_isi (by rfl) bi.isinstance_ (by decide +kernel) (pa_cons (pv 1) (pa_cons (pe_bltn (v := .ty "bool") (by rfl) bi.bool_ (by decide +kernel) rfl) pa_nil))))
 (pss_one (ps_ret (pe_and (pe_callB call_isi (by rfl) bi.isinstance_ (by decide +kernel) (pa_cons (pv 0) (pa_cons (pe_bltn (v := .ty "bool") (by rfl) bi.bool_ (by decide +kernel) rfl) pa_nil))) (pe_one (pe_cmpR op_eq (pv 0) (pv 1) (nomark _))))))
 pss_nil)
 (pss_cons (ps_if (pt_val (pe_callB call_isi (by rfl) bi.isinstance_ (by decide +kernel) (pa_cons (pv 1) (pa_cons (pe_bltn (v := .ty "int") (by rfl) bi.int_ (by decide +kernel) rfl) pa_nil))))
 (pss_one (ps_ret (pe_and (pe_callB call_isi (by rfl) bi.isinstance_ (by decide +kernel) (pa_cons (pv 0) (pa_cons (pe_bltn (v := .ty "int") (by rfl) bi.int_ (by decide +kernel) rfl) pa_nil))) (pe_and (pe_not (pe_callB call_isi (by rfl) bi.isinstance_ (by decide +kernel) (pa_cons (pv 0) (pa_cons (pe_bltn (v := .ty "bool") (by rfl) bi.bool_ (by decide +kernel) rfl) pa_nil)))) (pe_one (pe_cmpR op_eq (pv 0) (pv 1) (nomark _)))))))
 pss_nil)
 (pss_cons (ps_if (pt_val (pe_callB call_isi (by rfl) bi.isinstance_ (by decide +kernel) (pa_cons (pv 1) (pa_cons (pe_bltn (v := .ty "str") (by rfl) bi.str_ (by decide +kernel) rfl) pa_nil))))
 (pss_one (ps_ret (pe_and (pe_callB call_isi (by rfl) bi.isinstance_ (by decide +kernel) (pa_cons (pv 0) (pa_cons (pe_bltn (v := .ty "str") (by rfl) bi.str_ (by decide +kernel) rfl) pa_nil))) (pe_one (pe_cmpR op_eq (pv 0) (pv 1) (nomark _))))))
 pss_nil)
 pss_never)))), ?_⟩
    refine rd_start (σ := [some x, some x, none, none]) rfl ?_
    have hQ := q H (Same.refl _)
    cases x with
    | non =>
      walk_at "rd"
      refine if_yesD rfl ?_
      walk_at "rd"
      rw [show decide (V.non = V.non) = true from decide_eq_true rfl]
      exact hQ
    | bl b =>
      walk_at "rd"
      refine if_noD (fun z => V.noConfusion z) ?_
      walk_at "rd"
      rw [show decide (V.bl b = V.bl b) = true from decide_eq_true rfl]
      exact hQ
    | int b =>
      walk_at "rd"
      refine if_noD (fun z => V.noConfusion z) ?_
      walk_at "rd"
      rw [show decide (V.int b = V.int b) = true from decide_eq_true rfl]
      exact hQ
    | str b =>
      walk_at "rd"
      refine if_noD (fun z => V.noConfusion z) ?_
      walk_at "rd"
      rw [show decide (V.str b = V.str b) = true from decide_eq_true rfl]
      exact hQ
    | ref _ => exact Bool.noConfusion hx
    | byt _ => exact Bool.noConfusion hx
    | flt _ => exact Bool.noConfusion hx
    | ty _ => exact Bool.noConfusion hx
theorem ok_sameS {f : Addr} {fd : FuncData} {n k : Nat} (D_same : Dn K mg "_law_same" s_same ["_law_actual", "_law_due"] f fd) (bi : Bi mg) (G_same : FnOk P w K mg base CX0 (k + 1) f fd ["_law_actual", "_law_due"] (spSame K n)) : FnOk P w K mg base CX0 (k + 2) f fd ["_law_actual", "_law_due"] (spSame K (n + 1)) := by
  refine D_same.F.ok sc_same (fun vs H Q E h => ?_) (fun cdv A outer s H vs Q E hr h => ?_)
  · obtain ⟨x, y, rfl, _⟩ := h
    rfl
  · obtain ⟨x, y, rfl, HS, q⟩ := h
    rcases HS with HS | ⟨a, b, xs, ys, rfl, rfl, h1, h2, hl, HI⟩ | ⟨a, b, xs, ys, rfl, rfl, h1, h2, hl, HI⟩
    · obtain ⟨rfl, hx⟩ := HS
      refine ⟨_, (pss_cons (ps_if (pt_cmpR cIsN (pv 1) pe_non (nomark _))
 (pss_one (ps_ret (pe_cmpR cIsN (pv 0) pe_non (nomark _))))
 pss_nil)
 (pss_cons (ps_if (pt_val (pe_callB call_isi (by rfl) bi.isinstance_ (by decide +kernel) (pa_cons (pv 1) (pa_cons (pe_bltn (v := .ty "bool") (by rfl) bi.bool_ (by decide +kernel) rfl) pa_nil))))
 (pss_one (ps_ret (pe_and (pe_callB call_isi (by rfl) bi.isinstance_ (by decide +kernel) (pa_cons (pv 0) (pa_cons (pe_bltn (v := .ty "bool") (by rfl) bi.bool_ (by decide +kernel) rfl) pa_nil))) (pe_one (pe_cmpR op_eq (pv 0) (pv 1) (nomark _))))))
 pss_nil)
 (pss_cons (ps_if (pt_val (pe_callB call_isi (by rfl) bi.isinstance_ (by decide +kernel) (pa_cons (pv 1) (pa_cons (pe_bltn (v := .ty "int") (by rfl) bi.int_ (by decide +kernel) rfl) pa_nil))))
 (pss_one (ps_ret (pe_and (pe_callB call_isi (by rfl) bi.isinstance_ (by decide +kernel) (pa_cons (pv 0) (pa_cons (pe_bltn (v := .ty "int") (by rfl) bi.int_ (by decide +kernel) rfl) pa_nil))) (pe_and (pe_not (pe_callB call_isi (by rfl) bi.isinstance_ (by decide +kernel) (pa_cons (pv 0) (pa_cons (pe_bltn (v := .ty "bool") (by rfl) bi.bool_ (by decide +kernel) rfl) pa_nil)))) (pe_one (pe_cmpR op_eq (pv 0) (pv 1) (nomark _)))))))
 pss_nil)
 (pss_cons (ps_if (pt_val (pe_callB call_isi (by rfl) bi.isinstance_ (by decide +kernel) (pa_cons (pv 1) (pa_cons (pe_bltn (v := .ty "str") (by rfl) bi.str_ (by decide +kernel) rfl) pa_nil))))
 (pss_one (ps_ret (pe_and (pe_callB call_isi (by rfl) bi.isinstance_ (by decide +kernel) (pa_cons (pv 0) (pa_cons (pe_bltn (v := .ty "str") (by rfl) bi.str_ (by decide +kernel) rfl) pa_nil))) (pe_one (pe_cmpR op_eq (pv 0) (pv 1) (nomark _))))))
 pss_nil)
 pss_never)))), ?_⟩
      refine rd_start (σ := [some x, some x, none, none]) rfl ?_
      have hQ := q H (Same.refl _)
      cases x with
      | non =>
        walk_at "rd"
        refine if_yesD rfl ?_
        walk_at "rd"
        rw [show decide (V.non = V.non) = true from decide_eq_true rfl]
        exact hQ
      | bl b =>
        walk_at "rd"
        refine if_noD (fun z => V.noConfusion z) ?_
        walk_at "rd"
        rw [show decide (V.bl b = V.bl b) = true from decide_eq_true rfl]
        exact hQ
      | int b =>
        walk_at "rd"
        refine if_noD (fun z => V.noConfusion z) ?_
        walk_at "rd"
        rw [show decide (V.int b = V.int b) = true from decide_eq_true rfl]
        exact hQ
      | str b =>
        walk_at "rd"
        refine if_noD (fun z => V.noConfusion z) ?_
        walk_at "rd"
        rw [show decide (V.str b = V.str b) = true from decide_eq_true rfl]
        exact hQ
      | ref _ => exact Bool.noConfusion hx
      | byt _ => exact Bool.noConfusion hx
      | flt _ => exact Bool.noConfusion hx
      | ty _ => exact Bool.noConfusion hx

    · refine ⟨_, (pss_cons (ps_if (pt_cmpR cIsN (pv 1) pe_non (nomark _))
 (pss_one (ps_ret (pe_cmpR cIsN (pv 0) pe_non (nomark _))))
 pss_nil)
 (pss_cons (ps_if (pt_val (pe_callB call_isi (by rfl) bi.isinstance_ (by decide +kernel) (pa_cons (pv 1) (pa_cons (pe_bltn (v := .ty "bool") (by rfl) bi.bool_ (by decide +kernel) rfl) pa_nil))))
 (pss_one (ps_ret (pe_and (pe_callB call_isi (by rfl) bi.isinstance_ (by decide +kernel) (pa_cons (pv 0) (pa_cons (pe_bltn (v := .ty "bool") (by rfl) bi.bool_ (by decide +kernel) rfl) pa_nil))) (pe_one (pe_cmpR op_eq (pv 0) (pv 1) (nomark _))))))
 pss_nil)
 (pss_cons (ps_if (pt_val (pe_callB call_isi (by rfl) bi.isinstance_ (by decide +kernel) (pa_cons (pv 1) (pa_cons (pe_bltn (v := .ty "int") (by rfl) bi.int_ (by decide +kernel) rfl) pa_nil))))
 (pss_one (ps_ret (pe_and (pe_callB call_isi (by rfl) bi.isinstance_ (by decide +kernel) (pa_cons (pv 0) (pa_cons (pe_bltn (v := .ty "int") (by rfl) bi.int_ (by decide +kernel) rfl) pa_nil))) (pe_and (pe_not (pe_callB call_isi (by rfl) bi.isinstance_ (by decide +kernel) (pa_cons (pv 0) (pa_cons (pe_bltn (v := .ty "bool") (by rfl) bi.bool_ (by decide +kernel) rfl) pa_nil)))) (pe_one (pe_cmpR op_eq (pv 0) (pv 1) (nomark _)))))))
 pss_nil)
 (pss_cons (ps_if (pt_val (pe_callB call_isi (by rfl) bi.isinstance_ (by decide +kernel) (pa_cons (pv 1) (pa_cons (pe_bltn (v := .ty "str") (by rfl) bi.str_ (by decide +kernel) rfl) pa_nil))))
 (pss_one (ps_ret (pe_and (pe_callB call_isi (by rfl) bi.isinstance_ (by decide +kernel) (pa_cons (pv 0) (pa_cons (pe_bltn (v := .ty "str") (by rfl) bi.str_ (by decide +kernel) rfl) pa_nil))) (pe_one (pe_cmpR op_eq (pv 0) (pv 1) (nomark _))))))
 pss_nil)
 (pss_cons (ps_if (PW.pt (pw_and (pt_val (pe_callB call_isi (by rfl) bi.isinstance_ (by decide +kernel) (pa_cons (pv 1) (pa_cons (pe_bltn (v := .ty "list") (by rfl) bi.list_ (by decide +kernel) rfl) pa_nil)))) (pw_and1 (pt_not (pt_val (pe_callB call_isi (by rfl) bi.isinstance_ (by decide +kernel) (pa_cons (pv 0) (pa_cons (pe_bltn (v := .ty "list") (by rfl) bi.list_ (by decide +kernel) rfl) pa_nil))))))))
 (pss_one (ps_ret pe_bl))
 pss_nil)
 (pss_cons (ps_if (PW.pt (pw_and (pt_val (pe_callB call_isi (by rfl) bi.isinstance_ (by decide +kernel) (pa_cons (pv 1) (pa_cons (pe_bltn (v := .ty "tuple") (by rfl) bi.tuple_ (by decide +kernel) rfl) pa_nil)))) (pw_and1 (pt_not (pt_val (pe_callB call_isi (by rfl) bi.isinstance_ (by decide +kernel) (pa_cons (pv 0) (pa_cons (pe_bltn (v := .ty "tuple") (by rfl) bi.tuple_ (by decide +kernel) rfl) pa_nil))))))))
 (pss_one (ps_ret pe_bl))
 pss_nil)
 (pss_cons (ps_if (pt_cmpR op_ne (pe_callB cLen (by rfl) bi.len_ (by decide +kernel) (pa_cons (pv 0) pa_nil)) (pe_callB cLen (by rfl) bi.len_ (by decide +kernel) (pa_cons (pv 1) pa_nil)) (nomark _))
 (pss_one (ps_ret pe_bl))
 pss_nil)
 (pss_cons (ps_for PassesOwn.never rfl (RZ.pi_zipA (by rfl) bi.zip_ (pa_cons (pv 0) (pa_cons (pv 1) pa_nil))) (pg_tup rfl (pgs_cons (pg_name (i := 2) sc_same.nd rfl (Or.inl rfl)) (pgs_cons (pg_name (i := 3) sc_same.nd rfl (Or.inl rfl)) pgs_nil)))
 (pss_one (ps_if (pt_not (pt_val (pe_call G_same (hr.mono (by first | decide | exact Nat.le_refl _)) (by rfl) D_same.g D_same.F.kp D_same.b .nil pass0 (pa_cons (pv 2) (pa_cons (pv 3) pa_nil)))))
 (pss_one (ps_ret pe_bl))
 pss_nil)))
 (pss_one (ps_ret pe_bl)))))))))), ?_⟩
      refine rd_start (σ := [some (.ref a), some (.ref b), none, none]) rfl ?_
      have L1 := h1.1
      have L2 := h2.1
      walk_at "rd"
      refine if_noD (fun z => V.noConfusion z) ?_
      walk_at "rd"
      refine isi_ty h2.2 (d := false) (by decide +kernel) ?_
      walk_at "rd"
      refine isi_ty h2.2 (d := false) (by decide +kernel) ?_
      walk_at "rd"
      refine isi_ty h2.2 (d := false) (by decide +kernel) ?_
      walk_at "rd"
      refine isi_ty h2.2 (d := true) (by decide +kernel) ?_
      walk_at "rd"
      refine isi_ty h1.2 (d := true) (by decide +kernel) ?_
      walk_at "rd"
      refine isi_ty h2.2 (d := false) (by decide +kernel) ?_
      walk_at "rd"
      refine if_noN (by rw [hl]) ?_
      walk_at "rd"
      refine ⟨a, b, xs, ys, rfl, .inl ⟨L1, L2, ?_⟩⟩
      refine for_zip hl (fun i σ H' => ∃ t u, σ = [some (.ref a), some (.ref b), t, u] ∧ Same H H') ⟨none, none, rfl, Same.refl _⟩ (fun i σ H1 _ hI => ?_) (fun i v u σ H1 T hv hu hI hT => ?_) (fun σ H1 hI => ?_)
      · obtain ⟨t, u, rfl, hs⟩ := hI
        exact ⟨hs.seq L1, hs.seq L2⟩
      · obtain ⟨t, u', rfl, hs⟩ := hI
        walk_at "rd"
        refine use_same (.same (hs.trans (same_new hT)) _ (HI i v u hv hu)) fun H2 hs2 => ?_
        walk_at "rd"
        exact ⟨_, _, rfl, (hs.trans (same_new hT)).trans hs2⟩
      · obtain ⟨t, u, rfl, hs⟩ := hI
        walk_at "rd"
        exact q _ hs
    · refine ⟨_, (pss_cons (ps_if (pt_cmpR cIsN (pv 1) pe_non (nomark _))
 (pss_one (ps_ret (pe_cmpR cIsN (pv 0) pe_non (nomark _))))
 pss_nil)
 (pss_cons (ps_if (pt_val (pe_callB call_isi (by rfl) bi.isinstance_ (by decide +kernel) (pa_cons (pv 1) (pa_cons (pe_bltn (v := .ty "bool") (by rfl) bi.bool_ (by decide +kernel) rfl) pa_nil))))
 (pss_one (ps_ret (pe_and (pe_callB call_isi (by rfl) bi.isinstance_ (by decide +kernel) (pa_cons (pv 0) (pa_cons (pe_bltn (v := .ty "bool") (by rfl) bi.bool_ (by decide +kernel) rfl) pa_nil))) (pe_one (pe_cmpR op_eq (pv 0) (pv 1) (nomark _))))))
 pss_nil)
 (pss_cons (ps_if (pt_val (pe_callB call_isi (by rfl) bi.isinstance_ (by decide +kernel) (pa_cons (pv 1) (pa_cons (pe_bltn (v := .ty "int") (by rfl) bi.int_ (by decide +kernel) rfl) pa_nil))))
 (pss_one (ps_ret (pe_and (pe_callB call_isi (by rfl) bi.isinstance_ (by decide +kernel) (pa_cons (pv 0) (pa_cons (pe_bltn (v := .ty "int") (by rfl) bi.int_ (by decide +kernel) rfl) pa_nil))) (pe_and (pe_not (pe_callB call_isi (by rfl) bi.isinstance_ (by decide +kernel) (pa_cons (pv 0) (pa_cons (pe_bltn (v := .ty "bool") (by rfl) bi.bool_ (by decide +kernel) rfl) pa_nil)))) (pe_one (pe_cmpR op_eq (pv 0) (pv 1) (nomark _)))))))
 pss_nil)
 (pss_cons (ps_if (pt_val (pe_callB call_isi (by rfl) bi.isinstance_ (by decide +kernel) (pa_cons (pv 1) (pa_cons (pe_bltn (v := .ty "str") (by rfl) bi.str_ (by decide +kernel) rfl) pa_nil))))
 (pss_one (ps_ret (pe_and (pe_callB call_isi (by rfl) bi.isinstance_ (by decide +kernel) (pa_cons (pv 0) (pa_cons (pe_bltn (v := .ty "str") (by rfl) bi.str_ (by decide +kernel) rfl) pa_nil))) (pe_one (pe_cmpR op_eq (pv 0) (pv 1) (nomark _))))))
 pss_nil)
 (pss_cons (ps_if (PW.pt (pw_and (pt_val (pe_callB call_isi (by rfl) bi.isinstance_ (by decide +kernel) (pa_cons (pv 1) (pa_cons (pe_bltn (v := .ty "list") (by rfl) bi.list_ (by decide +kernel) rfl) pa_nil)))) (pw_and1 (pt_not (pt_val (pe_callB call_isi (by rfl) bi.isinstance_ (by decide +kernel) (pa_cons (pv 0) (pa_cons (pe_bltn (v := .ty "list") (by rfl) bi.list_ (by decide +kernel) rfl) pa_nil))))))))
 (pss_one (ps_ret pe_bl))
 pss_nil)
 (pss_cons (ps_if (PW.pt (pw_and (pt_val (pe_callB call_isi (by rfl) bi.isinstance_ (by decide +kernel) (pa_cons (pv 1) (pa_cons (pe_bltn (v := .ty "tuple") (by rfl) bi.tuple_ (by decide +kernel) rfl) pa_nil)))) (pw_and1 (pt_not (pt_val (pe_callB call_isi (by rfl) bi.isinstance_ (by decide +kernel) (pa_cons (pv 0) (pa_cons (pe_bltn (v := .ty "tuple") (by rfl) bi.tuple_ (by decide +kernel) rfl) pa_nil))))))))
 (pss_one (ps_ret pe_bl))
 pss_nil)
 (pss_cons (ps_if (pt_cmpR op_ne (pe_callB cLen (by rfl) bi.len_ (by decide +kernel) (pa_cons (pv 0) pa_nil)) (pe_callB cLen (by rfl) bi.len_ (by decide +kernel) (pa_cons (pv 1) pa_nil)) (nomark _))
 (pss_one (ps_ret pe_bl))
 pss_nil)
 (pss_cons (ps_for PassesOwn.never rfl (RZ.pi_zipA (by rfl) bi.zip_ (pa_cons (pv 0) (pa_cons (pv 1) pa_nil))) (pg_tup rfl (pgs_cons (pg_name (i := 2) sc_same.nd rfl (Or.inl rfl)) (pgs_cons (pg_name (i := 3) sc_same.nd rfl (Or.inl rfl)) pgs_nil)))
 (pss_one (ps_if (pt_not (pt_val (pe_call G_same (hr.mono (by first | decide | exact Nat.le_refl _)) (by rfl) D_same.g D_same.F.kp D_same.b .nil pass0 (pa_cons (pv 2) (pa_cons (pv 3) pa_nil)))))
 (pss_one (ps_ret pe_bl))
 pss_nil)))
 (pss_one (ps_ret pe_bl)))))))))), ?_⟩
      refine rd_start (σ := [some (.ref a), some (.ref b), none, none]) rfl ?_
      have L1 := h1.1
      have L2 := h2.1
      walk_at "rd"
      refine if_noD (fun z => V.noConfusion z) ?_
      walk_at "rd"
      refine isi_ty h2.2 (d := false) (by decide +kernel) ?_
      walk_at "rd"
      refine isi_ty h2.2 (d := false) (by decide +kernel) ?_
      walk_at "rd"
      refine isi_ty h2.2 (d := false) (by decide +kernel) ?_
      walk_at "rd"
      refine isi_ty h2.2 (d := false) (by decide +kernel) ?_
      walk_at "rd"
      refine isi_ty h2.2 (d := true) (by decide +kernel) ?_
      walk_at "rd"
      refine isi_ty h1.2 (d := true) (by decide +kernel) ?_
      walk_at "rd"
      refine if_noN (by rw [hl]) ?_
      walk_at "rd"
      refine ⟨a, b, xs, ys, rfl, .inr ⟨L1, L2, ?_⟩⟩
      refine for_zipT hl (fun i σ H' => ∃ t u, σ = [some (.ref a), some (.ref b), t, u] ∧ Same H H') ⟨none, none, rfl, Same.refl _⟩ (fun i σ H1 _ hI => ?_) (fun i v u σ H1 T hv hu hI hT => ?_) (fun σ H1 hI => ?_)
      · obtain ⟨t, u, rfl, hs⟩ := hI
        exact ⟨same_seqT hs L1, same_seqT hs L2⟩
      · obtain ⟨t, u', rfl, hs⟩ := hI
        walk_at "rd"
        refine use_same (.same (hs.trans (same_new hT)) _ (HI i v u hv hu)) fun H2 hs2 => ?_
        walk_at "rd"
        exact ⟨_, _, rfl, (hs.trans (same_new hT)).trans hs2⟩
      · obtain ⟨t, u, rfl, hs⟩ := hI
        walk_at "rd"
        exact q _ hs
theorem ok_law {f : Addr} {fd : FuncData} {f_pool : Addr} {fd_pool : FuncData} {f_take : Addr} {fd_take : FuncData} {f_sizes : Addr} {fd_sizes : FuncData} {f_least_delay : Addr} {fd_least_delay : FuncData} {f_padding : Addr} {fd_padding : FuncData} {f_l_padding : Addr} {fd_l_padding : FuncData} {f_same : Addr} {fd_same : FuncData}    (D : Dn K mg "law" s_law ["_law_script"] f fd) (bi : Bi mg) (G_pool : FnOk P w K mg base CX0 1 f_pool fd_pool ["_law_script", "_law_k"] (spPool K)) (D_pool : Dn K mg "_law_pool" s_pool ["_law_script", "_law_k"] f_pool fd_pool) (G_take : FnOk P w K mg base CX0 1 f_take fd_take ["_law_pool_here", "_law_many"] spTakeB) (D_take : Dn K mg "_law_take" s_take ["_law_pool_here", "_law_many"] f_take fd_take) (G_sizes : FnOk P w K mg base CX0 2 f_sizes fd_sizes ["_law_pool_here", "_law_pace"] spSizes) (D_sizes : Dn K mg "_law_sizes" s_sizes ["_law_pool_here", "_law_pace"] f_sizes fd_sizes) (G_least_delay : FnOk P w K mg base CX0 5 f_least_delay fd_least_delay ["sizes", "rate"] spLeast) (D_least_delay : Dn K mg "least_delay" s_least_delay ["sizes", "rate"] f_least_delay fd_least_delay) (G_padding : FnOk P w K mg base CX0 5 f_padding fd_padding ["sizes", "rate", "delay", "store"] spPad) (D_padding : Dn K mg "padding" s_padding ["sizes", "rate", "delay", "store"] f_padding fd_padding) (G_l_padding : FnOk P w K mg base CX0 1 f_l_padding fd_l_padding ["_law_parts", "_law_pace", "_law_waits", "_law_room"] spPad) (D_l_padding : Dn K mg "_law_padding" s_l_padding ["_law_parts", "_law_pace", "_law_waits", "_law_room"] f_l_padding fd_l_padding) (G_same : FnOk P w K mg base CX0 2 f_same fd_same ["_law_actual", "_law_due"] (spSame K 1)) (D_same : Dn K mg "_law_same" s_same ["_law_actual", "_law_due"] f_same fd_same)   (kb_padding : KBinds K fd_padding ["sizes", "rate", "delay", "store"] ["store", "delay", "rate", "sizes"] (kg 0 4 [3, 2, 1, 0]) (kg 0 4 [3, 2, 1, 0])) : FnOk P w K mg base CX0 6 f fd ["_law_script"] (spLaw K) := by
  refine D.F.ok sc_law (fun vs H Q E h => ?_) (fun cdv A outer s H vs Q E hr h => ?_)
  · obtain ⟨a, ns, rfl, _⟩ := h
    rfl
  · obtain ⟨a, ns, rfl, hS, hl, q⟩ := h
    refine ⟨_, (pss_cons (ps_for PassesOwn.never rfl (pi_range1 (by rfl) bi.range_ (pa_cons (pe_callB (cMax rfl) (by rfl) bi.max_ (by decide +kernel) (pa_cons pe_int (pa_cons (pe_callB (cMin rfl) (by rfl) bi.min_ (by decide +kernel) (pa_cons (pe_callB cLen (by rfl) bi.len_ (by decide +kernel) (pa_cons (pv 0) pa_nil)) (pa_cons pe_int pa_nil))) pa_nil))) pa_nil)) (pg_name (i := 1) sc_law.nd rfl (Or.inl rfl))
 (pss_cons (ps_set (i := 2) sc_law.nd rfl (Or.inl rfl) (pe_call G_pool (hr.mono (by first | decide | exact Nat.le_refl _)) (by rfl) D_pool.g D_pool.F.kp D_pool.b .nil pass0 (pa_cons (pv 0) (pa_cons (pv 1) pa_nil))))
 (pss_cons (ps_set (i := 3) sc_law.nd rfl (Or.inl rfl) (pe_ix ix_list (pe_lst (pa_cons pe_int (pa_cons pe_int (pa_cons (pe_call G_take (hr.mono (by first | decide | exact Nat.le_refl _)) (by rfl) D_take.g D_take.F.kp D_take.b .nil pass0 (pa_cons (pv 2) (pa_cons pe_int pa_nil))) (pa_cons (pe_op op_pow pe_int pe_int) pa_nil))))) (pe_call G_take (hr.mono (by first | decide | exact Nat.le_refl _)) (by rfl) D_take.g D_take.F.kp D_take.b .nil pass0 (pa_cons (pv 2) (pa_cons pe_int pa_nil))) (fun _ _ => rfl)))
 (pss_cons (ps_set (i := 4) sc_law.nd rfl (Or.inl rfl) (pe_call G_sizes (hr.mono (by first | decide | exact Nat.le_refl _)) (by rfl) D_sizes.g D_sizes.F.kp D_sizes.b .nil pass0 (pa_cons (pv 2) (pa_cons (pv 3) pa_nil))))
 (pss_cons (ps_set (i := 5) sc_law.nd rfl (Or.inl rfl) (pe_call G_least_delay (hr.mono (by first | decide | exact Nat.le_refl _)) (by rfl) D_least_delay.g D_least_delay.F.kp D_least_delay.b .nil pass0 (pa_cons (pv 4) (pa_cons (pv 3) pa_nil))))
 (pss_cons (ps_if (PW.pt (pw_or (pt_not (pt_val (pe_callB call_isi (by rfl) bi.isinstance_ (by decide +kernel) (pa_cons (pv 5) (pa_cons (pe_bltn (v := .ty "int") (by rfl) bi.int_ (by decide +kernel) rfl) pa_nil))))) (pw_or1 (pt_cmpR op_lt (pv 5) pe_int (nomark _)))))
 (pss_one (ps_ret pe_bl))
 pss_nil)
 (pss_cons (ps_set (i := 6) sc_law.nd rfl (Or.inl rfl) (pe_ix ix_list (pe_lst (pa_cons (pv 5) (pa_cons (pe_call G_take (hr.mono (by first | decide | exact Nat.le_refl _)) (by rfl) D_take.g D_take.F.kp D_take.b .nil pass0 (pa_cons (pv 2) (pa_cons pe_int pa_nil))) (pa_cons (pe_op op_add (pv 5) (pe_call G_take (hr.mono (by first | decide | exact Nat.le_refl _)) (by rfl) D_take.g D_take.F.kp D_take.b .nil pass0 (pa_cons (pv 2) (pa_cons pe_int pa_nil)))) pa_nil)))) (pe_call G_take (hr.mono (by first | decide | exact Nat.le_refl _)) (by rfl) D_take.g D_take.F.kp D_take.b .nil pass0 (pa_cons (pv 2) (pa_cons pe_int pa_nil))) (fun _ _ => rfl)))
 (pss_cons (ps_set (i := 6) sc_law.nd rfl (Or.inl rfl) (pe_callB (cMin rfl) (by rfl) bi.min_ (by decide +kernel) (pa_cons (pv 6) (pa_cons (pe_op op_pow pe_int pe_int) pa_nil))))
 (pss_cons (ps_set (i := 7) sc_law.nd rfl (Or.inl rfl) (pe_ix ix_list (pe_lst (pa_cons pe_int (pa_cons (pe_call G_take (hr.mono (by first | decide | exact Nat.le_refl _)) (by rfl) D_take.g D_take.F.kp D_take.b .nil pass0 (pa_cons (pv 2) (pa_cons pe_int pa_nil))) (pa_cons (pe_callB (cMin rfl) (by rfl) bi.min_ (by decide +kernel) (pa_cons (pe_op op_add (pv 6) (pe_op op_mul pe_int (pv 3))) (pa_cons (pe_op op_pow pe_int pe_int) pa_nil))) (pa_cons (pe_op op_pow pe_int pe_int) pa_nil))))) (pe_call G_take (hr.mono (by first | decide | exact Nat.le_refl _)) (by rfl) D_take.g D_take.F.kp D_take.b .nil pass0 (pa_cons (pv 2) (pa_cons pe_int pa_nil))) (fun _ _ => rfl)))
 (C8.pss_cut (ps_set (i := 8) sc_law.nd rfl (Or.inl rfl) (pe_ifExp (pt_cmpR op_eq (pe_call G_take (hr.mono (by first | decide | exact Nat.le_refl _)) (by rfl) D_take.g D_take.F.kp D_take.b .nil pass0 (pa_cons (pv 2) (pa_cons pe_int pa_nil))) pe_int (nomark _)) (pe_callTy cTuple (by rfl) bi.tuple_ (by decide +kernel) (pa_cons (pv 4) pa_nil)) (pe_callTy cList (by rfl) bi.list_ (by decide +kernel) (pa_cons (pv 4) pa_nil))))
 (pss_cons (ps_set (i := 9) sc_law.nd rfl (Or.inl rfl) (pe_call G_l_padding (hr.mono (by first | decide | exact Nat.le_refl _)) (by rfl) D_l_padding.g D_l_padding.F.kp D_l_padding.b .nil pass0 (pa_cons (pv 4) (pa_cons (pv 3) (pa_cons (pv 6) (pa_cons (pv 7) pa_nil))))))
 (pss_cons (ps_if (PW.pt (pw_or (pt_not (pt_val (pe_call G_same (hr.mono (by first | decide | exact Nat.le_refl _)) (by rfl) D_same.g D_same.F.kp D_same.b .nil pass0 (pa_cons (pe_call G_padding (hr.mono (by first | decide | exact Nat.le_refl _)) (by rfl) D_padding.g D_padding.F.kp D_padding.b .nil pass0 (pa_cons (pv 8) (pa_cons (pv 3) (pa_cons (pv 6) (pa_cons (pv 7) pa_nil))))) (pa_cons (pv 9) pa_nil))))) (pw_or1 (pt_cmpR (op_neD hr.units) (pe_callTy cList (by rfl) bi.list_ (by decide +kernel) (pa_cons (pv 8) pa_nil)) (pv 4) (nomark _)))))
 (pss_one (ps_ret pe_bl))
 pss_nil)
 (pss_one (ps_if (pt_not (pt_val (pe_call G_same (hr.mono (by first | decide | exact Nat.le_refl _)) (by rfl) D_same.g D_same.F.kp D_same.b .nil pass0 (pa_cons (pe_callK0 G_padding (hr.mono (by first | decide | exact Nat.le_refl _)) (by rfl) D_padding.g D_padding.F.kp kb_padding pass0 (pk_cons (pv 7) (pk_cons (pv 6) (pk_cons (pv 3) (pk_cons (pv 8) pk_nil))))) (pa_cons (pv 9) pa_nil)))))
 (pss_one (ps_ret pe_bl))
 pss_nil))))))))))))))
 (pss_one (ps_ret pe_bl))), ?_⟩
    refine rd_start (σ := [some (.ref a), none, none, none, none, none, none, none, none, none]) rfl ?_
    walk_at "rd"
    have hn := mm_nat (ns.map V.int).length 40 (by decide)
    refine for_range (lo := 0) (n := _) (fun i σ H' => ∃ x1 x2 x3 x4 x5 x6 x7 x8 x9, σ = [some (.ref a), x1, x2, x3, x4, x5, x6, x7, x8, x9] ∧ Same H H') ⟨_, _, _, _, _, _, _, _, _, rfl, by walk_at "sm"⟩ (fun i σ H1 hi hI => ?_) (fun σ H1 hI => ?_)
    · obtain ⟨x1, x2, x3, x4, x5, x6, x7, x8, x9, rfl, hs⟩ := hI
      have hi' : i < 40 := Nat.lt_of_lt_of_le hi hn
      have hS1 : SqL K H1 a (ns.map V.int) := hs.seq hS
      walk_at "rd"
      rename_i p H2 hp0 hs2 hP2 t3 H3 h30 h31 hP3 hK3 pm hpm t4 H4 h40 h41 hP4 hK4
      refine' rd_ixP (fun v => ∃ j : Int, v = .int j ∧ 0 ≤ j ∧ j ≤ 1000000000) ?e ?h0 ?h1 ?hP fun v hv => ?_
      (case e => exact SqL.of (by walk_at "hg"))
      (case h0 => assumption)
      (case h1 => assumption)
      (case hP => walk_at "allm")
      obtain ⟨r, rfl, hr0, hr1⟩ := hv
      walk_at "rd"
      refine use_sizes hP4 hr0 hr1 fun D us ss H5 hD eD hz ok hl hP5 hK5 => ?_
      walk_at "rd"
      have hK25 : Kp p H2 H5 := hK3.trans ((Kp.new hpm).trans (hK4.trans hK5))
      have hDp : D ≠ p := hP4.ne hD
      refine use_least (.l eD) hz ok hr0 hr1 fun H6 hs6 => ?_
      have hd6 := hs6 _ _ eD
      have hz6 := hz.same hs6
      have hP6 := hP5.same hs6
      have nn : 0 ≤ ldS r ss 0 0 0 := ld_ge r ss 0 0 0
      generalize ldS r ss 0 0 0 = fd at nn
      walk_at "rd"
      refine if_noD (by omega) ?_
      walk_at "rd"
      rename_i t7 H7 h70 h71 hP7 hK7 t8 H8 h80 h81 hP8 hK8 pm9 hpm9 t10 H10 h100 h101 hP10 hK10
      refine' rd_ixP (fun v => ∃ j : Int, v = .int j ∧ 0 ≤ j ∧ True) ?e ?h0 ?h1 ?hP fun v hv => ?_
      (case e => exact SqL.of (by walk_at "hg"))
      (case h0 => assumption)
      (case h1 => assumption)
      (case hP => walk_at "allm")
      obtain ⟨wv, rfl, hw0, _⟩ := hv
      walk_at "rd"
      have e9 : (10 : Int) ^ Int.toNat 9 = 1000000000 := by decide
      rw [e9]
      generalize hwt : (if 1000000000 < wv then 1000000000 else wv) = wt
      have wt0 : 0 ≤ wt ∧ wt ≤ 1000000000 := by rw [← hwt]; split <;> omega
      walk_at "rd"
      rename_i t11 H11 h110 h111 hP11 hK11 pm12 hpm12 t13 H13 h130 h131 hP13 hK13
      generalize hho : (if (10 : Int) ^ Int.toNat 9 < wt + 8 * r then (10 : Int) ^ Int.toNat 9 else wt + 8 * r) = ho at *
      have ho0 : 0 ≤ ho ∧ ho ≤ 1000000000 := by rw [← hho, e9]; split <;> omega
      refine' rd_ixP (fun v => ∃ j : Int, v = .int j ∧ 0 ≤ j ∧ j ≤ 1000000000) ?e ?h0 ?h1 ?hP fun v hv => ?_
      (case e => exact SqL.of (by walk_at "hg"))
      (case h0 => assumption)
      (case h1 => assumption)
      (case hP => walk_at "allm")
      obtain ⟨hv1, rfl, hh0, hh1⟩ := hv
      walk_at "rd"
      have hK26 : Kp p H2 H13 := hK25.trans ((Kp.of hs6).trans (hK7.trans (hK8.trans ((Kp.new hpm9).trans (hK10.trans (hK11.trans ((Kp.new hpm12).trans hK13)))))))
      have l610 : LKT H6 H10 := ((LKT.pool hP6 hK7).trans (LKT.pool hP7 hK8)).trans ((LKT.new hpm9).trans (LKT.pool (hP8.new hpm9) hK10))
      have l613 : LKT H6 H13 := l610.trans ((LKT.pool hP10 hK11).trans ((LKT.new hpm12).trans (LKT.pool (hP11.new hpm12) hK13)))
      have hz13 := hz6.lk l613
      have hd13 : H13 D = some (.lst us) := hK13 _ _ hDp (look_new hpm12 (hK11 _ _ hDp (hK10 _ _ hDp (look_new hpm9 (hK8 _ _ hDp (hK7 _ _ hDp hd6))))))
      refine rd_cut (fun σ H' => ∃ gv, σ = [some (.ref a), some (.int (0 + (i : Int))), some (.ref p), some (.int r), some (.ref D), some (.int fd), some (.int wt), some (.int hv1), some (.ref gv), x9] ∧ LT H' gv us ∧ H' D = some (.lst us) ∧ SzsAt H' us ss ∧ Kp p H2 H') ?_ fun σ' H14 hM => ?_
      · walk_at "rd"
        rename_i t14 H14 h140 h141 hP14 hK14
        have hd14 := hK14 _ _ hDp hd13
        have hz14 := hz13.lk (.pool hP13 hK14)
        refine rd_iteD (fun c => ?_) (fun c => ?_)
        · walk_at "rd"
          rename_i g hg
          exact ⟨g, rfl, .t upd_same, look_new hg hd14, hz14.lk (.new hg), hK26.trans (hK14.trans (Kp.new hg))⟩
        · walk_at "rd"
          rename_i g hg
          exact ⟨g, rfl, .l upd_same, look_new hg hd14, hz14.lk (.new hg), hK26.trans (hK14.trans (Kp.new hg))⟩
      obtain ⟨gv, rfl, hgv, hd14, hz14, hK14⟩ := hM
      have ssl : ss.length ≤ 100 := by have := hz.len; omega
      walk_at "rd"
      refine use_pad (.l hd14) hz14 ok ssl ⟨hr0, hr1⟩ wt0 ⟨hh0, hh1⟩ fun v15 H15 hs15 hv15 => ?_
      walk_at "rd"
      refine use_pad (hgv.same hs15) (hz14.same hs15) ok ssl ⟨hr0, hr1⟩ wt0 ⟨hh0, hh1⟩ fun v16 H16 hs16 hv16 => ?_
      walk_at "rd"
      refine use_same (sm_pd hv16 (hv15.same hs16)) fun H17 hs17 => ?_
      have hs27 := (hs15.trans hs16).trans hs17
      have hgv17 := hgv.same hs27
      have hd17 := hs27 _ _ hd14
      have hz17 := hz14.same hs27
      have hv17 := (hv15.same hs16).same hs17
      walk_at "rd"
      rename_i q18 hq18
      refine rd_neSz (SqL.of upd_same) (SqL.of (look_new hq18 hd17)) (hz17.lk (.new hq18)) (hz17.lk (.new hq18)) ?_
      have hs18 : Same H17 (upd H17 q18 (.lst us)) := same_new hq18
      generalize upd H17 q18 (.lst us) = H18 at hs18
      walk_at "rd"
      refine use_padK (hgv17.same hs18) (hz17.same hs18) ok ssl ⟨hr0, hr1⟩ wt0 ⟨hh0, hh1⟩ fun v19 H19 hs19 hv19 => ?_
      walk_at "rd"
      refine use_same (sm_pd hv19 ((hv17.same hs18).same hs19)) fun H20 hs20 => ?_
      walk_at "rd"
      have hK20 : Kp p H2 H20 := hK14.trans (Kp.of ((hs27.trans hs18).trans (hs19.trans hs20)))
      exact ⟨_, _, _, _, _, _, _, _, _, rfl, close_turn hs hp0 hs2 hK20⟩
    · obtain ⟨x1, x2, x3, x4, x5, x6, x7, x8, x9, rfl, hs⟩ := hI
      walk_at "rd"
      exact q _

end
theorem all_mk {l : PySem.W.OpenLaw} {w : World} {K : PySem.W.Frag} {h : Heap} {mg : Str → Option Value} {fa : Addr} (X : K.In h) (G : h.Ns mainGlobals mg) (hfa : mg "law" = some (.ref fa))
    {f_is_integer : Addr} {od_is_integer an_is_integer : Option Addr} {sl_is_integer : Array (Option Value)} {oc_is_integer kV_is_integer dc_is_integer pm_is_integer cd_is_integer ct_is_integer : Value}
    {f_is_within : Addr} {od_is_within an_is_within : Option Addr} {sl_is_within : Array (Option Value)} {oc_is_within kV_is_within dc_is_within pm_is_within cd_is_within ct_is_within : Value}
    {f_check_within : Addr} {od_check_within an_check_within : Option Addr} {sl_check_within : Array (Option Value)} {oc_check_within kV_check_within dc_check_within pm_check_within cd_check_within ct_check_within : Value}
    {f_least_delay : Addr} {od_least_delay an_least_delay : Option Addr} {sl_least_delay : Array (Option Value)} {oc_least_delay kV_least_delay dc_least_delay pm_least_delay cd_least_delay ct_least_delay : Value}
    {f_check_sizes : Addr} {od_check_sizes an_check_sizes : Option Addr} {sl_check_sizes : Array (Option Value)} {oc_check_sizes kV_check_sizes dc_check_sizes pm_check_sizes cd_check_sizes ct_check_sizes : Value}
    {f_is_size : Addr} {od_is_size an_is_size : Option Addr} {sl_is_size : Array (Option Value)} {oc_is_size kV_is_size dc_is_size pm_is_size cd_is_size ct_is_size : Value}
    {f_padding : Addr} {od_padding an_padding : Option Addr} {sl_padding : Array (Option Value)} {oc_padding kV_padding dc_padding pm_padding cd_padding ct_padding : Value}
    {f_pool : Addr} {od_pool an_pool : Option Addr} {sl_pool : Array (Option Value)} {oc_pool kV_pool dc_pool pm_pool cd_pool ct_pool : Value}
    {f_take : Addr} {od_take an_take : Option Addr} {sl_take : Array (Option Value)} {oc_take kV_take dc_take pm_take cd_take ct_take : Value}
    {f_same : Addr} {od_same an_same : Option Addr} {sl_same : Array (Option Value)} {oc_same kV_same dc_same pm_same cd_same ct_same : Value}
    {f_sizes : Addr} {od_sizes an_sizes : Option Addr} {sl_sizes : Array (Option Value)} {oc_sizes kV_sizes dc_sizes pm_sizes cd_sizes ct_sizes : Value}
    {f_l_padding : Addr} {od_l_padding an_l_padding : Option Addr} {sl_l_padding : Array (Option Value)} {oc_l_padding kV_l_padding dc_l_padding pm_l_padding cd_l_padding ct_l_padding : Value}
    {f_law : Addr} {od_law an_law : Option Addr} {sl_law : Array (Option Value)} {oc_law kV_law dc_law pm_law cd_law ct_law : Value}
    {t_BUDGET_LIMIT : Tok}
    (a_is_integer : PySem.W.nsIn K mainGlobals "is_integer" = some (some (.ref f_is_integer))) (l_is_integer : K.lookup f_is_integer = some ⟨oc_is_integer, od_is_integer, .func (PySem.W.fnOf "is_integer" "is_integer" (defArgs s_is_integer) (defBody s_is_integer) (defScope s_is_integer) .none kV_is_integer dc_is_integer pm_is_integer an_is_integer cd_is_integer ct_is_integer), sl_is_integer⟩) (c_is_integer : PySem.W.codeIn K cd_is_integer "is_integer" = true) (k_is_integer : PySem.W.keepIn K (.ref f_is_integer) = true)
    (a_is_within : PySem.W.nsIn K mainGlobals "is_within" = some (some (.ref f_is_within))) (l_is_within : K.lookup f_is_within = some ⟨oc_is_within, od_is_within, .func (PySem.W.fnOf "is_within" "is_within" (defArgs s_is_within) (defBody s_is_within) (defScope s_is_within) .none kV_is_within dc_is_within pm_is_within an_is_within cd_is_within ct_is_within), sl_is_within⟩) (c_is_within : PySem.W.codeIn K cd_is_within "is_within" = true) (k_is_within : PySem.W.keepIn K (.ref f_is_within) = true)
    (a_check_within : PySem.W.nsIn K mainGlobals "check_within" = some (some (.ref f_check_within))) (l_check_within : K.lookup f_check_within = some ⟨oc_check_within, od_check_within, .func (PySem.W.fnOf "check_within" "check_within" (defArgs s_check_within) (defBody s_check_within) (defScope s_check_within) .none kV_check_within dc_check_within pm_check_within an_check_within cd_check_within ct_check_within), sl_check_within⟩) (c_check_within : PySem.W.codeIn K cd_check_within "check_within" = true) (k_check_within : PySem.W.keepIn K (.ref f_check_within) = true)
    (a_least_delay : PySem.W.nsIn K mainGlobals "least_delay" = some (some (.ref f_least_delay))) (l_least_delay : K.lookup f_least_delay = some ⟨oc_least_delay, od_least_delay, .func (PySem.W.fnOf "least_delay" "least_delay" (defArgs s_least_delay) (defBody s_least_delay) (defScope s_least_delay) .none kV_least_delay dc_least_delay pm_least_delay an_least_delay cd_least_delay ct_least_delay), sl_least_delay⟩) (c_least_delay : PySem.W.codeIn K cd_least_delay "least_delay" = true) (k_least_delay : PySem.W.keepIn K (.ref f_least_delay) = true)
    (a_check_sizes : PySem.W.nsIn K mainGlobals "check_sizes" = some (some (.ref f_check_sizes))) (l_check_sizes : K.lookup f_check_sizes = some ⟨oc_check_sizes, od_check_sizes, .func (PySem.W.fnOf "check_sizes" "check_sizes" (defArgs s_check_sizes) (defBody s_check_sizes) (defScope s_check_sizes) .none kV_check_sizes dc_check_sizes pm_check_sizes an_check_sizes cd_check_sizes ct_check_sizes), sl_check_sizes⟩) (c_check_sizes : PySem.W.codeIn K cd_check_sizes "check_sizes" = true) (k_check_sizes : PySem.W.keepIn K (.ref f_check_sizes) = true)
    (a_is_size : PySem.W.nsIn K mainGlobals "is_size" = some (some (.ref f_is_size))) (l_is_size : K.lookup f_is_size = some ⟨oc_is_size, od_is_size, .func (PySem.W.fnOf "is_size" "is_size" (defArgs s_is_size) (defBody s_is_size) (defScope s_is_size) .none kV_is_size dc_is_size pm_is_size an_is_size cd_is_size ct_is_size), sl_is_size⟩) (c_is_size : PySem.W.codeIn K cd_is_size "is_size" = true) (k_is_size : PySem.W.keepIn K (.ref f_is_size) = true)
    (a_padding : PySem.W.nsIn K mainGlobals "padding" = some (some (.ref f_padding))) (l_padding : K.lookup f_padding = some ⟨oc_padding, od_padding, .func (PySem.W.fnOf "padding" "padding" (defArgs s_padding) (defBody s_padding) (defScope s_padding) .none kV_padding dc_padding pm_padding an_padding cd_padding ct_padding), sl_padding⟩) (c_padding : PySem.W.codeIn K cd_padding "padding" = true) (k_padding : PySem.W.keepIn K (.ref f_padding) = true)
    (a_pool : PySem.W.nsIn K mainGlobals "_law_pool" = some (some (.ref f_pool))) (l_pool : K.lookup f_pool = some ⟨oc_pool, od_pool, .func (PySem.W.fnOf "_law_pool" "_law_pool" (defArgs s_pool) (defBody s_pool) (defScope s_pool) .none kV_pool dc_pool pm_pool an_pool cd_pool ct_pool), sl_pool⟩) (c_pool : PySem.W.codeIn K cd_pool "_law_pool" = true) (k_pool : PySem.W.keepIn K (.ref f_pool) = true)
    (a_take : PySem.W.nsIn K mainGlobals "_law_take" = some (some (.ref f_take))) (l_take : K.lookup f_take = some ⟨oc_take, od_take, .func (PySem.W.fnOf "_law_take" "_law_take" (defArgs s_take) (defBody s_take) (defScope s_take) .none kV_take dc_take pm_take an_take cd_take ct_take), sl_take⟩) (c_take : PySem.W.codeIn K cd_take "_law_take" = true) (k_take : PySem.W.keepIn K (.ref f_take) = true)
    (a_same : PySem.W.nsIn K mainGlobals "_law_same" = some (some (.ref f_same))) (l_same : K.lookup f_same = some ⟨oc_same, od_same, .func (PySem.W.fnOf "_law_same" "_law_same" (defArgs s_same) (defBody s_same) (defScope s_same) .none kV_same dc_same pm_same an_same cd_same ct_same), sl_same⟩) (c_same : PySem.W.codeIn K cd_same "_law_same" = true) (k_same : PySem.W.keepIn K (.ref f_same) = true)
    (a_sizes : PySem.W.nsIn K mainGlobals "_law_sizes" = some (some (.ref f_sizes))) (l_sizes : K.lookup f_sizes = some ⟨oc_sizes, od_sizes, .func (PySem.W.fnOf "_law_sizes" "_law_sizes" (defArgs s_sizes) (defBody s_sizes) (defScope s_sizes) .none kV_sizes dc_sizes pm_sizes an_sizes cd_sizes ct_sizes), sl_sizes⟩) (c_sizes : PySem.W.codeIn K cd_sizes "_law_sizes" = true) (k_sizes : PySem.W.keepIn K (.ref f_sizes) = true)
    (a_l_padding : PySem.W.nsIn K mainGlobals "_law_padding" = some (some (.ref f_l_padding))) (l_l_padding : K.lookup f_l_padding = some ⟨oc_l_padding, od_l_padding, .func (PySem.W.fnOf "_law_padding" "_law_padding" (defArgs s_l_padding) (defBody s_l_padding) (defScope s_l_padding) .none kV_l_padding dc_l_padding pm_l_padding an_l_padding cd_l_padding ct_l_padding), sl_l_padding⟩) (c_l_padding : PySem.W.codeIn K cd_l_padding "_law_padding" = true) (k_l_padding : PySem.W.keepIn K (.ref f_l_padding) = true)
    (a_law : PySem.W.nsIn K mainGlobals "law" = some (some (.ref f_law))) (l_law : K.lookup f_law = some ⟨oc_law, od_law, .func (PySem.W.fnOf "law" "law" (defArgs s_law) (defBody s_law) (defScope s_law) .none kV_law dc_law pm_law an_law cd_law ct_law), sl_law⟩) (c_law : PySem.W.codeIn K cd_law "law" = true) (k_law : PySem.W.keepIn K (.ref f_law) = true)
    (a_BUDGET_LIMIT : PySem.W.nsIn K mainGlobals "BUDGET_LIMIT" = some (some (.int 1000000000 t_BUDGET_LIMIT)))
    (z_int : PySem.W.nsIn K mainGlobals "int" = some none)
    (z_bool : PySem.W.nsIn K mainGlobals "bool" = some none)
    (z_str : PySem.W.nsIn K mainGlobals "str" = some none)
    (z_list : PySem.W.nsIn K mainGlobals "list" = some none)
    (z_tuple : PySem.W.nsIn K mainGlobals "tuple" = some none)
    (z_len : PySem.W.nsIn K mainGlobals "len" = some none)
    (z_abs : PySem.W.nsIn K mainGlobals "abs" = some none)
    (z_max : PySem.W.nsIn K mainGlobals "max" = some none)
    (z_min : PySem.W.nsIn K mainGlobals "min" = some none)
    (z_range : PySem.W.nsIn K mainGlobals "range" = some none)
    (z_zip : PySem.W.nsIn K mainGlobals "zip" = some none)
    (z_isinstance : PySem.W.nsIn K mainGlobals "isinstance" = some none)
    (z_enumerate : PySem.W.nsIn K mainGlobals "enumerate" = some none)
    (z_reversed : PySem.W.nsIn K mainGlobals "reversed" = some none)
    : ∃ fd : FuncData, (∀ (s : Shared) (v : Value), BindsTo s fd ⟨[v], []⟩ [("_law_script", v)]) ∧ ∀ base : Heap, K.In base → base.Ns mainGlobals mg → FnOk l.prog w K mg base CX0 6 fa fd ["_law_script"] (spLaw K) := by
  have e := hfa.symm.trans (PySem.W.mg_of X G a_law)
  cases e
  have bi : Bi mg := ⟨PySem.W.mg_none_of X G z_int, PySem.W.mg_none_of X G z_bool, PySem.W.mg_none_of X G z_str, PySem.W.mg_none_of X G z_list, PySem.W.mg_none_of X G z_tuple, PySem.W.mg_none_of X G z_len, PySem.W.mg_none_of X G z_abs, PySem.W.mg_none_of X G z_max, PySem.W.mg_none_of X G z_min, PySem.W.mg_none_of X G z_range, PySem.W.mg_none_of X G z_zip, PySem.W.mg_none_of X G z_isinstance, PySem.W.mg_none_of X G z_enumerate, PySem.W.mg_none_of X G z_reversed⟩
  have F_is_integer := fun_mk (st := s_is_integer) l_is_integer c_is_integer k_is_integer
  have D_is_integer : Dn K mg "is_integer" s_is_integer ["value"] _ _ := ⟨F_is_integer, PySem.W.mg_of X G a_is_integer, F_is_integer.binds (ps := ["value"]) fun _ _ _ _ _ _ us hl => match us, hl with | [_], _ => rfl⟩
  have F_is_within := fun_mk (st := s_is_within) l_is_within c_is_within k_is_within
  have D_is_within : Dn K mg "is_within" s_is_within ["value", "low", "high"] _ _ := ⟨F_is_within, PySem.W.mg_of X G a_is_within, F_is_within.binds (ps := ["value", "low", "high"]) fun _ _ _ _ _ _ us hl => match us, hl with | [_, _, _], _ => rfl⟩
  have F_check_within := fun_mk (st := s_check_within) l_check_within c_check_within k_check_within
  have D_check_within : Dn K mg "check_within" s_check_within ["value", "low", "high"] _ _ := ⟨F_check_within, PySem.W.mg_of X G a_check_within, F_check_within.binds (ps := ["value", "low", "high"]) fun _ _ _ _ _ _ us hl => match us, hl with | [_, _, _], _ => rfl⟩
  have F_least_delay := fun_mk (st := s_least_delay) l_least_delay c_least_delay k_least_delay
  have D_least_delay : Dn K mg "least_delay" s_least_delay ["sizes", "rate"] _ _ := ⟨F_least_delay, PySem.W.mg_of X G a_least_delay, F_least_delay.binds (ps := ["sizes", "rate"]) fun _ _ _ _ _ _ us hl => match us, hl with | [_, _], _ => rfl⟩
  have F_check_sizes := fun_mk (st := s_check_sizes) l_check_sizes c_check_sizes k_check_sizes
  have D_check_sizes : Dn K mg "check_sizes" s_check_sizes ["sizes"] _ _ := ⟨F_check_sizes, PySem.W.mg_of X G a_check_sizes, F_check_sizes.binds (ps := ["sizes"]) fun _ _ _ _ _ _ us hl => match us, hl with | [_], _ => rfl⟩
  have F_is_size := fun_mk (st := s_is_size) l_is_size c_is_size k_is_size
  have D_is_size : Dn K mg "is_size" s_is_size ["value"] _ _ := ⟨F_is_size, PySem.W.mg_of X G a_is_size, F_is_size.binds (ps := ["value"]) fun _ _ _ _ _ _ us hl => match us, hl with | [_], _ => rfl⟩
  have F_padding := fun_mk (st := s_padding) l_padding c_padding k_padding
  have D_padding : Dn K mg "padding" s_padding ["sizes", "rate", "delay", "store"] _ _ := ⟨F_padding, PySem.W.mg_of X G a_padding, F_padding.binds (ps := ["sizes", "rate", "delay", "store"]) fun _ _ _ _ _ _ us hl => match us, hl with | [_, _, _, _], _ => rfl⟩
  have F_pool := fun_mk (st := s_pool) l_pool c_pool k_pool
  have D_pool : Dn K mg "_law_pool" s_pool ["_law_script", "_law_k"] _ _ := ⟨F_pool, PySem.W.mg_of X G a_pool, F_pool.binds (ps := ["_law_script", "_law_k"]) fun _ _ _ _ _ _ us hl => match us, hl with | [_, _], _ => rfl⟩
  have F_take := fun_mk (st := s_take) l_take c_take k_take
  have D_take : Dn K mg "_law_take" s_take ["_law_pool_here", "_law_many"] _ _ := ⟨F_take, PySem.W.mg_of X G a_take, F_take.binds (ps := ["_law_pool_here", "_law_many"]) fun _ _ _ _ _ _ us hl => match us, hl with | [_, _], _ => rfl⟩
  have F_same := fun_mk (st := s_same) l_same c_same k_same
  have D_same : Dn K mg "_law_same" s_same ["_law_actual", "_law_due"] _ _ := ⟨F_same, PySem.W.mg_of X G a_same, F_same.binds (ps := ["_law_actual", "_law_due"]) fun _ _ _ _ _ _ us hl => match us, hl with | [_, _], _ => rfl⟩
  have F_sizes := fun_mk (st := s_sizes) l_sizes c_sizes k_sizes
  have D_sizes : Dn K mg "_law_sizes" s_sizes ["_law_pool_here", "_law_pace"] _ _ := ⟨F_sizes, PySem.W.mg_of X G a_sizes, F_sizes.binds (ps := ["_law_pool_here", "_law_pace"]) fun _ _ _ _ _ _ us hl => match us, hl with | [_, _], _ => rfl⟩
  have F_l_padding := fun_mk (st := s_l_padding) l_l_padding c_l_padding k_l_padding
  have D_l_padding : Dn K mg "_law_padding" s_l_padding ["_law_parts", "_law_pace", "_law_waits", "_law_room"] _ _ := ⟨F_l_padding, PySem.W.mg_of X G a_l_padding, F_l_padding.binds (ps := ["_law_parts", "_law_pace", "_law_waits", "_law_room"]) fun _ _ _ _ _ _ us hl => match us, hl with | [_, _, _, _], _ => rfl⟩
  have F_law := fun_mk (st := s_law) l_law c_law k_law
  have D_law : Dn K mg "law" s_law ["_law_script"] _ _ := ⟨F_law, PySem.W.mg_of X G a_law, F_law.binds (ps := ["_law_script"]) fun _ _ _ _ _ _ us hl => match us, hl with | [_], _ => rfl⟩
  have kb_padding : KBinds K (PySem.W.fnOf "padding" "padding" (defArgs s_padding) (defBody s_padding) (defScope s_padding) .none kV_padding dc_padding pm_padding an_padding cd_padding ct_padding) ["sizes", "rate", "delay", "store"] ["store", "delay", "rate", "sizes"] (kg 0 4 [3, 2, 1, 0]) (kg 0 4 [3, 2, 1, 0]) := ⟨fun s us ws _ hl => by
    obtain ⟨h1, h2⟩ := kg_some hl (by decide)
    obtain rfl := len0 h1
    obtain ⟨y1, y2, y3, y4, rfl⟩ := len4 h2
    exact .of_eq rfl, fun r1 r2 => kg_rel r1 r2⟩
  refine ⟨PySem.W.fnOf "law" "law" (defArgs s_law) (defBody s_law) (defScope s_law) .none kV_law dc_law pm_law an_law cd_law ct_law, fun s v => .of_eq rfl, fun base _ _ => ?_⟩
  have G_take := ok_take (P := l.prog) (w := w) (base := base) D_take bi    
  have G_pool := ok_pool (P := l.prog) (w := w) (base := base) D_pool bi    
  have G_is_integer := ok_is_integer (P := l.prog) (w := w) (base := base) D_is_integer bi    
  have G_is_within := ok_is_within (P := l.prog) (w := w) (base := base) D_is_within bi G_is_integer D_is_integer   
  have G_check_within := ok_check_within (P := l.prog) (w := w) (base := base) D_check_within bi G_is_within D_is_within   
  have G_is_size := ok_is_size (P := l.prog) (w := w) (base := base) D_is_size bi G_is_within D_is_within   ⟨_, PySem.W.mg_of X G a_BUDGET_LIMIT⟩
  have G_check_sizes := ok_check_sizes (P := l.prog) (w := w) (base := base) D_check_sizes bi G_is_size D_is_size   
  have G_least_delay := ok_least_delay (P := l.prog) (w := w) (base := base) D_least_delay bi G_check_sizes D_check_sizes G_check_within D_check_within   ⟨_, PySem.W.mg_of X G a_BUDGET_LIMIT⟩
  have G_padding := ok_padding (P := l.prog) (w := w) (base := base) D_padding bi G_check_sizes D_check_sizes G_check_within D_check_within   ⟨_, PySem.W.mg_of X G a_BUDGET_LIMIT⟩
  have G_sizes := ok_sizes (P := l.prog) (w := w) (base := base) D_sizes bi G_take D_take   
  have G_l_padding := ok_l_padding (P := l.prog) (w := w) (base := base) D_l_padding bi    
  have G_same0 := ok_same0 (P := l.prog) (w := w) (base := base) D_same bi
  have G_same1 := ok_sameS (P := l.prog) (w := w) (base := base) D_same bi G_same0
  have G_same := G_same1
  exact ok_law D_law bi G_pool D_pool G_take D_take G_sizes D_sizes G_least_delay D_least_delay G_padding D_padding G_l_padding D_l_padding G_same D_same   kb_padding
end Z
open PySem PySem.W PyProof.Rows
set_option maxHeartbeats 0 in
theorem PySem.Challenge.cw_framejoins_k78_padding_holds : PySem.Challenge.rw_framejoins_k78_padding.Holds := by
  w_on; o_law; k_head; (case hw => w_witness2)
  k_fill
  refine L2.walk_of (l := PySem.Challenge.rw_framejoins_k78_padding) (n := 63) (k := 6) (x := "_law_script") (CX := fun _ => L2.CX0) (sp := fun w => Z.spLaw _) rfl (by decide) rfl ⟨rfl, by decide, by decide⟩ (fun w h Y => PySem.W.kIn_of Y) ?F (fun _ _ a ns hl _ hS => ⟨a, ns, rfl, hS, hl, fun _ => rfl⟩) (fun _ _ _ _ _ h => h)
  case F =>
    intro w mg fa h KX G hmg
    refine' Z.all_mk KX G hmg ?a_is_integer ?l_is_integer ?c_is_integer ?k_is_integer ?a_is_within ?l_is_within ?c_is_within ?k_is_within ?a_check_within ?l_check_within ?c_check_within ?k_check_within ?a_least_delay ?l_least_delay ?c_least_delay ?k_least_delay ?a_check_sizes ?l_check_sizes ?c_check_sizes ?k_check_sizes ?a_is_size ?l_is_size ?c_is_size ?k_is_size ?a_padding ?l_padding ?c_padding ?k_padding ?a_pool ?l_pool ?c_pool ?k_pool ?a_take ?l_take ?c_take ?k_take ?a_same ?l_same ?c_same ?k_same ?a_sizes ?l_sizes ?c_sizes ?k_sizes ?a_l_padding ?l_l_padding ?c_l_padding ?k_l_padding ?a_law ?l_law ?c_law ?k_law ?a_BUDGET_LIMIT ?z_int ?z_bool ?z_str ?z_list ?z_tuple ?z_len ?z_abs ?z_max ?z_min ?z_range ?z_zip ?z_isinstance ?z_enumerate ?z_reversed
    (case a_is_integer => k_is); (case l_is_integer => k_is); (case c_is_integer => k_is); (case k_is_integer => k_is); (case a_is_within => k_is); (case l_is_within => k_is); (case c_is_within => k_is); (case k_is_within => k_is); (case a_check_within => k_is); (case l_check_within => k_is); (case c_check_within => k_is); (case k_check_within => k_is); (case a_least_delay => k_is); (case l_least_delay => k_is); (case c_least_delay => k_is); (case k_least_delay => k_is); (case a_check_sizes => k_is); (case l_check_sizes => k_is); (case c_check_sizes => k_is); (case k_check_sizes => k_is); (case a_is_size => k_is); (case l_is_size => k_is); (case c_is_size => k_is); (case k_is_size => k_is); (case a_padding => k_is); (case l_padding => k_is); (case c_padding => k_is); (case k_padding => k_is); (case a_pool => k_is); (case l_pool => k_is); (case c_pool => k_is); (case k_pool => k_is); (case a_take => k_is); (case l_take => k_is); (case c_take => k_is); (case k_take => k_is); (case a_same => k_is); (case l_same => k_is); (case c_same => k_is); (case k_same => k_is); (case a_sizes => k_is); (case l_sizes => k_is); (case c_sizes => k_is); (case k_sizes => k_is); (case a_l_padding => k_is); (case l_l_padding => k_is); (case c_l_padding => k_is); (case k_l_padding => k_is); (case a_law => k_is); (case l_law => k_is); (case c_law => k_is); (case k_law => k_is); (case a_BUDGET_LIMIT => k_is); (case z_int => k_is); (case z_bool => k_is); (case z_str => k_is); (case z_list => k_is); (case z_tuple => k_is); (case z_len => k_is); (case z_abs => k_is); (case z_max => k_is); (case z_min => k_is); (case z_range => k_is); (case z_zip => k_is); (case z_isinstance => k_is); (case z_enumerate => k_is); (case z_reversed => k_is)
