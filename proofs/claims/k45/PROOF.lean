import PyProof.Rows.All
import Wide.All
import OpenK.AllK
import Wide.FinOn
import HandS.ForExc
import HandS.ForMost
import HandS.IsInst
import HandS.Style
import HandS.Zip
import HandS.RevRange
import HandS.Lambda
import HandS.TryOnly
import HandS.TryMany
import HandS.ExcOwn
import HandS.ExcInit
import HandS.ExcField
import HandS.ExcIs
import HandS.EndTab
import HandS.CallLocal
import KE.KExcIs
import KE.KNestM
import KE.IntBitsLaws
import HandS.WideBits
import KE.GoesEnum
import KE.GoesMore
import HandS.Codes
import HandS.Conv
import HandS.IntHex
import PyProof.FString3
import PyProof.StrOps2
import KE.IntText
import HandS.StrMore
import HandS.FStr
import HandS.Flt
import HandS.Property
import HandS.List
import HandS.TupAny
import HandS.Wide
import HandS.SortInts
import HandS.Dict
import HandS.OwnEq
import HandS.Defaults
import HandS.MakeKwOnly
import PyProof.ReprRoads
import PyProof.ReprLen
import PyProof.Rows.RegStrFacts
import HandS.Nested
import HandS.DictComp
import HandS.Small
import PySem.Challenge.RW_framejoins_k45_reading_by_names
set_option Elab.async false
set_option linter.all false
set_option maxRecDepth 100000
set_option maxHeartbeats 4000000
section
open PySem PySem.W PyProof.Rows
set_option maxHeartbeats 0 in
open_top headTop for PySem.Challenge.rw_framejoins_k45_reading_by_names
end
namespace Z
def Lt1 (P : Prop) : Prop := P
theorem lt_eq {P : Prop} (h : P) : Lt1 P = True := eq_true h
theorem lt_out {P : Prop} (h : Lt1 P) : P := h
open PySem PySem.Spec PyProof.Rows L2
def rLen (K : PySem.W.Frag) : List V → Hp → VK → Prop := fun xs H Q => ∃ x n, xs = [x] ∧ LenV K x H n ∧ Q (.int n) H
def rAbs : List V → Hp → VK → Prop := fun xs H Q => ∃ i, xs = [.int i] ∧ Q (.int (if i < 0 then -i else i)) H
def rMax2 : List V → Hp → VK → Prop := fun xs H Q => ∃ i j, xs = [.int i, .int j] ∧ Q (.int (if j > i then j else i)) H
def rMin2 : List V → Hp → VK → Prop := fun xs H Q => ∃ i j, xs = [.int i, .int j] ∧ Q (.int (if j < i then j else i)) H
def rToInt : List V → Hp → VK → Prop := fun xs H Q => (∃ i, xs = [.int i] ∧ Q (.int i) H) ∨ ∃ k, xs = [.bl k] ∧ Q (.int (if k then 1 else 0)) H
def rToList (K : PySem.W.Frag) : List V → Hp → VK → Prop := fun xs H Q => ∃ p ys, xs = [.ref p] ∧ (SqL K H p ys ∨ SqT K H p ys) ∧ ∀ l, H l = none → Q (.ref l) (upd H l (.lst ys))
section
variable {X : Cx}
theorem cLen : CallR X (.builtin "len") (rLen X.K) := call_len
theorem cAbs : CallR X (.builtin "abs") rAbs := call_abs
theorem cMax (hc : X.calm = true) : CallR X (.builtin "max") rMax2 := call_max2 hc
theorem cMin (hc : X.calm = true) : CallR X (.builtin "min") rMin2 := call_min2 hc
theorem cInt : CallR X (.type "int") rToInt := call_int1
theorem cList : CallR X (.type "list") (rToList X.K) := call_list_of
end
section
variable {X : Cx} {CX : CXT} {k : Nat} {f : Addr} {fd : FuncData} {ps ks : List Str} {sp : Sp} {E : XK} {x : Str} {p pos : Pos} {kws : List Keyword} {tk : TA} {g : List Value → List Value → List Value} {gV : List V → List V → List V}
theorem pe_callK0 (F : FnOk X.prog X.w X.K X.mg X.base CX k f fd ps sp) (hr : Room k X.A) (hg : Gl X x) (hm : X.mg x = some (.ref f)) (hk : PySem.W.keepIn X.K (.ref f) = true) (hb : KBinds X.K fd ps ks g gV) (hx : Passes CX X E)
    (hkw : PK X kws tk) (hall : (backToKw pos (keywordEach kws X.env)).all (·.1.isSome) = true := by rfl) (hks : (backToKw pos (keywordEach kws X.env)).filterMap (·.1) = ks := by rfl)
    (hdb : (x == ("__debug__" : Str)) = false := by decide)
    (hpl : ((backTo pos (starEach [] X.env)).any (·.1) || (backToKw pos (keywordEach kws X.env)).any (·.1.isNone)) = false := by rfl) :
    PE X (.Call (.Name x p) [] kws pos) (tCallK sp gV E tNil tk) := by
  refine ⟨fun pins s σ H Q I h => ?_⟩
  refine wpAny_Call_Name_kw (ld_glob I hg hm ?_ hdb)
  refine PySem.W.callWith_KW0 (h₀ := X.base) I.ok.mod.kin hk hall (thn (hkw.run pos pins s σ H _ I h) fun ws s2 ⟨zs, H2, I2, rz, q2⟩ => ⟨I2.kIn, ?_⟩) hpl
  rw [hks]
  exact run_fnk (us := []) (vs := []) F hr hb hx I2 .nil rz q2
end
/-- the values by position and by keyword, put in the parameters' order -/
def kg {α : Type} (m n : Nat) (idx : List Nat) (us ws : List α) : List α := if us.length = m ∧ ws.length = n then idx.filterMap (fun i => (us ++ ws)[i]?) else []
theorem vals_pick {vs : List V} {us : List Value} (r : Vals vs us) : ∀ idx : List Nat, Vals (idx.filterMap fun i => vs[i]?) (idx.filterMap fun i => us[i]?)
  | [] => .nil
  | i :: l => by
    have ih := vals_pick r l
    cases e : vs[i]? with
    | none =>
      have e2 := r.none_of e
      rw [List.filterMap_cons_none e, List.filterMap_cons_none e2]
      exact ih
    | some v =>
      obtain ⟨u, e2, q⟩ := r.get e
      rw [List.filterMap_cons_some e, List.filterMap_cons_some e2]
      exact .cons q ih
theorem kg_rel {m n : Nat} {idx : List Nat} {vs : List V} {us : List Value} {zs : List V} {ws : List Value} (r : Vals vs us) (q : Vals zs ws) : Vals (kg m n idx vs zs) (kg m n idx us ws) := by
  unfold kg
  rw [r.length, q.length]
  split
  · exact vals_pick (r.append q) idx
  · exact .nil
theorem len0 {α : Type} {l : List α} (h : l.length = 0) : l = [] := List.length_eq_zero_iff.mp h
theorem len1 {α : Type} {l : List α} (h : l.length = 1) : ∃ a, l = [a] := List.length_eq_one_iff.mp h
theorem len2 {α : Type} : ∀ {l : List α}, l.length = 2 → ∃ a b, l = [a, b]
  | [a, b], _ => ⟨a, b, rfl⟩
theorem len3 {α : Type} : ∀ {l : List α}, l.length = 3 → ∃ a b c, l = [a, b, c]
  | [a, b, c], _ => ⟨a, b, c, rfl⟩
theorem len4 {α : Type} : ∀ {l : List α}, l.length = 4 → ∃ a b c d, l = [a, b, c, d]
  | [a, b, c, d], _ => ⟨a, b, c, d, rfl⟩
theorem kg_some {α : Type} {m n : Nat} {idx : List Nat} {us ws : List α} {j : Nat} (h : (kg m n idx us ws).length = j) (hj : 0 < j) : us.length = m ∧ ws.length = n := by
  unfold kg at h
  split at h
  · assumption
  · simp at h
    omega
section
variable {X : Cx} {K : PySem.W.Frag} {σ : L2.St} {H : Hp} {Q : VK} {n : L2.St → Hp → Prop} {r : VK} {b c : L2.St → Hp → Prop} {ta tb tc te : TE} {tA tB1 : TT} {t u : TS} {v : V}
theorem rd_seq (h : t ⟨u ⟨n, r, b, c⟩, r, b, c⟩ σ H) : tSeq t u ⟨n, r, b, c⟩ σ H := h
theorem rd_start {D : Ends} {σ σ' : L2.St} (e : σ' = σ) (h : t D σ H) : t D σ' H := e ▸ h
theorem rd_next (h : n σ H) : tNext ⟨n, r, b, c⟩ σ H := h
theorem rd_asg {g : TG} (h : te σ H fun x H1 => g x σ H1 n) : tAsg te g ⟨n, r, b, c⟩ σ H := h
theorem rd_gname {i : Nat} {Q : L2.St → Hp → Prop} (h : Q (σ.set i (some v)) H) : gName i v σ H Q := h
theorem rd_gsub {to ti : TE} {s : TSet} {Q : L2.St → Hp → Prop} (h : to σ H fun o H1 => ti σ H1 fun i H2 => s o i v H2 fun H3 => Q σ H3) : gSub to ti s v σ H Q := h
theorem rd_ret (h : te σ H r) : tRet te ⟨n, r, b, c⟩ σ H := h
theorem rd_retn (h : r .non H) : tRetN ⟨n, r, b, c⟩ σ H := h
theorem rd_ifs (h : tA σ H fun d H1 => if d = true then t ⟨n, r, b, c⟩ σ H1 else u ⟨n, r, b, c⟩ σ H1) : tIfS tA t u ⟨n, r, b, c⟩ σ H := h
theorem rd_drop (h : te σ H fun _ H1 => n σ H1) : tDrop te ⟨n, r, b, c⟩ σ H := h
theorem rd_par {i j : Nat} {ts : TA} (h : ts σ H fun vs H1 => ∃ v w, vs = [v, w] ∧ n ((σ.set i (some v)).set j (some w)) H1) : tPar i j ts ⟨n, r, b, c⟩ σ H := h
theorem rd_par3 {i j l : Nat} {ts : TA} (h : ts σ H fun vs H1 => ∃ u v w, vs = [u, v, w] ∧ n (((σ.set i (some u)).set j (some v)).set l (some w)) H1) : tPar3 i j l ts ⟨n, r, b, c⟩ σ H := h
theorem rd_two {v w : V} {P : V → V → Prop} (h : P v w) : ∃ a b, [v, w] = [a, b] ∧ P a b := ⟨v, w, rfl, h⟩
theorem rd_three {u v w : V} {P : V → V → V → Prop} (h : P u v w) : ∃ a b c, [u, v, w] = [a, b, c] ∧ P a b c := ⟨u, v, w, rfl, h⟩
theorem rd_var {i : Nat} (e : σ[i]? = some (some v)) (h : Q v H) : tVar i σ H Q := ⟨v, e, h⟩
theorem rd_c (h : Q v H) : tC v σ H Q := h
theorem rd_op {o : R2} (h : ta σ H fun x H1 => tb σ H1 fun y H2 => o x y H2 Q) : tOp o ta tb σ H Q := h
theorem rd_un {o : V → Hp → VK → Prop} (h : ta σ H fun x H1 => o x H1 Q) : tUn o ta σ H Q := h
theorem rd_i0 {g : Int → Int → V} {i j : Int} (h : Q (g i j) H) : rI0 g (.int i) (.int j) H Q := ⟨i, j, rfl, rfl, h⟩
theorem rd_i {C : Int → Int → Prop} {g : Int → Int → V} {i j : Int} (hC : C i j) (h : Q (g i j) H) : rI C g (.int i) (.int j) H Q := ⟨i, j, rfl, rfl, hC, h⟩
theorem rd_u {g : Int → V} {i : Int} (h : Q (g i) H) : rU g (.int i) H Q := ⟨i, rfl, h⟩
theorem rd_eq {x y : V} (e : scal x y = true) (h : Q (.bl (decide (x = y))) H) : rEq x y H Q := ⟨e, h⟩
theorem rd_ne {x y : V} (e : scal x y = true) (h : Q (.bl (!decide (x = y))) H) : rNe x y H Q := ⟨e, h⟩
theorem rd_test {q : Bool → Hp → Prop} (h : te σ H fun x H' => ∃ k, x = .bl k ∧ q k H') : tTest te σ H q := h
theorem rd_b {q : Bool → Hp → Prop} (h : te σ H fun x H' => ∃ k, x = .bl k ∧ q k H') : tB te σ H q := h
theorem rd_bl {k : Bool} {P : Bool → Prop} (h : P k) : ∃ d, V.bl k = .bl d ∧ P d := ⟨k, rfl, h⟩
theorem rd_not {q : Bool → Hp → Prop} (h : tA σ H fun d H1 => q (!d) H1) : tNot tA σ H q := h
theorem rd_and {q : Bool → Hp → Prop} (h : tA σ H fun d H1 => if d = true then tB1 σ H1 q else q false H1) : tAnd tA tB1 σ H q := h
theorem rd_or {q : Bool → Hp → Prop} (h : tA σ H fun d H1 => if d = true then q true H1 else tB1 σ H1 q) : tOr tA tB1 σ H q := h
theorem rd_andV (h : ta σ H fun x H1 => ∃ c, x = .bl c ∧ if c = true then tb σ H1 Q else Q (.bl false) H1) : tAndV ta tb σ H Q := h
theorem rd_orV (h : ta σ H fun x H1 => ∃ c, x = .bl c ∧ if c = true then Q (.bl true) H1 else tb σ H1 Q) : tOrV ta tb σ H Q := h
theorem rd_notV (h : ta σ H fun x H1 => ∃ c, x = .bl c ∧ Q (.bl (!c)) H1) : tNotV ta σ H Q := h
theorem rd_if (h : tA σ H fun d H1 => if d = true then ta σ H1 Q else tb σ H1 Q) : tIf tA ta tb σ H Q := h
theorem rd_chain {o o' : R2} (h : ta σ H fun x H1 => tb σ H1 fun y H2 => o x y H2 fun z H3 => ∃ k, z = .bl k ∧ if k = true then tc σ H3 fun w' H4 => o' y w' H4 Q else Q (.bl false) H3) : tChain o o' ta tb tc σ H Q := h
theorem rd_call {sp : Sp} {dvs : List V} {E : XK} {ts : TA} (h : ts σ H fun vs H1 => sp (vs ++ dvs) H1 Q E) : tCall sp dvs E ts σ H Q := h
theorem rd_callK {sp : Sp} {gV : List V → List V → List V} {E : XK} {ts tk : TA} (h : ts σ H fun vs H1 => tk σ H1 fun zs H2 => sp (gV vs zs) H2 Q E) : tCallK sp gV E ts tk σ H Q := h
theorem rd_cb {rr : List V → Hp → VK → Prop} {ts : TA} (h : ts σ H fun vs H1 => rr vs H1 Q) : tCB rr ts σ H Q := h
theorem rd_cons {tr : TA} {q : List V → Hp → Prop} (h : te σ H fun x H1 => tr σ H1 fun xs H2 => q (x :: xs) H2) : tCons te tr σ H q := h
theorem rd_nil {q : List V → Hp → Prop} (h : q [] H) : tNil σ H q := h
theorem rd_tup {ts : TA} (h : ts σ H fun xs H1 => xs.length ≤ sizeLine ∧ ∀ p, H1 p = none → Q (.ref p) (upd H1 p (.tup xs))) : tTup ts σ H Q := h
theorem rd_lst {ts : TA} (h : ts σ H fun xs H1 => xs.length ≤ sizeLine ∧ ∀ p, H1 p = none → Q (.ref p) (upd H1 p (.lst xs))) : tLst ts σ H Q := h
theorem rd_int {i : Int} (h : Q (.int i) H) : rToInt [.int i] H Q := .inl ⟨i, rfl, h⟩
theorem rd_intb {k : Bool} (h : Q (.int (if k then 1 else 0)) H) : rToInt [.bl k] H Q := .inr ⟨k, rfl, h⟩
theorem rd_abs {i : Int} (h : Q (.int (if i < 0 then -i else i)) H) : rAbs [.int i] H Q := ⟨i, rfl, h⟩
theorem rd_max {i j : Int} (h : Q (.int (if j > i then j else i)) H) : rMax2 [.int i, .int j] H Q := ⟨i, j, rfl, h⟩
theorem rd_min {i j : Int} (h : Q (.int (if j < i then j else i)) H) : rMin2 [.int i, .int j] H Q := ⟨i, j, rfl, h⟩
theorem rd_lenL {p : Addr} {xs : List V} (e : SqL K H p xs) (h : Q (.int xs.length) H) : rLen K [.ref p] H Q := ⟨.ref p, xs.length, rfl, .inl ⟨xs, e, rfl⟩, h⟩
theorem rd_lenT {p : Addr} {xs : List V} (e : SqT K H p xs) (h : Q (.int xs.length) H) : rLen K [.ref p] H Q := ⟨.ref p, xs.length, rfl, .inr ⟨xs, e, rfl⟩, h⟩
theorem rd_ixL {p : Addr} {xs : List V} {i : Int} {v : V} (e : SqL K H p xs) (a : atI xs i = some v) (h : Q v H) : rIxL K (.ref p) (.int i) H Q := ⟨p, xs, i, v, rfl, rfl, e, a, h⟩
theorem rd_ixT {p : Addr} {xs : List V} {i : Int} {v : V} (e : SqT K H p xs) (a : atI xs i = some v) (h : Q v H) : rIxT K (.ref p) (.int i) H Q := ⟨p, xs, i, v, rfl, rfl, e, a, h⟩
theorem rd_setL {p : Addr} {xs : List V} {i : Int} {j : Nat} {v : V} {q : Hp → Prop} (e : H p = some (.lst xs)) (a : ixN xs.length i = some j) (h : q (upd H p (.lst (xs.set j v)))) : rSetL (.ref p) (.int i) v H q := ⟨p, xs, i, j, rfl, rfl, e, a, h⟩
theorem rd_listL {p : Addr} {xs : List V} (e : SqL K H p xs) (h : ∀ l, H l = none → Q (.ref l) (upd H l (.lst xs))) : rToList K [.ref p] H Q := ⟨p, xs, rfl, .inl e, h⟩
theorem rd_iteD {p : Prop} [Decidable p] {A B : Prop} (h1 : p → A) (h2 : ¬ p → B) : if decide p = true then A else B := by
  by_cases h : p
  · rw [if_pos (decide_eq_true h)]; exact h1 h
  · rw [decide_eq_false h, if_neg Bool.false_ne_true]; exact h2 h
theorem rd_iteN {p : Prop} [Decidable p] {A B : Prop} (h1 : ¬ p → A) (h2 : p → B) : if (!decide p) = true then A else B := by
  by_cases h : p
  · rw [decide_eq_true h]; exact iteF (h2 h)
  · rw [decide_eq_false h]; exact iteT (h1 h)
theorem iteNT {A B : Prop} (h : B) : if (!true) = true then A else B := iteF h
theorem iteNF {A B : Prop} (h : A) : if (!false) = true then A else B := iteT h
theorem rd_isi {x c : V} {t' u' : Value} {d : Bool} (k : ClsV c u') (ty : TyX K H x t') (e : PySem.W.kitOne K t' u' = some d) (h : Q (.bl d) H) : rIsi K [x, c] H Q := ⟨x, c, t', u', d, rfl, k, ty, e, h⟩
theorem isi_int_int {i : Int} (h : Q (.bl true) H) : rIsi K [.int i, .ty "int"] H Q := rd_isi (.ty "int") (.base (.int i)) (kit_ty (by decide +kernel)) h
theorem isi_int_bool {i : Int} (h : Q (.bl false) H) : rIsi K [.int i, .ty "bool"] H Q := rd_isi (.ty "bool") (.base (.int i)) (kit_ty (by decide +kernel)) h
theorem isi_int_str {i : Int} (h : Q (.bl false) H) : rIsi K [.int i, .ty "str"] H Q := rd_isi (.ty "str") (.base (.int i)) (kit_ty (by decide +kernel)) h
theorem isi_int_list {i : Int} (h : Q (.bl false) H) : rIsi K [.int i, .ty "list"] H Q := rd_isi (.ty "list") (.base (.int i)) (kit_ty (by decide +kernel)) h
theorem isi_int_tuple {i : Int} (h : Q (.bl false) H) : rIsi K [.int i, .ty "tuple"] H Q := rd_isi (.ty "tuple") (.base (.int i)) (kit_ty (by decide +kernel)) h
theorem isi_bl_int {i : Bool} (h : Q (.bl true) H) : rIsi K [.bl i, .ty "int"] H Q := rd_isi (.ty "int") (.base (.bl i)) (kit_ty (by decide +kernel)) h
theorem isi_bl_bool {i : Bool} (h : Q (.bl true) H) : rIsi K [.bl i, .ty "bool"] H Q := rd_isi (.ty "bool") (.base (.bl i)) (kit_ty (by decide +kernel)) h
theorem isi_bl_str {i : Bool} (h : Q (.bl false) H) : rIsi K [.bl i, .ty "str"] H Q := rd_isi (.ty "str") (.base (.bl i)) (kit_ty (by decide +kernel)) h
theorem isi_bl_list {i : Bool} (h : Q (.bl false) H) : rIsi K [.bl i, .ty "list"] H Q := rd_isi (.ty "list") (.base (.bl i)) (kit_ty (by decide +kernel)) h
theorem isi_bl_tuple {i : Bool} (h : Q (.bl false) H) : rIsi K [.bl i, .ty "tuple"] H Q := rd_isi (.ty "tuple") (.base (.bl i)) (kit_ty (by decide +kernel)) h
theorem isi_non_int  (h : Q (.bl false) H) : rIsi K [.non, .ty "int"] H Q := rd_isi (.ty "int") (.base .non) (kit_ty (by decide +kernel)) h
theorem isi_non_bool  (h : Q (.bl false) H) : rIsi K [.non, .ty "bool"] H Q := rd_isi (.ty "bool") (.base .non) (kit_ty (by decide +kernel)) h
theorem isi_non_str  (h : Q (.bl false) H) : rIsi K [.non, .ty "str"] H Q := rd_isi (.ty "str") (.base .non) (kit_ty (by decide +kernel)) h
theorem isi_non_list  (h : Q (.bl false) H) : rIsi K [.non, .ty "list"] H Q := rd_isi (.ty "list") (.base .non) (kit_ty (by decide +kernel)) h
theorem isi_non_tuple  (h : Q (.bl false) H) : rIsi K [.non, .ty "tuple"] H Q := rd_isi (.ty "tuple") (.base .non) (kit_ty (by decide +kernel)) h
theorem isi_str_int {z : Str} (h : Q (.bl false) H) : rIsi K [.str z, .ty "int"] H Q := rd_isi (.ty "int") (.base (.str z)) (kit_ty (by decide +kernel)) h
theorem isi_str_bool {z : Str} (h : Q (.bl false) H) : rIsi K [.str z, .ty "bool"] H Q := rd_isi (.ty "bool") (.base (.str z)) (kit_ty (by decide +kernel)) h
theorem isi_str_str {z : Str} (h : Q (.bl true) H) : rIsi K [.str z, .ty "str"] H Q := rd_isi (.ty "str") (.base (.str z)) (kit_ty (by decide +kernel)) h
theorem isi_str_list {z : Str} (h : Q (.bl false) H) : rIsi K [.str z, .ty "list"] H Q := rd_isi (.ty "list") (.base (.str z)) (kit_ty (by decide +kernel)) h
theorem isi_str_tuple {z : Str} (h : Q (.bl false) H) : rIsi K [.str z, .ty "tuple"] H Q := rd_isi (.ty "tuple") (.base (.str z)) (kit_ty (by decide +kernel)) h
theorem isi_lst_int {p : Addr} {xs : List V} (hp : H p = some (.lst xs)) (h : Q (.bl false) H) : rIsi K [.ref p, .ty "int"] H Q := rd_isi (.ty "int") (.base (.lst hp)) (kit_ty (by decide +kernel)) h
theorem isi_lst_bool {p : Addr} {xs : List V} (hp : H p = some (.lst xs)) (h : Q (.bl false) H) : rIsi K [.ref p, .ty "bool"] H Q := rd_isi (.ty "bool") (.base (.lst hp)) (kit_ty (by decide +kernel)) h
theorem isi_lst_str {p : Addr} {xs : List V} (hp : H p = some (.lst xs)) (h : Q (.bl false) H) : rIsi K [.ref p, .ty "str"] H Q := rd_isi (.ty "str") (.base (.lst hp)) (kit_ty (by decide +kernel)) h
theorem isi_lst_list {p : Addr} {xs : List V} (hp : H p = some (.lst xs)) (h : Q (.bl true) H) : rIsi K [.ref p, .ty "list"] H Q := rd_isi (.ty "list") (.base (.lst hp)) (kit_ty (by decide +kernel)) h
theorem isi_lst_tuple {p : Addr} {xs : List V} (hp : H p = some (.lst xs)) (h : Q (.bl false) H) : rIsi K [.ref p, .ty "tuple"] H Q := rd_isi (.ty "tuple") (.base (.lst hp)) (kit_ty (by decide +kernel)) h
theorem isi_tup_int {p : Addr} {xs : List V} (hp : H p = some (.tup xs)) (h : Q (.bl false) H) : rIsi K [.ref p, .ty "int"] H Q := rd_isi (.ty "int") (.base (.tup hp)) (kit_ty (by decide +kernel)) h
theorem isi_tup_bool {p : Addr} {xs : List V} (hp : H p = some (.tup xs)) (h : Q (.bl false) H) : rIsi K [.ref p, .ty "bool"] H Q := rd_isi (.ty "bool") (.base (.tup hp)) (kit_ty (by decide +kernel)) h
theorem isi_tup_str {p : Addr} {xs : List V} (hp : H p = some (.tup xs)) (h : Q (.bl false) H) : rIsi K [.ref p, .ty "str"] H Q := rd_isi (.ty "str") (.base (.tup hp)) (kit_ty (by decide +kernel)) h
theorem isi_tup_list {p : Addr} {xs : List V} (hp : H p = some (.tup xs)) (h : Q (.bl false) H) : rIsi K [.ref p, .ty "list"] H Q := rd_isi (.ty "list") (.base (.tup hp)) (kit_ty (by decide +kernel)) h
theorem isi_tup_tuple {p : Addr} {xs : List V} (hp : H p = some (.tup xs)) (h : Q (.bl true) H) : rIsi K [.ref p, .ty "tuple"] H Q := rd_isi (.ty "tuple") (.base (.tup hp)) (kit_ty (by decide +kernel)) h
theorem rd_for1 {ts : TA} {g : TG} {tb' : TS} {D : Ends} (h : ts σ H fun vs H1 => ∃ j : Int, vs = [.int j] ∧ -(2 ^ 62) ≤ j ∧ j < 2 ^ 62 ∧ (∃ W : Nat → Nat → L2.St → Hp → Prop, (∃ m, W 0 m σ H1) ∧ ∀ i m σ H, W i m σ H →
      ((Itr 0 j.toNat).stop i H ∧ D.nx σ H) ∨ ((Itr 0 j.toNat).go i H ∧ ∃ N : L2.St → Hp → Prop, (∀ σ' H', N σ' H' → ∃ m', m' < m ∧ W (i + 1) m' σ' H') ∧ ∀ x H', (Itr 0 j.toNat).yld i H x H' → g x σ H' fun σ2 H2 => tb' { D with nx := N, ct := N, bk := D.nx } σ2 H2))) : tFor (iRng1 ts) g tb' D σ H := h
theorem rd_all {n m : Nat} {P : Addr → Prop} (h1 : n ≤ m) (h : ∀ p, H p = none → P p) : n ≤ m ∧ ∀ p, H p = none → P p := ⟨h1, h⟩
theorem rd_gtup {a : Addr} {xs : List V} {k : Nat} {ts : TGs} {q : L2.St → Hp → Prop} (e : SqT K H a xs) (l : xs.length = k) (h : ts xs σ H q) : gTup K k ts (.ref a) σ H q := ⟨a, xs, rfl, e, l, h⟩
theorem rd_gcons {g : TG} {ts : TGs} {v : V} {vs : List V} {q : L2.St → Hp → Prop} (h : g v σ H fun σ' H' => ts vs σ' H' q) : gCons g ts (v :: vs) σ H q := ⟨v, vs, rfl, h⟩
theorem rd_gnil {q : L2.St → Hp → Prop} (h : q σ H) : gNil [] σ H q := ⟨rfl, h⟩
def LpW (J : It) (g : TG) (tb : TS) (D : Ends) (σ : L2.St) (H1 : Hp) : Prop := ∃ W : Nat → Nat → L2.St → Hp → Prop, (∃ m, W 0 m σ H1) ∧ ∀ i m σ H, W i m σ H →
      (J.stop i H ∧ D.nx σ H) ∨ (J.go i H ∧ ∃ N : L2.St → Hp → Prop, (∀ σ' H', N σ' H' → ∃ m', m' < m ∧ W (i + 1) m' σ' H') ∧ ∀ x H', J.yld i H x H' → g x σ H' fun σ2 H2 => tb { D with nx := N, ct := N, bk := D.nx } σ2 H2)
theorem rd_forT {g : TG} {tb' : TS} {D : Ends} (h : te σ H fun x H1 => ∃ a, x = .ref a ∧ (∃ xs, SqT K H1 a xs) ∧ LpW (Itt K a) g tb' D σ H1) : tFor (iTup K te) g tb' D σ H := h
theorem rd_forL {g : TG} {tb' : TS} {D : Ends} (h : te σ H fun x H1 => ∃ a, x = .ref a ∧ (∃ xs, SqL K H1 a xs) ∧ LpW (Itl K a) g tb' D σ H1) : tFor (iList K te) g tb' D σ H := h
theorem rd_lpT {a : Addr} {xs : List V} {g : TG} {tb' : TS} {D : Ends} (e : SqT K H a xs) (h : LpW (Itt K a) g tb' D σ H) : ∃ b, V.ref a = .ref b ∧ (∃ xs, SqT K H b xs) ∧ LpW (Itt K b) g tb' D σ H := ⟨a, rfl, ⟨xs, e⟩, h⟩
theorem rd_lpL {a : Addr} {xs : List V} {g : TG} {tb' : TS} {D : Ends} (e : SqL K H a xs) (h : LpW (Itl K a) g tb' D σ H) : ∃ b, V.ref a = .ref b ∧ (∃ xs, SqL K H b xs) ∧ LpW (Itl K b) g tb' D σ H := ⟨a, rfl, ⟨xs, e⟩, h⟩
theorem rd_for2 {ts : TA} {g : TG} {tb' : TS} {D : Ends} (h : ts σ H fun vs H1 => ∃ i j : Int, vs = [.int i, .int j] ∧ (-(2 ^ 62) ≤ i ∧ i < 2 ^ 62 ∧ -(2 ^ 62) ≤ j ∧ j < 2 ^ 62) ∧ LpW (Itr i (j - i).toNat) g tb' D σ H1) : tFor (iRng2 ts) g tb' D σ H := h
theorem rd_n2 {i j : Int} {A : Int → Int → Prop} (h1 : -(2 ^ 62) ≤ i ∧ i < 2 ^ 62 ∧ -(2 ^ 62) ≤ j ∧ j < 2 ^ 62) (h : A i j) : ∃ k l : Int, [V.int i, V.int j] = [V.int k, V.int l] ∧ (-(2 ^ 62) ≤ k ∧ k < 2 ^ 62 ∧ -(2 ^ 62) ≤ l ∧ l < 2 ^ 62) ∧ A k l := ⟨i, j, rfl, h1, h⟩
theorem dp_ints : ∀ ns : List Int, DpAll K H (ns.map V.int) (ns.map PyData.int)
  | [] => .nil
  | n :: r => .cons (.int n) (dp_ints r)
theorem rd_neT2 {p q : Addr} {a b c d : Int} (hp : SqT K H p [.int a, .int b]) (hq : SqT K H q [.int c, .int d]) (e1 : a = c) (e2 : b = d) (h : Q (.bl false) H) : rNeD K (.ref p) (.ref q) H Q := by
  subst e1 e2
  exact ⟨_, _, .tup hp (dp_ints [a, b]), .tup hq (dp_ints [a, b]), rfl, rfl, by
    have e : PyData.eqv (.tuple ([a, b].map PyData.int)) (.tuple ([a, b].map PyData.int)) = true := by simp [PyData.eqv, PyData.eqvAll]
    rw [e]
    exact h⟩
def rIsN : R2 := fun x y H Q => y = .non ∧ Q (.bl (decide (x = .non))) H
theorem cIsN {X : Cx} : OpR X (compareOp .Is) rIsN := op_isN
theorem rd_isN {x : V} (h : Q (.bl (decide (x = .non))) H) : rIsN x .non H Q := ⟨rfl, h⟩
theorem rd_one {v : V} {P : V → Prop} (h : P v) : ∃ a, [v] = [a] ∧ P a := ⟨v, rfl, h⟩
theorem rd_n1 {j : Int} {A : Int → Prop} (h1 : -(2 ^ 62) ≤ j) (h2 : j < 2 ^ 62) (h : A j) : ∃ k : Int, [V.int j] = [V.int k] ∧ -(2 ^ 62) ≤ k ∧ k < 2 ^ 62 ∧ A k := ⟨j, rfl, h1, h2, h⟩
end
theorem look_same {H H' : Hp} {a : Addr} {u : HO} (s : Same H H') (h : H a = some u) : H' a = some u := s a u h
theorem look_new {H : Hp} {p a : Addr} {o u : HO} (hp : H p = none) (h : H a = some u) : upd H p o a = some u := by rw [upd_ne (ne_of_none h hp)]; exact h
/-- all but the object at p stay -/
def Kp (p : Addr) (H H' : Hp) : Prop := ∀ a o, a ≠ p → H a = some o → H' a = some o
theorem Kp.refl {p : Addr} {H : Hp} : Kp p H H := fun _ _ _ h => h
theorem Kp.trans {p : Addr} {H H1 H2 : Hp} (a : Kp p H H1) (b : Kp p H1 H2) : Kp p H H2 := fun c o n h => b c o n (a c o n h)
theorem Kp.of {p : Addr} {H H' : Hp} (s : Same H H') : Kp p H H' := fun a o _ h => s a o h
theorem same_new {H : Hp} {p : Addr} {o : HO} (h : H p = none) : Same H (upd H p o) := fun b x e => look_new h e
theorem Kp.new {p q : Addr} {H : Hp} {o : HO} (h : H q = none) : Kp p H (upd H q o) := .of (same_new h)
theorem Kp.at {p : Addr} {H : Hp} {o : HO} : Kp p H (upd H p o) := fun a x n h => by rw [upd_ne n]; exact h
theorem same_kp {p : Addr} {H0 H H' : Hp} (s : Same H0 H) (n : H0 p = none) (k : Kp p H H') : Same H0 H' := fun a o h => k a o (ne_of_none h n) (s a o h)
theorem sqL_new {K : PySem.W.Frag} {p a : Addr} {H : Hp} {o : HO} {xs : List V} (n : H p = none) (h : SqL K H a xs) : SqL K (upd H p o) a xs := (same_new n).seq h
theorem sqL_same {K : PySem.W.Frag} {a : Addr} {H H' : Hp} {xs : List V} (s : Same H H') (h : SqL K H a xs) : SqL K H' a xs := s.seq h
theorem seqT_K {K : PySem.W.Frag} {a : Addr} {od : Option Addr} {its : Array Value} {n : Nat} {sl : Array (Option Value)} {xs : List V} (l : K.lookup a = some ⟨.type "tuple", od, .seq its n, sl⟩) (hs : its.size ≤ sizeLine) (hv : Vals xs its.toList) : ∀ H, SqT K H a xs := fun _ => .inr ⟨_, its, n, l, rfl, rfl, hs, hv⟩
theorem by_all {K : PySem.W.Frag} {a : Addr} {xs : List V} {H : Hp} (h : ∀ H, SqT K H a xs) : SqT K H a xs := h H
def Pool (H : Hp) (p : Addr) : Prop := ∃ x y : Int, H p = some (.lst [.int x, .int y]) ∧ 0 ≤ x ∧ 0 ≤ y ∧ y < 2147483647
theorem look_kp {p a : Addr} {H H' : Hp} {u : HO} (k : Kp p H H') (n : a ≠ p) (h : H a = some u) : H' a = some u := k a u n h
theorem Pool.ne {H : Hp} {p a : Addr} (h : Pool H p) (n : H a = none) : a ≠ p := by
  obtain ⟨x, y, e, _⟩ := h
  exact (ne_of_none e n).symm
theorem Pool.ne' {H : Hp} {p a : Addr} (n : H a = none) (h : Pool H p) : a ≠ p := h.ne n
theorem Pool.new {H : Hp} {p q : Addr} {o : HO} (h : Pool H p) (n : H q = none) : Pool (upd H q o) p := by
  obtain ⟨x, y, e, r⟩ := h
  exact ⟨x, y, look_new n e, r⟩
theorem Pool.same {H H' : Hp} {p : Addr} (h : Pool H p) (s : Same H H') : Pool H' p := by
  obtain ⟨x, y, e, r⟩ := h
  exact ⟨x, y, s _ _ e, r⟩
theorem Pool.same' {H H' : Hp} {p : Addr} (s : Same H H') (h : Pool H p) : Pool H' p := h.same s
theorem Pool.new' {H : Hp} {p q : Addr} {o : HO} (n : H q = none) (h : Pool H p) : Pool (upd H q o) p := h.new n
def spTake : Sp := fun vs H Q _ => ∃ (p : Addr) (m : Int), vs = [.ref p, .int m] ∧ Pool H p ∧ 0 < m ∧ m < 1073741824 ∧ ∀ r H', 0 ≤ r → r < m → Pool H' p → Kp p H H' → Q (.int r) H'
theorem use_take {p : Addr} {m : Int} {H : Hp} {Q : VK} {E : XK} (h1 : Pool H p) (h2 : 0 < m) (h3 : m < 1073741824) (q : ∀ r H', 0 ≤ r → r < m → Pool H' p → Kp p H H' → Q (.int r) H') : spTake ([.ref p, .int m] ++ []) H Q E := ⟨p, m, rfl, h1, h2, h3, q⟩
def spPool (K : PySem.W.Frag) : Sp := fun vs H Q _ => ∃ (a : Addr) (ns : List Int) (k : Int), vs = [.ref a, .int k] ∧ SqL K H a (ns.map V.int) ∧ ns.length ≤ 63 ∧ 0 ≤ k ∧ k < 64 ∧ ∀ p H', H p = none → Same H H' → Pool H' p → Q (.ref p) H'
theorem use_pool {K : PySem.W.Frag} {a : Addr} {ns : List Int} {k : Int} {H : Hp} {Q : VK} {E : XK} (h1 : SqL K H a (ns.map V.int)) (h2 : ns.length ≤ 63) (h3 : 0 ≤ k) (h4 : k < 64) (q : ∀ p H', H p = none → Same H H' → Pool H' p → Q (.ref p) H') : spPool K ([.ref a, .int k] ++ []) H Q E := ⟨a, ns, k, rfl, h1, h2, h3, h4, q⟩
def spNumber : Sp := fun vs H Q _ => ∃ (p : Addr), vs = [.ref p] ∧ Pool H p ∧ ∀ r H', r.natAbs < 10 ^ 55 → Pool H' p → Kp p H H' → Q (.int r) H'
theorem great_nn (z : Int) (b : Bool) : 0 ≤ (if z < 0 then -z else z) * (if b = true then (1 : Int) else 0) := Int.mul_nonneg (by split <;> omega) (by split <;> decide)
theorem use_number {p : Addr} {H : Hp} {Q : VK} {E : XK} (h1 : Pool H p) (q : ∀ r H', r.natAbs < 10 ^ 55 → Pool H' p → Kp p H H' → Q (.int r) H') : spNumber ([.ref p] ++ []) H Q E := ⟨p, rfl, h1, q⟩
def isI : V → Bool
  | .int _ => true
  | _ => false
def TyV (H : Hp) : V → Prop
  | .non => True
  | .bl _ => True
  | .int _ => True
  | .str _ => True
  | .ref a => (∃ xs, H a = some (.lst xs)) ∨ ∃ xs, H a = some (.tup xs)
  | _ => False
def spIsI : Sp := fun vs H Q _ => ∃ x, vs = [x] ∧ TyV H x ∧ Q (.bl (isI x)) H
theorem use_isi {x : V} {H : Hp} {Q : VK} {E : XK} (t : TyV H x) (q : Q (.bl (isI x)) H) : spIsI ([x] ++ []) H Q E := ⟨x, rfl, t, q⟩
theorem use_isi_int {i : Int} {H : Hp} {Q : VK} {E : XK} (q : Q (.bl true) H) : spIsI ([.int i] ++ []) H Q E := ⟨_, rfl, trivial, q⟩
def inI (x : V) (lo hi : Int) : Bool := match x with
  | .int i => decide (lo ≤ i ∧ i ≤ hi)
  | _ => false
def spWithin : Sp := fun vs H Q _ => ∃ x lo hi, vs = [x, .int lo, .int hi] ∧ TyV H x ∧ Q (.bl (inI x lo hi)) H
theorem use_within {x : V} {lo hi : Int} {H : Hp} {Q : VK} {E : XK} (t : TyV H x) (q : Q (.bl (inI x lo hi)) H) : spWithin ([x, .int lo, .int hi] ++ []) H Q E := ⟨x, lo, hi, rfl, t, q⟩
theorem use_within_int {i lo hi : Int} {H : Hp} {Q : VK} {E : XK} (q : Q (.bl (decide (lo ≤ i ∧ i ≤ hi))) H) : spWithin ([.int i, .int lo, .int hi] ++ []) H Q E := ⟨_, lo, hi, rfl, trivial, q⟩
def spCkI : Sp := fun vs H Q _ => ∃ i, vs = [.int i] ∧ Q .non H
theorem use_cki {i : Int} {H : Hp} {Q : VK} {E : XK} (q : Q .non H) : spCkI ([.int i] ++ []) H Q E := ⟨_, rfl, q⟩
def spCkW : Sp := fun vs H Q _ => ∃ i lo hi, vs = [.int i, .int lo, .int hi] ∧ lo ≤ i ∧ i ≤ hi ∧ Q .non H
theorem use_ckw {i lo hi : Int} {H : Hp} {Q : VK} {E : XK} (h1 : lo ≤ i) (h2 : i ≤ hi) (q : Q .non H) : spCkW ([.int i, .int lo, .int hi] ++ []) H Q E := ⟨_, _, _, rfl, h1, h2, q⟩
def spQuant : Sp := fun vs H Q _ => ∃ v s, vs = [.int v, .int s] ∧ 1 ≤ s ∧ s ≤ 64 ∧ Q (.int ((2 * v + s) / (2 * s))) H
theorem use_quant {v s : Int} {H : Hp} {Q : VK} {E : XK} (h1 : 1 ≤ s) (h2 : s ≤ 64) (q : Q (.int ((2 * v + s) / (2 * s))) H) : spQuant ([.int v, .int s] ++ []) H Q E := ⟨v, s, rfl, h1, h2, q⟩
theorem use_quantK {v s : Int} {H : Hp} {Q : VK} {E : XK} (h1 : 1 ≤ s) (h2 : s ≤ 64) (q : Q (.int ((2 * v + s) / (2 * s))) H) : spQuant (kg 0 2 [1, 0] [] [.int s, .int v]) H Q E := ⟨v, s, rfl, h1, h2, q⟩
def cC (s : Int) : Int := if s = 0 then -1 else if s = 1 then -2 else if s = 2 then 1 else 2
def cD (s : Int) : Int := if s = 0 then 2 else if s = 1 then 3 else if s = 2 then -2 else -3
def foldP (s a b : Int) : Int × Int :=
  (a + (cC s * b + 2) / 4 + (cC s * (b + (cD s * (a + (cC s * b + 2) / 4) + 2) / 4) + 2) / 4, b + (cD s * (a + (cC s * b + 2) / 4) + 2) / 4)
def unfoldP (s a b : Int) : Int × Int :=
  (a - (cC s * b + 2) / 4 - (cC s * (b - (cD s * (a - (cC s * b + 2) / 4) + 2) / 4) + 2) / 4, b - (cD s * (a - (cC s * b + 2) / 4) + 2) / 4)
theorem unfold_fold (s a b : Int) : unfoldP s (foldP s a b).1 (foldP s a b).2 = (a, b) := by
  unfold unfoldP foldP
  dsimp only
  rw [Int.add_sub_cancel, Int.add_sub_cancel, Int.add_sub_cancel]
theorem fold_unfold (s a b : Int) : foldP s (unfoldP s a b).1 (unfoldP s a b).2 = (a, b) := by
  unfold unfoldP foldP
  dsimp only
  rw [Int.sub_add_cancel, Int.sub_add_cancel, Int.sub_add_cancel]
def spPair (f : Int → Int → Int → Int × Int) : Sp := fun vs H Q _ => ∃ s a b, vs = [.int s, .int a, .int b] ∧ 0 ≤ s ∧ s < 4 ∧ ∀ p, H p = none → Q (.ref p) (upd H p (.tup [.int (f s a b).1, .int (f s a b).2]))
theorem use_pair {f : Int → Int → Int → Int × Int} {s a b : Int} {H : Hp} {Q : VK} {E : XK} (h1 : 0 ≤ s) (h2 : s < 4) (q : ∀ p, H p = none → Q (.ref p) (upd H p (.tup [.int (f s a b).1, .int (f s a b).2]))) : spPair f ([.int s, .int a, .int b] ++ []) H Q E := ⟨s, a, b, rfl, h1, h2, q⟩
def spCkP : Sp := fun vs H Q _ => ∃ s a b, vs = [.int s, .int a, .int b] ∧ 0 ≤ s ∧ s < 4 ∧ Q .non H
theorem use_ckp {s a b : Int} {H : Hp} {Q : VK} {E : XK} (h1 : 0 ≤ s) (h2 : s < 4) (q : Q .non H) : spCkP ([.int s, .int a, .int b] ++ []) H Q E := ⟨s, a, b, rfl, h1, h2, q⟩
theorem four {s : Int} (h0 : 0 ≤ s) (h1 : s < 4) : s = 0 ∨ s = 1 ∨ s = 2 ∨ s = 3 := by omega
def spLFold : Sp := fun vs H Q _ => ∃ s a b, vs = [.int s, .int a, .int b] ∧ 0 ≤ s ∧ s < 4 ∧ ∀ p H', Same H H' → H' p = some (.tup [.int (foldP s a b).1, .int (foldP s a b).2]) → Q (.ref p) H'
theorem use_lfold {s a b : Int} {H : Hp} {Q : VK} {E : XK} (h1 : 0 ≤ s) (h2 : s < 4) (q : ∀ p H', Same H H' → H' p = some (.tup [.int (foldP s a b).1, .int (foldP s a b).2]) → Q (.ref p) H') : spLFold ([.int s, .int a, .int b] ++ []) H Q E := ⟨s, a, b, rfl, h1, h2, q⟩
def spIsPair : Sp := fun vs H Q _ => ∃ p x y, vs = [.ref p] ∧ H p = some (.tup [.int x, .int y]) ∧ Q (.bl true) H
theorem use_ispair {p : Addr} {x y : Int} {H : Hp} {Q : VK} {E : XK} (h : H p = some (.tup [.int x, .int y])) (q : Q (.bl true) H) : spIsPair ([.ref p] ++ []) H Q E := ⟨p, x, y, rfl, h, q⟩
theorem look_upd {H : Hp} {p a : Addr} {o u : HO} (n : a ≠ p) (h : H a = some u) : upd H p o a = some u := by rw [upd_ne n]; exact h
theorem ixN_nat {n j : Nat} (h : j < n) : ixN n (j : Int) = some j := by
  unfold ixN
  rw [if_pos (show (0 : Int) ≤ (j : Int) by omega), if_pos (show (j : Int) < (n : Int) by omega)]
  rfl
theorem at_ints {ns : List Int} {j : Nat} {z : Int} (h : ns[j]? = some z) : atI (ns.map V.int) (j : Int) = some (.int z) := atI_nat (by rw [List.getElem?_map, h]; rfl)
def Kp2 (p q : Addr) (H H' : Hp) : Prop := ∀ a o, a ≠ p → a ≠ q → H a = some o → H' a = some o
theorem Kp2.refl {p q : Addr} {H : Hp} : Kp2 p q H H := fun _ _ _ _ h => h
theorem Kp2.trans {p q : Addr} {H H1 H2 : Hp} (a : Kp2 p q H H1) (b : Kp2 p q H1 H2) : Kp2 p q H H2 := fun c o n m h => b c o n m (a c o n m h)
theorem Kp2.ofK {p q : Addr} {H H' : Hp} (k : Kp p H H') : Kp2 p q H H' := fun a o n _ h => k a o n h
theorem Kp2.ofS {p q : Addr} {H H' : Hp} (k : Same H H') : Kp2 p q H H' := fun a o _ _ h => k a o h
theorem Kp2.new {p q r : Addr} {H : Hp} {o : HO} (h : H r = none) : Kp2 p q H (upd H r o) := .ofS (same_new h)
theorem Kp2.at {p q : Addr} {H : Hp} {o : HO} : Kp2 p q H (upd H q o) := fun a x _ n h => by rw [upd_ne n]; exact h
theorem close_turn {p : Addr} {H H1 H2 H3 : Hp} (s : Same H H1) (n : H1 p = none) (s2 : Same H1 H2) (k : Kp p H2 H3) : Same H H3 := same_kp (s.trans s2) (s.free n) k
theorem mm_nat (n c : Nat) (hc : 1 ≤ c) : (if (if (c : Int) < (n : Int) then (c : Int) else (n : Int)) > 1 then (if (c : Int) < (n : Int) then (c : Int) else (n : Int)) else 1).toNat ≤ c := by
  split
  · split <;> omega
  · split <;> omega
theorem if_no {c : Bool} {A B : Prop} (h : c = false) (q : B) : if c = true then A else B := by rw [h]; exact iteF q
theorem if_yes {c : Bool} {A B : Prop} (h : c = true) (q : A) : if c = true then A else B := by rw [h]; exact iteT q
theorem if_noD {p : Prop} [Decidable p] {A B : Prop} (h : ¬ p) (q : B) : if decide p = true then A else B := if_no (decide_eq_false h) q
theorem if_yesD {p : Prop} [Decidable p] {A B : Prop} (h : p) (q : A) : if decide p = true then A else B := if_yes (decide_eq_true h) q
theorem if_noN {p : Prop} [Decidable p] {A B : Prop} (h : p) (q : B) : if (!decide p) = true then A else B := if_no (by rw [decide_eq_true h]; rfl) q
theorem if_yesN {p : Prop} [Decidable p] {A B : Prop} (h : ¬ p) (q : A) : if (!decide p) = true then A else B := if_yes (by rw [decide_eq_false h]; rfl) q
theorem canLay_ints : ∀ ns : List Int, PyData.canLayAll0 (ns.map PyData.int) = true
  | [] => rfl
  | n :: r => by
    show (PyData.canLay0 (.int n) && PyData.canLayAll0 (r.map PyData.int)) = true
    rw [canLay_ints r]
    rfl
theorem depth_ints : ∀ ns : List Int, PyData.depthAll (ns.map PyData.int) = 0
  | [] => rfl
  | n :: r => by
    show max (PyData.depth (.int n)) (PyData.depthAll (r.map PyData.int)) = 0
    rw [depth_ints r]
    rfl
theorem shaped_ints (ns : List Int) : SeqAt.shaped (.list (ns.map PyData.int)) = true := by
  show (PyData.canLayAll0 (ns.map PyData.int) && decide (PyData.depthAll (ns.map PyData.int) + 1 ≤ 64)) = true
  rw [canLay_ints, depth_ints]
  rfl
theorem eqv_ints : ∀ ns ms : List Int, PyData.eqvAll (ns.map PyData.int) (ms.map PyData.int) = decide (ns = ms)
  | [], [] => by simp [PyData.eqvAll]
  | [], m :: r => by simp [PyData.eqvAll]
  | n :: r, [] => by simp [PyData.eqvAll]
  | n :: r, m :: t => by
    show (PyData.eqv (.int n) (.int m) && PyData.eqvAll (r.map PyData.int) (t.map PyData.int)) = decide (n :: r = m :: t)
    rw [eqv_ints r t]
    show ((n == m) && decide (r = t)) = decide (n :: r = m :: t)
    by_cases h : n = m
    · subst h
      simp
    · have e : (n == m) = false := by simpa using h
      rw [e, Bool.false_and]
      exact (decide_eq_false fun z => h (List.cons.inj z).1).symm
section
variable {K : PySem.W.Frag} {H : Hp} {Q : VK} {p q : Addr} {ns ms : List Int}
theorem rd_neL (hp : SqL K H p (ns.map V.int)) (hq : SqL K H q (ms.map V.int)) (h : Q (.bl (!decide (ns = ms))) H) : rNeD K (.ref p) (.ref q) H Q :=
  ⟨_, _, .lst hp (dp_ints ns), .lst hq (dp_ints ms), shaped_ints ns, shaped_ints ms, by
    rw [show PyData.eqv (.list (ns.map PyData.int)) (.list (ms.map PyData.int)) = decide (ns = ms) by rw [← eqv_ints]; simp only [PyData.eqv]]
    exact h⟩
theorem rd_eqL (hp : SqL K H p (ns.map V.int)) (hq : SqL K H q (ms.map V.int)) (h : Q (.bl (decide (ns = ms))) H) : rEqD K (.ref p) (.ref q) H Q :=
  ⟨_, _, .lst hp (dp_ints ns), .lst hq (dp_ints ms), shaped_ints ns, shaped_ints ms, by
    rw [show PyData.eqv (.list (ns.map PyData.int)) (.list (ms.map PyData.int)) = decide (ns = ms) by rw [← eqv_ints]; simp only [PyData.eqv]]
    exact h⟩
theorem rd_neN (hp : SqL K H p (ns.map V.int)) (hq : SqL K H q []) (h : Q (.bl (!decide (ns = []))) H) : rNeD K (.ref p) (.ref q) H Q := rd_neL (ms := []) hp hq h
end
section
variable {K : PySem.W.Frag} {σ : L2.St} {H : Hp} {Q : VK} {g : TG} {tb : TS} {D : Ends}
theorem rd_forE {ts : TA} (h : ts σ H fun vs H1 => ∃ a xs, vs = [.ref a] ∧ SqL K H1 a xs ∧ LpW (Ite K a) g tb D σ H1) : tFor (iEnum K ts) g tb D σ H := h
theorem rd_lpE {a : Addr} {xs : List V} (e : SqL K H a xs) (h : LpW (Ite K a) g tb D σ H) : ∃ b ys, [V.ref a] = [.ref b] ∧ SqL K H b ys ∧ LpW (Ite K b) g tb D σ H := ⟨a, xs, rfl, e, h⟩
theorem for_enum {a : Addr} {xs : List V} (Pv : Nat → L2.St → Hp → Prop) (h0 : Pv 0 σ H) (hl : ∀ i σ H, i ≤ xs.length → Pv i σ H → SqL K H a xs)
    (hs : ∀ i x σ H T, xs[i]? = some x → Pv i σ H → H T = none → g (.ref T) σ (upd H T (.tup [.int (i : Nat), x])) fun σ2 H2 => tb { D with nx := Pv (i + 1), ct := Pv (i + 1), bk := D.nx } σ2 H2) (hd : ∀ σ H, Pv xs.length σ H → D.nx σ H) : LpW (Ite K a) g tb D σ H := by
  refine ⟨fun i m σ H => m = xs.length - i ∧ i ≤ xs.length ∧ Pv i σ H, ⟨xs.length, by simp, Nat.zero_le _, h0⟩, ?_⟩
  rintro i m σ H ⟨rfl, hi, p⟩
  have q := hl i σ H hi p
  by_cases hlt : i < xs.length
  · refine .inr ⟨⟨xs, xs[i], q, by simp [hlt]⟩, Pv (i + 1), fun σ' H' p' => ⟨xs.length - (i + 1), by omega, rfl, hlt, p'⟩, fun x H' y => ?_⟩
    obtain ⟨T, x1, rfl, nT, rfl, y⟩ := y
    exact hs i x1 σ H T (y xs q) p nT
  · have e : i = xs.length := by omega
    subst e
    exact .inl ⟨⟨xs, q, Nat.le_refl _⟩, hd σ H p⟩
theorem rd_forZ {ts : TA} (h : ts σ H fun vs H1 => ∃ a b xs ys, vs = [.ref a, .ref b] ∧ ((SqL K H1 a xs ∧ SqL K H1 b ys ∧ LpW (Itz K a b) g tb D σ H1) ∨ (SqT K H1 a xs ∧ SqT K H1 b ys ∧ LpW (RZ.ItzT K a b) g tb D σ H1))) : tFor (RZ.iZipA K ts) g tb D σ H := h
theorem for_zip {a b : Addr} {xs ys : List V} (hln : xs.length = ys.length) (Pv : Nat → L2.St → Hp → Prop) (h0 : Pv 0 σ H) (hl : ∀ i σ H, i ≤ xs.length → Pv i σ H → SqL K H a xs ∧ SqL K H b ys)
    (hs : ∀ i x y σ H T, xs[i]? = some x → ys[i]? = some y → Pv i σ H → H T = none → g (.ref T) σ (upd H T (.tup [x, y])) fun σ2 H2 => tb { D with nx := Pv (i + 1), ct := Pv (i + 1), bk := D.nx } σ2 H2) (hd : ∀ σ H, Pv xs.length σ H → D.nx σ H) : LpW (Itz K a b) g tb D σ H := by
  refine ⟨fun i m σ H => m = xs.length - i ∧ i ≤ xs.length ∧ Pv i σ H, ⟨xs.length, by simp, Nat.zero_le _, h0⟩, ?_⟩
  rintro i m σ H ⟨rfl, hi, p⟩
  obtain ⟨q1, q2⟩ := hl i σ H hi p
  by_cases hlt : i < xs.length
  · have hlt2 : i < ys.length := by omega
    refine .inr ⟨⟨xs, ys, xs[i], ys[i], q1, q2, by simp [hlt], by simp [hlt2]⟩, Pv (i + 1), fun σ' H' p' => ⟨xs.length - (i + 1), by omega, rfl, hlt, p'⟩, fun x H' y => ?_⟩
    obtain ⟨T, x1, y1, rfl, nT, rfl, f1, f2⟩ := y
    exact hs i x1 y1 σ H T (f1 xs q1) (f2 ys q2) p nT
  · have e : i = xs.length := by omega
    subst e
    exact .inl ⟨⟨xs, ys, q1, q2, .inl (Nat.le_refl _)⟩, hd σ H p⟩
theorem for_zipT {a b : Addr} {xs ys : List V} (hln : xs.length = ys.length) (Pv : Nat → L2.St → Hp → Prop) (h0 : Pv 0 σ H) (hl : ∀ i σ H, i ≤ xs.length → Pv i σ H → SqT K H a xs ∧ SqT K H b ys)
    (hs : ∀ i x y σ H T, xs[i]? = some x → ys[i]? = some y → Pv i σ H → H T = none → g (.ref T) σ (upd H T (.tup [x, y])) fun σ2 H2 => tb { D with nx := Pv (i + 1), ct := Pv (i + 1), bk := D.nx } σ2 H2) (hd : ∀ σ H, Pv xs.length σ H → D.nx σ H) : LpW (RZ.ItzT K a b) g tb D σ H := by
  refine ⟨fun i m σ H => m = xs.length - i ∧ i ≤ xs.length ∧ Pv i σ H, ⟨xs.length, by simp, Nat.zero_le _, h0⟩, ?_⟩
  rintro i m σ H ⟨rfl, hi, p⟩
  obtain ⟨q1, q2⟩ := hl i σ H hi p
  by_cases hlt : i < xs.length
  · have hlt2 : i < ys.length := by omega
    refine .inr ⟨⟨xs, ys, xs[i], ys[i], q1, q2, by simp [hlt], by simp [hlt2]⟩, Pv (i + 1), fun σ' H' p' => ⟨xs.length - (i + 1), by omega, rfl, hlt, p'⟩, fun x H' y => ?_⟩
    obtain ⟨T, x1, y1, rfl, nT, rfl, f1, f2⟩ := y
    exact hs i x1 y1 σ H T (f1 xs q1) (f2 ys q2) p nT
  · have e : i = xs.length := by omega
    subst e
    exact .inl ⟨⟨xs, ys, q1, q2, .inl (Nat.le_refl _)⟩, hd σ H p⟩
def LcW (J : It) (g : TG) (tt : TT) (te : TE) (vs : List Nat) (Q : VK) (σ : L2.St) (H1 : Hp) (D : Addr) : Prop := ∃ W : Nat → Nat → Hp → Prop, (∃ m, W 0 m (upd H1 D (.lst []))) ∧ ∀ i m H, W i m H →
  (J.stop i H ∧ Q (.ref D) H) ∨ (J.go i H ∧ ∃ Nx : Hp → Prop, (∀ H', Nx H' → ∃ m', m' < m ∧ W (i + 1) m' H') ∧ ∀ x H', J.yld i H x H' → g x (wipe σ vs) H' fun σ2 H2 => wipe σ2 vs = wipe σ vs ∧ tt σ2 H2 fun b H3 =>
    if b = true then te σ2 H3 fun y H4 => ∃ acc, H4 D = some (.lst acc) ∧ acc.length < sizeLine ∧ Nx (upd H4 D (.lst (acc ++ [y]))) else Nx H3)
theorem rd_lc1 {ts : TA} {tt : TT} {te : TE} {vs : List Nat} (h : ts σ H fun us H1 => ∃ j : Int, us = [.int j] ∧ -(2 ^ 62) ≤ j ∧ j < 2 ^ 62 ∧ ∀ D, H1 D = none → LcW (Itr 0 j.toNat) g tt te vs Q σ H1 D) : tLc (iRng1 ts) g tt te vs σ H Q := h
theorem rd_yes {σ : L2.St} {H : Hp} {A B : Hp → Prop} (h : A H) : tYes σ H fun b H3 => if b = true then A H3 else B H3 := by
  show if true = true then A H else B H
  rw [if_pos rfl]
  exact h
theorem kp_app {p D : Addr} {H1 H H' : Hp} {o : HO} (hD : H1 D = none) (k : Kp p H1 H) (k2 : Kp p H H') : Kp p H1 (upd H' D o) := fun a x n e => by
  rw [upd_ne (ne_of_none e hD)]
  exact k2 a x n (k a x n e)
theorem rd_lcD {J : It} {tt : TT} {te : TE} {vs : List Nat} (h : ∀ D, H D = none → LcW J g tt te vs Q σ H D) : ∀ D, H D = none → LcW J g tt te vs Q σ H D := h
theorem lc_numbers {vs : List Nat} {i k : Nat} {p D : Addr} {n : Nat} {H1 : Hp} (hσ : ∀ v, ((wipe σ vs).set k (some v))[i]? = some (some (.ref p))) (hw : ∀ v, wipe ((wipe σ vs).set k (some v)) vs = wipe σ vs) (hP : Pool H1 p) (hD : H1 D = none) (hn : n ≤ 1000)
    (q : ∀ (ns : List Int) H', ns.length = n → (∀ z ∈ ns, z.natAbs < 10 ^ 55) → Pool H' p → Kp p H1 H' → H' D = some (.lst (ns.map V.int)) → Q (.ref D) H') :
    LcW (Itr 0 n) (gName k) tYes (tCall spNumber [] E0 (tCons (tVar i) tNil)) vs Q σ H1 D := by
  have hDp : D ≠ p := hP.ne hD
  refine lc_range (Pv := fun j H => ∃ ns : List Int, ns.length = j ∧ (∀ z ∈ ns, z.natAbs < 10 ^ 55) ∧ Pool H p ∧ Kp p H1 H ∧ H D = some (.lst (ns.map V.int))) ⟨[], rfl, List.forall_mem_nil _, hP.new hD, Kp.new hD, upd_same⟩ (fun j H hj hI => ?_) (fun H hI => ?_)
  · obtain ⟨ns, hl, hb, hP', hK, hd⟩ := hI
    refine ⟨hw _, rd_yes ?_⟩
    refine rd_call (rd_cons (rd_var (hσ _) (rd_nil (use_number hP' fun r H' hr hP2 hK2 => ?_))))
    refine ⟨_, hK2 _ _ hDp hd, ?_, ns ++ [r], ?_, ?_, ?_, kp_app hD hK hK2, ?_⟩
    · rw [List.length_map]
      exact small1000 (by omega)
    · rw [List.length_append, hl]
      rfl
    · intro z hz
      rcases List.mem_append.mp hz with hz | hz
      · exact hb z hz
      · rw [List.mem_singleton.mp hz]
        exact hr
    · obtain ⟨x, y, e, r⟩ := hP2
      exact ⟨x, y, by rw [upd_ne hDp.symm]; exact e, r⟩
    · rw [upd_same, List.map_append]
      rfl
  · obtain ⟨ns, hl, hb, hP', hK, hd⟩ := hI
    exact q ns H hl hb hP' hK hd
end
def scalarV : V → Bool
  | .non => true
  | .bl _ => true
  | .int _ => true
  | .str _ => true
  | _ => false
def LstV (K : PySem.W.Frag) (H : Hp) (a : Addr) (xs : List V) : Prop := SqL K H a xs ∧ TyX K H (.ref a) (.type "list")
def TupV (K : PySem.W.Frag) (H : Hp) (a : Addr) (xs : List V) : Prop := SqT K H a xs ∧ TyX K H (.ref a) (.type "tuple")
def SmV (K : PySem.W.Frag) (H : Hp) : Nat → V → V → Prop
  | 0, x, y => x = y ∧ scalarV x = true
  | n + 1, x, y => (x = y ∧ scalarV x = true) ∨ (∃ a b xs ys, x = .ref a ∧ y = .ref b ∧ LstV K H a xs ∧ LstV K H b ys ∧ xs.length = ys.length ∧ ∀ (i : Nat) x y, xs[i]? = some x → ys[i]? = some y → SmV K H n x y) ∨
      ∃ a b xs ys, x = .ref a ∧ y = .ref b ∧ TupV K H a xs ∧ TupV K H b ys ∧ xs.length = ys.length ∧ ∀ (i : Nat) x y, xs[i]? = some x → ys[i]? = some y → SmV K H n x y
theorem LstV.of {K : PySem.W.Frag} {H : Hp} {a : Addr} {xs : List V} (h : H a = some (.lst xs)) : LstV K H a xs := ⟨SqL.of h, .base (.lst h)⟩
theorem TupV.of {K : PySem.W.Frag} {H : Hp} {a : Addr} {xs : List V} (h : H a = some (.tup xs)) : TupV K H a xs := ⟨SqT.of h, .base (.tup h)⟩
section
variable {K : PySem.W.Frag} {H H' : Hp}
theorem tyo_same {x : V} {t : Value} (s : Same H H') (h : TyOf K H x t) : TyOf K H' x t := by
  cases h with
  | non => exact .non
  | bl x => exact .bl x
  | int i => exact .int i
  | str x => exact .str x
  | flt x => exact .flt x
  | lst e => exact .lst (s _ _ e)
  | frz e => exact .frz (s _ _ e)
  | tup e => exact .tup (s _ _ e)
  | dK e => exact .dK (s _ _ e)
  | dT e => exact .dT (s _ _ e)
  | ins e cl ha hn htk hm => exact .ins (s _ _ e) cl ha hn htk hm
theorem tyx_same {x : V} {t : Value} (s : Same H H') (h : TyX K H x t) : TyX K H' x t := by
  cases h with
  | base b => exact .base (tyo_same s b)
  | byt b => exact .byt b
  | set e => exact .set (s _ _ e)
  | kList e c => exact .kList e c
  | kTuple e c => exact .kTuple e c
  | kDict e c => exact .kDict e c
  | fTuple e => exact .fTuple (s _ _ e)
  | fDict e => exact .fDict (s _ _ e)
theorem LstV.same {a : Addr} {xs : List V} (s : Same H H') (h : LstV K H a xs) : LstV K H' a xs := ⟨s.seq h.1, tyx_same s h.2⟩
theorem same_seqT {a : Addr} {xs : List V} (s : Same H H') (h : SqT K H a xs) : SqT K H' a xs := by
  rcases h with (h | ⟨o, h⟩) | h
  · exact .inl (.inl (s _ _ h))
  · exact .inl (.inr ⟨o, s _ _ h⟩)
  · exact .inr h
theorem TupV.same {a : Addr} {xs : List V} (s : Same H H') (h : TupV K H a xs) : TupV K H' a xs := ⟨same_seqT s h.1, tyx_same s h.2⟩
theorem SmV.same (s : Same H H') : ∀ (n : Nat) {x y : V}, SmV K H n x y → SmV K H' n x y
  | 0, _, _, h => h
  | n + 1, x, y, h => by
    rcases h with h | ⟨a, b, xs, ys, e1, e2, h1, h2, l, h⟩ | ⟨a, b, xs, ys, e1, e2, h1, h2, l, h⟩
    · exact .inl h
    · exact .inr (.inl ⟨a, b, xs, ys, e1, e2, h1.same s, h2.same s, l, fun i x y a b => SmV.same s n (h i x y a b)⟩)
    · exact .inr (.inr ⟨a, b, xs, ys, e1, e2, h1.same s, h2.same s, l, fun i x y a b => SmV.same s n (h i x y a b)⟩)
theorem isi_ty {Q : VK} {x : V} {t n : String} {d : Bool} (h : TyX K H x (.type t)) (e : kitB t n = some d) (q : Q (.bl d) H) : rIsi K [x, .ty n] H Q := rd_isi (.ty n) h (kit_ty e) q
theorem sm_ints {p q : Addr} {ns : List Int} (hp : H p = some (.lst (ns.map V.int))) (hq : H q = some (.lst (ns.map V.int))) : SmV K H 1 (.ref p) (.ref q) :=
  .inr (.inl ⟨p, q, _, _, rfl, rfl, .of hp, .of hq, rfl, fun i x y e1 e2 => by
    rw [e1] at e2
    have e := Option.some.inj e2
    subst e
    rw [List.getElem?_map] at e1
    cases g : ns[i]? with
    | none => rw [g] at e1; cases e1
    | some z => rw [g] at e1; cases e1; exact ⟨rfl, rfl⟩⟩)
end
theorem sm_sc {K : PySem.W.Frag} {H : Hp} {x : V} (h : scalarV x = true) : ∀ {n : Nat}, SmV K H n x x
  | 0 => ⟨rfl, h⟩
  | _ + 1 => .inl ⟨rfl, h⟩
def spSame (K : PySem.W.Frag) (n : Nat) : Sp := fun vs H Q _ => ∃ x y, vs = [x, y] ∧ SmV K H n x y ∧ ∀ H', Same H H' → Q (.bl true) H'
theorem use_same {K : PySem.W.Frag} {n : Nat} {x y : V} {H : Hp} {Q : VK} {E : XK} (h : SmV K H n x y) (q : ∀ H', Same H H' → Q (.bl true) H') : spSame K n ([x, y] ++ []) H Q E := ⟨x, y, rfl, h, q⟩
def spItems (K : PySem.W.Frag) : Sp := fun vs H Q _ => ∃ (a : Addr) (ns : List Int), vs = [.ref a] ∧ SqL K H a (ns.map V.int) ∧ ∀ H', Same H H' → Q .non H'
theorem use_items {K : PySem.W.Frag} {a : Addr} {ns : List Int} {H : Hp} {Q : VK} {E : XK} (h : SqL K H a (ns.map V.int)) (q : ∀ H', Same H H' → Q .non H') : spItems K ([.ref a] ++ []) H Q E := ⟨a, ns, rfl, h, q⟩
def spBlock : Sp := fun vs H Q _ => ∃ (a : Addr) (ns : List Int) (least : Int), vs = [.ref a, .int least] ∧ H a = some (.lst (ns.map V.int)) ∧ least ≤ ns.length ∧ ns.length ≤ 64 ∧ ∀ H', Same H H' → Q .non H'
theorem use_block {a : Addr} {ns : List Int} {least : Int} {H : Hp} {Q : VK} {E : XK} (h : H a = some (.lst (ns.map V.int))) (h1 : least ≤ ns.length) (h2 : ns.length ≤ 64) (q : ∀ H', Same H H' → Q .non H') : spBlock ([.ref a, .int least] ++ []) H Q E := ⟨a, ns, least, rfl, h, h1, h2, q⟩
def codeU (n : Int) : Int := if n ≥ 0 then 2 * n else -2 * n - 1
def spCode : Sp := fun vs H Q _ => ∃ n, vs = [.int n] ∧ Q (.int (codeU n)) H
theorem use_code {n : Int} {H : Hp} {Q : VK} {E : XK} (q : Q (.int (codeU n)) H) : spCode ([.int n] ++ []) H Q E := ⟨n, rfl, q⟩
def markF (ns : List Int) : Int := ns.foldl (fun m n => (m * 31 + codeU n) % 9973) 1
theorem markF_snoc (ns : List Int) (z : Int) : markF (ns ++ [z]) = (markF ns * 31 + codeU z) % 9973 := by
  unfold markF
  rw [List.foldl_append]
  rfl
theorem foldm_bound : ∀ (ns : List Int) (m : Int), 0 ≤ m → m < 9973 → 0 ≤ ns.foldl (fun m n => (m * 31 + codeU n) % 9973) m ∧ ns.foldl (fun m n => (m * 31 + codeU n) % 9973) m < 9973
  | [], m, h0, h1 => ⟨h0, h1⟩
  | n :: r, m, _, _ => foldm_bound r _ (Int.emod_nonneg _ (by decide)) (Int.emod_lt_of_pos _ (by decide))
theorem markF_bound (ns : List Int) : 0 ≤ markF ns ∧ markF ns < 9973 := foldm_bound ns 1 (by decide) (by decide)
def spMark : Sp := fun vs H Q _ => ∃ (a : Addr) (ns : List Int), vs = [.ref a] ∧ H a = some (.lst (ns.map V.int)) ∧ ns.length ≤ 64 ∧ ∀ H', Same H H' → Q (.int (markF ns)) H'
theorem use_mark {a : Addr} {ns : List Int} {H : Hp} {Q : VK} {E : XK} (h : H a = some (.lst (ns.map V.int))) (h2 : ns.length ≤ 64) (q : ∀ H', Same H H' → Q (.int (markF ns)) H') : spMark ([.ref a] ++ []) H Q E := ⟨a, ns, rfl, h, h2, q⟩
def jx (u v : V) : Bool := match u, v with
  | .int w, .int t => decide (0 < w) || decide (t = 0)
  | _, _ => false
def jt (u v : V) : Bool := inI u 0 8 && (inI v 0 3 && jx u v)
theorem dec_i0 (t : Int) : decide (V.int t = V.int 0) = decide (t = 0) := decide_eq_decide.mpr ⟨V.int.inj, congrArg V.int⟩
inductive JR (H : Hp) : V → Bool → Prop where
  | flat {x : V} (h : scalarV x = true) : JR H x false
  | lst {a : Addr} {xs : List V} (h : H a = some (.lst xs)) : JR H (.ref a) false
  | tupn {a : Addr} {xs : List V} (h : H a = some (.tup xs)) (n : xs.length ≠ 2) : JR H (.ref a) false
  | tup2 {a : Addr} {u v : V} (h : H a = some (.tup [u, v])) (hu : TyV H u) (hv : TyV H v) : JR H (.ref a) (jt u v)
def spJ : Sp := fun vs H Q _ => ∃ x b, vs = [x] ∧ JR H x b ∧ Q (.bl b) H
theorem use_j {x : V} {b : Bool} {H : Hp} {Q : VK} {E : XK} (h : JR H x b) (q : Q (.bl b) H) : spJ ([x] ++ []) H Q E := ⟨x, b, rfl, h, q⟩
theorem jt_no1 {u v : V} (h : inI u 0 8 = false) : jt u v = false := by unfold jt; rw [h]; rfl
theorem jt_no2 {u v : V} (h : inI v 0 3 = false) : jt u v = false := by unfold jt; rw [h, Bool.false_and, Bool.and_false]
theorem inI_isI {x : V} {lo hi : Int} (h : inI x lo hi = true) : isI x = true := by
  cases x <;> first | rfl | exact Bool.noConfusion h
theorem isI_yes {x : V} (h : isI x = true) : ∃ i, x = .int i := by
  cases x <;> first | exact ⟨_, rfl⟩ | exact Bool.noConfusion h
def spS : List Int → List Int
  | a :: b :: r => ((a + b) / 2) :: spS r
  | r => r
def spD : List Int → List Int
  | a :: b :: r => (a - b) :: spD r
  | _ => []
theorem spD_length : ∀ ns : List Int, (spD ns).length = ns.length / 2
  | [] => rfl
  | [_] => by simp [spD]
  | a :: b :: r => by
    show (spD r).length + 1 = (r.length + 1 + 1) / 2
    rw [spD_length r]
    omega
theorem spS_length : ∀ ns : List Int, (spS ns).length = (ns.length + 1) / 2
  | [] => rfl
  | [_] => by simp [spS]
  | a :: b :: r => by
    show (spS r).length + 1 = (r.length + 1 + 1 + 1) / 2
    rw [spS_length r]
    omega
theorem spS_get : ∀ (ns : List Int) (i : Nat) (a b : Int), ns[2 * i]? = some a → ns[2 * i + 1]? = some b → (spS ns)[i]? = some ((a + b) / 2)
  | [], i, a, b, h, _ => by simp at h
  | [x], 0, a, b, _, h => by simp at h
  | [x], i + 1, a, b, h, _ => by simp at h
  | x :: y :: r, 0, a, b, h1, h2 => by
    have e1 : x = a := Option.some.inj h1
    have e2 : y = b := Option.some.inj h2
    subst e1 e2
    rfl
  | x :: y :: r, i + 1, a, b, h1, h2 => by
    show (spS r)[i]? = _
    exact spS_get r i a b (by rw [show 2 * (i + 1) = 2 * i + 1 + 1 by omega] at h1; exact h1) (by rw [show 2 * (i + 1) + 1 = 2 * i + 1 + 1 + 1 by omega] at h2; exact h2)
theorem spD_get : ∀ (ns : List Int) (i : Nat) (a b : Int), ns[2 * i]? = some a → ns[2 * i + 1]? = some b → (spD ns)[i]? = some (a - b)
  | [], i, a, b, h, _ => by simp at h
  | [x], 0, a, b, _, h => by simp at h
  | [x], i + 1, a, b, h, _ => by simp at h
  | x :: y :: r, 0, a, b, h1, h2 => by
    have e1 : x = a := Option.some.inj h1
    have e2 : y = b := Option.some.inj h2
    subst e1 e2
    rfl
  | x :: y :: r, i + 1, a, b, h1, h2 => by
    show (spD r)[i]? = _
    exact spD_get r i a b (by rw [show 2 * (i + 1) = 2 * i + 1 + 1 by omega] at h1; exact h1) (by rw [show 2 * (i + 1) + 1 = 2 * i + 1 + 1 + 1 by omega] at h2; exact h2)
theorem spS_parts : ∀ ns : List Int, spS ns = (spS ns).take (ns.length / 2) ++ ns.drop (2 * (ns.length / 2))
  | [] => rfl
  | [_] => by simp [spS]
  | a :: b :: r => by
    have ih := spS_parts r
    show ((a + b) / 2) :: spS r = (((a + b) / 2) :: spS r).take ((r.length + 1 + 1) / 2) ++ (a :: b :: r).drop (2 * ((r.length + 1 + 1) / 2))
    rw [show (r.length + 1 + 1) / 2 = r.length / 2 + 1 by omega, show 2 * (r.length / 2 + 1) = 2 * (r.length / 2) + 1 + 1 by omega]
    show ((a + b) / 2) :: spS r = ((a + b) / 2) :: ((spS r).take (r.length / 2) ++ r.drop (2 * (r.length / 2)))
    rw [← ih]
/-- behind i levels: the sums, and the differences -/
def lvS (ns : List Int) : Nat → List Int
  | 0 => ns
  | i + 1 => spS (lvS ns i)
def lvR (ns : List Int) : Nat → List Int
  | 0 => []
  | i + 1 => spD (lvS ns i) ++ lvR ns i
def splitL (ns : List Int) (i : Nat) : List Int := lvS ns i ++ lvR ns i
theorem lvS_le (ns : List Int) : ∀ i, (lvS ns i).length ≤ ns.length
  | 0 => Nat.le_refl _
  | i + 1 => by
    have := lvS_le ns i
    show (spS (lvS ns i)).length ≤ _
    rw [spS_length]
    omega
theorem lv_length (ns : List Int) : ∀ i, (lvS ns i).length + (lvR ns i).length = ns.length
  | 0 => rfl
  | i + 1 => by
    have := lv_length ns i
    show (spS (lvS ns i)).length + (spD (lvS ns i) ++ lvR ns i).length = _
    rw [List.length_append, spS_length, spD_length]
    omega
theorem splitL_length (ns : List Int) (i : Nat) : (splitL ns i).length = ns.length := by
  unfold splitL
  rw [List.length_append]
  exact lv_length ns i
theorem last_odd {ns : List Int} (h : ns.length % 2 = 1) : ∃ z, ns[ns.length - 1]? = some z ∧ ns.drop (2 * (ns.length / 2)) = [z] ∧ atI (ns.map V.int) (-1) = some (.int z) := by
  have h1 : ns.length - 1 < ns.length := by omega
  refine ⟨ns[ns.length - 1], List.getElem?_eq_getElem h1, ?_, ?_⟩
  · rw [show 2 * (ns.length / 2) = ns.length - 1 by omega, List.drop_eq_getElem_cons h1, show ns.length - 1 + 1 = ns.length by omega, List.drop_length]
  · have e : ns.map V.int = (ns.dropLast.map V.int) ++ [.int ns[ns.length - 1]] := by
      have hne : ns ≠ [] := fun z => by rw [z] at h; simp at h
      have := List.dropLast_concat_getLast hne
      rw [List.getLast_eq_getElem] at this
      rw [← List.map_singleton, ← List.map_append, this]
    rw [e]
    exact atI_last _ _
theorem drop_even {ns : List Int} (h : ¬ ns.length % 2 = 1) : ns.drop (2 * (ns.length / 2)) = [] := by
  rw [show 2 * (ns.length / 2) = ns.length by omega, List.drop_length]
theorem cut_from (ns : List Int) (k : Nat) (hk : k ≤ ns.length) : cutV (ns.map V.int) (some (k : Int)) none = (ns.drop k).map V.int := by
  unfold cutV
  rw [show HT.sIx (ns.map V.int).length 0 (some (k : Int)) = min k (ns.map V.int).length from HT.sIx_nat _ 0 k, HT.sIx_none, List.length_map, Nat.min_eq_left hk, ← List.map_drop]
  rw [List.take_of_length_le (by rw [List.length_map, List.length_drop]; exact Nat.le_refl _)]
theorem rg2 (n : Nat) (h : n ≤ 64) : RgC 0 ((n : Int) - 1) 2 (n / 2) := by
  have hs : Builtin.Range.rangeSize 0 ((n : Int) - 1) 2 = ((n / 2 : Nat) : Int) := by
    unfold Builtin.Range.rangeSize
    rw [if_pos (by decide)]
    split <;> omega
  refine ⟨by decide, by decide, ?_, hs⟩
  unfold Builtin.Range.small
  rw [hs]
  simp only [Builtin.Range.rangeFitsLong, Bool.and_eq_true, Bool.or_eq_true, decide_eq_true_eq, beq_iff_eq, show ((2 : Int) > 0) by decide, if_true]
  omega
section
variable {K : PySem.W.Frag} {σ : L2.St} {H : Hp} {Q : VK} {g : TG} {tb : TS} {D : Ends}
theorem rd_for3 {ts : TA} (h : ts σ H fun vs H1 => ∃ (i j c : Int) (n : Nat), vs = [.int i, .int j, .int c] ∧ RgC i j c n ∧ LpW (Itc i c n) g tb D σ H1) : tFor (iRng3 ts) g tb D σ H := h
theorem rd_n3 {n : Nat} {A : Int → Int → Int → Nat → Prop} (h : n ≤ 64) (q : A 0 ((n : Int) - 1) 2 (n / 2)) : ∃ (i j c : Int) (k : Nat), [V.int 0, V.int ((n : Int) - 1), V.int 2] = [.int i, .int j, .int c] ∧ RgC i j c k ∧ A i j c k := ⟨_, _, _, _, rfl, rg2 n h, q⟩
theorem rd_catL {a b : Addr} {xs ys : List Int} (h1 : H a = some (.lst (xs.map V.int))) (h2 : H b = some (.lst (ys.map V.int))) (n : xs.length + ys.length ≤ 1000) (q : ∀ p, H p = none → Q (.ref p) (upd H p (.lst ((xs ++ ys).map V.int)))) : rCat (.ref a) (.ref b) H Q :=
  ⟨a, b, _, _, rfl, rfl, h1, h2, by rw [List.length_map, List.length_map]; exact Nat.le_of_lt (small1000 n), fun p hp => by rw [← List.map_append]; exact q p hp⟩
theorem rd_appI {a : Addr} {xs : List Int} {z : Int} (h : H a = some (.lst (xs.map V.int))) (n : xs.length ≤ 1000) (q : Q .non (upd H a (.lst ((xs ++ [z]).map V.int)))) : rAppend (.ref a) [.int z] H Q :=
  ⟨a, _, _, rfl, rfl, h, by rw [List.length_map]; exact small1000 n, by rw [List.map_append] at q; exact q⟩
theorem rd_sl {te : TE} {tl th : TO} {r : V → Option Int → Option Int → Hp → VK → Prop} (h : te σ H fun x H1 => tl σ H1 fun l H2 => th σ H2 fun u H3 => r x l u H3 Q) : L2.tSl r te tl th σ H Q := h
theorem rd_part {te : TE} {q : Option Int → Hp → Prop} (h : te σ H fun x H1 => ∃ i, x = .int i ∧ q (some i) H1) : tPart te σ H q := h
theorem rd_nopart {q : Option Int → Hp → Prop} (h : q none H) : tNoPart σ H q := h
theorem rd_oneI {i : Int} {P : Int → Prop} (h : P i) : ∃ j, V.int i = .int j ∧ P j := ⟨i, rfl, h⟩
theorem rd_bm {m : V → List V → Hp → VK → Prop} {to : TE} {ts : TA} (h : to σ H fun x H1 => tyV K "list" x H1 ∧ ts σ H1 fun xs H2 => m x xs H2 Q) : tBM K "list" m to ts σ H Q := h
theorem rd_tyL {a : Addr} {xs : List V} {P : Prop} (h : H a = some (.lst xs)) (q : P) : tyV K "list" (.ref a) H ∧ P := ⟨.inl ⟨rfl, _, .inl (.inl h)⟩, q⟩
theorem rd_slF {a : Addr} {ns : List Int} {k : Nat} (h : SqL K H a (ns.map V.int)) (hk : k ≤ ns.length) (q : ∀ p, H p = none → Q (.ref p) (upd H p (.lst ((ns.drop k).map V.int)))) : rSlL K (.ref a) (some (k : Int)) none H Q :=
  ⟨a, _, rfl, h, fun p hp => by rw [cut_from ns k hk]; exact q p hp⟩
end
def spOnce (K : PySem.W.Frag) : Sp := fun vs H Q _ => ∃ (a : Addr) (ns : List Int), vs = [.ref a] ∧ SqL K H a (ns.map V.int) ∧ ns.length ≤ 64 ∧ ∀ p s d H', Same H H' → H' p = some (.tup [.ref s, .ref d]) → H' s = some (.lst ((spS ns).map V.int)) → H' d = some (.lst ((spD ns).map V.int)) → H s = none → Q (.ref p) H'
theorem use_once {K : PySem.W.Frag} {a : Addr} {ns : List Int} {H : Hp} {Q : VK} {E : XK} (h : SqL K H a (ns.map V.int)) (n : ns.length ≤ 64) (q : ∀ p s d H', Same H H' → H' p = some (.tup [.ref s, .ref d]) → H' s = some (.lst ((spS ns).map V.int)) → H' d = some (.lst ((spD ns).map V.int)) → H s = none → Q (.ref p) H') : spOnce K ([.ref a] ++ []) H Q E := ⟨a, ns, rfl, h, n, q⟩
def spSplit : Sp := fun vs H Q _ => ∃ (a : Addr) (ns : List Int) (k : Int), vs = [.ref a, .int k] ∧ H a = some (.lst (ns.map V.int)) ∧ 1 ≤ ns.length ∧ ns.length ≤ 64 ∧ 0 ≤ k ∧ k ≤ 5 ∧ ∀ p H', H p = none → Same H H' → H' p = some (.lst ((splitL ns k.toNat).map V.int)) → Q (.ref p) H'
theorem use_split {a : Addr} {ns : List Int} {k : Int} {H : Hp} {Q : VK} {E : XK} (h : H a = some (.lst (ns.map V.int))) (h1 : 1 ≤ ns.length) (h2 : ns.length ≤ 64) (h3 : 0 ≤ k) (h4 : k ≤ 5) (q : ∀ p H', H p = none → Same H H' → H' p = some (.lst ((splitL ns k.toNat).map V.int)) → Q (.ref p) H') : spSplit ([.ref a, .int k] ++ []) H Q E := ⟨a, ns, k, rfl, h, h1, h2, h3, h4, q⟩
theorem use_splitK {a : Addr} {ns : List Int} {k : Int} {H : Hp} {Q : VK} {E : XK} (h : H a = some (.lst (ns.map V.int))) (h1 : 1 ≤ ns.length) (h2 : ns.length ≤ 64) (h3 : 0 ≤ k) (h4 : k ≤ 5) (q : ∀ p H', H p = none → Same H H' → H' p = some (.lst ((splitL ns k.toNat).map V.int)) → Q (.ref p) H') : spSplit (kg 0 2 [1, 0] [] [.int k, .ref a]) H Q E := ⟨a, ns, k, rfl, h, h1, h2, h3, h4, q⟩
def jn : List Int → List Int → List Int
  | s :: S, d :: D => (s - d / 2 + d) :: (s - d / 2) :: jn S D
  | S, _ => S
theorem jn_nil (S : List Int) : jn S [] = S := by
  cases S <;> simp [jn]
theorem jn_cons (s d : Int) (S D : List Int) : jn (s :: S) (d :: D) = (s - d / 2 + d) :: (s - d / 2) :: jn S D := by simp [jn]
theorem jn_length : ∀ S D : List Int, D.length ≤ S.length → (jn S D).length = S.length + D.length
  | S, [], _ => by rw [jn_nil]; rfl
  | [], d :: D, h => by simp at h
  | s :: S, d :: D, h => by
    rw [jn_cons]
    have := jn_length S D (by simpa using h)
    simp only [List.length_cons]
    omega
/-- how many are coarse -/
def cc (n : Nat) : Nat → Nat
  | 0 => n
  | i + 1 => (cc n i + 1) / 2
theorem cc_le (n : Nat) : ∀ i, cc n (i + 1) ≤ cc n i
  | 0 => by show (n + 1) / 2 ≤ n; omega
  | i + 1 => by show (cc n (i + 1) + 1) / 2 ≤ cc n (i + 1); omega
theorem cc_n (n : Nat) : ∀ i, cc n i ≤ n
  | 0 => Nat.le_refl _
  | i + 1 => Nat.le_trans (cc_le n i) (cc_n n i)
/-- the values when j of m levels are joined -/
def wv (ns : List Int) (m : Nat) : Nat → List Int
  | 0 => ns.take (cc ns.length m)
  | j + 1 => jn (wv ns m j) ((ns.drop (cc ns.length (m - j))).take (cc ns.length (m - (j + 1)) - cc ns.length (m - j)))
theorem wv_step {ns : List Int} {m j : Nat} (h : j + 1 ≤ m) (hl : (wv ns m j).length = cc ns.length (m - j)) :
    ((ns.drop (cc ns.length (m - j))).take (cc ns.length (m - (j + 1)) - cc ns.length (m - j))).length = cc ns.length (m - (j + 1)) - cc ns.length (m - j) ∧ cc ns.length (m - j) = (cc ns.length (m - (j + 1)) + 1) / 2 := by
  have e : m - j = (m - (j + 1)) + 1 := by omega
  have c : cc ns.length (m - j) = (cc ns.length (m - (j + 1)) + 1) / 2 := by rw [e]; rfl
  refine ⟨?_, c⟩
  have := cc_n ns.length (m - (j + 1))
  rw [List.length_take, List.length_drop]
  omega
theorem wv_length (ns : List Int) (m : Nat) : ∀ j, j ≤ m → (wv ns m j).length = cc ns.length (m - j)
  | 0, _ => by
    show (ns.take (cc ns.length m)).length = cc ns.length m
    have := cc_n ns.length m
    rw [List.length_take]
    omega
  | j + 1, h => by
    have ih := wv_length ns m j (by omega)
    obtain ⟨h1, h2⟩ := wv_step h ih
    show (jn (wv ns m j) _).length = _
    rw [jn_length _ _ (by rw [h1, ih]; omega), h1, ih]
    omega
def joinL (ns : List Int) (m : Nat) : List Int := wv ns m m
theorem joinL_length (ns : List Int) (m : Nat) : (joinL ns m).length = ns.length := by
  unfold joinL
  rw [wv_length ns m m (Nat.le_refl _), Nat.sub_self]
  rfl
/-- the pairs of a join -/
def jp : List Int → List Int → List Int
  | s :: S, d :: D => (s - d / 2 + d) :: (s - d / 2) :: jp S D
  | _, _ => []
theorem jp_cons (s d : Int) (S D : List Int) : jp (s :: S) (d :: D) = (s - d / 2 + d) :: (s - d / 2) :: jp S D := by simp [jp]
theorem jn_jp : ∀ S D : List Int, D.length ≤ S.length → jn S D = jp S D ++ S.drop D.length
  | S, [], _ => by rw [jn_nil]; cases S <;> simp [jp]
  | [], d :: D, h => by simp at h
  | s :: S, d :: D, h => by
    rw [jn_cons, jp_cons, jn_jp S D (by simpa using h)]
    rfl
theorem jp_length : ∀ S D : List Int, D.length ≤ S.length → (jp S D).length = 2 * D.length
  | S, [], _ => by cases S <;> simp [jp]
  | [], d :: D, h => by simp at h
  | s :: S, d :: D, h => by
    rw [jp_cons]
    have := jp_length S D (by simpa using h)
    simp only [List.length_cons]
    omega
theorem jp_step : ∀ (S D : List Int) (i : Nat) (s d : Int), S[i]? = some s → D[i]? = some d → (jp S D).take (2 * (i + 1)) = (jp S D).take (2 * i) ++ [s - d / 2 + d, s - d / 2]
  | [], _, i, s, d, h, _ => by simp at h
  | _ :: _, [], i, s, d, _, h => by simp at h
  | x :: S, y :: D, 0, s, d, h1, h2 => by
    have e1 : x = s := Option.some.inj h1
    have e2 : y = d := Option.some.inj h2
    subst e1 e2
    rw [jp_cons]
    rfl
  | x :: S, y :: D, i + 1, s, d, h1, h2 => by
    have ih := jp_step S D i s d h1 h2
    rw [jp_cons, show 2 * (i + 1 + 1) = 2 * (i + 1) + 1 + 1 by omega, show 2 * (i + 1) = 2 * i + 1 + 1 by omega]
    rw [show 2 * (i + 1) = 2 * i + 1 + 1 by omega] at ih
    show (x - y / 2 + y) :: (x - y / 2) :: (jp S D).take (2 * i + 1 + 1) = (x - y / 2 + y) :: (x - y / 2) :: ((jp S D).take (2 * i) ++ _)
    rw [ih]
theorem cut_to (ns : List Int) (k : Nat) : cutV (ns.map V.int) none (some (k : Int)) = (ns.take k).map V.int := by
  unfold cutV
  rw [HT.sIx_none, show HT.sIx (ns.map V.int).length (ns.map V.int).length (some (k : Int)) = min k (ns.map V.int).length from HT.sIx_nat _ _ k, List.drop_zero, Nat.sub_zero, ← List.map_take]
  rw [List.length_map, show min k ns.length = min k ns.length from rfl, ← List.take_take, List.take_length]
theorem cut_mid (ns : List Int) (j k : Nat) (hj : j ≤ ns.length) (hk : k ≤ ns.length) : cutV (ns.map V.int) (some (j : Int)) (some (k : Int)) = ((ns.drop j).take (k - j)).map V.int := by
  unfold cutV
  rw [show HT.sIx (ns.map V.int).length 0 (some (j : Int)) = min j (ns.map V.int).length from HT.sIx_nat _ _ j, show HT.sIx (ns.map V.int).length (ns.map V.int).length (some (k : Int)) = min k (ns.map V.int).length from HT.sIx_nat _ _ k]
  rw [List.length_map, Nat.min_eq_left hj, Nat.min_eq_left hk, ← List.map_drop, ← List.map_take]
section
variable {K : PySem.W.Frag} {σ : L2.St} {H : Hp} {Q : VK} {g : TG} {tb : TS} {D : Ends}
theorem rd_slT {a : Addr} {ns : List Int} {k : Nat} (h : SqL K H a (ns.map V.int)) (q : ∀ p, H p = none → Q (.ref p) (upd H p (.lst ((ns.take k).map V.int)))) : rSlL K (.ref a) none (some (k : Int)) H Q :=
  ⟨a, _, rfl, h, fun p hp => by rw [cut_to ns k]; exact q p hp⟩
theorem rd_slM {a : Addr} {ns : List Int} {j k : Nat} (h : SqL K H a (ns.map V.int)) (hj : j ≤ ns.length) (hk : k ≤ ns.length) (q : ∀ p, H p = none → Q (.ref p) (upd H p (.lst (((ns.drop j).take (k - j)).map V.int)))) : rSlL K (.ref a) (some (j : Int)) (some (k : Int)) H Q :=
  ⟨a, _, rfl, h, fun p hp => by rw [cut_mid ns j k hj hk]; exact q p hp⟩
theorem rd_forV {te : TE} (h : te σ H fun x H1 => ∃ n, x = .int n ∧ (-(2 ^ 62) ≤ (0 : Int) ∧ (0 : Int) < 2 ^ 62 ∧ -(2 ^ 62) ≤ n ∧ n < 2 ^ 62 ∧ LpW (Itc (0 + (((n - 0).toNat : Nat) : Int) - 1) (-1) (n - 0).toNat) g tb D σ H1)) : tFor (iRevR (tRg1 te)) g tb D σ H := h
theorem rd_nV {n : Int} {P : Prop} (h1 : -(2 ^ 62) ≤ n) (h2 : n < 2 ^ 62) (q : P) : -(2 ^ 62) ≤ (0 : Int) ∧ (0 : Int) < 2 ^ 62 ∧ -(2 ^ 62) ≤ n ∧ n < 2 ^ 62 ∧ P := ⟨by decide, by decide, h1, h2, q⟩
end
def spCoarse : Sp := fun vs H Q _ => ∃ (n k : Nat), vs = [.int (n : Int), .int (k : Int)] ∧ 1 ≤ n ∧ n ≤ 64 ∧ k ≤ 5 ∧ Q (.int (cc n k : Nat)) H
theorem use_coarse {n k : Nat} {H : Hp} {Q : VK} {E : XK} (h1 : 1 ≤ n) (h2 : n ≤ 64) (h3 : k ≤ 5) (q : Q (.int (cc n k : Nat)) H) : spCoarse ([.int (n : Int), .int (k : Int)] ++ []) H Q E := ⟨n, k, rfl, h1, h2, h3, q⟩
def spJoin1 : Sp := fun vs H Q _ => ∃ (s d : Addr) (S D : List Int), vs = [.ref s, .ref d] ∧ H s = some (.lst (S.map V.int)) ∧ H d = some (.lst (D.map V.int)) ∧ D.length ≤ S.length ∧ S.length ≤ 64 ∧ ∀ p H', Same H H' → H p = none → H' p = some (.lst ((jn S D).map V.int)) → Q (.ref p) H'
theorem use_join1 {s d : Addr} {S D : List Int} {H : Hp} {Q : VK} {E : XK} (h1 : H s = some (.lst (S.map V.int))) (h2 : H d = some (.lst (D.map V.int))) (h3 : D.length ≤ S.length) (h4 : S.length ≤ 64) (q : ∀ p H', Same H H' → H p = none → H' p = some (.lst ((jn S D).map V.int)) → Q (.ref p) H') : spJoin1 ([.ref s, .ref d] ++ []) H Q E := ⟨s, d, S, D, rfl, h1, h2, h3, h4, q⟩
def spJoin : Sp := fun vs H Q _ => ∃ (a : Addr) (ns : List Int) (k : Int), vs = [.ref a, .int k] ∧ H a = some (.lst (ns.map V.int)) ∧ 1 ≤ ns.length ∧ ns.length ≤ 64 ∧ 0 ≤ k ∧ k ≤ 5 ∧ ∀ p H', H p = none → Same H H' → H' p = some (.lst ((joinL ns k.toNat).map V.int)) → Q (.ref p) H'
theorem use_join {a : Addr} {ns : List Int} {k : Int} {H : Hp} {Q : VK} {E : XK} (h : H a = some (.lst (ns.map V.int))) (h1 : 1 ≤ ns.length) (h2 : ns.length ≤ 64) (h3 : 0 ≤ k) (h4 : k ≤ 5) (q : ∀ p H', H p = none → Same H H' → H' p = some (.lst ((joinL ns k.toNat).map V.int)) → Q (.ref p) H') : spJoin ([.ref a, .int k] ++ []) H Q E := ⟨a, ns, k, rfl, h, h1, h2, h3, h4, q⟩
theorem use_joinK {a : Addr} {ns : List Int} {k : Int} {H : Hp} {Q : VK} {E : XK} (h : H a = some (.lst (ns.map V.int))) (h1 : 1 ≤ ns.length) (h2 : ns.length ≤ 64) (h3 : 0 ≤ k) (h4 : k ≤ 5) (q : ∀ p H', H p = none → Same H H' → H' p = some (.lst ((joinL ns k.toNat).map V.int)) → Q (.ref p) H') : spJoin (kg 0 2 [1, 0] [] [.int k, .ref a]) H Q E := ⟨a, ns, k, rfl, h, h1, h2, h3, h4, q⟩
def spInts : Sp := fun vs H Q _ => ∃ (a : Addr) (ns : List Int) (n : Int), vs = [.ref a, .int n] ∧ H a = some (.lst (ns.map V.int)) ∧ (ns.length : Int) = n ∧ Q (.bl true) H
theorem use_ints {a : Addr} {ns : List Int} {n : Int} {H : Hp} {Q : VK} {E : XK} (h : H a = some (.lst (ns.map V.int))) (h1 : (ns.length : Int) = n) (q : Q (.bl true) H) : spInts ([.ref a, .int n] ++ []) H Q E := ⟨a, ns, n, rfl, h, h1, q⟩
section
variable {K : PySem.W.Frag} {σ : L2.St} {H : Hp} {Q : VK} {g : TG}
theorem rd_lcL {ti te : TE} {tt : TT} {vs : List Nat} (h : ti σ H fun x H1 => ∃ a, x = .ref a ∧ (∃ xs, SqL K H1 a xs) ∧ ∀ D, H1 D = none → LcW (Itl K a) g tt te vs Q σ H1 D) : tLc (iList K ti) g tt te vs σ H Q := h
theorem rd_lcP {a : Addr} {xs : List V} {te : TE} {tt : TT} {vs : List Nat} (e : SqL K H a xs) (h : ∀ D, H D = none → LcW (Itl K a) g tt te vs Q σ H D) : ∃ b, V.ref a = .ref b ∧ (∃ xs, SqL K H b xs) ∧ ∀ D, H D = none → LcW (Itl K b) g tt te vs Q σ H D := ⟨a, rfl, ⟨xs, e⟩, h⟩
end
structure Dn (K : PySem.W.Frag) (mg : Str → Option Value) (x : Str) (st : Stmt) (ps : List Str) (f : Addr) (fd : FuncData) : Prop where
  F : Fun K x x st f fd
  g : mg x = some (.ref f)
  b : Binds K fd ps []
structure Bi (mg : Str → Option Value) : Prop where
  int_ : mg "int" = none
  bool_ : mg "bool" = none
  str_ : mg "str" = none
  list_ : mg "list" = none
  tuple_ : mg "tuple" = none
  len_ : mg "len" = none
  abs_ : mg "abs" = none
  max_ : mg "max" = none
  min_ : mg "min" = none
  range_ : mg "range" = none
  zip_ : mg "zip" = none
  isinstance_ : mg "isinstance" = none
  enumerate_ : mg "enumerate" = none
  reversed_ : mg "reversed" = none
end Z
namespace Z
open PySem PySem.Spec PyProof.Rows L2
theorem mk_heap {H : Hp} {a d : Addr} {o1 o2 o3 o4 : HO} (ha : H a = none) (hd : d ≠ a) : upd (del (upd (upd (upd H a o1) d o2) a o3) a) d o4 = upd H d o4 := by
  funext b
  by_cases h1 : b = d
  · subst h1; rw [upd_same, upd_same]
  · rw [upd_ne h1, upd_ne h1]
    by_cases h2 : b = a
    · subst h2; rw [del_same, ha]
    · rw [del_ne h2, upd_ne h2, upd_ne h1, upd_ne h2]
/-- an own error class C, its name x, its one field f, its __init__ at fI -/
structure EC (K : PySem.W.Frag) (mg : Str → Option Value) (x f : Str) (C fI : Addr) : Prop where
  o : OexC K C
  xf : XfC K C
  ec : ExcC K C
  g : mg x = some (.ref C)
  noF : PySem.W.findIn K (.ref C) f = some none
  te : PySem.W.exmOne K (.ref C) (.ref C) = some true
  iC : PySem.W.findIn K (.ref C) "__init__" = some (some (.ref fI))
  tI : PySem.W.typeIn K (.ref fI) = some (.type "function")
def spInit (K : PySem.W.Frag) (C : Addr) (f : Str) : Sp := fun vs H Q _ => ∃ (a : Addr) (v : V), vs = [.ref a, v] ∧ H a = some (exo a C none) ∧ ∀ dx, H dx = none → dx ≠ a → Q .non (upd (upd H dx (exd dx [(f, v)])) a (exo a C (some dx)))
/-- the reading of raise C(e) -/
def tRaiseX (K : PySem.W.Frag) (C : Addr) (f : Str) (W : WX) (ta : TA) : TS := fun _ σ H => tMkO C (spInit K C f) [] ta σ H fun cls d H' => W cls d σ H'
section
variable {K : PySem.W.Frag} {σ : L2.St} {H : Hp} {C : Addr} {f : Str} {W : WX} {ta : TA} {D : Ends}
theorem rd_raiseX (h : ta σ H fun vs H1 => ∃ v, vs = [v] ∧ ∀ d, H1 d = none → W (.ref C) (some d) σ (upd H1 d (.xd [(f, v)]))) (hm : ∀ {q q' : List V → Hp → Prop}, (∀ vs H, q vs H → q' vs H) → ta σ H q → ta σ H q') : tRaiseX K C f W ta D σ H := by
  refine hm (fun vs H1 h => ?_) h
  obtain ⟨v, rfl, h⟩ := h
  refine ⟨by simp, fun a ha => ⟨a, v, rfl, upd_same, fun dx hdx hne => ⟨rfl, dx, [(f, v)], upd_same, ?_, ?_, ?_⟩⟩⟩
  · rw [upd_ne hne, upd_same]
  · rw [upd_ne hne] at hdx
    exact hdx
  · rw [mk_heap ha hne]
    rw [upd_ne hne] at hdx
    exact h dx hdx
theorem rd_raise1 {te : TE} (h : te σ H fun v H1 => ∀ d, H1 d = none → W (.ref C) (some d) σ (upd H1 d (.xd [(f, v)]))) (hm : ∀ {q q' : V → Hp → Prop}, (∀ v H, q v H → q' v H) → te σ H q → te σ H q') : tRaiseX K C f W (tCons te tNil) D σ H :=
  rd_raiseX (hm (fun v H1 z => ⟨v, rfl, z⟩) h) fun {q q'} hq hh => hm (fun v H1 z => hq _ _ z) hh
theorem rd_raiseV {i : Nat} {v : V} (e : σ[i]? = some (some v)) (h : ∀ d, H d = none → W (.ref C) (some d) σ (upd H d (.xd [(f, v)]))) : tRaiseX K C f W (tCons (tVar i) tNil) D σ H :=
  rd_raise1 ⟨v, e, h⟩ fun hq ⟨v, e, z⟩ => ⟨v, e, hq _ _ z⟩
theorem rd_raiseC {v : V} (h : ∀ d, H d = none → W (.ref C) (some d) σ (upd H d (.xd [(f, v)]))) : tRaiseX K C f W (tCons (tC v) tNil) D σ H := rd_raise1 (te := tC v) h fun hq z => hq _ _ z
end
def spLawT (K : PySem.W.Frag) (T : List (Addr × Str)) : Sp := fun vs H Q _ => ∃ (a : Addr) (ns : List Int), vs = [.ref a] ∧ SqL K H a (ns.map V.int) ∧ ns.length ≤ 63 ∧ LamX.Tabs T H ∧ ∀ H', Q (.bl true) H'
/-- how an error leaves: of the class C, the field f holding v -/
def Err (C : Addr) (f : Str) (v : V) (H : Hp) (E : XK) : Prop := ∀ d H', Same H H' → H d = none → H' d = some (.xd [(f, v)]) → E (.ref C) (some d) H'
theorem Err.same {C : Addr} {f : Str} {v : V} {H H' : Hp} {E : XK} (s : Same H H') (h : Err C f v H E) : Err C f v H' E := fun d H2 s2 n e => h d H2 (s.trans s2) (s.free n) e
/-- an own error class with its own __init__, ready to be made -/
def ErrK (P : Program) (w : World) (K : PySem.W.Frag) (mg : Str → Option Value) (base : Heap) (x f : Str) (C : Addr) : Prop :=
  ∃ (fI : Addr) (fd : FuncData), EC K mg x f C fI ∧ FnOk P w K mg base CX0 1 fI fd ["self", f] (spInit K C f) ∧ Binds K fd ["self", f] []
section
variable {P : Program} {w : World} {K : PySem.W.Frag} {mg : Str → Option Value} {base : Heap} {x f : Str} {C : Addr}
theorem ErrK.g (T : ErrK P w K mg base x f C) : mg x = some (.ref C) := let ⟨_, _, t, _⟩ := T; t.g
end
open LamX
def KpN (p : Addr) (H H' : Hp) : Prop := ∀ b o, b ≠ p → H b = some o → (∀ ps, o ≠ .tbl ps) → H' b = some o
section
variable {p q : Addr} {H H' H1 H2 : Hp} {o u : HO}
theorem KpN.refl : KpN p H H := fun _ _ _ h _ => h
theorem KpN.trans (a : KpN p H H1) (b : KpN p H1 H2) : KpN p H H2 := fun c o n h t => b c o n (a c o n h t) t
theorem KpN.ofK (k : Kp p H H') : KpN p H H' := fun a o n h _ => k a o n h
theorem KpN.of (s : Same H H') : KpN p H H' := fun a o _ h _ => s a o h
theorem KpN.ofN (s : ExtN H H') : KpN p H H' := fun a o _ h t => s a o h t
theorem KpN.new (h : H q = none) : KpN p H (upd H q o) := .of (same_new h)
theorem KpN.at : KpN p H (upd H p o) := .ofK Kp.at
theorem lst_ntbl {xs : List V} : ∀ ps, HO.lst xs ≠ .tbl ps := fun _ z => nomatch z
theorem tup_ntbl {xs : List V} : ∀ ps, HO.tup xs ≠ .tbl ps := fun _ z => nomatch z
theorem look_extL {a : Addr} {xs : List V} (s : ExtN H H') (h : H a = some (.lst xs)) : H' a = some (.lst xs) := s _ _ h lst_ntbl
theorem look_extT {a : Addr} {xs : List V} (s : ExtN H H') (h : H a = some (.tup xs)) : H' a = some (.tup xs) := s _ _ h tup_ntbl
theorem extN_seq {K : PySem.W.Frag} {a : Addr} {xs : List V} (s : ExtN H H') (h : SqL K H a xs) : SqL K H' a xs := by
  rcases h with (h | ⟨o, h⟩) | h
  · exact .inl (.inl (s _ _ h lst_ntbl))
  · exact .inl (.inr ⟨o, s _ _ h (fun _ z => nomatch z)⟩)
  · exact .inr h
theorem Pool.ext (s : ExtN H H') (h : Pool H p) : Pool H' p := by
  obtain ⟨x, y, e, r⟩ := h
  exact ⟨x, y, s _ _ e lst_ntbl, r⟩
theorem Tabs.same {T : List (Addr × Str)} (s : Same H H') (t : Tabs T H) : Tabs T H' := t.ext fun b o h => s b o h
theorem Tabs.new {T : List (Addr × Str)} (n : H q = none) (t : Tabs T H) : Tabs T (upd H q o) := t.ext fun b o h => same_new n b o h
theorem codeO_lst {c : Addr} {q : Str} {xs : List V} : CodeO c q ≠ .lst xs := fun z => by
  unfold CodeO at z
  cases z
theorem Tabs.kp {T : List (Addr × Str)} (hp : Pool H p) (k : Kp p H H') (t : Tabs T H) : Tabs T H' := fun e he => by
  obtain ⟨x, y, hl, _⟩ := hp
  obtain ⟨ps, h1, h2, h3⟩ := t e he
  refine ⟨ps, k _ _ (fun z => by rw [z, hl] at h1; cases h1) h1, h2, fun pos cv hc => ?_⟩
  obtain ⟨c, e1, e2⟩ := h3 pos cv hc
  exact ⟨c, e1, k _ _ (fun z => by rw [z, hl] at e2; exact codeO_lst (Option.some.inj e2).symm) e2⟩
end
def DV (p : Addr) (H : Hp) (v : V) : Prop := scalarV v = true ∨ ∃ a xs, v = .ref a ∧ a ≠ p ∧ (H a = some (.lst xs) ∨ H a = some (.tup xs)) ∧ ∀ x ∈ xs, scalarV x = true
section
variable {p : Addr} {H H' : Hp} {v : V} {K : PySem.W.Frag}
theorem DV.ty (h : DV p H v) : TyV H v := by
  rcases h with h | ⟨a, xs, rfl, _, h | h, _⟩
  · cases v <;> first | exact True.intro | exact Bool.noConfusion h
  · exact .inl ⟨xs, h⟩
  · exact .inr ⟨xs, h⟩
theorem DV.sm (h : DV p H v) : SmV K H 1 v v := by
  rcases h with h | ⟨a, xs, rfl, _, h | h, s⟩
  · exact .inl ⟨rfl, h⟩
  · exact .inr (.inl ⟨a, a, xs, xs, rfl, rfl, .of h, .of h, rfl, fun i x y e1 e2 => by
      rw [e1] at e2
      exact ⟨Option.some.inj e2, s x (List.mem_of_getElem? e1)⟩⟩)
  · exact .inr (.inr ⟨a, a, xs, xs, rfl, rfl, .of h, .of h, rfl, fun i x y e1 e2 => by
      rw [e1] at e2
      exact ⟨Option.some.inj e2, s x (List.mem_of_getElem? e1)⟩⟩)
theorem DV.sc (h : scalarV v = true) : DV p H v := .inl h
theorem DV.lst {a : Addr} {xs : List V} (n : a ≠ p) (h : H a = some (.lst xs)) (s : ∀ x ∈ xs, scalarV x = true) : DV p H (.ref a) := .inr ⟨a, xs, rfl, n, .inl h, s⟩
theorem DV.tup {a : Addr} {xs : List V} (n : a ≠ p) (h : H a = some (.tup xs)) (s : ∀ x ∈ xs, scalarV x = true) : DV p H (.ref a) := .inr ⟨a, xs, rfl, n, .inr h, s⟩
end
/-- what the error that told caught becomes: a list of flags and of its field -/
def ErL (C : Addr) (f : Str) (L : V → List V) (Q : VK) : XK := fun cls d H' => cls = .ref C ∧ ∃ dd v, d = some dd ∧ H' dd = some (.xd [(f, v)]) ∧ ∀ p H'', Same H' H'' → H' p = none → H'' p = some (.lst (L v)) → Q (.ref p) H''
/-- try: a() / except C as e: return [.., e.f] / return None -/
def TTnone (C : Addr) (f : Str) (L : V → List V) : (XK → Hp → VK → Prop) → Hp → VK → Prop := fun tl H Q => tl (ErL C f L Q) H (fun _ H' => Q .non H')
theorem okC {P : Program} {w : World} {K : PySem.W.Frag} {mg : Str → Option Value} {base : Heap} {x qual : Str} {st : Stmt} {f c : Addr} {N ps : List Str} {k : Nat} {sp : Sp} {oc : Value} {od an : Option Addr} {osl : Array (Option Value)} {kV doc pm ct : Value}
    (l : K.lookup f = some ⟨oc, od, .func (PySem.W.fnOf x qual (defArgs st) (defBody st) (defScope st) .none kV doc pm an (.ref c) ct), osl⟩) (hc : PySem.W.codeIn K (.ref c) qual = true) (S : FnScope N ps (defScope st)) (len : ∀ vs H Q E, sp vs H Q E → vs.length = ps.length)
    (hbody : ∀ (A : Around) (outer : List Env) (s : Shared) (H : Hp) (vs : List V) (Q : VK) (E : XK), Room k (A.deeper (envOfC qual (defScope st) s.heap.objs.size f (.ref c))) → sp vs H Q E →
      ∃ t, PSs (cxOf CX0 P w K mg base N qual (defScope st) f (.ref c) A outer s H E).nox (defBody st) t ∧ t { nx := fun _ H' => Q .non H', rt := Q } (L2.start N vs) H) :
    FnOk P w K mg base CX0 (k + 1) f (PySem.W.fnOf x qual (defArgs st) (defBody st) (defScope st) .none kV doc pm an (.ref c) ct) ps sp :=
  fn_of l hc S len fun A outer s H vs Q E hr h => by
    obtain ⟨t, h1, h2⟩ := hbody A outer s H vs Q E hr h
    exact ⟨t, h1.nox, h2⟩
theorem walk_ofTop {l : PySem.W.OpenLaw} {n k : Nat} {q : Program} {loose : List Str} {XP : (Str → Option Value) → Heap → Prop} {YP : World → Heap → Prop} {d : DefRec} {K : Params → PySem.W.Frag} {x : Str}
    (hn : l.most = some n) (hn2 : n ≤ sizeLine) (hdf : d.params.defaults = []) (hr : Room k callerA) (hY : ∀ (w : World) (h : Heap), YP w h → (K w.params).In h)
    (F : ∀ (w : World) (s0 : Shared) (mg mb : Str → Option Value) (fa : Addr) (h : Heap), PySem.W.Ground q loose [] XP w s0 mg mb h → (K w.params).In h → h.Ns mainGlobals mg → mg d.name = some (.ref fa) → LawAtS l w (K w.params) CX0 k n x mg fa h) :
    PySem.W.WalkO q loose XP YP l.row.toRowW d [] (fun f vs => PySem.call f vs) := by
  refine Att.attach_callB hn hdf fun w s0 s1 mg mb fa o pm cd doc a vs ns G Y ho hd hcd hmg hobj hints hlen hbits hg => ?_
  have KX := hY w _ Y
  obtain ⟨fd, cs, sp, hT, nT, C, hb, hsp, hF⟩ := F w s0 mg mb fa _ G KX G.T.g hmg
  exact law_callTs KX G.T.g G.T.b G.T.builtins G.T.nolimit hg hT nT C G.T.bmain hobj hints (Nat.le_trans hlen hn2) hr hF hb (fun H hH hS => hsp H a ns hlen hbits hH hS) fun H e s' z => z.elim
section
variable {X : Cx} {K : PySem.W.Frag} {σ : L2.St} {H : Hp} {Q : VK} {D : Ends} {n : L2.St → Hp → Prop} {r : VK} {b c : L2.St → Hp → Prop}
theorem rd_xf {C a : Addr} {cls : Value} {d : Option Addr} {f : Str} {te : TE} (h : te σ H fun x H1 => x = .ref a ∧ cls = .ref C ∧ ∃ (dd : Addr) (fs : List (Str × V)) (v : V), d = some dd ∧ H1 dd = some (.xd fs) ∧ fs.lookup f = some v ∧ Q v H1) : tXf a cls d C f te σ H Q := h
theorem rd_lam {T : List (Addr × Str)} {TT : (XK → Hp → VK → Prop) → Hp → VK → Prop} {t : XK → TE} (h1 : Tabs T H) (h2 : ∀ H1, ExtN H H1 → Tabs T H1 → TT (fun E H' Q' => t E σ H' Q') H1 Q) : tLam T TT t σ H Q := ⟨h1, h2⟩
theorem rd_told {C : Addr} {f : Str} {L : V → List V} {tl : XK → Hp → VK → Prop} (h : tl (ErL C f L Q) H (fun _ H' => Q .non H')) : TTnone C f L tl H Q := h
end
end Z
namespace Z
open PySem PySem.Spec PyProof.Rows L2
def geZ : V → Bool
  | .int i => decide (0 ≤ i)
  | _ => false
def tt (u v : V) : Bool := isI u && (geZ u && inI v 1 15)
inductive TR (H : Hp) : V → Bool → Prop where
  | flat {x : V} (h : scalarV x = true) : TR H x false
  | lst {a : Addr} {xs : List V} (h : H a = some (.lst xs)) : TR H (.ref a) false
  | tupn {a : Addr} {xs : List V} (h : H a = some (.tup xs)) (n : xs.length ≠ 2) : TR H (.ref a) false
  | tup2 {a : Addr} {u v : V} (h : H a = some (.tup [u, v])) (hu : TyV H u) (hv : TyV H v) : TR H (.ref a) (tt u v)
inductive TSR (H : Hp) : V → Bool → Prop where
  | flat {x : V} (h : scalarV x = true) : TSR H x false
  | lst {a : Addr} {xs : List V} (h : H a = some (.lst xs)) : TSR H (.ref a) false
  | tupn {a : Addr} {xs : List V} (h : H a = some (.tup xs)) (n : xs.length ≠ 2) : TSR H (.ref a) false
  | tup2 {a : Addr} {u v : V} {b1 b2 : Bool} (h : H a = some (.tup [u, v])) (hu : TR H u b1) (hv : TR H v b2) : TSR H (.ref a) (b1 && b2)
theorem tt_int {t : Int} {v : V} : tt (.int t) v = (decide (0 ≤ t) && inI v 1 15) := rfl
/-- the parameter of a table -/
def par (t c : Int) : Nat := Builtin.Int.intBits ((if 1 > (t + c - 1) / c then 1 else (t + c - 1) / c) - 1)
theorem par_le {t c : Int} (ht : 0 ≤ t) (hc : 1 ≤ c) (hb : t < 10 ^ 60) (hc2 : c ≤ 15) : par t c ≤ 300 := by
  have d1 := Int.mul_ediv_self_le (x := t + c - 1) (k := c) (by omega)
  unfold par
  rw [PySem.intBits_le_iff]
  have e : (10 : Int) ^ 60 + 20 < 2 ^ 300 := by decide
  have q0 : 0 ≤ (t + c - 1) / c := Int.ediv_nonneg (by omega) (by omega)
  have q1 : (t + c - 1) / c ≤ t + c - 1 := Int.ediv_le_self _ (by omega)
  generalize (t + c - 1) / c = q at q0 q1 ⊢
  have e2 : ((2 ^ 300 : Nat) : Int) = 2 ^ 300 := by norm_cast
  split <;> omega
/-- drawn rows: drawn values, their numbers not too long -/
def smallV : V → Prop
  | .int i => i.natAbs < 10 ^ 58
  | _ => True
def RV (p : Addr) (H : Hp) (v : V) : Prop := scalarV v = true ∨ ∃ a xs, v = .ref a ∧ a ≠ p ∧ (H a = some (.lst xs) ∨ H a = some (.tup xs)) ∧ (∀ x ∈ xs, scalarV x = true) ∧ ∀ x ∈ xs, smallV x
section
variable {p : Addr} {H H' : Hp} {v : V}
theorem RV.sc (h : scalarV v = true) : RV p H v := .inl h
theorem RV.lst {a : Addr} {xs : List V} (n : a ≠ p) (h : H a = some (.lst xs)) (s : ∀ x ∈ xs, scalarV x = true) (t : ∀ x ∈ xs, smallV x) : RV p H (.ref a) := .inr ⟨a, xs, rfl, n, .inl h, s, t⟩
theorem RV.tup {a : Addr} {xs : List V} (n : a ≠ p) (h : H a = some (.tup xs)) (s : ∀ x ∈ xs, scalarV x = true) (t : ∀ x ∈ xs, smallV x) : RV p H (.ref a) := .inr ⟨a, xs, rfl, n, .inr h, s, t⟩
theorem RV.ne {a : Addr} (h : RV p H (.ref a)) : a ≠ p := by
  rcases h with h | ⟨b, xs, e, n, _⟩
  · exact Bool.noConfusion h
  · cases e
    exact n
theorem RV.tsr (h : RV p H v) : TSR H v false := by
  rcases h with h | ⟨a, xs, rfl, n, h | h, s, t⟩
  · exact .flat h
  · exact .lst h
  · by_cases hl : xs.length = 2
    · obtain ⟨u, w, rfl⟩ := len2 hl
      exact .tup2 (b1 := false) (b2 := false) h (.flat (s u (by simp))) (.flat (s w (by simp)))
    · exact .tupn h hl
end
theorem tupV_K {K : PySem.W.Frag} {a : Addr} {od : Option Addr} {its : Array Value} {n : Nat} {sl : Array (Option Value)} {xs : List V} (l : K.lookup a = some ⟨.type "tuple", od, .seq its n, sl⟩) (hs : its.size ≤ sizeLine) (hv : Vals xs its.toList) : ∀ H, TupV K H a xs := fun H => ⟨seqT_K l hs hv H, .kTuple l rfl⟩
def spRow : Sp := fun vs H Q _ => ∃ p, vs = [.ref p] ∧ Pool H p ∧ ∀ v H', RV p H' v → Pool H' p → Kp p H H' → Q v H'
theorem use_row {p : Addr} {H : Hp} {Q : VK} {E : XK} (h : Pool H p) (q : ∀ v H', RV p H' v → Pool H' p → Kp p H H' → Q v H') : spRow ([.ref p] ++ []) H Q E := ⟨p, rfl, h, q⟩
section
variable {K : PySem.W.Frag} {σ : L2.St} {H : Hp} {Q : VK}
theorem rd_bits {te : TE} (h : te σ H fun x H1 => ∃ i, x = .int i ∧ Q (.int (Builtin.Int.intBits i : Nat)) H1) : tBits te σ H Q := h
end
end Z
namespace Z
open PySem PySem.Spec PyProof.Rows L2
/-- joints: place, width, shape -/
abbrev Jo := Nat × Nat × Nat
/-- the steps of a folding: shape, left, right -/
def prs1 (j : Jo) (i : Nat) : List (Nat × Nat × Nat) := (List.range i).map fun i => (j.2.2, j.1 - 1 - i, j.1 + i)
def prs (js : List Jo) : List (Nat × Nat × Nat) := js.flatMap fun j => prs1 j j.2.1
def stp (f : Int → Int → Int → Int × Int) (xs : List Int) (t : Nat × Nat × Nat) : List Int := (xs.set t.2.1 (f t.1 (xs.getD t.2.1 0) (xs.getD t.2.2 0)).1).set t.2.2 (f t.1 (xs.getD t.2.1 0) (xs.getD t.2.2 0)).2
def turnL (f : Int → Int → Int → Int × Int) (xs : List Int) (js : List Jo) : List Int := (prs js).foldl (stp f) xs
/-- the joints have room: behind the place b of a joint of the width wb, in a list of n values -/
def Rm (n : Nat) : Nat → Nat → List Jo → Prop
  | _, _, [] => True
  | b, wb, j :: r => b < j.1 ∧ j.1 < n ∧ b + wb + j.2.1 ≤ j.1 ∧ j.1 + j.2.1 ≤ n ∧ j.2.1 ≤ 8 ∧ j.2.2 ≤ 3 ∧ (j.2.1 = 0 → j.2.2 = 0) ∧ Rm n j.1 j.2.1 r
/-- triples apart -/
def Ap (n : Nat) (ts : List (Nat × Nat × Nat)) : Prop := (∀ t ∈ ts, t.2.1 < n ∧ t.2.2 < n ∧ t.2.1 ≠ t.2.2) ∧ ts.Pairwise fun t u => t.2.1 ≠ u.2.1 ∧ t.2.1 ≠ u.2.2 ∧ t.2.2 ≠ u.2.1 ∧ t.2.2 ≠ u.2.2
theorem stp_length {f : Int → Int → Int → Int × Int} {xs : List Int} {t : Nat × Nat × Nat} : (stp f xs t).length = xs.length := by simp [stp]
theorem foldl_length {f : Int → Int → Int → Int × Int} : ∀ (ts : List (Nat × Nat × Nat)) (xs : List Int), (ts.foldl (stp f) xs).length = xs.length
  | [], _ => rfl
  | t :: r, xs => by rw [List.foldl_cons, foldl_length r, stp_length]
theorem turnL_length {f : Int → Int → Int → Int × Int} {xs : List Int} {js : List Jo} : (turnL f xs js).length = xs.length := foldl_length _ _
theorem stp_out {f : Int → Int → Int → Int × Int} {xs : List Int} {t : Nat × Nat × Nat} {k : Nat} (h1 : t.2.1 ≠ k) (h2 : t.2.2 ≠ k) : (stp f xs t)[k]? = xs[k]? := by
  unfold stp
  rw [List.getElem?_set_ne h2, List.getElem?_set_ne h1]
theorem get_out {f : Int → Int → Int → Int × Int} : ∀ (ts : List (Nat × Nat × Nat)) (xs : List Int) (k : Nat), (∀ t ∈ ts, t.2.1 ≠ k ∧ t.2.2 ≠ k) → (ts.foldl (stp f) xs)[k]? = xs[k]?
  | [], _, _, _ => rfl
  | t :: r, xs, k, h => by
    rw [List.foldl_cons, get_out r _ k fun u hu => h u (List.mem_cons_of_mem _ hu), stp_out (h t List.mem_cons_self).1 (h t List.mem_cons_self).2]
theorem getD_of {xs ys : List Int} {k : Nat} (h : xs[k]? = ys[k]?) : xs.getD k 0 = ys.getD k 0 := by
  rw [List.getD_eq_getElem?_getD, List.getD_eq_getElem?_getD, h]
theorem get_in {f : Int → Int → Int → Int × Int} {n : Nat} : ∀ (ts : List (Nat × Nat × Nat)) (xs : List Int), xs.length = n → Ap n ts → ∀ t ∈ ts,
    (ts.foldl (stp f) xs)[t.2.1]? = some (f t.1 (xs.getD t.2.1 0) (xs.getD t.2.2 0)).1 ∧ (ts.foldl (stp f) xs)[t.2.2]? = some (f t.1 (xs.getD t.2.1 0) (xs.getD t.2.2 0)).2
  | [], _, _, _, t, h => absurd h List.not_mem_nil
  | u :: r, xs, hn, ⟨h1, h2⟩, t, ht => by
    obtain ⟨h3, h4⟩ := List.pairwise_cons.mp h2
    have hu := h1 u List.mem_cons_self
    rw [List.foldl_cons]
    rcases List.mem_cons.mp ht with rfl | ht
    · rw [get_out r _ _ fun v hv => ⟨(h3 v hv).1.symm, (h3 v hv).2.1.symm⟩, get_out r _ _ fun v hv => ⟨(h3 v hv).2.2.1.symm, (h3 v hv).2.2.2.symm⟩]
      unfold stp
      refine ⟨?_, ?_⟩
      · rw [List.getElem?_set_ne (Ne.symm hu.2.2), List.getElem?_set_self (by omega)]
      · rw [List.getElem?_set_self (by rw [List.length_set]; omega)]
    · have ih := get_in (f := f) r (stp f xs u) (by rw [stp_length, hn]) ⟨fun v hv => h1 v (List.mem_cons_of_mem _ hv), h4⟩ t ht
      have a := h3 t ht
      rw [getD_of (stp_out (f := f) (xs := xs) a.1 a.2.2.1), getD_of (stp_out (f := f) (xs := xs) a.2.1 a.2.2.2)] at ih
      exact ih
theorem prs_snoc (js : List Jo) (j : Jo) : prs (js ++ [j]) = prs js ++ prs1 j j.2.1 := by simp [prs]
theorem prs1_succ (j : Jo) (i : Nat) : prs1 j (i + 1) = prs1 j i ++ [(j.2.2, j.1 - 1 - i, j.1 + i)] := by simp [prs1, List.range_succ]
theorem mem_prs1 {j : Jo} {i : Nat} {t : Nat × Nat × Nat} : t ∈ prs1 j i ↔ ∃ k, k < i ∧ t = (j.2.2, j.1 - 1 - k, j.1 + k) := by
  simp only [prs1, List.mem_map, List.mem_range]
  exact ⟨fun ⟨k, h, e⟩ => ⟨k, h, e.symm⟩, fun ⟨k, h, e⟩ => ⟨k, h, e.symm⟩⟩
/-- each step lies within its joint's room -/
theorem rm_mem {n : Nat} : ∀ (js : List Jo) (b wb : Nat), Rm n b wb js → ∀ t ∈ prs js, b + wb ≤ t.2.1 ∧ t.2.1 < t.2.2 ∧ t.2.2 < n
  | [], _, _, _, t, h => absurd h List.not_mem_nil
  | j :: r, b, wb, ⟨a1, a2, a3, a4, a5, a6, a7, a8⟩, t, h => by
    have e : prs (j :: r) = prs1 j j.2.1 ++ prs r := by simp [prs]
    rw [e] at h
    rcases List.mem_append.mp h with h | h
    · obtain ⟨k, hk, rfl⟩ := mem_prs1.mp h
      dsimp only
      omega
    · have := rm_mem r j.1 j.2.1 a8 t h
      omega
theorem rm_ap {n : Nat} : ∀ (js : List Jo) (b wb : Nat), Rm n b wb js → Ap n (prs js)
  | [], _, _, _ => ⟨fun t h => absurd h List.not_mem_nil, List.Pairwise.nil⟩
  | j :: r, b, wb, h => by
    have hm := rm_mem (j :: r) b wb h
    refine ⟨fun t ht => ?_, ?_⟩
    · have := hm t ht
      omega
    · obtain ⟨a1, a2, a3, a4, a5, a6, a7, a8⟩ := h
      have e : prs (j :: r) = prs1 j j.2.1 ++ prs r := by simp [prs]
      rw [e]
      refine List.pairwise_append.mpr ⟨?_, (rm_ap r j.1 j.2.1 a8).2, fun t ht u hu => ?_⟩
      · unfold prs1
        refine List.pairwise_map.mpr (List.Pairwise.imp_of_mem (fun {x y} hx hy hxy => ?_) (List.nodup_range))
        have hx' := List.mem_range.mp hx
        have hy' := List.mem_range.mp hy
        dsimp only
        omega
      · obtain ⟨k, hk, rfl⟩ := mem_prs1.mp ht
        have := rm_mem r j.1 j.2.1 a8 u hu
        dsimp only
        omega
/-- the place that is folded with a place -/
def prt : List Jo → Nat → Option Nat
  | [], _ => none
  | j :: r, k => if j.1 ≤ k + j.2.1 ∧ k < j.1 + j.2.1 then some (2 * j.1 - 1 - k) else prt r k
theorem prt_none : ∀ (js : List Jo) (k : Nat), prt js k = none → (∀ j ∈ js, j.2.1 ≤ j.1) → ∀ t ∈ prs js, t.2.1 ≠ k ∧ t.2.2 ≠ k
  | [], _, _, _, t, h => absurd h List.not_mem_nil
  | j :: r, k, hp, hw, t, h => by
    have e : prs (j :: r) = prs1 j j.2.1 ++ prs r := by simp [prs]
    rw [e] at h
    unfold prt at hp
    split at hp
    · cases hp
    · rename_i c
      rcases List.mem_append.mp h with h | h
      · obtain ⟨i, hi, rfl⟩ := mem_prs1.mp h
        have := hw j List.mem_cons_self
        dsimp only
        omega
      · exact prt_none r k hp (fun j hj => hw j (List.mem_cons_of_mem _ hj)) t h
theorem prt_some : ∀ (js : List Jo) (k m : Nat), prt js k = some m → (∀ j ∈ js, j.2.1 ≤ j.1 ∧ 0 < j.1) → ∃ t ∈ prs js, (t.2.1 = k ∧ t.2.2 = m) ∨ (t.2.2 = k ∧ t.2.1 = m)
  | [], _, _, h, _ => by cases h
  | j :: r, k, m, hp, hw => by
    have e : prs (j :: r) = prs1 j j.2.1 ++ prs r := by simp [prs]
    have hj := hw j List.mem_cons_self
    unfold prt at hp
    split at hp
    · rename_i c
      have em := Option.some.inj hp
      by_cases c2 : k < j.1
      · refine ⟨(j.2.2, j.1 - 1 - (j.1 - 1 - k), j.1 + (j.1 - 1 - k)), by rw [e]; exact List.mem_append_left _ (mem_prs1.mpr ⟨j.1 - 1 - k, by omega, rfl⟩), .inl ⟨?_, ?_⟩⟩
        · dsimp only; omega
        · dsimp only; omega
      · refine ⟨(j.2.2, j.1 - 1 - (k - j.1), j.1 + (k - j.1)), by rw [e]; exact List.mem_append_left _ (mem_prs1.mpr ⟨k - j.1, by omega, rfl⟩), .inr ⟨?_, ?_⟩⟩
        · dsimp only; omega
        · dsimp only; omega
    · obtain ⟨t, ht, q⟩ := prt_some r k m hp fun j hj => hw j (List.mem_cons_of_mem _ hj)
      exact ⟨t, by rw [e]; exact List.mem_append_right _ ht, q⟩
theorem rm_all {n : Nat} : ∀ (js : List Jo) (b wb : Nat), Rm n b wb js → ∀ j ∈ js, j.2.1 ≤ j.1 ∧ 0 < j.1
  | [], _, _, _, j, h => absurd h List.not_mem_nil
  | k :: r, b, wb, ⟨a1, a2, a3, a4, a5, a6, a7, a8⟩, j, h => by
    rcases List.mem_cons.mp h with rfl | h
    · omega
    · exact rm_all r k.1 k.2.1 a8 j h
theorem turn_none {f : Int → Int → Int → Int × Int} {n k : Nat} {xs : List Int} {js : List Jo} (h : Rm n 0 0 js) (hp : prt js k = none) : (turnL f xs js)[k]? = xs[k]? :=
  get_out _ _ _ (prt_none js k hp fun j hj => (rm_all js 0 0 h j hj).1)
/-- the joint before the i-th one -/
def bef (b wb : Nat) : List Jo → Nat → Nat × Nat
  | _, 0 => (b, wb)
  | [], _ + 1 => (0, 0)
  | j :: r, i + 1 => bef j.1 j.2.1 r i
theorem rm_at {n : Nat} : ∀ (js : List Jo) (b wb : Nat), Rm n b wb js → ∀ (i : Nat) (j : Jo), js[i]? = some j → (bef b wb js i).1 < j.1 ∧ j.1 < n ∧ (bef b wb js i).1 + (bef b wb js i).2 + j.2.1 ≤ j.1 ∧ j.1 + j.2.1 ≤ n ∧ j.2.1 ≤ 8 ∧ j.2.2 ≤ 3 ∧ (j.2.1 = 0 → j.2.2 = 0)
  | [], _, _, _, i, j, h => by simp at h
  | k :: r, b, wb, ⟨a1, a2, a3, a4, a5, a6, a7, a8⟩, 0, j, h => by
    have e : k = j := Option.some.inj h
    subst e
    exact ⟨a1, a2, a3, a4, a5, a6, a7⟩
  | k :: r, b, wb, ⟨a1, a2, a3, a4, a5, a6, a7, a8⟩, i + 1, j, h => rm_at r k.1 k.2.1 a8 i j h
theorem bef_succ : ∀ (js : List Jo) (b wb i : Nat) (j : Jo), js[i]? = some j → bef b wb js (i + 1) = (j.1, j.2.1)
  | [], _, _, i, j, h => by simp at h
  | k :: r, b, wb, 0, j, h => by
    have e : k = j := Option.some.inj h
    subst e
    cases r <;> rfl
  | k :: r, b, wb, i + 1, j, h => bef_succ r k.1 k.2.1 i j h
def JsAt (H : Hp) (vs : List V) (js : List Jo) : Prop := vs.length = js.length ∧ ∀ (i : Nat) (v : V), vs[i]? = some v → ∃ (j : Jo) (a q : Addr), js[i]? = some j ∧ v = .ref a ∧ H a = some (.tup [.int (j.1 : Nat), .ref q]) ∧ H q = some (.tup [.int (j.2.1 : Nat), .int (j.2.2 : Nat)])
theorem JsAt.kp {p : Addr} {H H' : Hp} {vs : List V} {js : List Jo} (k : Kp p H H') (hp : ∃ xs, H p = some (.lst xs)) (h : JsAt H vs js) : JsAt H' vs js := ⟨h.1, fun i v e => by
  obtain ⟨j, a, q, e1, e2, e3, e4⟩ := h.2 i v e
  obtain ⟨xs, hp⟩ := hp
  exact ⟨j, a, q, e1, e2, k _ _ (fun z => by rw [z, hp] at e3; cases e3) e3, k _ _ (fun z => by rw [z, hp] at e4; cases e4) e4⟩⟩
theorem JsAt.same {H H' : Hp} {vs : List V} {js : List Jo} (k : Same H H') (h : JsAt H vs js) : JsAt H' vs js := ⟨h.1, fun i v e => by
  obtain ⟨j, a, q, e1, e2, e3, e4⟩ := h.2 i v e
  exact ⟨j, a, q, e1, e2, k _ _ e3, k _ _ e4⟩⟩
theorem jt_ok {j : Jo} (h1 : j.2.1 ≤ 8) (h2 : j.2.2 ≤ 3) (h3 : j.2.1 = 0 → j.2.2 = 0) : jt (.int (j.2.1 : Nat)) (.int (j.2.2 : Nat)) = true := by
  show (decide _ && (decide _ && (decide _ || decide _))) = true
  rw [decide_eq_true (by omega), decide_eq_true (by omega)]
  by_cases h : j.2.1 = 0
  · rw [h3 h, h]; rfl
  · rw [decide_eq_true (show (0 : Int) < (j.2.1 : Nat) by omega)]; rfl
def spSound : Sp := fun vs H Q _ => ∃ (a : Addr) (ns : List Int), vs = [.ref a] ∧ H a = some (.lst (ns.map V.int)) ∧ ∀ H', Same H H' → Q .non H'
theorem use_sound {a : Addr} {ns : List Int} {H : Hp} {Q : VK} {E : XK} (h : H a = some (.lst (ns.map V.int))) (q : ∀ H', Same H H' → Q .non H') : spSound ([.ref a] ++ []) H Q E := ⟨a, ns, rfl, h, q⟩
def spPlaced : Sp := fun vs H Q _ => ∃ (a q : Addr) (j : Jo), vs = [.ref a] ∧ H a = some (.tup [.int (j.1 : Nat), .ref q]) ∧ H q = some (.tup [.int (j.2.1 : Nat), .int (j.2.2 : Nat)]) ∧ j.2.1 ≤ 8 ∧ j.2.2 ≤ 3 ∧ (j.2.1 = 0 → j.2.2 = 0) ∧ Q (.bl true) H
def spRoom : Sp := fun vs H Q _ => ∃ (a q : Addr) (j : Jo) (b wb n : Nat), vs = [.ref a, .int (b : Nat), .int (wb : Nat), .int (n : Nat)] ∧ H a = some (.tup [.int (j.1 : Nat), .ref q]) ∧ H q = some (.tup [.int (j.2.1 : Nat), .int (j.2.2 : Nat)]) ∧ b < j.1 ∧ j.1 < n ∧ b + wb + j.2.1 ≤ j.1 ∧ j.1 + j.2.1 ≤ n ∧ Q (.bl true) H
def spJoints : Sp := fun vs H Q _ => ∃ (a : Addr) (refs : List V) (js : List Jo) (n : Nat), vs = [.ref a, .int (n : Nat)] ∧ H a = some (.lst refs) ∧ JsAt H refs js ∧ Rm n 0 0 js ∧ ∀ H', Same H H' → Q .non H'
theorem use_joints {a : Addr} {refs : List V} {js : List Jo} {n : Nat} {H : Hp} {Q : VK} {E : XK} (h1 : H a = some (.lst refs)) (h2 : JsAt H refs js) (h3 : Rm n 0 0 js) (q : ∀ H', Same H H' → Q .non H') : spJoints ([.ref a, .int (n : Nat)] ++ []) H Q E := ⟨a, refs, js, n, rfl, h1, h2, h3, q⟩
def spTurned (f : Int → Int → Int → Int × Int) (g : Addr) : Sp := fun vs H Q _ => ∃ (a b : Addr) (xs : List Int) (refs : List V) (js : List Jo), vs = [.ref a, .ref b, .ref g] ∧ H a = some (.lst (xs.map V.int)) ∧ H b = some (.lst refs) ∧ JsAt H refs js ∧ Rm xs.length 0 0 js ∧ xs.length ≤ 10000 ∧
  ∀ p H', H p = none → Same H H' → H' p = some (.lst ((turnL f xs js).map V.int)) → Q (.ref p) H'
def spFolds (f : Int → Int → Int → Int × Int) : Sp := fun vs H Q _ => ∃ (a b : Addr) (xs : List Int) (refs : List V) (js : List Jo), vs = [.ref a, .ref b] ∧ H a = some (.lst (xs.map V.int)) ∧ H b = some (.lst refs) ∧ JsAt H refs js ∧ Rm xs.length 0 0 js ∧ xs.length ≤ 10000 ∧
  ∀ p H', H p = none → Same H H' → H' p = some (.lst ((turnL f xs js).map V.int)) → Q (.ref p) H'
theorem use_folds {f : Int → Int → Int → Int × Int} {a b : Addr} {xs : List Int} {refs : List V} {js : List Jo} {H : Hp} {Q : VK} {E : XK} (h1 : H a = some (.lst (xs.map V.int))) (h2 : H b = some (.lst refs)) (h3 : JsAt H refs js) (h4 : Rm xs.length 0 0 js) (h5 : xs.length ≤ 10000)
    (q : ∀ p H', H p = none → Same H H' → H' p = some (.lst ((turnL f xs js).map V.int)) → Q (.ref p) H') : spFolds f ([.ref a, .ref b] ++ []) H Q E := ⟨a, b, xs, refs, js, rfl, h1, h2, h3, h4, h5, q⟩
theorem rd_callL {σ : L2.St} {H : Hp} {Q : VK} {i : Nat} {f : Addr} {sp : Sp} {dvs : List V} {E : XK} {t : TA} (e : σ[i]? = some (some (.ref f))) (h : t σ H fun vs H1 => sp (vs ++ dvs) H1 Q E) : tCallL i f sp dvs E t σ H Q := ⟨e, h⟩
theorem map_stp {f : Int → Int → Int → Int × Int} {ys : List Int} {t : Nat × Nat × Nat} : ((ys.map V.int).set t.2.1 (.int (f t.1 (ys.getD t.2.1 0) (ys.getD t.2.2 0)).1)).set t.2.2 (.int (f t.1 (ys.getD t.2.1 0) (ys.getD t.2.2 0)).2) = (stp f ys t).map V.int := by
  unfold stp
  rw [List.map_set, List.map_set]
theorem at_getD {ys : List Int} {l : Nat} {z : Int} (h : l < ys.length) (e : z = (l : Int)) : atI (ys.map V.int) z = some (.int (ys.getD l 0)) := by
  rw [e]
  refine at_ints ?_
  rw [List.getD_eq_getElem?_getD, List.getElem?_eq_getElem h]
  rfl
theorem ix_of {n l : Nat} {z : Int} (h : l < n) (e : z = (l : Int)) : ixN n z = some l := by
  rw [e]
  exact ixN_nat h
section
variable {K : PySem.W.Frag} {H : Hp} {Q : VK}
theorem isiT_lst {a t : Addr} {xs : List V} (h : H a = some (.lst xs)) (ht : H t = some (.tup [.ty "list", .ty "tuple"])) (q : Q (.bl true) H) : rIsiT K [.ref a, .ref t] H Q :=
  ⟨.ref a, t, _, .type "list", [.type "list", .type "tuple"], true, rfl, ht, .cons (.ty "list") (.cons (.ty "tuple") .nil), .base (.lst h), rfl, q⟩
end
theorem rd_appG {a : Addr} {xs : List V} {v : V} {H : Hp} {Q : VK} (h : H a = some (.lst xs)) (n : xs.length ≤ 1000) (q : Q .non (upd H a (.lst (xs ++ [v])))) : rAppend (.ref a) [v] H Q := ⟨a, _, _, rfl, rfl, h, small1000 n, q⟩
theorem JsAt.snoc {H : Hp} {vs : List V} {js : List Jo} {j : Jo} {a q : Addr} (h : JsAt H vs js) (e1 : H a = some (.tup [.int (j.1 : Nat), .ref q])) (e2 : H q = some (.tup [.int (j.2.1 : Nat), .int (j.2.2 : Nat)])) : JsAt H (vs ++ [.ref a]) (js ++ [j]) := by
  refine ⟨by simp [h.1], fun i v hv => ?_⟩
  by_cases c : i < vs.length
  · rw [List.getElem?_append_left c] at hv
    obtain ⟨j', a', q', f1, f2, f3, f4⟩ := h.2 i v hv
    exact ⟨j', a', q', by rw [List.getElem?_append_left (by rw [← h.1]; exact c)]; exact f1, f2, f3, f4⟩
  · have hi : i = vs.length := by
      have := (List.getElem?_eq_some_iff.mp hv).1
      simp at this
      omega
    subst hi
    rw [List.getElem?_append_right (Nat.le_refl _), Nat.sub_self] at hv
    have ev : V.ref a = v := Option.some.inj hv
    subst ev
    refine ⟨j, a, q, ?_, rfl, e1, e2⟩
    rw [h.1, List.getElem?_append_right (Nat.le_refl _), Nat.sub_self]
    rfl
def spLJoints : Sp := fun vs H Q _ => ∃ (p : Addr) (n : Nat), vs = [.ref p, .int (n : Nat)] ∧ Pool H p ∧ n ≤ 100 ∧ ∀ D H' refs js, H D = none → H' D = some (.lst refs) → JsAt H' refs js → Rm n 0 0 js → Pool H' p → Kp p H H' → Q (.ref D) H'
theorem use_ljoints {p : Addr} {n : Nat} {H : Hp} {Q : VK} {E : XK} (h : Pool H p) (hn : n ≤ 100) (q : ∀ D H' refs js, H D = none → H' D = some (.lst refs) → JsAt H' refs js → Rm n 0 0 js → Pool H' p → Kp p H H' → Q (.ref D) H') : spLJoints ([.ref p, .int (n : Nat)] ++ []) H Q E := ⟨p, n, rfl, h, hn, q⟩
def optV : Option Nat → V
  | some m => .int (m : Nat)
  | none => .non
def spPartner : Sp := fun vs H Q _ => ∃ (b : Addr) (refs : List V) (js : List Jo) (n k : Nat), vs = [.ref b, .int (k : Nat)] ∧ H b = some (.lst refs) ∧ JsAt H refs js ∧ Rm n 0 0 js ∧ Q (optV (prt js k)) H
theorem use_partner {b : Addr} {refs : List V} {js : List Jo} {n k : Nat} {H : Hp} {Q : VK} {E : XK} (h1 : H b = some (.lst refs)) (h2 : JsAt H refs js) (h3 : Rm n 0 0 js) (q : Q (optV (prt js k)) H) : spPartner ([.ref b, .int (k : Nat)] ++ []) H Q E := ⟨b, refs, js, n, k, rfl, h1, h2, h3, q⟩
theorem JsAt.new' {q : Addr} {H : Hp} {o : HO} {vs : List V} {js : List Jo} (n : H q = none) (h : JsAt H vs js) : JsAt (upd H q o) vs js := h.same (same_new n)
theorem JsAt.same' {H H' : Hp} {vs : List V} {js : List Jo} (s : Same H H') (h : JsAt H vs js) : JsAt H' vs js := h.same s
theorem JsAt.at' {q : Addr} {xs : List V} {H : Hp} {o : HO} {vs : List V} {js : List Jo} (n : H q = some (.lst xs)) (h : JsAt H vs js) : JsAt (upd H q o) vs js := h.kp Kp.at ⟨_, n⟩
def KpL (l : List Addr) (H H' : Hp) : Prop := ∀ a o, a ∉ l → H a = some o → H' a = some o
section
variable {l : List Addr} {p q : Addr} {H H' H1 H2 : Hp} {o : HO}
theorem KpL.refl : KpL l H H := fun _ _ _ h => h
theorem KpL.trans (a : KpL l H H1) (b : KpL l H1 H2) : KpL l H H2 := fun c o n h => b c o n (a c o n h)
theorem KpL.ofS (s : Same H H') : KpL l H H' := fun a o _ h => s a o h
theorem KpL.ofK (m : p ∈ l) (k : Kp p H H') : KpL l H H' := fun a o n h => k a o (fun z => n (by rw [z]; exact m)) h
theorem KpL.new (n : H q = none) : KpL l H (upd H q o) := .ofS (same_new n)
theorem KpL.at (m : q ∈ l) : KpL l H (upd H q o) := fun a x n h => by
  have ne : a ≠ q := fun z => n (by rw [z]; exact m)
  rw [upd_ne ne]
  exact h
theorem KpL.mono {m : List Addr} (h : ∀ a ∈ l, a ∈ m) (k : KpL l H H') : KpL m H H' := fun a o n e => k a o (fun z => n (h a z)) e
theorem KpL.free (k : KpL l H H') (n : H' q = none) (m : q ∉ l) : H q = none := by
  cases e : H q with
  | none => rfl
  | some o => rw [k _ _ m e] at n; cases n
end
end Z
namespace Z
open PySem PySem.Spec PyProof.Rows L2
/-- the tuple at a, each item in a new pair -/
def IteT (K : PySem.W.Frag) (a : Addr) : It :=
  ⟨fun i H => ∃ (xs : List V) (x : V), SqT K H a xs ∧ xs[i]? = some x, fun i H v H' => ∃ T x, v = .ref T ∧ H T = none ∧ H' = upd H T (.tup [.int (i : Nat), x]) ∧ ∀ xs, SqT K H a xs → xs[i]? = some x, fun i H => ∃ xs : List V, SqT K H a xs ∧ xs.length = i⟩
def iEnumA (K : PySem.W.Frag) (ta : TA) : TI := fun σ H R => ta σ H fun vs H1 => ∃ a xs, vs = [.ref a] ∧ ((SqL K H1 a xs ∧ R (Ite K a) H1) ∨ (SqT K H1 a xs ∧ R (IteT K a) H1))
def iSeq (K : PySem.W.Frag) (tl : TE) : TI := fun σ H R => tl σ H fun x H1 => ∃ a xs, x = .ref a ∧ ((SqL K H1 a xs ∧ R (Itl K a) H1) ∨ (SqT K H1 a xs ∧ R (Itt K a) H1))
theorem pi_seq {X : Cx} {tg l : Expr} {tl : TE} (hl : PE X l tl) : PI X tg l (iSeq X.K tl) := by
  constructor
  intro pins s σ H R I h
  refine thn (hl.run pins s σ H _ I h) fun v s1 ⟨x, H1, I1, r1, q1⟩ => ?_
  obtain ⟨a, xs, ex, q1⟩ := q1
  subst ex
  cases r1
  have fr : ∀ b ∈ [s1.heap.objs.size], FpOk X pins H1 b := fun b hb => by
    rw [List.mem_singleton.mp hb]
    exact I1.fpOk (Nat.le_refl _) (I1.hok.fresh (Nat.le_refl _))
  rcases q1 with ⟨hq, q⟩ | ⟨hq, q⟩
  · obtain ⟨its, rv, p, hz⟩ := I1.list hq
    refine wpAny_pyIter_list p.isList ?_
    exact ⟨s1.heap.objs.size, [s1.heap.objs.size], _, _, H1, rfl, I1.kept (t' := s1.toks) fun b o e => Heap.get?_push_of_some _ e, turn_list a _, ⟨_, Heap.get?_push_size _ rfl, rfl, rfl⟩, fr, q⟩
  · obtain ⟨its, rv, p, hz⟩ := I1.tuple hq
    refine wpAny_pyIter_tuple (show s1.heap.IsTuple a its.toArray from p) ?_
    exact ⟨s1.heap.objs.size, [s1.heap.objs.size], _, _, H1, rfl, I1.kept (t' := s1.toks) fun b o e => Heap.get?_push_of_some _ e, turn_tuple a _, ⟨_, Heap.get?_push_size _ rfl, rfl, rfl⟩, fr, q⟩
def LT (H : Hp) (a : Addr) (xs : List V) : Prop := H a = some (.lst xs) ∨ H a = some (.tup xs)
section
variable {K : PySem.W.Frag} {σ : L2.St} {H H' : Hp} {Q : VK} {g : TG} {tb : TS} {D : Ends} {a : Addr} {xs : List V}
theorem LT.same (s : Same H H') (h : LT H a xs) : LT H' a xs := h.imp (s _ _) (s _ _)
theorem LT.same' (s : Same H H') (h : LT H a xs) : LT H' a xs := h.same s
theorem LT.new' {q : Addr} {o : HO} (n : H q = none) (h : LT H a xs) : LT (upd H q o) a xs := h.same (same_new n)
theorem LT.l (h : H a = some (.lst xs)) : LT H a xs := .inl h
theorem LT.t (h : H a = some (.tup xs)) : LT H a xs := .inr h
theorem LT.ne {q : Addr} (h : LT H a xs) (n : H q = none) : a ≠ q := by
  rcases h with h | h
  · exact ne_of_none h n
  · exact ne_of_none h n
theorem rd_lenA (h : LT H a xs) (q : Q (.int xs.length) H) : rLen K [.ref a] H Q := by
  rcases h with h | h
  · exact rd_lenL (SqL.of h) q
  · exact rd_lenT (SqT.of h) q
theorem rd_listA (h : LT H a xs) (q : ∀ l, H l = none → Q (.ref l) (upd H l (.lst xs))) : rToList K [.ref a] H Q := by
  rcases h with h | h
  · exact ⟨a, xs, rfl, .inl (SqL.of h), q⟩
  · exact ⟨a, xs, rfl, .inr (SqT.of h), q⟩
theorem isiT_lt {t : Addr} (h : LT H a xs) (ht : H t = some (.tup [.ty "list", .ty "tuple"])) (q : Q (.bl true) H) : rIsiT K [.ref a, .ref t] H Q := by
  rcases h with h | h
  · exact isiT_lst h ht q
  · exact ⟨.ref a, t, _, .type "tuple", [.type "list", .type "tuple"], true, rfl, ht, .cons (.ty "list") (.cons (.ty "tuple") .nil), .base (.tup h), rfl, q⟩
theorem rd_forEA {ts : TA} (h : ts σ H fun vs H1 => ∃ a xs, vs = [.ref a] ∧ ((SqL K H1 a xs ∧ LpW (Ite K a) g tb D σ H1) ∨ (SqT K H1 a xs ∧ LpW (IteT K a) g tb D σ H1))) : tFor (iEnumA K ts) g tb D σ H := h
theorem rd_forS {te : TE} (h : te σ H fun x H1 => ∃ a xs, x = .ref a ∧ ((SqL K H1 a xs ∧ LpW (Itl K a) g tb D σ H1) ∨ (SqT K H1 a xs ∧ LpW (Itt K a) g tb D σ H1))) : tFor (iSeq K te) g tb D σ H := h
/-- a loop over xs, a list or a tuple that stands still -/
theorem for_seqA (h : LT H a xs) (Pv : Nat → L2.St → Hp → Prop) (h0 : Pv 0 σ H) (hl : ∀ i σ H', i ≤ xs.length → Pv i σ H' → ∀ o, H a = some o → H' a = some o)
    (hs : ∀ i x σ H, xs[i]? = some x → Pv i σ H → g x σ H fun σ2 H2 => tb { D with nx := Pv (i + 1), ct := Pv (i + 1), bk := D.nx } σ2 H2) (hd : ∀ σ H, Pv xs.length σ H → D.nx σ H) :
    ∃ b ys, V.ref a = .ref b ∧ ((SqL K H b ys ∧ LpW (Itl K b) g tb D σ H) ∨ (SqT K H b ys ∧ LpW (Itt K b) g tb D σ H)) := by
  rcases h with h | h
  · exact ⟨a, xs, rfl, .inl ⟨SqL.of h, for_list (xs := xs) Pv h0 (fun i σ H' hi p => SqL.of (hl i σ H' hi p _ h)) hs hd⟩⟩
  · exact ⟨a, xs, rfl, .inr ⟨SqT.of h, for_tup (xs := xs) Pv h0 (fun i σ H' hi p => SqT.of (hl i σ H' hi p _ h)) hs hd⟩⟩
theorem rd_cut {t u : TS} (M : L2.St → Hp → Prop) (h1 : t { D with nx := M } σ H) (h2 : ∀ σ' H', M σ' H' → u D σ' H') : C8.tCut t u D σ H := ⟨M, h1, h2⟩
end
theorem getD_some {xs : List Int} {k : Nat} {z : Int} (h : xs[k]? = some z) : xs.getD k 0 = z := by rw [List.getD_eq_getElem?_getD, h]; rfl
theorem get_getD {xs : List Int} {k : Nat} (h : k < xs.length) : xs[k]? = some (xs.getD k 0) := by
  rw [List.getD_eq_getElem?_getD, List.getElem?_eq_getElem h]
  rfl
def rToTup (K : PySem.W.Frag) : List V → Hp → VK → Prop := fun xs H Q => ∃ p ys, xs = [.ref p] ∧ ((SqL K H p ys ∧ ∀ l, H l = none → Q (.ref l) (upd H l (.tup ys))) ∨ (SqT K H p ys ∧ Q (.ref p) H))
theorem cTuple {X : Cx} : CallR X (.type "tuple") (rToTup X.K) := call_tuple_of
theorem rd_tupL {K : PySem.W.Frag} {H : Hp} {Q : VK} {p : Addr} {xs : List V} (h : SqL K H p xs) (q : ∀ l, H l = none → Q (.ref l) (upd H l (.tup xs))) : rToTup K [.ref p] H Q := ⟨p, xs, rfl, .inl ⟨h, q⟩⟩
def spItemsA : Sp := fun vs H Q _ => ∃ (a : Addr) (ns : List Int), vs = [.ref a] ∧ LT H a (ns.map V.int) ∧ ∀ H', Same H H' → Q .non H'
theorem use_itemsA {a : Addr} {ns : List Int} {H : Hp} {Q : VK} {E : XK} (h : LT H a (ns.map V.int)) (q : ∀ H', Same H H' → Q .non H') : spItemsA ([.ref a] ++ []) H Q E := ⟨a, ns, rfl, h, q⟩
def spSoundA : Sp := spItemsA
theorem use_soundA {a : Addr} {ns : List Int} {H : Hp} {Q : VK} {E : XK} (h : LT H a (ns.map V.int)) (q : ∀ H', Same H H' → Q .non H') : spSoundA ([.ref a] ++ []) H Q E := ⟨a, ns, rfl, h, q⟩
def spFoldsA (f : Int → Int → Int → Int × Int) : Sp := fun vs H Q _ => ∃ (a b : Addr) (xs : List Int) (refs : List V) (js : List Jo), vs = [.ref a, .ref b] ∧ LT H a (xs.map V.int) ∧ LT H b refs ∧ JsAt H refs js ∧ Rm xs.length 0 0 js ∧ xs.length ≤ 10000 ∧
  ∀ p H', H p = none → Same H H' → H' p = some (.lst ((turnL f xs js).map V.int)) → Q (.ref p) H'
theorem use_foldsA {f : Int → Int → Int → Int × Int} {a b : Addr} {xs : List Int} {refs : List V} {js : List Jo} {H : Hp} {Q : VK} {E : XK} (h1 : LT H a (xs.map V.int)) (h2 : LT H b refs) (h3 : JsAt H refs js) (h4 : Rm xs.length 0 0 js) (h5 : xs.length ≤ 10000)
    (q : ∀ p H', H p = none → Same H H' → H' p = some (.lst ((turnL f xs js).map V.int)) → Q (.ref p) H') : spFoldsA f ([.ref a, .ref b] ++ []) H Q E := ⟨a, b, xs, refs, js, rfl, h1, h2, h3, h4, h5, q⟩
theorem use_foldsAK {f : Int → Int → Int → Int × Int} {a b : Addr} {xs : List Int} {refs : List V} {js : List Jo} {H : Hp} {Q : VK} {E : XK} (h1 : LT H a (xs.map V.int)) (h2 : LT H b refs) (h3 : JsAt H refs js) (h4 : Rm xs.length 0 0 js) (h5 : xs.length ≤ 10000)
    (q : ∀ p H', H p = none → Same H H' → H' p = some (.lst ((turnL f xs js).map V.int)) → Q (.ref p) H') : spFoldsA f (kg 0 2 [1, 0] [] [.ref b, .ref a]) H Q E := ⟨a, b, xs, refs, js, rfl, h1, h2, h3, h4, h5, q⟩
end Z
namespace Z
open PySem PySem.Spec PyProof.Rows L2
/-- the last k binary digits of u, as signs -/
def lowB (u : Nat) : Nat → List Nat
  | 0 => []
  | k + 1 => lowB (u / 2) k ++ [48 + u % 2]
/-- the number of signs -/
def valB (l : List Nat) : Nat := l.foldl (fun a c => 2 * a + (c - 48)) 0
theorem lowB_length (u : Nat) : ∀ k, (lowB u k).length = k
  | 0 => rfl
  | k + 1 => by
    show (lowB (u / 2) k ++ [48 + u % 2]).length = k + 1
    rw [List.length_append, lowB_length (u / 2) k]
    rfl
theorem lowB_bin : ∀ (k u : Nat), ∀ c ∈ lowB u k, c = 48 ∨ c = 49
  | 0, _, c, h => absurd h List.not_mem_nil
  | k + 1, u, c, h => by
    rcases List.mem_append.mp h with h | h
    · exact lowB_bin k (u / 2) c h
    · rw [List.mem_singleton.mp h]
      omega
theorem valB_snoc (l : List Nat) (c : Nat) : valB (l ++ [c]) = 2 * valB l + (c - 48) := by
  unfold valB
  rw [List.foldl_append]
  rfl
theorem valB_lowB : ∀ k u : Nat, valB (lowB u k) = u % 2 ^ k
  | 0, u => by
    show 0 = u % 1
    omega
  | k + 1, u => by
    show valB (lowB (u / 2) k ++ [48 + u % 2]) = _
    rw [valB_snoc, valB_lowB k (u / 2), Nat.pow_succ, Nat.mul_comm (2 ^ k) 2, Nat.mod_mul]
    omega
/-- how many binary digits -/
def nb (u : Nat) : Nat := if u = 0 then 1 else Nat.log2 u + 1
theorem nb_half {u : Nat} (h : 2 ≤ u) : nb u = nb (u / 2) + 1 := by
  unfold nb
  rw [if_neg (by omega), if_neg (by omega), Nat.log2_def, if_pos h]
theorem nb_lt (u : Nat) : u < 2 ^ nb u := by
  unfold nb
  split
  · omega
  · exact Nat.lt_log2_self
theorem nb_le {u : Nat} (h : u ≠ 0) : 2 ^ (nb u - 1) ≤ u := by
  unfold nb
  rw [if_neg h]
  exact Nat.log2_self_le h
/-- the binary digits, as Python writes them -/
def binB (u : Nat) : List Nat := lowB u (nb u)
theorem toD_two : ∀ u : Nat, (Nat.toDigits 2 u).map Char.toNat = binB u := by
  intro u
  induction u using Nat.strongRecOn with
  | _ u ih =>
    by_cases h : u < 2
    · rcases (show u = 0 ∨ u = 1 by omega) with rfl | rfl
      · decide
      · decide
    · have e : Nat.toDigits 2 u = Nat.toDigits 2 (u / 2) ++ [Nat.digitChar (u % 2)] := by
        have := Nat.toDigits_append_toDigits (b := 2) (n := u / 2) (d := u % 2) (by omega) (by omega) (by omega)
        rw [Nat.div_add_mod] at this
        rw [← this]
        congr 1
        exact Nat.toDigits_of_lt_base (by omega)
      rw [e, List.map_append, ih (u / 2) (by omega)]
      unfold binB
      rw [nb_half (u := u) (by omega)]
      show _ = lowB (u / 2) (nb (u / 2)) ++ [48 + u % 2]
      congr 1
      rcases (show u % 2 = 0 ∨ u % 2 = 1 by omega) with e | e
      · rw [e]; rfl
      · rw [e]; rfl
theorem lowB_drop (a : Nat) : ∀ (k u : Nat), (lowB u (a + k)).drop a = lowB u k
  | 0, u => List.drop_eq_nil_of_le (by rw [lowB_length]; exact Nat.le_refl _)
  | k + 1, u => by
    show (lowB (u / 2) (a + k) ++ [48 + u % 2]).drop a = lowB (u / 2) k ++ [48 + u % 2]
    rw [List.drop_append_of_le_length (by rw [lowB_length]; omega), lowB_drop a k (u / 2)]
theorem lowB_zero : ∀ a : Nat, lowB 0 a = List.replicate a 48
  | 0 => rfl
  | a + 1 => by
    show lowB 0 a ++ [48] = _
    rw [lowB_zero a, List.replicate_succ']
theorem lowB_big (a : Nat) : ∀ (j u : Nat), u < 2 ^ j → lowB u (a + j) = List.replicate a 48 ++ lowB u j
  | 0, u, h => by
    have e : u = 0 := by have : (2 : Nat) ^ 0 = 1 := rfl; omega
    subst e
    rw [lowB_zero]
    exact (List.append_nil _).symm
  | j + 1, u, h => by
    show lowB (u / 2) (a + j) ++ [48 + u % 2] = List.replicate a 48 ++ (lowB (u / 2) j ++ [48 + u % 2])
    rw [lowB_big a j (u / 2) (by rw [Nat.pow_succ] at h; omega), List.append_assoc]
theorem lowB_front : ∀ (k u : Nat), lowB u (k + 1) = (48 + u / 2 ^ k % 2) :: lowB u k
  | 0, u => by
    show [] ++ [48 + u % 2] = [48 + u / 1 % 2]
    rw [Nat.div_one]
    rfl
  | k + 1, u => by
    show lowB (u / 2) (k + 1) ++ [48 + u % 2] = (48 + u / 2 ^ (k + 1) % 2) :: (lowB (u / 2) k ++ [48 + u % 2])
    rw [lowB_front k (u / 2), Nat.div_div_eq_div_mul, Nat.pow_succ, Nat.mul_comm 2 (2 ^ k)]
    rfl
theorem nb_min {u j : Nat} (h : u < 2 ^ j) (hj : 1 ≤ j) : nb u ≤ j := by
  by_cases e : u = 0
  · unfold nb
    rw [if_pos e]
    exact hj
  · have h1 := nb_le e
    have h2 : 2 ^ (nb u - 1) < 2 ^ j := Nat.lt_of_le_of_lt h1 h
    have h3 := (Nat.pow_lt_pow_iff_right (by decide : 1 < 2)).mp h2
    omega
theorem nb_pos (u : Nat) : 1 ≤ nb u := by
  unfold nb
  split <;> omega
theorem binB_length (u : Nat) : (binB u).length = nb u := lowB_length _ _
/-- the last k signs of the digits, filled up with zeros -/
theorem low_fill (u k : Nat) : ((if k ≤ nb u then binB u else List.replicate (k - nb u) 48 ++ binB u).drop ((if k ≤ nb u then binB u else List.replicate (k - nb u) 48 ++ binB u).length - k)) = lowB u k := by
  by_cases h : k ≤ nb u
  · rw [if_pos h, binB_length]
    have e := lowB_drop (nb u - k) k u
    rw [Nat.sub_add_cancel h] at e
    exact e
  · rw [if_neg h, List.length_append, List.length_replicate, binB_length, show k - nb u + nb u - k = 0 by omega, List.drop_zero]
    have e := lowB_big (k - nb u) (nb u) u (nb_lt u)
    rw [show k - nb u + nb u = k by omega] at e
    exact e.symm
/-- the bits of a code number -/
def encB (u k : Nat) : List Nat := if u / 2 ^ k < 20 then List.replicate (u / 2 ^ k) 49 ++ [48] ++ lowB u k else List.replicate (19 + nb u) 49 ++ [48] ++ binB u
theorem encB_len (u k : Nat) : (encB u k).length ≤ 21 + k + 2 * nb u := by
  unfold encB
  split
  · rw [List.length_append, List.length_append, List.length_replicate, lowB_length]
    show _ + 1 + k ≤ _
    omega
  · rw [List.length_append, List.length_append, List.length_replicate, binB_length]
    show _ + 1 + _ ≤ _
    omega
theorem encB_bin (u k : Nat) : ∀ c ∈ encB u k, c = 48 ∨ c = 49 := by
  intro c h
  unfold encB at h
  split at h
  · rcases List.mem_append.mp h with h | h
    · rcases List.mem_append.mp h with h | h
      · exact .inr (List.eq_of_mem_replicate h)
      · exact .inl (List.mem_singleton.mp h)
    · exact lowB_bin _ _ c h
  · rcases List.mem_append.mp h with h | h
    · rcases List.mem_append.mp h with h | h
      · exact .inr (List.eq_of_mem_replicate h)
      · exact .inl (List.mem_singleton.mp h)
    · exact lowB_bin _ _ c h
abbrev Tb := Int × Int
def tbB (t : Tb) (u : Nat) : Tb := if t.2 + 1 > 15 then ((t.1 + (u : Int)) / 2, 8) else (t.1 + (u : Int), t.2 + 1)
def uOf (n : Int) : Nat := (codeU n).toNat
theorem uOf_eq (n : Int) : ((uOf n : Nat) : Int) = codeU n := by
  unfold uOf codeU
  split <;> omega
def wst (ns : List Int) (first : Nat) (T : Tb × Tb) : Nat → List (List Nat) × (Tb × Tb)
  | 0 => ([], T)
  | i + 1 =>
    let s := wst ns first T i
    let u := uOf (ns.getD i 0)
    if i < first then (s.1 ++ [encB u (par s.2.1.1 s.2.1.2)], (tbB s.2.1 u, s.2.2)) else (s.1 ++ [encB u (par s.2.2.1 s.2.2.2)], (s.2.1, tbB s.2.2 u))
/-- a table in its limits, its total at most m -/
def TbOk (m : Int) (t : Tb) : Prop := 0 ≤ t.1 ∧ t.1 ≤ m ∧ 1 ≤ t.2 ∧ t.2 ≤ 15
theorem tbB_ok {m : Int} {t : Tb} {u : Nat} (h : TbOk m t) (hu : (u : Int) ≤ 10 ^ 56) : TbOk (m + 10 ^ 56) (tbB t u) := by
  obtain ⟨h1, h2, h3, h4⟩ := h
  unfold tbB
  split
  · refine ⟨?_, ?_, by show (1 : Int) ≤ 8; decide, by show (8 : Int) ≤ 15; decide⟩
    · show 0 ≤ (t.1 + (u : Int)) / 2
      omega
    · show (t.1 + (u : Int)) / 2 ≤ m + 10 ^ 56
      omega
  · exact ⟨by show 0 ≤ t.1 + (u : Int); omega, by show t.1 + (u : Int) ≤ m + 10 ^ 56; omega, by show 1 ≤ t.2 + 1; omega, by show t.2 + 1 ≤ 15; omega⟩
theorem TbOk.mono {m n : Int} {t : Tb} (h : TbOk m t) (e : m ≤ n) : TbOk n t := ⟨h.1, Int.le_trans h.2.1 e, h.2.2⟩
theorem uOf_le {n : Int} (h : n.natAbs < 10 ^ 55) : ((uOf n : Nat) : Int) ≤ 10 ^ 56 := by
  rw [uOf_eq]
  unfold codeU
  split <;> omega
theorem wst_ok {ns : List Int} {first : Nat} {T : Tb × Tb} (hn : ∀ z ∈ ns, z.natAbs < 10 ^ 55) (h0 : TbOk (10 ^ 58) T.1) (h1 : TbOk (10 ^ 58) T.2) : ∀ i : Nat, i ≤ 64 → TbOk (10 ^ 58 + (i : Int) * 10 ^ 56) (wst ns first T i).2.1 ∧ TbOk (10 ^ 58 + (i : Int) * 10 ^ 56) (wst ns first T i).2.2
  | 0, _ => ⟨h0.mono (by omega), h1.mono (by omega)⟩
  | i + 1, hi => by
    obtain ⟨a, b⟩ := wst_ok (first := first) hn h0 h1 i (by omega)
    have hu : ((uOf (ns.getD i 0) : Nat) : Int) ≤ 10 ^ 56 := uOf_le (by
      rw [List.getD_eq_getElem?_getD]
      cases e : ns[i]? with
      | none => decide
      | some z => exact hn z (List.mem_of_getElem? e))
    show TbOk _ (if i < first then _ else _ : List (List Nat) × (Tb × Tb)).2.1 ∧ TbOk _ (if i < first then _ else _ : List (List Nat) × (Tb × Tb)).2.2
    by_cases c : i < first
    · rw [if_pos c]
      exact ⟨(tbB_ok a hu).mono (by push_cast; omega), b.mono (by push_cast; omega)⟩
    · rw [if_neg c]
      exact ⟨a.mono (by push_cast; omega), (tbB_ok b hu).mono (by push_cast; omega)⟩
theorem wst_len (ns : List Int) (first : Nat) (T : Tb × Tb) : ∀ i, (wst ns first T i).1.length = i
  | 0 => rfl
  | i + 1 => by
    show (if i < first then _ else _ : List (List Nat) × (Tb × Tb)).1.length = i + 1
    split
    · rw [List.length_append, wst_len ns first T i]; rfl
    · rw [List.length_append, wst_len ns first T i]; rfl
end Z
namespace Z
open PySem PySem.Spec PyProof.Rows L2
open SX (S S_len S_cat S_inj)
section
open PySem.Builtin PySem.Builtin.Str PySem.Builtin.Int PySem.Builtin.Float
def binD (n : Nat) : List Nat := (Nat.toDigits 2 n).map Char.toNat
theorem eb : Str.ofString "b" = S [98] := by rfl
theorem pad_no (D : List Nat) (h : D ≠ []) : (⟨(List.replicate (((-1 : Int) - 0 - ((if D.isEmpty then [] else List.replicate ((0 : Int).toNat - D.length) 48 ++ D : List Nat).length : Nat)).toNat) 32 ++ [] ++ [] ++ List.replicate 0 32 ++ (if D.isEmpty then [] else List.replicate ((0 : Int).toNat - D.length) 48 ++ D) ++ [] ++ List.replicate 0 32).toArray⟩ : Str) = S D := by
  have e : (if D.isEmpty then [] else List.replicate ((0 : Int).toNat - D.length) 48 ++ D : List Nat) = D := by
    cases D with
    | nil => exact absurd rfl h
    | cons c r =>
      show List.replicate (0 - _) 48 ++ c :: r = c :: r
      rw [Nat.zero_sub]
      rfl
  rw [e, show ((-1 : Int) - 0 - (D.length : Nat)).toNat = 0 by omega]
  simp
theorem binD_ne (n : Nat) : binD n ≠ [] := by
  unfold binD
  intro h
  have := List.map_eq_nil_iff.mp h
  exact absurd this Nat.toDigits_ne_nil
set_option maxHeartbeats 1000000 in
theorem fmtb_eq (n : Nat) (t u : Tok) : ∃ X, Builtin.«int.__format__» ⟨[.int (n : Int) t, .str (S [98]) u], []⟩ = retStr X ∧ X = S (binD n) := by
  refine ⟨_, rfl, ?_⟩
  exact pad_no _ (binD_ne n)
theorem gives_fmtb (n : Nat) (t u : Tok) : Gives (Builtin.«int.__format__» ⟨[.int (n : Int) t, .str (S [98]) u], []⟩) (.str (S (binD n))) := by
  obtain ⟨X, e, rfl⟩ := fmtb_eq n t u
  rw [e]
  exact .of_eq rfl
end
end Z
namespace Z
open PySem PySem.Spec PyProof.Rows L2
open SX (S S_len S_cat S_inj)
theorem S_add (a b : List Nat) : S a ++ S b = S (a ++ b) := S_cat a b
def rAddT : R2 := fun x y H Q => ∃ a b : List Nat, x = .str (S a) ∧ y = .str (S b) ∧ a.length + b.length ≤ 16777216 ∧ Q (.str (S (a ++ b))) H
theorem op_addT {X : Cx} : OpR X (binaryOp .Add) rAddT := by
  intro pins s σ H x y v u Q I rx ry h
  obtain ⟨a, b, rfl, rfl, hl, q⟩ := h
  exact op_add_str pins s σ H _ _ v u Q I rx ry ⟨S a, S b, rfl, rfl, by rw [S_len, S_len]; exact hl, by rw [S_add]; exact q⟩
theorem fold_app : ∀ (n : Nat) (a acc : Array Nat), (List.replicate n a).foldl (· ++ ·) acc = acc ++ ((List.replicate n a.toList).flatten).toArray
  | 0, a, acc => by simp
  | n + 1, a, acc => by
    rw [List.replicate_succ, List.foldl_cons, fold_app n a, List.replicate_succ, List.flatten_cons]
    refine Array.toList_inj.mp ?_
    rw [Array.toList_append, Array.toList_append, Array.toList_append, List.append_assoc]
/-- a text, so many times -/
def repL (l : List Nat) (n : Nat) : List Nat := (List.replicate n l).flatten
theorem repL_one (c n : Nat) : repL [c] n = List.replicate n c := by
  induction n with
  | zero => rfl
  | succ n ih =>
    unfold repL at ih ⊢
    rw [List.replicate_succ, List.flatten_cons, ih]
    rfl
theorem repL_length (l : List Nat) : ∀ n, (repL l n).length = n * l.length
  | 0 => by simp [repL]
  | n + 1 => by
    have ih := repL_length l n
    unfold repL at ih ⊢
    rw [List.replicate_succ, List.flatten_cons, List.length_append, ih, Nat.succ_mul, Nat.add_comm]
theorem repL_nil : ∀ n, repL [] n = []
  | 0 => rfl
  | n + 1 => by
    have ih := repL_nil n
    unfold repL at ih ⊢
    rw [List.replicate_succ, List.flatten_cons, ih]
    rfl
def rMulT : R2 := fun x y H Q => ∃ (a : List Nat) (k : Int), x = .str (S a) ∧ y = .int k ∧ -1000000 ≤ k ∧ k ≤ 1000000 ∧ a.length * k.toNat ≤ 1000000 ∧ Q (.str (S (repL a k.toNat))) H
theorem tooLong_no {n : Nat} (h : n ≤ 1000000) : Builtin.Str.tooLong n = false := by
  have z : 1000000 < sizeLine := by decide
  unfold Builtin.Str.tooLong
  first
    | exact decide_eq_false (by omega)
    | (simp; omega)
theorem op_mulT {X : Cx} : OpR X (binaryOp .Mult) rMulT := by
  intro pins s σ H x y v u Q I rx ry h
  obtain ⟨a, k, rfl, rfl, h1, h2, hl, q⟩ := h
  obtain ⟨t, rfl⟩ := rx
  obtain ⟨t', rfl⟩ := ry
  refine P.mul_str (by rw [decide_eq_false (by omega), decide_eq_false (by omega)]; rfl) (fun c _ z => ?_) (fun _ _ => tooLong_no (by rw [S_len]; exact hl)) ?_
  · have hk : (1 : Int) ≤ k := by omega
    rw [S_len] at z
    have hl2 : (a.length : Int) * k ≤ 1000000 := by
      obtain ⟨m, rfl⟩ : ∃ m : Nat, k = (m : Int) := ⟨k.toNat, by omega⟩
      rw [Int.toNat_natCast] at hl
      have z0 := Int.ofNat_le.mpr hl
      rw [Int.natCast_mul] at z0
      exact z0
    have z2 : (a.length : Int) ≤ (a.length : Int) * k := by
      have := Int.mul_le_mul_of_nonneg_left hk (show (0 : Int) ≤ a.length by omega)
      rw [Int.mul_one] at this
      exact this
    have z3 : (1000000 : Int) ≤ (2 ^ 63 - 1) / k := (Int.le_ediv_iff_mul_le (by omega)).mpr (Int.le_trans (Int.mul_le_mul_of_nonneg_left h2 (show (0 : Int) ≤ 1000000 by decide)) (by decide))
    omega
  · by_cases c : k < 1
    · rw [if_pos c]
      have e : k.toNat = 0 := by omega
      rw [e] at q
      exact ⟨by decide, ⟨.str Str.empty, H, I.tok _, ⟨_, rfl⟩, q⟩⟩
    · rw [if_neg c]
      cases d : (k == 1 || (S a).length == 0) with
      | true =>
        rw [if_pos rfl]
        have e : repL a k.toNat = a := by
          rw [Bool.or_eq_true, beq_iff_eq, beq_iff_eq, S_len] at d
          rcases d with d | d
          · rw [d]
            exact List.append_nil a
          · rw [List.length_eq_zero_iff] at d
            rw [d]
            exact repL_nil _
        rw [e] at q
        exact ⟨.str (S a), H, I, ⟨t, rfl⟩, q⟩
      | false =>
        rw [if_neg Bool.false_ne_true]
        have e : (⟨(List.replicate k.toNat (S a).cps).foldl (· ++ ·) #[]⟩ : Str) = S (repL a k.toNat) := by
          rw [fold_app]
          exact TL.ext_tl (by
            show (#[] ++ _ : Array Nat).toList = _
            rw [Array.toList_append]
            rfl)
        rw [e]
        exact ⟨by rw [S_len, repL_length, Nat.mul_comm]; exact Nat.le_trans hl (by decide), ⟨.str _, H, I.tok _, ⟨_, rfl⟩, q⟩⟩
theorem e_empty : Str.ofString "" = S [] := by rfl
theorem e_0 : Str.ofString "0" = S [48] := by rfl
theorem e_1 : Str.ofString "1" = S [49] := by rfl
theorem e_01 : Str.ofString "01" = S [48, 49] := by rfl
section
variable {X : Cx}
def tFmtB (te ts : TE) : TE := fun σ H Q => te σ H fun x H1 => ts σ H1 fun y H2 => ∃ n : Nat, x = .int (n : Int) ∧ y = .str (S [98]) ∧ nb n ≤ 16777216 ∧ Q (.str (S (binB n))) H2
theorem pe_fmtb {e spec : Expr} {te ts : TE} {pos : Pos} (he : PE X e te) (hs : PE X spec ts) : PE X (.FormattedValue e (-1) (some spec) pos) (tFmtB te ts) := by
  constructor
  intro pins s σ H Q I h
  refine wpAny_FormattedValue_spec (thn (he.run pins s σ H _ I h) fun v s1 hv => ?_)
  obtain ⟨x, H1, I1, r1, q⟩ := hv
  refine thn (hs.run pins s1 σ H1 _ I1 q) fun r s2 hr2 => ?_
  obtain ⟨y, H2, I2, r2, n, rfl, rfl, hl, q2⟩ := hr2
  obtain ⟨t, rfl⟩ := r1
  obtain ⟨t2, rfl⟩ := r2
  have hb : binD n = binB n := toD_two n
  refine ⟨S [98], t2, rfl, wpAny_formatField_spec (T := "int") rfl (fun s' => typeIs_int s' _ t) F.slot_int_format F.entry_int_format (F.args_int_format_2) (fun u => gives_fmtb n t u) ?_ (by rw [S_len]; decide) (by rw [S_len, hb, binB_length]; exact hl)⟩
  rw [hb]
  exact ⟨.str (S (binB n)), H2, I2.tok _, ⟨_, rfl⟩, q2⟩
def rZf : V → List V → Hp → VK → Prop := fun x xs H Q => ∃ (l : List Nat) (k : Nat), x = .str (S l) ∧ xs = [.int (k : Int)] ∧ k ≤ 100000 ∧ (∀ c ∈ l, c = 48 ∨ c = 49) ∧ Q (.str (S (if k ≤ l.length then l else List.replicate (k - l.length) 48 ++ l))) H
theorem zf_S {l : List Nat} {k : Nat} (h : ∀ c ∈ l, c = 48 ∨ c = 49) : Txt.zfill (S l) (k : Int) = S (if k ≤ l.length then l else List.replicate (k - l.length) 48 ++ l) := by
  unfold Txt.zfill
  by_cases c : k ≤ l.length
  · rw [if_pos c, if_pos (by rw [S_len]; omega)]
  · rw [if_neg c, if_neg (by rw [S_len]; omega), S_len, Int.toNat_natCast]
    have e : ∀ m, Builtin.Str.padded (S l) m 0 48 = S (List.replicate m 48 ++ l) := fun m => TL.ext_tl (by
      show (Array.replicate m 48 ++ l.toArray ++ Array.replicate 0 48).toList = _
      simp)
    unfold zfilled
    split
    · rename_i g
      exfalso
      cases l with
      | nil => simp [S] at g
      | cons d r =>
        have g2 : some d = some 43 := by simpa [S] using g
        have := h d List.mem_cons_self
        have := Option.some.inj g2
        omega
    · rename_i g
      exfalso
      cases l with
      | nil => simp [S] at g
      | cons d r =>
        have g2 : some d = some 45 := by simpa [S] using g
        have := h d List.mem_cons_self
        have := Option.some.inj g2
        omega
    · exact e _
theorem pad_ok {k : Nat} (h : k ≤ 100000) : PadOk (k : Int) = true := by
  unfold PadOk
  have z : (100000 : Nat) ≤ 1000000 := by decide
  rw [Int.toNat_natCast, tooLong_no (Nat.le_trans h z)]
  have e : fitsSsize (k : Int) = true := by
    unfold fitsSsize
    first
      | exact Bool.and_eq_true_iff.mpr ⟨decide_eq_true (by omega), decide_eq_true (by omega)⟩
      | (simp; omega)
  rw [e]
  rfl
theorem mt_zf : MtR X "str.zfill" rZf := by
  intro pins s σ H x xs v us Q I rx rs h
  obtain ⟨l, k, rfl, rfl, hk, hb, q⟩ := h
  exact mt_zfill pins s σ H _ _ v us Q I rx rs ⟨S l, (k : Int), rfl, rfl, pad_ok hk, by rw [zf_S hb]; exact q⟩
end
theorem joinL_flat : ∀ ys : List (List Nat), TL.joinL [] ys = ys.flatten
  | [] => rfl
  | [p] => (List.append_nil p).symm
  | p :: q :: r => by
    show p ++ ([] ++ TL.joinL [] (q :: r)) = p ++ (q :: r).flatten
    rw [joinL_flat (q :: r)]
    rfl
def rJoin (K : PySem.W.Frag) : V → List V → Hp → VK → Prop := fun x xs H Q => ∃ a p, ∃ ys : List Str, x = .str a ∧ xs = [.ref p] ∧ (SqL K H p (ys.map V.str) ∨ SqT K H p (ys.map V.str)) ∧
    (ys.map (·.length)).sum + ys.length * a.length ≤ 16777216 ∧ Q (.str (Txt.join a ys)) H
theorem mt_joinK {X : Cx} : MtR X "str.join" (rJoin X.K) := mt_join
section
variable {K : PySem.W.Frag} {σ : L2.St} {H : Hp} {Q : VK}
theorem rd_addT {a b : List Nat} {x y : Str} (e1 : x = S a) (e2 : y = S b) (hl : a.length + b.length ≤ 16777216) (h : Q (.str (S (a ++ b))) H) : rAddT (.str x) (.str y) H Q := ⟨a, b, congrArg V.str e1, congrArg V.str e2, hl, h⟩
theorem rd_mulT {c : Nat} {x : Str} {k : Nat} (e1 : x = S [c]) (hl : k ≤ 1000000) (h : Q (.str (S (List.replicate k c))) H) : rMulT (.str x) (.int (k : Int)) H Q :=
  ⟨[c], (k : Int), congrArg V.str e1, rfl, by omega, by omega, by rw [Int.toNat_natCast]; show 1 * k ≤ _; omega, by rw [Int.toNat_natCast, repL_one]; exact h⟩
theorem rd_lenS {l : List Nat} (hl : l.length ≤ 16777216) (h : Q (.int (l.length : Nat)) H) : rLen K [.str (S l)] H Q := ⟨.str (S l), l.length, rfl, ⟨by rw [S_len]; exact hl, (S_len l).symm⟩, h⟩
theorem rd_zf {l : List Nat} {k : Nat} (hk : k ≤ 100000) (hb : ∀ c ∈ l, c = 48 ∨ c = 49) (h : Q (.str (S (if k ≤ l.length then l else List.replicate (k - l.length) 48 ++ l))) H) : rZf (.str (S l)) [.int (k : Int)] H Q := ⟨l, k, rfl, rfl, hk, hb, h⟩
theorem rd_slSF {l : List Nat} {k : Nat} (hl : l.length ≤ 16777216) (h : Q (.str (S (l.drop k))) H) : C8.rSlX (.str (S l)) (some (k : Int)) none H Q := ⟨S l, rfl, by rw [S_len]; exact hl, by rw [SX.slice_from (by omega), Int.toNat_natCast]; exact h⟩
theorem rd_slST {l : List Nat} {k : Nat} (hl : l.length ≤ 16777216) (h : Q (.str (S (l.take k))) H) : C8.rSlX (.str (S l)) none (some (k : Int)) H Q := ⟨S l, rfl, by rw [S_len]; exact hl, by rw [SX.slice_to (by omega), Int.toNat_natCast]; exact h⟩
theorem rd_joinS {p : Addr} {ls : List (List Nat)} {x : Str} (e : x = S []) (hp : SqL K H p (ls.map fun l => V.str (S l))) (hl : ls.flatten.length ≤ 16777216) (h : Q (.str (S ls.flatten)) H) : rJoin K (.str x) [.ref p] H Q := by
  refine ⟨S [], p, ls.map S, congrArg V.str e, rfl, .inl ?_, ?_, ?_⟩
  · rw [List.map_map]
    exact hp
  · rw [SX.lens]
    show _ + _ * 0 ≤ _
    rw [Nat.mul_zero, Nat.add_zero, ← List.length_flatten]
    exact hl
  · rw [SX.join_S, joinL_flat]
    exact h
theorem rd_fmtb {te ts : TE} (h : te σ H fun x H1 => ts σ H1 fun y H2 => ∃ n : Nat, x = .int (n : Int) ∧ y = .str (S [98]) ∧ nb n ≤ 16777216 ∧ Q (.str (S (binB n))) H2) : tFmtB te ts σ H Q := h
theorem rd_fmtn {n : Nat} {x : Str} {P : Nat → Prop} (e : x = S [98]) (hl : nb n ≤ 16777216) (h : P n) : ∃ m : Nat, V.int (n : Int) = .int (m : Int) ∧ V.str x = .str (S [98]) ∧ nb m ≤ 16777216 ∧ P m := ⟨n, rfl, congrArg V.str e, hl, h⟩
theorem rd_ixS {l : List Nat} {x : Str} {i c : Nat} (e : x = S l) (hl : l.length ≤ 16777216) (a : l[i]? = some c) (h : Q (.str (S [c])) H) : rIxS (.str x) (.int (i : Int)) H Q := ⟨S l, (i : Int), c, congrArg V.str e, rfl, by rw [S_len]; exact hl, atI_nat a, h⟩
theorem rd_bmS {m : V → List V → Hp → VK → Prop} {to : TE} {ts : TA} (h : to σ H fun x H1 => tyV K "str" x H1 ∧ ts σ H1 fun xs H2 => m x xs H2 Q) : tBM K "str" m to ts σ H Q := h
theorem rd_tyS {x : Str} {P : Prop} (q : P) : tyV K "str" (.str x) H ∧ P := ⟨rfl, q⟩
end
end Z
namespace Z
open PySem PySem.Spec PyProof.Rows L2
open SX (S S_len S_cat S_inj)
def WlN (Pv : Nat → L2.St → Hp → Prop) (N i : Nat) (tb : TS) (D : Ends) (σ : L2.St) (H1 : Hp) : Prop :=
  ∃ Nx : L2.St → Hp → Prop, (∀ σ' H', Nx σ' H' → ∃ m', m' < N - i ∧ ∃ j, m' = N - j ∧ j ≤ N ∧ Pv j σ' H') ∧ tb { D with nx := Nx, ct := Nx, bk := D.nx } σ H1
section
variable {c : TT} {tb : TS} {D : Ends} {σ : L2.St} {H : Hp}
theorem while_n (Pv : Nat → L2.St → Hp → Prop) (N : Nat) (h0 : Pv 0 σ H) (hs : ∀ i σ H, i ≤ N → Pv i σ H → c σ H fun b H1 => if b = true then WlN Pv N i tb D σ H1 else D.nx σ H1) : tWhile c tb D σ H := by
  refine ⟨fun m σ H => ∃ j, m = N - j ∧ j ≤ N ∧ Pv j σ H, ⟨N, 0, rfl, Nat.zero_le _, h0⟩, ?_⟩
  rintro m σ H ⟨j, rfl, hj, p⟩
  exact hs j σ H hj p
theorem while_in {Pv : Nat → L2.St → Hp → Prop} {N i : Nat} (hi : i < N) (h : tb { D with nx := Pv (i + 1), ct := Pv (i + 1), bk := D.nx } σ H) : WlN Pv N i tb D σ H :=
  ⟨Pv (i + 1), fun σ' H' p => ⟨N - (i + 1), by omega, i + 1, rfl, hi, p⟩, h⟩
end
def LK (H H' : Hp) : Prop := ∀ b o, H b = some o → (∀ xs, o ≠ .lst xs) → H' b = some o
section
variable {K : PySem.W.Frag} {H H' H1 : Hp} {a q : Addr} {xs : List V} {o : HO}
theorem LK.refl : LK H H := fun _ _ h _ => h
theorem LK.trans (h : LK H H') (k : LK H' H1) : LK H H1 := fun b o e n => k b o (h b o e n) n
theorem LK.of (s : Same H H') : LK H H' := fun b o e _ => s b o e
theorem LK.new (n : H q = none) : LK H (upd H q o) := .of (same_new n)
theorem LK.at {ys : List V} (n : H q = some (.lst ys)) : LK H (upd H q o) := fun b x e nl => by
  have nb : b ≠ q := fun z => by
    rw [z, n] at e
    exact nl ys (Option.some.inj e).symm
  rw [upd_ne nb]
  exact e
theorem LK.pool {p : Addr} (h : Pool H p) (k : Kp p H H') : LK H H' := fun b x e nl => k b x (fun z => by
  obtain ⟨y1, y2, e2, _⟩ := h
  rw [z, e2] at e
  exact nl _ (Option.some.inj e).symm) e
theorem LK.seqT (s : LK H H') (h : SqT K H a xs) : SqT K H' a xs := by
  rcases h with (h | ⟨o, h⟩) | h
  · exact .inl (.inl (s _ _ h fun _ z => nomatch z))
  · exact .inl (.inr ⟨o, s _ _ h fun _ z => nomatch z⟩)
  · exact .inr h
theorem LK.tyo {t : Value} (ht : t = .type "tuple") (s : LK H H') (h : TyOf K H (.ref a) t) : TyOf K H' (.ref a) t := by
  cases h with
  | lst e => exact absurd ht (by decide)
  | frz e => exact .frz (s _ _ e fun _ z => nomatch z)
  | tup e => exact .tup (s _ _ e fun _ z => nomatch z)
  | dK e => exact .dK (s _ _ e fun _ z => nomatch z)
  | dT e => exact .dT (s _ _ e fun _ z => nomatch z)
  | ins e cl ha hn htk hm => exact .ins (s _ _ e fun _ z => nomatch z) cl ha hn htk hm
theorem LK.tyx (s : LK H H') (h : TyX K H (.ref a) (.type "tuple")) : TyX K H' (.ref a) (.type "tuple") := by
  generalize ht : (Value.type "tuple") = t at h ⊢
  cases h with
  | base b => exact .base (s.tyo ht.symm b)
  | set e => exact .set (s _ _ e fun _ z => nomatch z)
  | kList e c => exact .kList e c
  | kTuple e c => exact .kTuple e c
  | kDict e c => exact .kDict e c
  | fTuple e => exact .fTuple (s _ _ e fun _ z => nomatch z)
  | fDict e => exact .fDict (s _ _ e fun _ z => nomatch z)
theorem TupV.lk (s : LK H H') (h : TupV K H a xs) : TupV K H' a xs := ⟨s.seqT h.1, s.tyx h.2⟩
end
def TbV (K : PySem.W.Frag) (H : Hp) (r : Addr) (t : Tb) : Prop := TupV K H r [.int t.1, .int t.2]
def TbsV (K : PySem.W.Frag) (H : Hp) (a : Addr) (T : Tb × Tb) : Prop := ∃ r0 r1, TupV K H a [.ref r0, .ref r1] ∧ TbV K H r0 T.1 ∧ TbV K H r1 T.2
section
variable {K : PySem.W.Frag} {H H' : Hp} {a p : Addr} {t : Tb} {T : Tb × Tb}
theorem TbV.lk (s : LK H H') (h : TbV K H a t) : TbV K H' a t := TupV.lk s h
theorem TbsV.lk (s : LK H H') (h : TbsV K H a T) : TbsV K H' a T := let ⟨r0, r1, h0, h1, h2⟩ := h; ⟨r0, r1, h0.lk s, h1.lk s, h2.lk s⟩
theorem TbV.of (h : H a = some (.tup [.int t.1, .int t.2])) : TbV K H a t := TupV.of h
def spTblG (K : PySem.W.Frag) : Sp := fun vs H Q _ => ∃ (a : Addr) (t : Tb) (m : Int), vs = [.ref a] ∧ TbV K H a t ∧ TbOk m t ∧ Q (.bl true) H
def spTblsG (K : PySem.W.Frag) : Sp := fun vs H Q _ => ∃ (a : Addr) (T : Tb × Tb) (m : Int), vs = [.ref a] ∧ TbsV K H a T ∧ TbOk m T.1 ∧ TbOk m T.2 ∧ Q (.bl true) H
def spParG (K : PySem.W.Frag) : Sp := fun vs H Q _ => ∃ (a : Addr) (t : Tb) (m : Int), vs = [.ref a] ∧ TbV K H a t ∧ TbOk m t ∧ Q (.int (par t.1 t.2 : Nat)) H
def spBehind (K : PySem.W.Frag) : Sp := fun vs H Q _ => ∃ (a : Addr) (t : Tb) (m : Int) (u : Nat), vs = [.ref a, .int (u : Int)] ∧ TbV K H a t ∧ TbOk m t ∧ ∀ p, H p = none → Q (.ref p) (upd H p (.tup [.int (tbB t u).1, .int (tbB t u).2]))
def spBits : Sp := fun vs H Q _ => ∃ u k : Nat, vs = [.int (u : Int), .int (k : Int)] ∧ k ≤ 1000 ∧ nb u ≤ 100000 ∧ Q (.str (S (encB u k))) H
def spCoding (K : PySem.W.Frag) : Sp := fun vs H Q _ => ∃ (n first : Nat) (a : Addr) (T : Tb × Tb) (m : Int), vs = [.int (n : Int), .int (first : Int), .ref a] ∧ first ≤ n ∧ TbsV K H a T ∧ TbOk m T.1 ∧ TbOk m T.2 ∧ Q .non H
def spWr (K : PySem.W.Frag) : Sp := fun vs H Q _ => ∃ (a : Addr) (ns : List Int) (first : Nat) (b : Addr) (T : Tb × Tb), vs = [.ref a, .int (first : Int), .ref b] ∧ H a = some (.lst (ns.map V.int)) ∧ ns.length ≤ 64 ∧ first ≤ ns.length ∧ (∀ z ∈ ns, z.natAbs < 10 ^ 55) ∧ TbsV K H b T ∧ TbOk (10 ^ 58) T.1 ∧ TbOk (10 ^ 58) T.2 ∧
  ∀ p q H', Same H H' → H p = none → H' p = some (.tup [.str (S (wst ns first T ns.length).1.flatten), .ref q]) → TbsV K H' q (wst ns first T ns.length).2 → Q (.ref p) H'
def spStart (K : PySem.W.Frag) : Sp := fun vs H Q _ => ∃ p, vs = [.ref p] ∧ Pool H p ∧ ∀ a T H', H a = none → TbsV K H' a T → TbOk (10 ^ 56) T.1 → TbOk (10 ^ 56) T.2 → Pool H' p → Kp p H H' → Q (.ref a) H'
end
theorem use_tblG {K : PySem.W.Frag} {H : Hp} {a : Addr} {t : Tb} {m : Int} {Q : VK} {E : XK} (h : TbV K H a t) (ok : TbOk m t) (q : Q (.bl true) H) : spTblG K ([.ref a] ++ []) H Q E := ⟨a, t, m, rfl, h, ok, q⟩
theorem use_tblsG {K : PySem.W.Frag} {H : Hp} {a : Addr} {T : Tb × Tb} {m : Int} {Q : VK} {E : XK} (h : TbsV K H a T) (o1 : TbOk m T.1) (o2 : TbOk m T.2) (q : Q (.bl true) H) : spTblsG K ([.ref a] ++ []) H Q E := ⟨a, T, m, rfl, h, o1, o2, q⟩
theorem use_parG {K : PySem.W.Frag} {H : Hp} {a : Addr} {t : Tb} {m : Int} {Q : VK} {E : XK} (h : TbV K H a t) (ok : TbOk m t) (q : Q (.int (par t.1 t.2 : Nat)) H) : spParG K ([.ref a] ++ []) H Q E := ⟨a, t, m, rfl, h, ok, q⟩
theorem use_behind {K : PySem.W.Frag} {H : Hp} {a : Addr} {t : Tb} {m : Int} {u : Nat} {Q : VK} {E : XK} (h : TbV K H a t) (ok : TbOk m t) (q : ∀ p, H p = none → Q (.ref p) (upd H p (.tup [.int (tbB t u).1, .int (tbB t u).2]))) : spBehind K ([.ref a, .int (u : Int)] ++ []) H Q E := ⟨a, t, m, u, rfl, h, ok, q⟩
theorem use_bits {u k : Nat} {H : Hp} {Q : VK} {E : XK} (hk : k ≤ 1000) (hu : nb u ≤ 100000) (q : Q (.str (S (encB u k))) H) : spBits ([.int (u : Int), .int (k : Int)] ++ []) H Q E := ⟨u, k, rfl, hk, hu, q⟩
theorem use_coding {K : PySem.W.Frag} {n first : Nat} {a : Addr} {T : Tb × Tb} {m : Int} {H : Hp} {Q : VK} {E : XK} (h1 : first ≤ n) (h2 : TbsV K H a T) (o1 : TbOk m T.1) (o2 : TbOk m T.2) (q : Q .non H) : spCoding K ([.int (n : Int), .int (first : Int), .ref a] ++ []) H Q E := ⟨n, first, a, T, m, rfl, h1, h2, o1, o2, q⟩
theorem use_wr {K : PySem.W.Frag} {a b : Addr} {ns : List Int} {first : Nat} {T : Tb × Tb} {H : Hp} {Q : VK} {E : XK} (h1 : H a = some (.lst (ns.map V.int))) (h2 : ns.length ≤ 64) (h3 : first ≤ ns.length) (h4 : ∀ z ∈ ns, z.natAbs < 10 ^ 55) (h5 : TbsV K H b T) (h6 : TbOk (10 ^ 58) T.1) (h7 : TbOk (10 ^ 58) T.2)
    (q : ∀ p q H', Same H H' → H p = none → H' p = some (.tup [.str (S (wst ns first T ns.length).1.flatten), .ref q]) → TbsV K H' q (wst ns first T ns.length).2 → Q (.ref p) H') : spWr K ([.ref a, .int (first : Int), .ref b] ++ []) H Q E := ⟨a, ns, first, b, T, rfl, h1, h2, h3, h4, h5, h6, h7, q⟩
theorem use_start {K : PySem.W.Frag} {p : Addr} {H : Hp} {Q : VK} {E : XK} (h : Pool H p) (q : ∀ a T H', H a = none → TbsV K H' a T → TbOk (10 ^ 56) T.1 → TbOk (10 ^ 56) T.2 → Pool H' p → Kp p H H' → Q (.ref a) H') : spStart K ([.ref p] ++ []) H Q E := ⟨p, rfl, h, q⟩
theorem par_leG {m : Int} {t : Tb} (h : TbOk m t) (hm : m < 10 ^ 60) : par t.1 t.2 ≤ 300 := par_le h.1 h.2.2.1 (Int.lt_of_le_of_lt h.2.1 hm) h.2.2.2
theorem nb_small {u : Nat} (h : (u : Int) ≤ 10 ^ 56) : nb u ≤ 200 := by
  refine nb_min (j := 200) ?_ (by decide)
  have e : (10 : Nat) ^ 56 < 2 ^ 200 := by decide
  have h2 : u ≤ 10 ^ 56 := by
    have z : ((10 ^ 56 : Nat) : Int) = 10 ^ 56 := by norm_cast
    omega
  exact Nat.lt_of_le_of_lt h2 e
theorem shr_nat (u k : Nat) : ((u : Int) / 2 ^ ((k : Int)).toNat) = ((u / 2 ^ k : Nat) : Int) := by
  rw [Int.toNat_natCast]
  norm_cast
theorem rd_shr {u k : Nat} {H : Hp} {Q : VK} (h : Q (.int ((u / 2 ^ k : Nat) : Int)) H) : rI (fun _ j => 0 ≤ j) (fun i j => V.int (i / 2 ^ j.toNat)) (.int (u : Int)) (.int (k : Int)) H Q := ⟨(u : Int), (k : Int), rfl, rfl, by omega, by show Q (V.int ((u : Int) / 2 ^ ((k : Int)).toNat)) H; rw [shr_nat]; exact h⟩
theorem rd_bit {m : Nat} {H : Hp} {Q : VK} (h : Q (.str (S [48 + m % 2])) H) : rIxS (.str (Str.ofString "01")) (.int ((m : Int) % 2)) H Q := by
  rcases (show m % 2 = 0 ∨ m % 2 = 1 by omega) with e | e
  · rw [e] at h
    have e2 : (m : Int) % 2 = ((0 : Nat) : Int) := by omega
    rw [e2]
    exact rd_ixS e_01 (by decide) rfl h
  · rw [e] at h
    have e2 : (m : Int) % 2 = ((1 : Nat) : Int) := by omega
    rw [e2]
    exact rd_ixS e_01 (by decide) rfl h
theorem rd_listQ {K : PySem.W.Frag} {H : Hp} {Q : VK} {a : Addr} {xs : List V} (h : SqT K H a xs) (q : ∀ l, H l = none → Q (.ref l) (upd H l (.lst xs))) : rToList K [.ref a] H Q := ⟨a, xs, rfl, .inr h, q⟩
theorem half_nat (u : Nat) : ((u : Int) / 2) = ((u / 2 : Nat) : Int) := by omega
theorem wst_lo {ns : List Int} {first : Nat} {T : Tb × Tb} {i : Nat} (h : i < first) : wst ns first T (i + 1) = ((wst ns first T i).1 ++ [encB (uOf (ns.getD i 0)) (par (wst ns first T i).2.1.1 (wst ns first T i).2.1.2)], (tbB (wst ns first T i).2.1 (uOf (ns.getD i 0)), (wst ns first T i).2.2)) := if_pos h
theorem wst_hi {ns : List Int} {first : Nat} {T : Tb × Tb} {i : Nat} (h : ¬ i < first) : wst ns first T (i + 1) = ((wst ns first T i).1 ++ [encB (uOf (ns.getD i 0)) (par (wst ns first T i).2.2.1 (wst ns first T i).2.2.2)], ((wst ns first T i).2.1, tbB (wst ns first T i).2.2 (uOf (ns.getD i 0)))) := if_neg h
theorem uOf_getD {ns : List Int} (hn : ∀ z ∈ ns, z.natAbs < 10 ^ 55) (i : Nat) : ((uOf (ns.getD i 0) : Nat) : Int) ≤ 10 ^ 56 := uOf_le (by
  rw [List.getD_eq_getElem?_getD]
  cases e : ns[i]? with
  | none => decide
  | some z => exact hn z (List.mem_of_getElem? e))
theorem wst_flat {ns : List Int} {first : Nat} {T : Tb × Tb} (hn : ∀ z ∈ ns, z.natAbs < 10 ^ 55) (h0 : TbOk (10 ^ 58) T.1) (h1 : TbOk (10 ^ 58) T.2) : ∀ i : Nat, i ≤ 64 → (wst ns first T i).1.flatten.length ≤ 1000 * i
  | 0, _ => Nat.zero_le _
  | i + 1, hi => by
    have ih := wst_flat (first := first) hn h0 h1 i (by omega)
    obtain ⟨a, b⟩ := wst_ok (first := first) hn h0 h1 i (by omega)
    have hu := nb_small (uOf_getD hn i)
    have bnd : (10 ^ 58 + (i : Int) * 10 ^ 56) < 10 ^ 60 := by omega
    have pa := par_leG a bnd
    have pb := par_leG b bnd
    by_cases c : i < first
    · rw [wst_lo c]
      have e := encB_len (uOf (ns.getD i 0)) (par (wst ns first T i).2.1.1 (wst ns first T i).2.1.2)
      rw [List.flatten_append, List.length_append, List.flatten_cons, List.flatten_nil, List.append_nil]
      omega
    · rw [wst_hi c]
      have e := encB_len (uOf (ns.getD i 0)) (par (wst ns first T i).2.2.1 (wst ns first T i).2.2.2)
      rw [List.flatten_append, List.length_append, List.flatten_cons, List.flatten_nil, List.append_nil]
      omega
end Z
namespace Z
open PySem PySem.Spec PyProof.Rows L2
open SX (S S_len S_cat S_inj)
section
open PySem.NumText PySem.Calls Hx
def IsB (c : Nat) : Prop := c = 48 ∨ c = 49
theorem IsB.hex {c : Nat} (h : IsB c) : IsHex c := by
  unfold IsB at h
  unfold IsHex
  omega
theorem hv_b {c : Nat} (h : IsB c) : hv c = c - 48 := by
  unfold IsB at h
  unfold hv
  rw [if_pos (by omega)]
theorem step_b {ds : Array Nat} {b : Bool} {c : Nat} (h : IsB c) : PySem.NumText.step 2 (ds, b) c = some (ds.push (c - 48), true) := by
  have hr := hex_rng h.hex
  unfold PySem.NumText.step
  rw [if_neg (by rw [beq_iff_eq]; exact hr.2.2), digit_hex h.hex, hv_b h]
  exact if_pos (by unfold IsB at h; omega)
theorem foldl_b : ∀ (cs : List Nat) (ds : Array Nat), (∀ c ∈ cs, IsB c) → cs.foldlM (PySem.NumText.step 2) (ds, true) = some (cs.foldl (fun acc c => acc.push (c - 48)) ds, true)
  | [], _, _ => rfl
  | c :: cs, ds, h => by
    rw [List.foldlM_cons, step_b (h c (List.mem_cons_self ..))]
    show cs.foldlM (PySem.NumText.step 2) (ds.push (c - 48), true) = _
    exact foldl_b cs (ds.push (c - 48)) fun d hd => h d (List.mem_cons_of_mem _ hd)
theorem digits_b {cs : List Nat} (h : ∀ c ∈ cs, IsB c) (hne : cs ≠ []) : digits? 2 cs = some (cs.foldl (fun acc c => acc.push (c - 48)) #[]) := by
  cases cs with
  | nil => exact absurd rfl hne
  | cons c cs =>
    unfold digits?
    rw [List.foldlM_cons, step_b (h c (List.mem_cons_self ..))]
    show (cs.foldlM (PySem.NumText.step 2) ((#[] : Array Nat).push (c - 48), true)).bind _ = _
    rw [foldl_b cs _ fun d hd => h d (List.mem_cons_of_mem _ hd)]
    rfl
theorem push_b : ∀ (cs : List Nat) (ds : Array Nat), (cs.foldl (fun acc c => acc.push (c - 48)) ds).foldl (fun acc d => acc * 2 + d) 0 = cs.foldl (fun a c => a * 2 + (c - 48)) (ds.foldl (fun acc d => acc * 2 + d) 0)
  | [], _ => rfl
  | c :: cs, ds => by
    rw [List.foldl_cons, push_b cs (ds.push (c - 48)), List.foldl_cons]
    congr 1
    simp
theorem based_b : ∀ {cs : List Nat}, (∀ c ∈ cs, IsB c) → based 2 cs = (2, false, cs)
  | [], _ => rfl
  | [a], h => by
    rcases h a List.mem_cons_self with rfl | rfl <;> rfl
  | a :: c :: r, h => by
    rcases h a List.mem_cons_self with rfl | rfl <;> rcases h c (List.mem_cons_of_mem _ List.mem_cons_self) with rfl | rfl <;> rfl
theorem valB_two (l : List Nat) : l.foldl (fun a c => a * 2 + (c - 48)) 0 = valB l := by
  unfold valB
  congr 1
  funext a c
  rw [Nat.mul_comm]
theorem read_b {cs : List Nat} (h : ∀ c ∈ cs, IsB c) (hne : cs ≠ []) : (int_private% "readNumeral") 0 2 cs = (int_private% "Numeral.value") ((valB cs : Nat) : Int) := by
  have hr : ∀ c ∈ cs.reverse, IsB c := fun c hc => h c (List.mem_reverse.mp hc)
  refine (readNumeral_eq 0 2 cs).trans ?_
  rw [dropB (fun c hc => (h c hc).hex), signH (fun c hc => (h c hc).hex)]
  show judge 0 false (based 2 cs).1 (based 2 cs).2.1 (digits? (based 2 cs).1 (((based 2 cs).2.2.reverse.dropWhile blank).reverse)) = _
  rw [based_b h]
  show judge 0 false 2 false (digits? 2 ((cs.reverse.dropWhile blank).reverse)) = _
  rw [dropB (fun c hc => (hr c hc).hex), List.reverse_reverse, digits_b h hne]
  show (int_private% "Numeral.value") (((cs.foldl (fun acc c => acc.push (c - 48)) (#[] : Array Nat)).foldl (fun acc d => acc * 2 + d) 0 : Nat) : Int) = _
  have z : (#[] : Array Nat).foldl (fun acc d => acc * 2 + d) 0 = 0 := by first | rfl | simp
  rw [push_b, z, valB_two]
set_option maxHeartbeats 4000000 in
theorem gives_b {x : PySem.Str} {u t : Tok} (hl : x.length ≤ 640) (h : ∀ c ∈ x.cps.toList, IsB c) (hne : x.cps.toList ≠ []) :
    Gives (Builtin.«int.__new__» ⟨[.type "int", .str x u, .int 2 t], []⟩) (.int ((valB x.cps.toList : Nat) : Int)) :=
  .of_wp fun M A E s Q hQ => by
    obtain ⟨hp, g, d, tk, os⟩ := s
    have f1 := F.conv_sub_int
    have f2 := F.madeHere_int
    have f6 : typeOf (.str x u) = pure (.type "str") := rfl
    obtain ⟨e1, e2⟩ := seen_hex (fun c hc => (h c hc).hex)
    have hs : (numSeenOf x).length ≤ 640 := by
      rw [e2, Array.length_toList]
      exact hl
    have hr : (int_private% "readNumeral") 0 2 (numSeenOf x) = (int_private% "Numeral.value") ((valB x.cps.toList : Nat) : Int) := by
      rw [e2]
      exact read_b h hne
    have ha : ((numSeenOf x).length == (numTextOf x).length) = true := by
      rw [e1, e2]
      exact beq_self_eq_true _
    have hk := Hid.mk (And.intro hs (And.intro hr ha))
    clear hs hr ha e1 e2 hl hne h
    repeat (any_goals (first
      | assumption
      | ((with_reducible show wpAny _ _ ((int_private% "intFromText") _ _ _) _ _ _); refine wp_textB hk.out.1 hk.out.2.1 hk.out.2.2 ?_)
      | wp_step))
    all_goals first | exact ⟨_, rfl, hQ⟩ | skip
theorem call_b {prog : Program} {w : World} {A : Around} {E : Value → Shared → Prop} {s : Shared} {Q : Value → Shared → Prop} {x : PySem.Str} {u t : Tok} (hl : x.length ≤ 640) (h : ∀ c ∈ x.cps.toList, IsB c) (hne : x.cps.toList ≠ [])
    (hQ : Q (.int ((valB x.cps.toList : Nat) : Int) s.toks) { s with toks := s.toks + 1 }) : wpAny (model prog w) A (call (.type "int") [.str x u, .int 2 t]) Q E s :=
  callType_new F.called_int F.newNe_int (typeCall_int_2 _ _) (newCall_int_2 _ _) (fun obj => F.initArgs_range_2 obj _ _) F.entry_int_new (gives_b hl h hne).meets (show (Made.int ((valB x.cps.toList : Nat) : Int)).post _ s from ⟨rfl, hQ⟩)
end
def rIntB : List V → Hp → VK → Prop := fun xs H Q => ∃ l : List Nat, xs = [.str (S l), .int 2] ∧ l ≠ [] ∧ l.length ≤ 640 ∧ (∀ c ∈ l, IsB c) ∧ Q (.int ((valB l : Nat) : Int)) H
theorem call_intB {X : Cx} : CallR X (.type "int") rIntB := by
  intro pins s σ H xs us Q I r h
  obtain ⟨l, rfl, hne, hl, hx, q⟩ := h
  obtain ⟨u, w', rfl, r1, r2⟩ := vals2 r
  obtain ⟨t1, rfl⟩ := r1
  obtain ⟨t2, rfl⟩ := r2
  exact call_b (x := S l) (by rw [S_len]; exact hl) hx hne ⟨.int ((valB l : Nat) : Int), H, I.tok _, ⟨_, rfl⟩, q⟩
def onesL : List Nat → Nat
  | [] => 0
  | c :: r => if c = 48 then 0 else onesL r + 1
theorem onesL_le : ∀ m : List Nat, onesL m ≤ m.length
  | [] => Nat.le_refl _
  | c :: r => by
    unfold onesL
    split
    · exact Nat.zero_le _
    · exact Nat.succ_le_succ (onesL_le r)
theorem onesL_lt : ∀ (m : List Nat) (i : Nat), i < onesL m → m[i]? ≠ some 48
  | [], i, h => absurd h (Nat.not_lt_zero _)
  | c :: r, i, h => by
    unfold onesL at h
    split at h
    · exact absurd h (Nat.not_lt_zero _)
    · rename_i e
      rcases i with _ | i
      · intro z
        exact e (Option.some.inj z)
      · exact onesL_lt r i (by omega)
theorem onesL_at : ∀ m : List Nat, onesL m < m.length → m[onesL m]? = some 48
  | [], h => absurd h (Nat.not_lt_zero _)
  | c :: r, h => by
    by_cases e : c = 48
    · have z : onesL (c :: r) = 0 := if_pos e
      rw [z, e]
      rfl
    · have z : onesL (c :: r) = onesL r + 1 := if_neg e
      rw [z] at h ⊢
      exact onesL_at r (by simpa using h)
theorem onesL_rep (n : Nat) (r : List Nat) : onesL (List.replicate n 49 ++ 48 :: r) = n := by
  induction n with
  | zero => rfl
  | succ n ih =>
    show (if (49 : Nat) = 48 then 0 else onesL (List.replicate n 49 ++ 48 :: r) + 1) = n + 1
    rw [if_neg (by decide), ih]
def fzI (l : List Nat) (pl : Nat) : Int := if pl + onesL (l.drop pl) < l.length then ((pl + onesL (l.drop pl) : Nat) : Int) else -1
theorem S_get (l : List Nat) (v : Nat) (hv : v < l.length) : (S l).cps.getD v 0 = 48 ↔ l[v]? = some 48 :=
  ⟨fun h => PySem.StrLaws.getElem?_of_getD (x := S l) (by rw [S_len]; exact hv) h, fun h => PySem.StrLaws.getD_of_getElem? (x := S l) h⟩
theorem find_S (l : List Nat) (pl : Nat) (hpl : pl ≤ l.length) : Txt.find3 (S l) (S [48]) (pl : Int) = fzI l pl := by
  have fi : fromIndex (S l).length (pl : Int) = pl := by
    unfold fromIndex
    omega
  have hd : ∀ v, pl ≤ v → l[v]? = (l.drop pl)[v - pl]? := fun v hv => by rw [List.getElem?_drop]; congr 1; omega
  have hol := onesL_le (l.drop pl)
  rw [List.length_drop] at hol
  rcases PySem.StrLaws.find3_spec (S l) 48 (pl : Int) with ⟨e, hn⟩ | ⟨k, e, h1, h2, h3, h4⟩
  · rw [fi] at hn
    have hlt : ¬ pl + onesL (l.drop pl) < l.length := fun hlt => by
      have a := onesL_at (l.drop pl) (by rw [List.length_drop]; omega)
      refine hn (pl + onesL (l.drop pl)) (by omega) (by rw [S_len]; exact hlt) ((S_get l _ hlt).mpr ?_)
      rw [hd _ (by omega), show pl + onesL (l.drop pl) - pl = onesL (l.drop pl) by omega]
      exact a
    unfold fzI
    rw [if_neg hlt]
    exact e
  · rw [fi] at h1 h4
    rw [S_len] at h2
    have hk := (S_get l k h2).mp h3
    rw [hd k h1] at hk
    have a1 : ¬ k - pl < onesL (l.drop pl) := fun z => onesL_lt _ _ z hk
    have a2 : ¬ onesL (l.drop pl) < k - pl := fun z => by
      have a := onesL_at (l.drop pl) (by rw [List.length_drop]; omega)
      refine h4 (pl + onesL (l.drop pl)) (by omega) (by omega) ((S_get l _ (by omega)).mpr ?_)
      rw [hd _ (by omega), show pl + onesL (l.drop pl) - pl = onesL (l.drop pl) by omega]
      exact a
    have e2 : k = pl + onesL (l.drop pl) := by omega
    unfold fzI
    rw [if_pos (by omega), ← e2]
    exact e
def rdC (l : List Nat) (pl k : Nat) : Option (Nat × Nat) :=
  if pl + onesL (l.drop pl) < l.length then
    if l.length < pl + onesL (l.drop pl) + 1 + (if onesL (l.drop pl) < 20 then k else onesL (l.drop pl) - 19) then none
    else if onesL (l.drop pl) < 20 then some (onesL (l.drop pl) * 2 ^ k + valB ((l.drop (pl + onesL (l.drop pl) + 1)).take k), pl + onesL (l.drop pl) + 1 + k)
    else if (l.drop (pl + onesL (l.drop pl) + 1))[0]? = some 48 ∨ valB ((l.drop (pl + onesL (l.drop pl) + 1)).take (onesL (l.drop pl) - 19)) / 2 ^ k < 20 then none
    else some (valB ((l.drop (pl + onesL (l.drop pl) + 1)).take (onesL (l.drop pl) - 19)), pl + onesL (l.drop pl) + 1 + (onesL (l.drop pl) - 19))
  else none
theorem binB_head {u : Nat} (h : u ≠ 0) : (binB u)[0]? = some 49 := by
  unfold binB
  obtain ⟨m, hm⟩ : ∃ m, nb u = m + 1 := ⟨nb u - 1, by have := nb_pos u; omega⟩
  have h1 := nb_le h
  have h2 := nb_lt u
  rw [hm] at h1 h2 ⊢
  rw [lowB_front]
  have e : u / 2 ^ m = 1 := by
    have h3 : 2 ^ m ≤ u := h1
    rw [Nat.pow_succ] at h2
    have a := (Nat.le_div_iff_mul_le (Nat.two_pow_pos m)).mpr (show 1 * 2 ^ m ≤ u by omega)
    have b := (Nat.div_lt_iff_lt_mul (Nat.two_pow_pos m)).mpr (show u < 2 * 2 ^ m by omega)
    omega
  rw [e]
  rfl
theorem rdC_good (pre post : List Nat) (u k : Nat) : rdC (pre ++ (encB u k ++ post)) pre.length k = some (u, pre.length + (encB u k).length) := by
  have hd : (pre ++ (encB u k ++ post)).drop pre.length = encB u k ++ post := List.drop_left
  have hd2 : ∀ n, (pre ++ (encB u k ++ post)).drop (pre.length + n) = (encB u k ++ post).drop n := fun n => by rw [← List.drop_drop, hd]
  have hl : (pre ++ (encB u k ++ post)).length = pre.length + ((encB u k).length + post.length) := by rw [List.length_append, List.length_append]
  by_cases c : u / 2 ^ k < 20
  · have e : encB u k = List.replicate (u / 2 ^ k) 49 ++ 48 :: lowB u k := by
      unfold encB
      rw [if_pos c, List.append_assoc]
      rfl
    have el : (encB u k).length = u / 2 ^ k + 1 + k := by
      rw [e, List.length_append, List.length_replicate, List.length_cons, lowB_length]
      omega
    have o : onesL (encB u k ++ post) = u / 2 ^ k := by
      rw [e, List.append_assoc]
      exact onesL_rep _ _
    have dd : ((pre ++ (encB u k ++ post)).drop (pre.length + u / 2 ^ k + 1)).take k = lowB u k := by
      rw [Nat.add_assoc, hd2, e, List.append_assoc, List.cons_append]
      rw [show u / 2 ^ k + 1 = (List.replicate (u / 2 ^ k) 49).length + 1 by rw [List.length_replicate]]
      rw [← List.drop_drop, List.drop_left]
      show (lowB u k ++ post).take k = lowB u k
      exact List.take_left' (lowB_length u k)
    unfold rdC
    rw [hd, o, if_pos (by rw [hl, el]; omega), if_pos c, if_neg (by rw [hl, el]; omega), if_pos c, dd, valB_lowB, el]
    rw [Nat.mul_comm, Nat.div_add_mod]
    congr 2
    omega
  · have hu : u ≠ 0 := fun z => c (by rw [z, Nat.zero_div]; decide)
    have hnb := nb_pos u
    have e : encB u k = List.replicate (19 + nb u) 49 ++ 48 :: binB u := by
      unfold encB
      rw [if_neg c, List.append_assoc]
      rfl
    have el : (encB u k).length = 19 + nb u + 1 + nb u := by
      rw [e, List.length_append, List.length_replicate, List.length_cons, binB_length]
      omega
    have o : onesL (encB u k ++ post) = 19 + nb u := by
      rw [e, List.append_assoc]
      exact onesL_rep _ _
    have dd : (pre ++ (encB u k ++ post)).drop (pre.length + (19 + nb u) + 1) = binB u ++ post := by
      rw [Nat.add_assoc, hd2, e, List.append_assoc, List.cons_append]
      rw [show 19 + nb u + 1 = (List.replicate (19 + nb u) 49).length + 1 by rw [List.length_replicate]]
      rw [← List.drop_drop, List.drop_left]
      rfl
    have tk : (binB u ++ post).take (nb u) = binB u := List.take_left' (binB_length u)
    have vb : valB (binB u) = u := by
      unfold binB
      rw [valB_lowB, Nat.mod_eq_of_lt (nb_lt u)]
    have hh : (binB u ++ post)[0]? = some 49 := by
      rw [List.getElem?_append_left (by rw [binB_length]; omega)]
      exact binB_head hu
    unfold rdC
    rw [hd, o, if_pos (by rw [hl, el]; omega), if_neg (show ¬ 19 + nb u < 20 by omega), show 19 + nb u - 19 = nb u by omega, if_neg (by rw [hl, el]; omega), if_neg (show ¬ 19 + nb u < 20 by omega), dd, tk, vb, hh, if_neg, el]
    · congr 2
      omega
    · intro z
      rcases z with z | z
      · cases z
      · exact c z
def unU (u : Nat) : Int := if u % 2 = 0 then ((u / 2 : Nat) : Int) else -((u / 2 : Nat) : Int) - 1
theorem unU_uOf (n : Int) : unU (uOf n) = n := by
  have e := uOf_eq n
  unfold unU
  unfold codeU at e
  split at e <;> split <;> omega
theorem tw_all (p : Nat → Bool) : ∀ l : List Nat, (∀ c ∈ l, p c = true) → l.takeWhile p = l
  | [], _ => rfl
  | c :: r, h => by
    rw [List.takeWhile_cons, if_pos (h c List.mem_cons_self), tw_all p r fun d hd => h d (List.mem_cons_of_mem _ hd)]
theorem strip_B {l : List Nat} (h : ∀ c ∈ l, IsB c) : Txt.stripChars (S l) (S [48, 49]) = S [] := by
  have hc : ∀ c ∈ l, (S [48, 49]).cps.contains c = true := fun c hc => by
    rcases h c hc with e | e
    · rw [e]; decide +kernel
    · rw [e]; decide +kernel
  have tw : l.takeWhile (S [48, 49]).cps.contains = l := tw_all _ l hc
  have lo : stripLo (S [48, 49]).cps.contains true (S l) = l.length := by
    unfold stripLo
    rw [if_pos rfl]
    show (l.takeWhile _).length = _
    rw [tw]
  have hi : stripHi (S [48, 49]).cps.contains true (S l) l.length = l.length := by
    unfold stripHi
    rw [if_pos rfl]
    show (S l).length - ((l.drop l.length).reverse.takeWhile _).length = _
    rw [List.drop_length, S_len]
    rfl
  unfold Txt.stripChars Txt.stripBy
  cases hs : stripSame (S [48, 49]).cps.contains true true (S l) with
  | true =>
    rw [if_pos rfl]
    unfold stripSame at hs
    rw [lo, Bool.and_eq_true, beq_iff_eq] at hs
    rw [List.length_eq_zero_iff.mp hs.1]
  | false =>
    rw [if_neg Bool.false_ne_true]
    unfold stripped
    rw [lo, hi]
    refine TL.ext_tl ?_
    rw [TL.tl_strSub]
    simp
def rFind3 : V → List V → Hp → VK → Prop := fun x xs H Q => ∃ (a b : Str) (i : Int), x = .str a ∧ xs = [.str b, .int i] ∧ Q (.int (Txt.find3 a b i)) H
theorem mt_find3K {X : Cx} : MtR X "str.find" rFind3 := mt_find3
def rStripC : V → List V → Hp → VK → Prop := fun x xs H Q => ∃ a b, x = .str a ∧ xs = [.str b] ∧ a.length ≤ sizeLine ∧ Q (.str (Txt.stripChars a b)) H
theorem mt_stripK {X : Cx} : MtR X "str.strip" rStripC := mt_stripChars
section
variable {H : Hp} {Q : VK}
theorem rd_find {l : List Nat} {x : Str} {pl : Nat} (e : x = S [48]) (hpl : pl ≤ l.length) (h : Q (.int (fzI l pl)) H) : rFind3 (.str (S l)) [.str x, .int (pl : Int)] H Q := ⟨S l, x, (pl : Int), rfl, rfl, by rw [e, find_S l pl hpl]; exact h⟩
theorem rd_strip {l : List Nat} {x : Str} (e : x = S [48, 49]) (hl : l.length ≤ 16777216) (hb : ∀ c ∈ l, IsB c) (h : Q (.str (S [])) H) : rStripC (.str (S l)) [.str x] H Q := ⟨S l, x, rfl, rfl, by rw [S_len]; exact hl, by rw [e, strip_B hb]; exact h⟩
theorem rd_intB {l : List Nat} (hne : l ≠ []) (hl : l.length ≤ 640) (hb : ∀ c ∈ l, IsB c) (h : Q (.int ((valB l : Nat) : Int)) H) : rIntB [.str (S l), .int 2] H Q := ⟨l, rfl, hne, hl, hb, h⟩
theorem rd_slSM {l : List Nat} {a b : Nat} (ha : a ≤ l.length) (hb : b ≤ l.length) (hl : l.length ≤ 16777216) (h : Q (.str (S ((l.drop a).take (b - a)))) H) : C8.rSlX (.str (S l)) (some (a : Int)) (some (b : Int)) H Q := by
  refine ⟨S l, rfl, by rw [S_len]; exact hl, ?_⟩
  rw [← C8.cutS_slice]
  unfold cutS
  rw [S_len, HT.sIx_nat, HT.sIx_nat, Nat.min_eq_left ha, Nat.min_eq_left hb]
  exact h
end
theorem valB_zero (l : List Nat) : valB (48 :: l) = valB l := rfl
def spRdC : Sp := fun vs H Q _ => ∃ (l : List Nat) (pl k : Nat), vs = [.str (S l), .int (pl : Int), .int (k : Int)] ∧ (∀ c ∈ l, IsB c) ∧ l.length ≤ 1000000 ∧ pl ≤ l.length ∧ k ≤ 600 ∧ onesL (l.drop pl) ≤ 600 ∧ (rdC l pl k = none → Q .non H) ∧
  ∀ u e, rdC l pl k = some (u, e) → ∀ p, H p = none → Q (.ref p) (upd H p (.tup [.int ((u : Nat) : Int), .int ((e : Nat) : Int)]))
theorem use_rdC {l : List Nat} {pl k u e : Nat} {H : Hp} {Q : VK} {E : XK} (h1 : ∀ c ∈ l, IsB c) (h2 : l.length ≤ 1000000) (h3 : pl ≤ l.length) (h4 : k ≤ 600) (h5 : onesL (l.drop pl) ≤ 600) (h6 : rdC l pl k = some (u, e))
    (q : ∀ p, H p = none → Q (.ref p) (upd H p (.tup [.int ((u : Nat) : Int), .int ((e : Nat) : Int)]))) : spRdC ([.str (S l), .int (pl : Int), .int (k : Int)] ++ []) H Q E :=
  ⟨l, pl, k, rfl, h1, h2, h3, h4, h5, fun z => (by rw [h6] at z; cases z), fun u' e' z => (by rw [h6] at z; cases z; exact q)⟩
def spNumW : Sp := fun vs H Q _ => ∃ u : Nat, vs = [.int (u : Int)] ∧ Q (.int (unU u)) H
theorem use_numW {u : Nat} {H : Hp} {Q : VK} {E : XK} (q : Q (.int (unU u)) H) : spNumW ([.int (u : Int)] ++ []) H Q E := ⟨u, rfl, q⟩
theorem wst_bin (ns : List Int) (first : Nat) (T : Tb × Tb) : ∀ i, ∀ c ∈ (wst ns first T i).1.flatten, IsB c
  | 0, c, h => absurd h List.not_mem_nil
  | i + 1, c, h => by
    by_cases d : i < first
    · rw [wst_lo d, List.flatten_append] at h
      rcases List.mem_append.mp h with h | h
      · exact wst_bin ns first T i c h
      · rw [List.flatten_cons, List.flatten_nil, List.append_nil] at h
        exact encB_bin _ _ c h
    · rw [wst_hi d, List.flatten_append] at h
      rcases List.mem_append.mp h with h | h
      · exact wst_bin ns first T i c h
      · rw [List.flatten_cons, List.flatten_nil, List.append_nil] at h
        exact encB_bin _ _ c h
/-- what stands behind the i-th word -/
theorem wst_split (ns : List Int) (first : Nat) (T : Tb × Tb) (i : Nat) : ∀ n, i ≤ n → ∃ post, (wst ns first T n).1.flatten = (wst ns first T i).1.flatten ++ post
  | 0, h => by
    obtain rfl : i = 0 := by omega
    exact ⟨[], (List.append_nil _).symm⟩
  | n + 1, h => by
    by_cases e : i = n + 1
    · subst e
      exact ⟨[], (List.append_nil _).symm⟩
    · obtain ⟨post, hp⟩ := wst_split ns first T i n (by omega)
      by_cases d : n < first
      · rw [wst_lo d, List.flatten_append, hp, List.append_assoc]
        exact ⟨_, rfl⟩
      · rw [wst_hi d, List.flatten_append, hp, List.append_assoc]
        exact ⟨_, rfl⟩
theorem ones_enc (u k : Nat) (post : List Nat) (h : nb u ≤ 200) : onesL (encB u k ++ post) ≤ 600 := by
  unfold encB
  split
  · rw [List.append_assoc, List.append_assoc]
    show onesL (List.replicate (u / 2 ^ k) 49 ++ 48 :: _) ≤ 600
    rw [onesL_rep]
    omega
  · rw [List.append_assoc, List.append_assoc]
    show onesL (List.replicate (19 + nb u) 49 ++ 48 :: _) ≤ 600
    rw [onesL_rep]
    omega
theorem sm_ints2 {K : PySem.W.Frag} {H : Hp} {p q : Addr} {ns : List Int} (hp : H p = some (.lst (ns.map V.int))) (hq : H q = some (.lst (ns.map V.int))) : SmV K H 2 (.ref p) (.ref q) :=
  .inr (.inl ⟨p, q, _, _, rfl, rfl, .of hp, .of hq, rfl, fun i x y e1 e2 => by
    rw [e1] at e2
    have e := Option.some.inj e2
    subst e
    rw [List.getElem?_map] at e1
    cases g : ns[i]? with
    | none => rw [g] at e1; cases e1
    | some z => rw [g] at e1; cases e1; exact .inl ⟨rfl, rfl⟩⟩)
theorem rd_notBl {a : Bool} {H : Hp} {Q : VK} (h : Q (.bl (!decide (a = true))) H) : rNotB (.bl a) (.bl true) H Q := by
  first
    | exact ⟨a, true, rfl, rfl, h⟩
    | (refine ⟨_, _, rfl, rfl, ?_⟩; cases a <;> exact h)
end Z
namespace Z
open PySem PySem.Spec PyProof.Rows L2
open SX (S S_len S_cat S_inj)
def bitsOf (z : Str) : Bool := decide (V.str (Txt.stripChars z (S [48, 49])) = V.str (Str.ofString ""))
inductive BitR (H : Hp) : V → Bool → Prop where
  | str {z : Str} (h : z.length ≤ 1000) : BitR H (.str z) (bitsOf z)
  | non : BitR H .non false
  | int {i : Int} : BitR H (.int i) false
  | lst {a : Addr} {xs : List V} (h : H a = some (.lst xs)) : BitR H (.ref a) false
def layB (ln : V) (b : Bool) (lv st : V) : Bool := (inI ln 1 64 && b) && (inI lv 0 5 && inI st 1 64)
def frB (v0 ln : V) (b : Bool) (lv st mk : V) (c : Bool) : Bool := decide (v0 = V.str (Str.ofString "frame")) && (layB ln b lv st && (inI mk 0 9972 && c))
inductive RecR (H : Hp) : V → Bool → Prop where
  | flat {x : V} (h : scalarV x = true) : RecR H x false
  | lst {a : Addr} {xs : List V} (h : H a = some (.lst xs)) : RecR H (.ref a) false
  | tupn {a : Addr} {xs : List V} (h : H a = some (.tup xs)) (n : xs.length ≠ 2) (m : xs.length ≠ 7) : RecR H (.ref a) false
  | st {a : Addr} {s : Str} {v : V} {b : Bool} (h : H a = some (.tup [.str s, v])) (hv : TSR H v b) : RecR H (.ref a) (decide (V.str s = V.str (Str.ofString "state")) && b)
  | fr {a : Addr} {v0 ln jt lv st mk bt : V} {b c : Bool} (h : H a = some (.tup [v0, ln, jt, lv, st, mk, bt])) (h0 : scalarV v0 = true) (hl : TyV H ln) (hj : JR H jt b) (h3 : TyV H lv) (h4 : TyV H st) (h5 : TyV H mk) (hb : BitR H bt c) : RecR H (.ref a) (frB v0 ln b lv st mk c)
section
variable {H H' : Hp} {x : V} {b : Bool}
theorem tyv_same (s : Same H H') (h : TyV H x) : TyV H' x := by
  cases x with
  | ref a =>
    rcases h with ⟨xs, h⟩ | ⟨xs, h⟩
    · exact .inl ⟨xs, s _ _ h⟩
    · exact .inr ⟨xs, s _ _ h⟩
  | _ => exact h
theorem JR.same (s : Same H H') (h : JR H x b) : JR H' x b := by
  cases h with
  | flat h => exact .flat h
  | lst h => exact .lst (s _ _ h)
  | tupn h n => exact .tupn (s _ _ h) n
  | tup2 h hu hv => exact .tup2 (s _ _ h) (tyv_same s hu) (tyv_same s hv)
theorem TR.same (s : Same H H') (h : TR H x b) : TR H' x b := by
  cases h with
  | flat h => exact .flat h
  | lst h => exact .lst (s _ _ h)
  | tupn h n => exact .tupn (s _ _ h) n
  | tup2 h hu hv => exact .tup2 (s _ _ h) (tyv_same s hu) (tyv_same s hv)
theorem TSR.same (s : Same H H') (h : TSR H x b) : TSR H' x b := by
  cases h with
  | flat h => exact .flat h
  | lst h => exact .lst (s _ _ h)
  | tupn h n => exact .tupn (s _ _ h) n
  | tup2 h hu hv => exact .tup2 (s _ _ h) (hu.same s) (hv.same s)
theorem BitR.same (s : Same H H') (h : BitR H x b) : BitR H' x b := by
  cases h with
  | str h => exact .str h
  | non => exact .non
  | int => exact .int
  | lst h => exact .lst (s _ _ h)
theorem RecR.same (s : Same H H') (h : RecR H x b) : RecR H' x b := by
  cases h with
  | flat h => exact .flat h
  | lst h => exact .lst (s _ _ h)
  | tupn h n m => exact .tupn (s _ _ h) n m
  | st h hv => exact .st (s _ _ h) (hv.same s)
  | fr h h0 hl hj h3 h4 h5 hb => exact .fr (s _ _ h) h0 (tyv_same s hl) (hj.same s) (tyv_same s h3) (tyv_same s h4) (tyv_same s h5) (hb.same s)
end
theorem rd_slTp {K : PySem.W.Frag} {H : Hp} {Q : VK} {a : Addr} {xs : List V} {lo hi : Option Int} {ys : List V} (h : SqT K H a xs) (e : cutV xs lo hi = ys) (n : ¬ (HT.sIx xs.length 0 lo = 0 ∧ HT.sIx xs.length xs.length hi = xs.length)) (q : ∀ p, H p = none → Q (.ref p) (upd H p (.tup ys))) : rSlT K (.ref a) lo hi H Q := ⟨a, xs, rfl, h, n, fun p hp => by rw [e]; exact q p hp⟩
inductive GR (H : Hp) (a : Addr) : Nat → Prop where
  | st {v : V} (h : H a = some (.tup [.str (Str.ofString "state"), v])) (hv : TSR H v true) : GR H a 80
  | fr {ln lv st mk : Int} {jt : V} {l : List Nat} (h : H a = some (.tup [.str (Str.ofString "frame"), .int ln, jt, .int lv, .int st, .int mk, .str (S l)])) (hj : JR H jt true) (h1 : inI (.int ln) 1 64 = true) (h2 : inI (.int lv) 0 5 = true) (h3 : inI (.int st) 1 64 = true) (h4 : inI (.int mk) 0 9972 = true) (hl : l.length ≤ 1000) (hb : ∀ c ∈ l, IsB c) : GR H a (40 + l.length)
theorem GR.same {H H' : Hp} {a : Addr} {n : Nat} (s : Same H H') (h : GR H a n) : GR H' a n := by
  cases h with
  | st h hv => exact .st (s _ _ h) (hv.same s)
  | fr h hj h1 h2 h3 h4 hl hb => exact .fr (s _ _ h) (hj.same s) h1 h2 h3 h4 hl hb
theorem GR.tup {H : Hp} {a : Addr} {n : Nat} (h : GR H a n) : ∃ xs, H a = some (.tup xs) := by
  cases h with
  | st h _ => exact ⟨_, h⟩
  | fr h _ _ _ _ _ _ _ => exact ⟨_, h⟩
theorem st_ne_fr : ¬ V.str (Str.ofString "frame") = V.str (Str.ofString "state") := by decide
/-- what spoils a frame at a place -/
def Bad (H : Hp) : Nat → V → Prop
  | 0, v => scalarV v = true ∧ v ≠ V.str (Str.ofString "frame")
  | 1, v => TyV H v ∧ inI v 1 64 = false
  | 2, v => JR H v false
  | 3, v => TyV H v ∧ inI v 0 5 = false
  | 4, v => TyV H v ∧ inI v 1 64 = false
  | 5, v => TyV H v ∧ inI v 0 9972 = false
  | 6, v => BitR H v false
  | _, _ => False
theorem Bad.same {H H' : Hp} (s : Same H H') : ∀ {n : Nat} {v : V}, Bad H n v → Bad H' n v
  | 0, _, h => h
  | 1, _, h => ⟨tyv_same s h.1, h.2⟩
  | 2, _, h => JR.same s h
  | 3, _, h => ⟨tyv_same s h.1, h.2⟩
  | 4, _, h => ⟨tyv_same s h.1, h.2⟩
  | 5, _, h => ⟨tyv_same s h.1, h.2⟩
  | 6, _, h => BitR.same s h
  | _ + 7, _, h => h
def frL (j : Addr) : List V := [.str (Str.ofString "frame"), .int 4, .ref j, .int 2, .int 1, .int 7, .str (Str.ofString "010")]
theorem tr_ok {H : Hp} {r : Addr} {t c : Int} (h : H r = some (.tup [.int t, .int c])) (h0 : 0 ≤ t) (h1 : 1 ≤ c) (h2 : c ≤ 15) : TR H (.ref r) true := by
  have z := TR.tup2 h trivial trivial
  rw [show tt (.int t) (.int c) = true by rw [tt_int, decide_eq_true h0]; simp [inI, h1, h2]] at z
  exact z
def msk (p : Addr) (H : Hp) : Hp := fun a => if a = p then none else H a
section
variable {p a : Addr} {H H' : Hp} {o : HO}
theorem msk_same (s : Same H H') : Same (msk p H) (msk p H') := fun b x e => by
  unfold msk at e ⊢
  split at e
  · cases e
  · rename_i n
    rw [if_neg n]
    exact s _ _ e
end
/-- the tables and the frame of the law's bad records -/
def OS (p tl fr j : Addr) (xs : List V) (G : Hp) : Prop := msk p G tl = some (.lst xs) ∧ xs.length ≤ 20 ∧ (∀ v ∈ xs, TSR (msk p G) v false) ∧ msk p G fr = some (.lst (frL j)) ∧ msk p G j = some (.tup [.int 1, .int 2])
theorem OS.same {p tl fr j : Addr} {xs : List V} {G G' : Hp} (s : Same G G') (h : OS p tl fr j xs G) : OS p tl fr j xs G' := ⟨msk_same s _ _ h.1, h.2.1, fun v hv => (h.2.2.1 v hv).same (msk_same s), msk_same s _ _ h.2.2.2.1, msk_same s _ _ h.2.2.2.2⟩
def Fld (G : Hp) (i : Nat) (v : V) : Prop := ∃ a xs, v = .ref a ∧ G a = some (.lst xs) ∧ xs.length ≤ 10 ∧ ∀ x ∈ xs, Bad G i x
theorem Fld.same {G G' : Hp} (s : Same G G') {i : Nat} {v : V} (h : Fld G i v) : Fld G' i v := let ⟨a, xs, e, e1, n, b⟩ := h; ⟨a, xs, e, s _ _ e1, n, fun x hx => (b x hx).same s⟩
def FldL (G : Hp) (fs : List V) : Prop := ∀ (i : Nat) v, fs[i]? = some v → Fld G i v
theorem FldL.same {G G' : Hp} (s : Same G G') {fs : List V} (h : FldL G fs) : FldL G' fs := fun i v e => (h i v e).same s
theorem FldL.app {G : Hp} {fs ys : List V} (h : FldL G fs) (k : ∀ (i : Nat) v, ys[i]? = some v → Fld G (fs.length + i) v) : FldL G (fs ++ ys) := fun i v e => by
  by_cases c : i < fs.length
  · rw [List.getElem?_append_left c] at e
    exact h i v e
  · rw [List.getElem?_append_right (by omega)] at e
    have z := k _ v e
    rw [show fs.length + (i - fs.length) = i by omega] at z
    exact z
theorem FldL.nil {G : Hp} : FldL G [] := fun i v e => by simp at e
end Z
namespace Z
open PySem PySem.Spec PyProof.Rows L2
/-- told: what the errors of a call become, and what its end becomes -/
def ErM (L : List (Addr × Str × (V → List V))) (Q : VK) : XK := fun cls d H' => ∃ e ∈ L, ErL e.1 e.2.1 e.2.2 Q cls d H'
def TTm (L : List (Addr × Str × (V → List V))) (Fin : V → Hp → VK → Prop) : (XK → Hp → VK → Prop) → Hp → VK → Prop := fun tl H Q => ∀ Qn : VK, (∀ v H', Fin v H' Q → Qn v H') → tl (ErM L Q) H Qn
theorem rd_toldM {L : List (Addr × Str × (V → List V))} {Fin : V → Hp → VK → Prop} {tl : XK → Hp → VK → Prop} {H : Hp} {Q : VK} (h : ∀ Qn : VK, (∀ v H', Fin v H' Q → Qn v H') → tl (ErM L Q) H Qn) : TTm L Fin tl H Q := h
/-- the first item that is no integer -/
inductive IT (H : Hp) (xs : List V) : Option Nat → Prop where
  | bad {i : Nat} {v : V} (b : ∀ j, j < i → ∃ z, xs[j]? = some (.int z)) (e : xs[i]? = some v) (n : isI v = false) (t : ∀ x ∈ xs, TyV H x) : IT H xs (some i)
  | good {ns : List Int} (e : xs = ns.map V.int) : IT H xs none
theorem tyvS {H H' : Hp} {v : V} (s : Same H H') (h : TyV H v) : TyV H' v := by
  cases v with
  | ref a => exact h.elim (fun ⟨xs, e⟩ => .inl ⟨xs, s _ _ e⟩) fun ⟨xs, e⟩ => .inr ⟨xs, s _ _ e⟩
  | _ => exact h
theorem IT.same {H H' : Hp} {xs : List V} {o : Option Nat} (s : Same H H') (h : IT H xs o) : IT H' xs o := by
  cases h with
  | bad b e n t => exact .bad b e n fun x hx => tyvS s (t x hx)
  | good e => exact .good e
theorem IT.at {H : Hp} {xs : List V} {o : Option Nat} {i : Nat} {v : V} (h : IT H xs o) (e : xs[i]? = some v) (hi : ∀ k, o = some k → i ≤ k) : (o = some i ∧ isI v = false ∧ TyV H v) ∨ (∃ z, v = .int z) ∧ ∀ k, o = some k → i + 1 ≤ k := by
  cases h with
  | @bad k u b eu n t =>
    have hk := hi k rfl
    by_cases hik : i = k
    · subst hik
      rw [e] at eu
      cases eu
      exact .inl ⟨rfl, n, t v (List.mem_of_getElem? e)⟩
    · obtain ⟨z, hz⟩ := b i (by omega)
      rw [e] at hz
      cases hz
      exact .inr ⟨⟨z, rfl⟩, fun k' e' => by cases e'; omega⟩
  | @good ns eu =>
    subst eu
    rw [List.getElem?_map] at e
    cases g : ns[i]? with
    | none => rw [g] at e; cases e
    | some z => rw [g] at e; cases e; exact .inr ⟨⟨z, rfl⟩, fun k' e' => nomatch e'⟩
theorem IT.len {H : Hp} {xs : List V} {o : Option Nat} (h : IT H xs o) (hi : ∀ k, o = some k → xs.length ≤ k) : o = none := by
  cases h with
  | bad b e n t => exact absurd (hi _ rfl) (Nat.not_le.mpr (List.getElem?_eq_some_iff.mp e).1)
  | good e => rfl
/-- what a block check says of a value -/
inductive BR (H : Hp) : V → Option V → Prop where
  | flat {x : V} (h : scalarV x = true) : BR H x (some .non)
  | tup {a : Addr} {xs : List V} (h : H a = some (.tup xs)) : BR H (.ref a) (some .non)
  | size {a : Addr} {xs : List V} (h : H a = some (.lst xs)) (n : ¬ (1 ≤ xs.length ∧ xs.length ≤ 64)) (m : xs.length ≤ 1000) : BR H (.ref a) (some .non)
  | item {a : Addr} {xs : List V} {o : Option Nat} (h : H a = some (.lst xs)) (n1 : 1 ≤ xs.length) (n2 : xs.length ≤ 64) (t : IT H xs o) : BR H (.ref a) (o.map fun i => .int (i : Nat))
theorem BR.same {H H' : Hp} {x : V} {o : Option V} (s : Same H H') (h : BR H x o) : BR H' x o := by
  cases h with
  | flat h => exact .flat h
  | tup h => exact .tup (s _ _ h)
  | size h n m => exact .size (s _ _ h) n m
  | item h n1 n2 t => exact .item (s _ _ h) n1 n2 (t.same s)
theorem BR.fine {H : Hp} {x : V} (h : BR H x none) : ∃ (a : Addr) (ns : List Int), x = .ref a ∧ H a = some (.lst (ns.map V.int)) ∧ 1 ≤ ns.length ∧ ns.length ≤ 64 := by
  obtain ⟨o, ho, h⟩ : ∃ o : Option V, o = none ∧ BR H x o := ⟨_, rfl, h⟩
  cases h with
  | flat _ => cases ho
  | tup _ => cases ho
  | size _ _ _ => cases ho
  | @item a xs o h n1 n2 t =>
    cases t with
    | bad _ _ _ _ => cases ho
    | @good ns e =>
      subst e
      rw [List.length_map] at n1 n2
      exact ⟨a, ns, rfl, h, n1, n2⟩
theorem BR.ty {H : Hp} {x : V} {o : Option V} (h : BR H x o) : TyV H x := by
  cases h with
  | flat h => cases x <;> first | exact True.intro | exact Bool.noConfusion h
  | tup h => exact .inr ⟨_, h⟩
  | size h _ _ => exact .inl ⟨_, h⟩
  | item h _ _ _ => exact .inl ⟨_, h⟩
def scOk : V → Bool
  | .non => true
  | .bl _ => true
  | .int _ => true
  | .str s => PyData.strOk s
  | _ => false
theorem scOk.sc {v : V} (h : scOk v = true) : scalarV v = true := by cases v <;> first | rfl | exact Bool.noConfusion h
def EV (l : List Addr) (H : Hp) (v : V) : Prop := scOk v = true ∨ ∃ a xs, v = .ref a ∧ a ∉ l ∧ (H a = some (.lst xs) ∨ H a = some (.tup xs)) ∧ ∀ x ∈ xs, scOk x = true
def KpLN (l : List Addr) (H H' : Hp) : Prop := ∀ a o, a ∉ l → H a = some o → (∀ ps, o ≠ .tbl ps) → H' a = some o
section
variable {l : List Addr} {p q : Addr} {H H' H1 H2 : Hp} {o : HO} {v : V} {K : PySem.W.Frag}
theorem nm_cons {a b : Addr} {m : List Addr} (h : a ≠ b) (k : a ∉ m) : a ∉ b :: m := fun z => (List.mem_cons.mp z).elim h k
theorem ne_new {a b : Addr} {u : HO} (h : H a = none) (k : H b = some u) : a ≠ b := fun z => by rw [z, k] at h; cases h
theorem KpLN.refl : KpLN l H H := fun _ _ _ h _ => h
theorem KpLN.trans (a : KpLN l H H1) (b : KpLN l H1 H2) : KpLN l H H2 := fun c o n h t => b c o n (a c o n h t) t
theorem KpLN.ofL (k : KpL l H H') : KpLN l H H' := fun a o n h _ => k a o n h
theorem KpLN.of (s : Same H H') : KpLN l H H' := fun a o _ h _ => s a o h
theorem KpLN.ofN (s : LamX.ExtN H H') : KpLN l H H' := fun a o _ h t => s a o h t
theorem KpLN.ofK (m : p ∈ l) (k : Kp p H H') : KpLN l H H' := .ofL (KpL.ofK m k)
theorem KpLN.new (n : H q = none) : KpLN l H (upd H q o) := .of (same_new n)
theorem KpLN.at (m : q ∈ l) : KpLN l H (upd H q o) := .ofL (KpL.at m)
theorem EV.kp (k : KpLN l H H') (h : EV l H v) : EV l H' v := by
  rcases h with h | ⟨a, xs, e, n, h | h, s⟩
  · exact .inl h
  · exact .inr ⟨a, xs, e, n, .inl (k _ _ n h lst_ntbl), s⟩
  · exact .inr ⟨a, xs, e, n, .inr (k _ _ n h tup_ntbl), s⟩
theorem EV.set {xs : List V} {j : Nat} {S : Addr} {u : HO} (h : ∀ x ∈ xs, EV l H x) (hv : EV l H v) (m : S ∈ l) : ∀ x ∈ xs.set j v, EV l (upd H S u) x := fun x hx => by
  have k : KpLN l H (upd H S u) := .at m
  rcases List.mem_or_eq_of_mem_set hx with hx | rfl
  · exact (h x hx).kp k
  · exact hv.kp k
theorem EV.ty (h : EV l H v) : TyV H v := by
  rcases h with h | ⟨a, xs, rfl, _, h | h, _⟩
  · cases v <;> first | exact True.intro | exact Bool.noConfusion h
  · exact .inl ⟨xs, h⟩
  · exact .inr ⟨xs, h⟩
theorem EV.sm (h : EV l H v) : SmV K H 1 v v := by
  rcases h with h | ⟨a, xs, rfl, _, h | h, s⟩
  · exact .inl ⟨rfl, scOk.sc h⟩
  · exact .inr (.inl ⟨a, a, xs, xs, rfl, rfl, .of h, .of h, rfl, fun i x y e1 e2 => by
      rw [e1] at e2
      exact ⟨Option.some.inj e2, scOk.sc (s x (List.mem_of_getElem? e1))⟩⟩)
  · exact .inr (.inr ⟨a, a, xs, xs, rfl, rfl, .of h, .of h, rfl, fun i x y e1 e2 => by
      rw [e1] at e2
      exact ⟨Option.some.inj e2, scOk.sc (s x (List.mem_of_getElem? e1))⟩⟩)
theorem EV.sc (h : scOk v = true) : EV l H v := .inl h
theorem EV.lst {a : Addr} {xs : List V} (n : a ∉ l) (h : H a = some (.lst xs)) (s : ∀ x ∈ xs, scOk x = true) : EV l H (.ref a) := .inr ⟨a, xs, rfl, n, .inl h, s⟩
theorem EV.tup {a : Addr} {xs : List V} (n : a ∉ l) (h : H a = some (.tup xs)) (s : ∀ x ∈ xs, scOk x = true) : EV l H (.ref a) := .inr ⟨a, xs, rfl, n, .inr h, s⟩
def spOddE : Sp := fun vs H Q _ => ∃ (p : Addr), vs = [.ref p] ∧ Pool H p ∧ ∀ v H', EV [p] H' v → Pool H' p → Kp p H H' → Q v H'
theorem use_oddE {Q : VK} {E : XK} (h : Pool H p) (q : ∀ v H', EV [p] H' v → Pool H' p → Kp p H H' → Q v H') : spOddE ([.ref p] ++ []) H Q E := ⟨p, rfl, h, q⟩
end
def GV (p : Addr) (H : Hp) (xs : List V) (x : V) : Prop := (∃ a, x = .ref a ∧ a ≠ p ∧ H a = some (.lst xs)) ∨ scalarV x = true ∨ ∃ a ys, x = .ref a ∧ a ≠ p ∧ H a = some (.tup ys)
section
variable {p S : Addr} {H H' H1 H2 H3 : Hp} {xs ys : List V} {x : V} {o : Option V} {T : List (Addr × Str)}
theorem GV.kp (k : KpLN [p] H H') (h : GV p H xs x) : GV p H' xs x := by
  rcases h with ⟨a, e, n, h⟩ | h | ⟨a, ys, e, n, h⟩
  · exact .inl ⟨a, e, n, k _ _ (nm_cons n List.not_mem_nil) h lst_ntbl⟩
  · exact .inr (.inl h)
  · exact .inr (.inr ⟨a, ys, e, n, k _ _ (nm_cons n List.not_mem_nil) h tup_ntbl⟩)
theorem tyvE (s : LamX.ExtN H H') (h : TyV H x) : TyV H' x := by
  cases x with
  | ref a => exact h.elim (fun ⟨xs, e⟩ => .inl ⟨xs, s _ _ e lst_ntbl⟩) fun ⟨xs, e⟩ => .inr ⟨xs, s _ _ e tup_ntbl⟩
  | _ => exact h
theorem BR.ext (s : LamX.ExtN H H') (h : BR H x o) : BR H' x o := by
  cases h with
  | flat h => exact .flat h
  | tup h => exact .tup (s _ _ h tup_ntbl)
  | size h n m => exact .size (s _ _ h lst_ntbl) n m
  | item h n1 n2 t =>
    refine .item (s _ _ h lst_ntbl) n1 n2 ?_
    cases t with
    | bad b e n t => exact .bad b e n fun x hx => tyvE s (t x hx)
    | good e => exact .good e
theorem KpLN.drop {l : List Addr} (k : KpLN (S :: l) H H') (n : H S = none) : KpLN l H H' := fun a o m h t => k a o (nm_cons (fun z => by rw [z, n] at h; cases h) m) h t
theorem extN_same (s : Same H H') : LamX.ExtN H H' := .of fun b o e => s b o e
theorem extN_trans (s : LamX.ExtN H H1) (t : LamX.ExtN H1 H2) : LamX.ExtN H H2 := fun a o h n => t a o (s a o h n) n
end
end Z
namespace Z
open PySem PySem.Spec PyProof.Rows L2
def PV (l : List Addr) (H : Hp) : Nat → V → Prop
  | 0, v => scOk v = true
  | n + 1, v => scOk v = true ∨ ∃ a xs, v = .ref a ∧ a ∉ l ∧ LT H a xs ∧ ∀ x ∈ xs, PV l H n x
section
variable {l : List Addr} {p q S : Addr} {H H' : Hp} {v : V} {K : PySem.W.Frag}
theorem LT.kpln {a : Addr} {xs : List V} (k : KpLN l H H') (n : a ∉ l) (h : LT H a xs) : LT H' a xs := h.imp (fun e => k _ _ n e lst_ntbl) fun e => k _ _ n e tup_ntbl
theorem PV.kp (k : KpLN l H H') : ∀ {n : Nat} {v : V}, PV l H n v → PV l H' n v
  | 0, _, h => h
  | n + 1, v, h => by
    rcases h with h | ⟨a, xs, e, m, h, s⟩
    · exact .inl h
    · exact .inr ⟨a, xs, e, m, h.kpln k m, fun x hx => PV.kp k (s x hx)⟩
theorem PV.sc (h : scOk v = true) : ∀ {n : Nat}, PV l H n v
  | 0 => h
  | _ + 1 => .inl h
theorem PV.up : ∀ {n : Nat} {v : V}, PV l H n v → PV l H (n + 1) v
  | 0, _, h => .inl h
  | n + 1, v, h => by
    rcases h with h | ⟨a, xs, e, k, h, t⟩
    · exact .inl h
    · exact .inr ⟨a, xs, e, k, h, fun x hx => (t x hx).up⟩
theorem PV.tup {n : Nat} {a : Addr} {xs : List V} (m : a ∉ l) (h : H a = some (.tup xs)) (s : ∀ x ∈ xs, PV l H n x) : PV l H (n + 1) (.ref a) := .inr ⟨a, xs, rfl, m, .inr h, s⟩
theorem PV.lst {n : Nat} {a : Addr} {xs : List V} (m : a ∉ l) (h : H a = some (.lst xs)) (s : ∀ x ∈ xs, PV l H n x) : PV l H (n + 1) (.ref a) := .inr ⟨a, xs, rfl, m, .inl h, s⟩
theorem PV.ty : ∀ {n : Nat} {v : V}, PV l H n v → TyV H v
  | 0, v, h => by cases v <;> first | exact True.intro | exact Bool.noConfusion h
  | n + 1, v, h => by
    rcases h with h | ⟨a, xs, rfl, m, h | h, s⟩
    · cases v <;> first | exact True.intro | exact Bool.noConfusion h
    · exact .inl ⟨xs, h⟩
    · exact .inr ⟨xs, h⟩
theorem PV.set {n : Nat} {xs : List V} {j : Nat} {u : HO} (h : ∀ x ∈ xs, PV l H n x) (hv : PV l H n v) (m : S ∈ l) : ∀ x ∈ xs.set j v, PV l (upd H S u) n x := fun x hx => by
  have k : KpLN l H (upd H S u) := .at m
  rcases List.mem_or_eq_of_mem_set hx with hx | rfl
  · exact (h x hx).kp k
  · exact hv.kp k
theorem PV.app {n : Nat} {xs : List V} {u : HO} (h : ∀ x ∈ xs, PV l H n x) (hv : PV l H n v) (m : S ∈ l) : ∀ x ∈ xs ++ [v], PV l (upd H S u) n x := fun x hx => by
  have k : KpLN l H (upd H S u) := .at m
  rcases List.mem_append.mp hx with hx | hx
  · exact (h x hx).kp k
  · rw [List.mem_singleton.mp hx]; exact hv.kp k
end
inductive SR (H : Hp) (n : Nat) : V → Option V → Prop where
  | flat {x : V} (h : scalarV x = true) : SR H n x (some .non)
  | seq {a : Addr} {xs : List V} {o : Option Nat} (h : LT H a xs) (e : xs.length = n) (m : n ≤ 1000) (t : IT H xs o) : SR H n (.ref a) (o.map fun i => .int (i : Nat))
inductive PJ (H : Hp) : V → Option (Int × Int × Int) → Prop where
  | flat {x : V} (h : scalarV x = true) : PJ H x none
  | lst {a : Addr} {xs : List V} (h : H a = some (.lst xs)) : PJ H (.ref a) none
  | tupn {a : Addr} {xs : List V} (h : H a = some (.tup xs)) (n : xs.length ≠ 2) : PJ H (.ref a) none
  | noi {a : Addr} {u v : V} (h : H a = some (.tup [u, v])) (t : TyV H u) (n : isI u = false) : PJ H (.ref a) none
  | noj {a : Addr} {i : Int} {v : V} (h : H a = some (.tup [.int i, v])) (t : JR H v false) : PJ H (.ref a) none
  | good {a b : Addr} {i w s : Int} (h : H a = some (.tup [.int i, .ref b])) (g : H b = some (.tup [.int w, .int s])) (t : jt (.int w) (.int s) = true) : PJ H (.ref a) (some (i, w, s))
inductive All2 {α β : Type} (R : α → β → Prop) : List α → List β → Prop where
  | nil : All2 R [] []
  | cons {a : α} {b : β} {as : List α} {bs : List β} (h : R a b) (t : All2 R as bs) : All2 R (a :: as) (b :: bs)
theorem All2.imp {α β : Type} {R S : α → β → Prop} (f : ∀ a b, R a b → S a b) {as : List α} {bs : List β} (h : All2 R as bs) : All2 S as bs := by
  induction h with
  | nil => exact .nil
  | cons h _ ih => exact .cons (f _ _ h) ih
theorem All2.get {α β : Type} {R : α → β → Prop} {as : List α} {bs : List β} (h : All2 R as bs) : ∀ (i : Nat) (a : α), as[i]? = some a → ∃ b r, R a b ∧ bs.drop i = b :: r ∧ bs.drop (i + 1) = r := by
  induction h with
  | nil => intro i a e; simp at e
  | @cons a b as bs h t ih =>
    intro i x e
    cases i with
    | zero => cases e; exact ⟨b, bs, h, rfl, rfl⟩
    | succ i => exact ih i x e
theorem All2.len {α β : Type} {R : α → β → Prop} {as : List α} {bs : List β} (h : All2 R as bs) : as.length = bs.length := by
  induction h with
  | nil => rfl
  | cons _ _ ih => exact congrArg (· + 1) ih
def rmB (n : Nat) (l b : Int) (i w : Int) : Bool := decide (l < i ∧ i < n ∧ l + b + w ≤ i ∧ i + w ≤ n)
/-- the first item that can not stand -/
def jb (n : Nat) : Nat → Int → Int → List (Option (Int × Int × Int)) → Option Nat
  | _, _, _, [] => none
  | k, _, _, none :: _ => some k
  | k, l, b, some (i, w, s) :: r => if rmB n l b i w then jb n (k + 1) i w r else some k
inductive JP (H : Hp) (n : Nat) : V → Option V → Prop where
  | flat {x : V} (h : scalarV x = true) : JP H n x (some .non)
  | seq {a : Addr} {xs : List V} {ps : List (Option (Int × Int × Int))} (h : LT H a xs) (m : xs.length ≤ 1000) (t : All2 (PJ H) xs ps) : JP H n (.ref a) ((jb n 0 0 0 ps).map fun i => .int (i : Nat))
section
variable {H H' : Hp} {n : Nat} {x : V} {o : Option V}
theorem jr_ext (s : LamX.ExtN H H') {b : Bool} (h : JR H x b) : JR H' x b := by
  cases h with
  | flat h => exact .flat h
  | lst h => exact .lst (s _ _ h lst_ntbl)
  | tupn h n => exact .tupn (s _ _ h tup_ntbl) n
  | tup2 h u v => exact .tup2 (s _ _ h tup_ntbl) (tyvE s u) (tyvE s v)
theorem pj_ext (s : LamX.ExtN H H') {j : Option (Int × Int × Int)} (h : PJ H x j) : PJ H' x j := by
  cases h with
  | flat h => exact .flat h
  | lst h => exact .lst (s _ _ h lst_ntbl)
  | tupn h n => exact .tupn (s _ _ h tup_ntbl) n
  | noi h t n => exact .noi (s _ _ h tup_ntbl) (tyvE s t) n
  | noj h t => exact .noj (s _ _ h tup_ntbl) (jr_ext s t)
  | good h g t => exact .good (s _ _ h tup_ntbl) (s _ _ g tup_ntbl) t
theorem lt_ext {a : Addr} {xs : List V} (s : LamX.ExtN H H') (h : LT H a xs) : LT H' a xs := h.imp (fun e => s _ _ e lst_ntbl) fun e => s _ _ e tup_ntbl
theorem it_ext {xs : List V} {o : Option Nat} (s : LamX.ExtN H H') (h : IT H xs o) : IT H' xs o := by
  cases h with
  | bad b e n t => exact .bad b e n fun x hx => tyvE s (t x hx)
  | good e => exact .good e
theorem SR.ext (s : LamX.ExtN H H') (h : SR H n x o) : SR H' n x o := by
  cases h with
  | flat h => exact .flat h
  | seq h e m t => exact .seq (lt_ext s h) e m (it_ext s t)
theorem JP.ext (s : LamX.ExtN H H') (h : JP H n x o) : JP H' n x o := by
  cases h with
  | flat h => exact .flat h
  | seq h m t => exact .seq (lt_ext s h) m (t.imp fun _ _ => pj_ext s)
theorem SR.same (s : Same H H') (h : SR H n x o) : SR H' n x o := h.ext (extN_same s)
theorem JP.same (s : Same H H') (h : JP H n x o) : JP H' n x o := h.ext (extN_same s)
theorem jt_nat {w s : Int} (h : jt (.int w) (.int s) = true) : ∃ a b : Nat, w = (a : Int) ∧ s = (b : Int) ∧ a ≤ 8 ∧ b ≤ 3 ∧ (a = 0 → b = 0) := by
  unfold jt at h
  simp only [Bool.and_eq_true, jx, Bool.or_eq_true, decide_eq_true_eq, inI] at h
  obtain ⟨h1, h2, h3⟩ := h
  exact ⟨w.toNat, s.toNat, by omega, by omega, by omega, by omega, by omega⟩
/-- no item is refused: they are joints with room -/
theorem jb_none : ∀ (ps : List (Option (Int × Int × Int))) (xs : List V) (k l b : Nat), All2 (PJ H) xs ps → jb n k (l : Int) (b : Int) ps = none → ∃ js : List Jo, JsAt H xs js ∧ Rm n l b js
  | _, _, k, l, b, .nil, _ => ⟨[], ⟨rfl, fun i v e => by simp at e⟩, True.intro⟩
  | none :: _, _, k, l, b, .cons _ _, h => by cases h
  | some (i, w, s) :: r, x :: xs, k, l, b, .cons hp t, h => by
    have h' : (if rmB n l b i w then jb n (k + 1) i w r else some k) = none := h
    by_cases c : rmB n l b i w = true
    · rw [if_pos c] at h'
      have c := of_decide_eq_true c
      cases hp with
      | @good a q _ _ _ e1 e2 ht =>
        obtain ⟨w', s', rfl, rfl, w8, s3, w0⟩ := jt_nat ht
        obtain ⟨i', rfl⟩ : ∃ i' : Nat, i = (i' : Int) := ⟨i.toNat, by omega⟩
        obtain ⟨js, hj, hr⟩ := jb_none r xs (k + 1) i' w' t h'
        refine ⟨(i', w', s') :: js, ⟨congrArg (· + 1) hj.1, fun m v e => ?_⟩, ?_⟩
        · cases m with
          | zero => cases e; exact ⟨(i', w', s'), a, q, rfl, rfl, e1, e2⟩
          | succ m => exact hj.2 m v e
        · exact ⟨by dsimp only; omega, by dsimp only; omega, by dsimp only; omega, by dsimp only; omega, w8, s3, w0, hr⟩
    · rw [if_neg c] at h'
      cases h'
end
theorem SR.fine {H : Hp} {n : Nat} {x : V} (h : SR H n x none) : ∃ (a : Addr) (ns : List Int), x = .ref a ∧ LT H a (ns.map V.int) ∧ ns.length = n ∧ n ≤ 1000 := by
  obtain ⟨o, ho, h⟩ : ∃ o : Option V, o = none ∧ SR H n x o := ⟨_, rfl, h⟩
  cases h with
  | flat _ => cases ho
  | @seq a xs o h e m t =>
    cases t with
    | bad _ _ _ _ => cases ho
    | @good ns e2 =>
      subst e2
      exact ⟨a, ns, rfl, h, by rw [← e, List.length_map], m⟩
theorem JP.fine {H : Hp} {n : Nat} {x : V} (h : JP H n x none) : ∃ (a : Addr) (refs : List V) (js : List Jo), x = .ref a ∧ LT H a refs ∧ JsAt H refs js ∧ Rm n 0 0 js := by
  obtain ⟨o, ho, h⟩ : ∃ o : Option V, o = none ∧ JP H n x o := ⟨_, rfl, h⟩
  cases h with
  | flat _ => cases ho
  | @seq a xs ps hL m t =>
    cases g : jb n 0 0 0 ps with
    | some k => rw [g] at ho; cases ho
    | none =>
      obtain ⟨js, h1, h2⟩ := jb_none ps xs 0 0 0 t g
      exact ⟨a, xs, js, rfl, hL, h1, h2⟩
def Al (l : List Addr) (H : Hp) : Prop := ∀ a ∈ l, ∃ o, H a = some o
theorem nm_al {l : List Addr} {p q : Addr} {H H1 : Hp} (hl : Al l H) (k : Kp p H H1) (hp : Pool H1 p) (n : H1 q = none) : q ∉ l := fun z => by
  obtain ⟨o, e⟩ := hl _ z
  by_cases c : q = p
  · obtain ⟨x, y, e2, _⟩ := hp
    rw [c, e2] at n
    cases n
  · rw [k _ _ c e] at n
    cases n
def GQ (p : Addr) (H : Hp) (xs : List V) (x : V) : Prop := (∃ a, x = .ref a ∧ a ≠ p ∧ LT H a xs) ∨ scalarV x = true
section
variable {p : Addr} {H H' : Hp} {xs : List V} {x : V} {m : Nat}
theorem GQ.kp (k : KpLN [p] H H') (h : GQ p H xs x) : GQ p H' xs x := h.imp (fun ⟨a, e, n, h⟩ => ⟨a, e, n, h.kpln k (nm_cons n List.not_mem_nil)⟩) id
end
end Z
namespace Z
open PySem PySem.Spec PyProof.Rows L2
open SX (S S_len S_cat S_inj)
inductive BZ (H : Hp) (n : Nat) : V → Option V → Prop where
  | flat {x : V} (h : scalarV x = true) : BZ H n x (some .non)
  | tup {a : Addr} {xs : List V} (h : H a = some (.tup xs)) : BZ H n (.ref a) (some .non)
  | size {a : Addr} {xs : List V} (h : H a = some (.lst xs)) (e : xs.length = n) (c : 64 < n) (m : n ≤ 1000) : BZ H n (.ref a) (some .non)
  | item {a : Addr} {xs : List V} {o : Option Nat} (h : H a = some (.lst xs)) (e : xs.length = n) (c : n ≤ 64) (t : IT H xs o) : BZ H n (.ref a) (o.map fun i => .int (i : Nat))
section
variable {H H' : Hp} {n : Nat} {x v : V} {o : Option V} {b : Bool} {p : Addr}
theorem BZ.ext (s : LamX.ExtN H H') (h : BZ H n x o) : BZ H' n x o := by
  cases h with
  | flat h => exact .flat h
  | tup h => exact .tup (s _ _ h tup_ntbl)
  | size h e c m => exact .size (s _ _ h lst_ntbl) e c m
  | item h e c t => exact .item (s _ _ h lst_ntbl) e c (it_ext s t)
theorem it_move {xs : List V} {o : Option Nat} (t : ∀ y ∈ xs, TyV H' y) (h : IT H xs o) : IT H' xs o := by
  cases h with
  | bad b e n _ => exact .bad b e n t
  | good e => exact .good e
/-- the pool may be drawn from -/
theorem BZ.kp (k : KpLN [p] H H') (q : ∀ a, x = .ref a → a ≠ p) (t : ∀ a xs, x = .ref a → H a = some (.lst xs) → ∀ y ∈ xs, PV [p] H 1 y) (h : BZ H n x o) : BZ H' n x o := by
  cases h with
  | flat h => exact .flat h
  | @tup a xs h => exact .tup (k _ _ (nm_cons (q a rfl) List.not_mem_nil) h tup_ntbl)
  | @size a xs h e c m => exact .size (k _ _ (nm_cons (q a rfl) List.not_mem_nil) h lst_ntbl) e c m
  | @item a xs o h e c i => exact .item (k _ _ (nm_cons (q a rfl) List.not_mem_nil) h lst_ntbl) e c (it_move (fun y hy => ((t a xs rfl h y hy).kp k).ty) i)
theorem BZ.fine (h : BZ H n x none) : ∃ (a : Addr) (ns : List Int), x = .ref a ∧ H a = some (.lst (ns.map V.int)) ∧ ns.length = n ∧ n ≤ 64 := by
  obtain ⟨o, ho, h⟩ : ∃ o : Option V, o = none ∧ BZ H n x o := ⟨_, rfl, h⟩
  cases h with
  | flat _ => cases ho
  | tup _ => cases ho
  | size _ _ _ _ => cases ho
  | @item a xs o hL e c t =>
    cases t with
    | bad _ _ _ _ => cases ho
    | @good ns e2 =>
      subst e2
      exact ⟨a, ns, rfl, hL, by rw [← e, List.length_map], c⟩
def TbsH (H : Hp) (a : Addr) (T : Tb × Tb) : Prop := ∃ r0 r1, H a = some (.tup [.ref r0, .ref r1]) ∧ H r0 = some (.tup [.int T.1.1, .int T.1.2]) ∧ H r1 = some (.tup [.int T.2.1, .int T.2.2])
def StQ (H : Hp) (v : V) (b : Bool) : Prop := TSR H v b ∧ (b = true → ∃ a T, v = .ref a ∧ TbsH H a T ∧ TbOk (10 ^ 56) T.1 ∧ TbOk (10 ^ 56) T.2)
theorem tr_ext (s : LamX.ExtN H H') (h : TR H v b) : TR H' v b := by
  cases h with
  | flat h => exact .flat h
  | lst h => exact .lst (s _ _ h lst_ntbl)
  | tupn h n => exact .tupn (s _ _ h tup_ntbl) n
  | tup2 h hu hv => exact .tup2 (s _ _ h tup_ntbl) (tyvE s hu) (tyvE s hv)
theorem tsr_ext (s : LamX.ExtN H H') (h : TSR H v b) : TSR H' v b := by
  cases h with
  | flat h => exact .flat h
  | lst h => exact .lst (s _ _ h lst_ntbl)
  | tupn h n => exact .tupn (s _ _ h tup_ntbl) n
  | tup2 h hu hv => exact .tup2 (s _ _ h tup_ntbl) (tr_ext s hu) (tr_ext s hv)
theorem StQ.ext (s : LamX.ExtN H H') (h : StQ H v b) : StQ H' v b := ⟨tsr_ext s h.1, fun z => by
  obtain ⟨a, T, e, ⟨r0, r1, h0, h1, h2⟩, o1, o2⟩ := h.2 z
  exact ⟨a, T, e, ⟨r0, r1, s _ _ h0 tup_ntbl, s _ _ h1 tup_ntbl, s _ _ h2 tup_ntbl⟩, o1, o2⟩⟩
theorem PV.mem {m : Nat} {a : Addr} {xs : List V} (h : PV [p] H (m + 1) (.ref a)) (e : H a = some (.tup xs)) : a ≠ p ∧ ∀ x ∈ xs, PV [p] H m x := by
  rcases h with h | ⟨c, ys, e1, n, h, s⟩
  · exact Bool.noConfusion h
  · cases e1
    rcases h with h | h
    · rw [h] at e; cases e
    · rw [h] at e; cases e; exact ⟨fun z => n (by rw [z]; exact List.mem_singleton.mpr rfl), s⟩
theorem PV.memL {m : Nat} {a : Addr} (h : PV [p] H (m + 1) (.ref a)) : a ≠ p := by
  rcases h with h | ⟨c, ys, e1, n, h, s⟩
  · exact Bool.noConfusion h
  · cases e1
    exact fun z => n (by rw [z]; exact List.mem_singleton.mpr rfl)
theorem tr_kp (k : KpLN [p] H H') (g : PV [p] H 1 v) (h : TR H v b) : TR H' v b := by
  cases h with
  | flat h => exact .flat h
  | lst h => exact .lst (k _ _ (nm_cons g.memL List.not_mem_nil) h lst_ntbl)
  | tupn h n => exact .tupn (k _ _ (nm_cons g.memL List.not_mem_nil) h tup_ntbl) n
  | @tup2 a u v h hu hv =>
    obtain ⟨n, s⟩ := g.mem h
    exact .tup2 (k _ _ (nm_cons n List.not_mem_nil) h tup_ntbl) ((s u (by simp)).kp k).ty ((s v (by simp)).kp k).ty
theorem StQ.kp (k : KpLN [p] H H') (g : PV [p] H 2 v) (h : StQ H v b) : StQ H' v b := by
  obtain ⟨h, q⟩ := h
  refine ⟨?_, fun z => ?_⟩
  · cases h with
    | flat h => exact .flat h
    | lst h => exact .lst (k _ _ (nm_cons g.memL List.not_mem_nil) h lst_ntbl)
    | tupn h n => exact .tupn (k _ _ (nm_cons g.memL List.not_mem_nil) h tup_ntbl) n
    | @tup2 a u v _ _ h hu hv =>
      obtain ⟨n, s⟩ := g.mem h
      exact .tup2 (k _ _ (nm_cons n List.not_mem_nil) h tup_ntbl) (tr_kp k (s u (by simp)) hu) (tr_kp k (s v (by simp)) hv)
  · obtain ⟨a, T, rfl, ⟨r0, r1, h0, h1, h2⟩, o1, o2⟩ := q z
    obtain ⟨n, s⟩ := g.mem h0
    have n0 := (s _ (by simp : V.ref r0 ∈ [V.ref r0, V.ref r1])).mem h1
    have n1 := (s _ (by simp : V.ref r1 ∈ [V.ref r0, V.ref r1])).mem h2
    exact ⟨a, T, rfl, ⟨r0, r1, k _ _ (nm_cons n List.not_mem_nil) h0 tup_ntbl, k _ _ (nm_cons n0.1 List.not_mem_nil) h1 tup_ntbl, k _ _ (nm_cons n1.1 List.not_mem_nil) h2 tup_ntbl⟩, o1, o2⟩
theorem PV.sm {K : PySem.W.Frag} {l : List Addr} : ∀ {n : Nat} {v : V}, PV l H n v → SmV K H n v v
  | 0, _, h => ⟨rfl, scOk.sc h⟩
  | n + 1, v, h => by
    rcases h with h | ⟨a, xs, rfl, m, h | h, s⟩
    · exact .inl ⟨rfl, scOk.sc h⟩
    · exact .inr (.inl ⟨a, a, xs, xs, rfl, rfl, .of h, .of h, rfl, fun i x y e1 e2 => by
        rw [e1] at e2
        cases e2
        exact (s x (List.mem_of_getElem? e1)).sm⟩)
    · exact .inr (.inr ⟨a, a, xs, xs, rfl, rfl, .of h, .of h, rfl, fun i x y e1 e2 => by
        rw [e1] at e2
        cases e2
        exact (s x (List.mem_of_getElem? e1)).sm⟩)
end
def TxR (v : V) : Prop := scalarV v = true ∧ ∀ s, v = .str s → ∃ l : List Nat, s = S l ∧ (∀ c ∈ l, IsB c) ∧ l.length ≤ 100
theorem TbOk.up {m m' : Int} {t : Tb} (h : TbOk m t) (l : m ≤ m') : TbOk m' t := ⟨h.1, by have := h.2.1; omega, h.2.2⟩
def SmallL (H : Hp) (x : V) : Prop := ∀ (a : Addr) (ns : List Int), x = .ref a → H a = some (.lst (ns.map V.int)) → ∀ z ∈ ns, z.natAbs < 10 ^ 55
def iv : V → Int
  | .int i => i
  | _ => 0
theorem tsr_ii {H : Hp} {a : Addr} {u v : Int} (h : H a = some (.tup [.int u, .int v])) : TSR H (.ref a) false := show TSR H (.ref a) (false && false) from .tup2 h (.flat rfl) (.flat rfl)
def spStartX : Sp := fun vs H Q _ => ∃ p, vs = [.ref p] ∧ Pool H p ∧ ∀ v b H', PV [p] H' 2 v → StQ H' v b → Pool H' p → Kp p H H' → Q v H'
theorem use_startX {p : Addr} {H : Hp} {Q : VK} {E : XK} (h : Pool H p) (q : ∀ v b H', PV [p] H' 2 v → StQ H' v b → Pool H' p → Kp p H H' → Q v H') : spStartX ([.ref p] ++ []) H Q E := ⟨p, rfl, h, q⟩
def LV (p : Addr) (H : Hp) (v : V) : Prop := scalarV v = true ∨ ∃ a xs, v = .ref a ∧ a ≠ p ∧ LT H a xs ∧ xs.length ≤ 66 ∧ (∀ x ∈ xs, PV [p] H 1 x) ∧ ∀ z : Int, V.int z ∈ xs → z.natAbs < 10 ^ 55
def spListV : Sp := fun vs H Q _ => ∃ p, vs = [.ref p] ∧ Pool H p ∧ ∀ v H', LV p H' v → Pool H' p → Kp p H H' → Q v H'
theorem use_listV {p : Addr} {H : Hp} {Q : VK} {E : XK} (h : Pool H p) (q : ∀ v H', LV p H' v → Pool H' p → Kp p H H' → Q v H') : spListV ([.ref p] ++ []) H Q E := ⟨p, rfl, h, q⟩
section
variable {p : Addr} {H H' : Hp} {v : V}
theorem LV.kp (k : KpLN [p] H H') (h : LV p H v) : LV p H' v := by
  rcases h with h | ⟨a, xs, e, n, h, l, s, z⟩
  · exact .inl h
  · exact .inr ⟨a, xs, e, n, h.kpln k (nm_cons n List.not_mem_nil), l, fun x hx => (s x hx).kp k, z⟩
theorem LV.ne (h : LV p H v) : ∀ a, v = .ref a → a ≠ p := fun a e => by
  rcases h with h | ⟨c, xs, e2, n, _⟩
  · rw [e] at h; exact Bool.noConfusion h
  · rw [e] at e2; cases e2; exact n
theorem LV.small (h : LV p H v) : SmallL H v := fun a ns e e2 z hz => by
  rcases h with h | ⟨c, ys, e3, n, h, l, s, q⟩
  · rw [e] at h; exact Bool.noConfusion h
  · rw [e] at e3; cases e3
    rcases h with h | h
    · rw [h] at e2; cases e2; exact q z (List.mem_map.mpr ⟨z, hz, rfl⟩)
    · rw [h] at e2; cases e2
end
theorem SmallL.ext {H H' : Hp} {x : V} (o : Option V) {n : Nat} (s : LamX.ExtN H H') (b : BZ H n x o) (h : SmallL H x) : SmallL H' x := fun a ns e e2 => by
  refine h a ns e ?_
  cases b with
  | flat f => rw [e] at f; exact Bool.noConfusion f
  | tup f => cases e; rw [s _ _ f tup_ntbl] at e2; cases e2
  | size f _ _ _ => cases e; rw [s _ _ f lst_ntbl] at e2; rw [f]; exact e2
  | item f _ _ _ => cases e; rw [s _ _ f lst_ntbl] at e2; rw [f]; exact e2
section
variable {o : Option V} {m n : Nat} {s f t e : V} {b : Bool} {H : Hp} {x : V}
theorem BZ.le (h : BZ H n x o) (ho : o = none) : n ≤ 64 := by
  subst ho
  obtain ⟨_, _, _, _, _, l⟩ := h.fine
  exact l
theorem TxR.of {v : V} (h : v = .non ∨ (∃ i, v = .int i) ∨ ∃ l : List Nat, v = .str (S l) ∧ (∀ c ∈ l, IsB c) ∧ l.length ≤ 100) : TxR v := by
  rcases h with rfl | ⟨i, rfl⟩ | ⟨l, rfl, h1, h2⟩
  · exact ⟨rfl, fun s e => nomatch e⟩
  · exact ⟨rfl, fun s e => nomatch e⟩
  · exact ⟨rfl, fun s e => ⟨l, (V.str.inj e).symm, h1, h2⟩⟩
end
end Z
namespace Z
open PySem PySem.Spec PyProof.Rows L2 LamX
/-- the object at f is this one -/
def LamO (f : Addr) (ob : Obj) : HO := .ext fun h => h.get? f = some ob
theorem lamO_ntbl {f : Addr} {ob : Obj} (ps : Array Value) : LamO f ob ≠ .tbl ps := fun z => by unfold LamO at z; cases z
section
variable {X : Cx} {pins : List (Addr × Obj)} {σ : L2.St} {H : Hp} {s : Shared}
/-- a new object, known from now on -/
theorem inv_push {ob : Obj} {tk : Nat} (I : Inv X pins σ H s) (nf : ob.isFreed = false) : Inv X pins σ (upd H s.heap.objs.size (LamO s.heap.objs.size ob)) { s with heap := s.heap.push ob, toks := tk } := by
  have k : ∀ b u, s.heap.get? b = some u → (s.heap.push ob).get? b = some u := fun b u e => Heap.get?_push_of_some _ e
  have ne : ∀ b u, H b = some u → b ≠ s.heap.objs.size := fun b u e => Nat.ne_of_lt (I.hok.lt e)
  have ne2 : ∀ b u, s.heap.get? b = some u → b ≠ s.heap.objs.size := fun b u e => Nat.ne_of_lt (Heap.lt_size e)
  exact I.step (g' := s.gens) (d' := s.drawn) (ch := []) (fun b hb => absurd hb List.not_mem_nil) (fun b o _ _ _ e _ => k b o e) (fun b o _ _ _ e _ => ⟨o.slots, k b o e⟩) (fun b o _ e n => by rw [upd_ne (ne2 b o e)]; exact n) (fun b o _ e => ⟨o, k b o e⟩)
    (fun b xs e => by rw [upd_ne (ne b _ e)]; exact e) (fun b o u e => by rw [upd_ne (ne b _ e)]; exact e) (fun b ps e => ⟨#[], by rw [upd_ne (ne b _ e), e]; simp⟩) (fun m hn => let ⟨o, es, ep, ho, r⟩ := hn; ⟨o, es, ep, k _ o ho, r⟩)
    (I.hok.laid k (Nat.le_refl _) ⟨Heap.get?_push_size _ nf, ⟨_, Heap.get?_push_size _ nf⟩, fun h1 h2 a st => st _ a⟩) I.bare
theorem lam_made {T : List (Addr × Str)} {c P : Addr} {params : Arguments} {body : Expr} {scope : Scope} {pos : Pos} {E Q : Value → Shared → Prop} (I : Inv X pins σ H s) (TB : TabB X.base X.mg c P) (hcode : X.env.code = .ref c) (hm : (P, X.env.qual ++ "<lambda>") ∈ T)
    (hu : ∀ p ∈ T, p.1 = P → p.2 = X.env.qual ++ "<lambda>") (hT : Tabs T H) (hdef : defaultsOf params X.env = ([], [])) (hfree : ∀ y ∈ scope.names, y.2 = .free → ∃ c, X.env.cells.lookup y.1 = some c)
    (h : ∀ (f c' : Addr) (pm ctv : Value) (H1 : Hp) (s' : Shared), Inv X pins σ H1 s' → H f = none → ExtN H H1 → Tabs T H1 → H1 f = some (LamO f (PySem.W.kla_obj "<lambda>" (X.env.qual ++ "<lambda>") params body scope (cloFrom X.env.cells scope.names []) pm c' ctv)) → H1 c' = some (CodeO c' (X.env.qual ++ "<lambda>")) → Q (.ref f) s') :
    wpAny (model X.prog X.w) X.A (eval (.Lambda params body scope pos) X.env) Q E s := by
  obtain ⟨ps, hP, ht, ha⟩ := hT _ hm
  have bP : s.heap.BuiltinsAt X.mg P := TB.bm.keeps I.bk
  have aP : s.heap.get? P = some { cls := .none, data := .fields ps } := I.hok P _ hP
  apply PySem.W.kla_eval hdef
  rcases hc : codeAmong pos ps.toList with _ | cv
  · refine PySem.W.kla_makeFunction (mg := X.mg) (c := c) (P := P) (ps := ps) (closure_ok hfree) I.ok.glob (I.mod.glob.keeps I.bk) hcode (TB.code.keeps I.bk) aP ht hc TB.gP bP fun c' ctv h' tk hx hge hlt hrec htb => ?_
    obtain ⟨c2, oc, vs, t, e2, r1, r2, r3⟩ := hrec
    cases e2
    have nC : H c' = none := I.hok.fresh hge
    have I1 := inv_table (t' := tk) (more := #[rawInt pos.line, rawInt pos.col, .ref c']) I hP hx htb hge ⟨oc, vs, t, r1, r2, r3⟩
    have le : s.heap.objs.size ≤ h'.objs.size := Nat.le_of_lt (Nat.lt_of_le_of_lt hge hlt)
    have nF : H h'.objs.size = none := I.hok.fresh le
    have I2 := inv_push (tk := tk) (ob := PySem.W.kla_obj "<lambda>" (X.env.qual ++ "<lambda>") params body scope (cloFrom X.env.cells scope.names []) ((X.mg "__name__").getD .none) c' ctv) I1 rfl
    have nfc : h'.objs.size ≠ c' := Nat.ne_of_gt hlt
    have el : (ps ++ #[rawInt pos.line, rawInt pos.col, .ref c']).toList = ps.toList ++ [rawInt pos.line, rawInt pos.col, .ref c'] := by simp
    have x1 : ExtN H (upd (upd H P (.tbl (ps ++ #[rawInt pos.line, rawInt pos.col, .ref c']))) c' (CodeO c' (X.env.qual ++ "<lambda>"))) := fun b o e n => by
      have b1 : b ≠ c' := ne_of_none e nC
      have b2 : b ≠ P := fun z => by rw [z, hP] at e; exact n ps (Option.some.inj e).symm
      rw [upd_ne b1, upd_ne b2]
      exact e
    have n1 : (upd (upd H P (.tbl (ps ++ #[rawInt pos.line, rawInt pos.col, .ref c']))) c' (CodeO c' (X.env.qual ++ "<lambda>"))) h'.objs.size = none := I1.hok.fresh (Nat.le_refl _)
    have t1 : Tabs T (upd (upd H P (.tbl (ps ++ #[rawInt pos.line, rawInt pos.col, .ref c']))) c' (CodeO c' (X.env.qual ++ "<lambda>"))) := fun p hp => by
      by_cases hb : p.1 = P
      · rw [hb, hu p hp hb]
        refine ⟨_, by rw [upd_ne (ne_of_none hP nC)]; exact upd_same, by rw [el]; exact PySem.TriplesOk_snoc _ _ _ _ ht, fun p2 v hv => ?_⟩
        rw [el] at hv
        rcases among_app _ ht hv with z | z
        · obtain ⟨d, z1, z2⟩ := ha p2 v z
          exact ⟨d, z1, x1 _ _ z2 codeO_ne⟩
        · exact ⟨c', z, upd_same⟩
      · obtain ⟨qs, z1, z2, z3⟩ := hT p hp
        refine ⟨qs, by rw [upd_ne (ne_of_none z1 nC), upd_ne hb]; exact z1, z2, fun p2 v hv => ?_⟩
        obtain ⟨d, y1, y2⟩ := z3 p2 v hv
        exact ⟨d, y1, x1 _ _ y2 codeO_ne⟩
    exact h _ c' _ ctv _ _ I2 nF (fun b o e n => by rw [upd_ne (ne_of_none (x1 b o e n) n1)]; exact x1 b o e n) (Tabs.new n1 t1) upd_same (by rw [upd_ne nfc.symm]; exact upd_same)
  · obtain ⟨c', e, hco⟩ := ha pos cv hc
    subst e
    refine PySem.W.kla_makeFunctionHit (mg := X.mg) (c := c) (P := P) (ps := ps) (closure_ok hfree) I.ok.glob (I.mod.glob.keeps I.bk) hcode (TB.code.keeps I.bk) aP ht hc bP fun ctv h' tk hx hsz => ?_
    have I1 : Inv X pins σ H { s with heap := h', toks := tk } := I.kept hx
    have I2 := inv_push (tk := tk) (ob := PySem.W.kla_obj "<lambda>" (X.env.qual ++ "<lambda>") params body scope (cloFrom X.env.cells scope.names []) ((X.mg "__name__").getD .none) c' ctv) I1 rfl
    have n1 : H h'.objs.size = none := I.hok.fresh hsz
    exact h _ c' _ ctv _ _ I2 n1 (fun b o e _ => by rw [upd_ne (ne_of_none e n1)]; exact e) (Tabs.new n1 hT) upd_same (by rw [upd_ne (ne_of_none hco n1)]; exact hco)
end
/-- what is known of a lambda without parameters: its body's reading is t -/
def IsLam (X : Cx) (k : Nat) (t : XK → TE) (H : Hp) (f : Addr) : Prop := ∃ (params : Arguments) (body : Expr) (scope : Scope) (pm ctv : Value) (c' : Addr), LamS X.env.scope scope ∧ (∀ (q : Str) (cl : List (Str × Addr)) (pm cv ctv : Value), bindArgs (PySem.W.kla_fn "<lambda>" q params body scope cl pm cv ctv) ⟨[], []⟩ = pure []) ∧
  (∀ (A : Around) (outer : List Env) (s : Shared) (H : Hp) (E : XK) (f c' : Addr), Room k (A.deeper (lamEnv X scope s.heap.objs.size f c')) → PE (lamCx X A outer s H E scope f c') body (t E)) ∧
  H f = some (LamO f (PySem.W.kla_obj "<lambda>" (X.env.qual ++ "<lambda>") params body scope (cloFrom X.env.cells scope.names []) pm c' ctv)) ∧ H c' = some (CodeO c' (X.env.qual ++ "<lambda>"))
theorem IsLam.ext {X : Cx} {k : Nat} {t : XK → TE} {H H' : Hp} {f : Addr} (s : ExtN H H') (h : IsLam X k t H f) : IsLam X k t H' f := by
  obtain ⟨p, b, sc, pm, ctv, c', h1, h2, h3, h4, h5⟩ := h
  exact ⟨p, b, sc, pm, ctv, c', h1, h2, h3, s _ _ h4 lamO_ntbl, s _ _ h5 codeO_ne⟩
end Z
namespace Z
open PySem PySem.Spec PyProof.Rows L2
open SX (S S_len S_cat S_inj)
def spTabsX : Sp := fun vs H Q _ => ∃ p, vs = [.ref p] ∧ Pool H p ∧ ∀ t T H', TbsH H' t T → TbOk 100 T.1 → TbOk 100 T.2 → Pool H' p → Kp p H H' → Q (.ref t) H'
theorem use_tabsX {p : Addr} {H : Hp} {Q : VK} {E : XK} (h : Pool H p) (q : ∀ t T H', TbsH H' t T → TbOk 100 T.1 → TbOk 100 T.2 → Pool H' p → Kp p H H' → Q (.ref t) H') : spTabsX ([.ref p] ++ []) H Q E := ⟨p, rfl, h, q⟩
def spSomeX : Sp := fun vs H Q _ => ∃ (p : Addr) (n : Nat), vs = [.ref p, .int (n : Nat)] ∧ Pool H p ∧ n ≤ 64 ∧ ∀ D (ns : List Int) H', H D = none → H' D = some (.lst (ns.map V.int)) → ns.length = n → (∀ z ∈ ns, z.natAbs ≤ 30000) → Pool H' p → Kp p H H' → Q (.ref D) H'
theorem use_someX {p : Addr} {n : Nat} {H : Hp} {Q : VK} {E : XK} (h : Pool H p) (hn : n ≤ 64) (q : ∀ D (ns : List Int) H', H D = none → H' D = some (.lst (ns.map V.int)) → ns.length = n → (∀ z ∈ ns, z.natAbs ≤ 30000) → Pool H' p → Kp p H H' → Q (.ref D) H') : spSomeX ([.ref p, .int (n : Nat)] ++ []) H Q E := ⟨p, n, rfl, h, hn, q⟩
/-- length, width, shape, levels, step -/
abbrev Hd := Nat × Nat × Nat × Nat × Nat
def HdAt (H : Hp) (h : Addr) (j : Addr) (d : Hd) : Prop := H h = some (.tup [.int (d.1 : Nat), .ref j, .int (d.2.2.2.1 : Nat), .int (d.2.2.2.2 : Nat)]) ∧ H j = some (.tup [.int (d.2.1 : Nat), .int (d.2.2.1 : Nat)])
def HdOk (d : Hd) : Prop := 1 ≤ d.1 ∧ d.1 ≤ 64 ∧ d.2.1 ≤ 8 ∧ d.2.2.1 ≤ 3 ∧ (d.2.1 = 0 → d.2.2.1 = 0) ∧ d.2.2.2.1 ≤ 5 ∧ 1 ≤ d.2.2.2.2 ∧ d.2.2.2.2 ≤ 64
/-- the bits of a frame -/
def bitsF (d : Hd) (ns : List Int) (T : Tb × Tb) : List Nat := (wst ns (cc d.1 d.2.2.2.1) T ns.length).1.flatten
def nextF (d : Hd) (ns : List Int) (T : Tb × Tb) : Tb × Tb := (wst ns (cc d.1 d.2.2.2.1) T ns.length).2
def FrAt (H : Hp) (r : Addr) (j : Addr) (d : Hd) (ns : List Int) (T : Tb × Tb) : Prop := H r = some (.tup [.str (Str.ofString "frame"), .int (d.1 : Nat), .ref j, .int (d.2.2.2.1 : Nat), .int (d.2.2.2.2 : Nat), .int (markF ns), .str (S (bitsF d ns T))])
theorem rd_extG {a b : Addr} {xs zs : List V} {H : Hp} {Q : VK} (h : H a = some (.lst xs)) (hb : H b = some (.lst zs)) (n : xs.length + zs.length ≤ 1000) (q : Q .non (upd H a (.lst (xs ++ zs)))) : rExtend (.ref a) [.ref b] H Q := ⟨a, b, xs, zs, rfl, rfl, h, hb, Nat.le_of_lt (small1000 n), q⟩
/-- frames that follow each other: the width at the left end of the first, at the right end of the last -/
def Ch : Nat → List Hd → Nat → Prop
  | l, [], e => l = e
  | l, d :: r, e => HdOk d ∧ l + d.2.1 ≤ d.1 ∧ Ch d.2.1 r e
theorem Ch.snoc {d : Hd} (hd : HdOk d) : ∀ {hs : List Hd} {l e : Nat}, Ch l hs e → e + d.2.1 ≤ d.1 → Ch l (hs ++ [d]) d.2.1
  | [], l, e, h, k => by
    have h : l = e := h
    subst h
    exact ⟨hd, k, rfl⟩
  | c :: r, l, e, ⟨h1, h2, h3⟩, k => ⟨h1, h2, Ch.snoc hd h3 k⟩
def HdsAt (H : Hp) (refs : List V) (hs : List Hd) : Prop := All2 (fun v d => ∃ h j, v = .ref h ∧ HdAt H h j d) refs hs
theorem HdAt.lk {H H' : Hp} {h j : Addr} {d : Hd} (s : LK H H') (k : HdAt H h j d) : HdAt H' h j d := ⟨s _ _ k.1 (fun _ z => nomatch z), s _ _ k.2 (fun _ z => nomatch z)⟩
theorem HdsAt.lk {H H' : Hp} {refs : List V} {hs : List Hd} (s : LK H H') (k : HdsAt H refs hs) : HdsAt H' refs hs := k.imp fun _ _ ⟨h, j, e, q⟩ => ⟨h, j, e, q.lk s⟩
theorem All2.app {α β : Type} {R : α → β → Prop} {as : List α} {bs : List β} {a : α} {b : β} (h : All2 R as bs) (k : R a b) : All2 R (as ++ [a]) (bs ++ [b]) := by
  induction h with
  | nil => exact .cons k .nil
  | cons h _ ih => exact .cons h ih
def spHeads : Sp := fun vs H Q _ => ∃ (p : Addr) (m : Nat), vs = [.ref p, .int (m : Nat)] ∧ Pool H p ∧ m ≤ 20 ∧ ∀ D refs hs H', H D = none → H' D = some (.lst refs) → HdsAt H' refs hs → Ch 0 hs 0 → hs.length = m → Pool H' p → Kp p H H' → Q (.ref D) H'
theorem use_heads {p : Addr} {m : Nat} {H : Hp} {Q : VK} {E : XK} (h : Pool H p) (hm : m ≤ 20) (q : ∀ D refs hs H', H D = none → H' D = some (.lst refs) → HdsAt H' refs hs → Ch 0 hs 0 → hs.length = m → Pool H' p → Kp p H H' → Q (.ref D) H') : spHeads ([.ref p, .int (m : Nat)] ++ []) H Q E := ⟨p, m, rfl, h, hm, q⟩
def nv (n : Nat) : V := .int (n : Nat)
theorem none_of {p D : Addr} {H G : Hp} (k : Kp p H G) (n : D ≠ p) (h : G D = none) : H D = none := by
  cases z : H D with
  | none => rfl
  | some u => rw [k _ _ n z] at h; cases h
inductive Rc where
  | st (T : Tb × Tb)
  | fr (d : Hd) (ns : List Int) (T : Tb × Tb)
def TkOk (T : Tb × Tb) : Prop := TbOk (10 ^ 50) T.1 ∧ TbOk (10 ^ 50) T.2
def RcAt (K : PySem.W.Frag) (H : Hp) (v : V) : Rc → Prop
  | .st T => ∃ a t, v = .ref a ∧ H a = some (.tup [.str (Str.ofString "state"), .ref t]) ∧ TbsV K H t T
  | .fr d ns T => ∃ a j, v = .ref a ∧ FrAt H a j d ns T ∧ H j = some (.tup [.int (d.2.1 : Nat), .int (d.2.2.1 : Nat)])
theorem RcAt.lk {K : PySem.W.Frag} {H H' : Hp} {v : V} (s : LK H H') : ∀ {r : Rc}, RcAt K H v r → RcAt K H' v r
  | .st T, ⟨a, t, e, h, q⟩ => ⟨a, t, e, s _ _ h (fun _ z => nomatch z), q.lk s⟩
  | .fr d ns T, ⟨a, j, e, h, q⟩ => ⟨a, j, e, s _ _ h (fun _ z => nomatch z), s _ _ q (fun _ z => nomatch z)⟩
def RcsAt (K : PySem.W.Frag) (H : Hp) (vs : List V) (rs : List Rc) : Prop := All2 (RcAt K H) vs rs
theorem RcsAt.lk {K : PySem.W.Frag} {H H' : Hp} {vs : List V} {rs : List Rc} (s : LK H H') (h : RcsAt K H vs rs) : RcsAt K H' vs rs := h.imp fun _ _ q => q.lk s
/-- a row of the index: record, place, frame, left joint, origin -/
abbrev Rw := Nat × Nat × Hd × (Nat × Nat) × Nat
structure Run where
  i : Nat
  pl : Nat
  lj : Nat × Nat
  o : Nat
  rows : List Rw
def stpR (s : Run) : Rc → Run
  | .st _ => ⟨s.i + 1, s.pl, s.lj, s.i, s.rows⟩
  | .fr d _ _ => ⟨s.i + 1, s.pl + d.1, (d.2.1, d.2.2.1), s.o, s.rows ++ [(s.i, s.pl, d, s.lj, s.o)]⟩
def runR (rs : List Rc) : Run := rs.foldl stpR ⟨0, 0, (0, 0), 0, []⟩
theorem runR_snoc (rs : List Rc) (r : Rc) : runR (rs ++ [r]) = stpR (runR rs) r := by unfold runR; rw [List.foldl_append]; rfl
theorem runR_i : ∀ rs : List Rc, (runR rs).i = rs.length := fun rs => by
  have key : ∀ (rs : List Rc) (s : Run), (rs.foldl stpR s).i = s.i + rs.length := by
    intro rs
    induction rs with
    | nil => intro s; rfl
    | cons r rs ih =>
      intro s
      rw [List.foldl_cons, ih, List.length_cons]
      cases r <;> (show s.i + 1 + _ = _; omega)
  have z := key rs ⟨0, 0, (0, 0), 0, []⟩
  rw [Nat.zero_add] at z
  exact z
def JtAt (H : Hp) (j : Addr) (x : Nat × Nat) : Prop := H j = some (.tup [.int (x.1 : Nat), .int (x.2 : Nat)])
def RwAt (H : Hp) (v : V) (r : Rw) : Prop := ∃ a jl j, v = .ref a ∧ H a = some (.tup [.int (r.1 : Nat), .int (r.2.1 : Nat), .int (r.2.2.1.1 : Nat), .ref jl, .ref j, .int (r.2.2.1.2.2.2.1 : Nat), .int (r.2.2.1.2.2.2.2 : Nat), .int (r.2.2.2.2 : Nat)]) ∧ JtAt H jl r.2.2.2.1 ∧ JtAt H j (r.2.2.1.2.1, r.2.2.1.2.2.1)
theorem RwAt.lk {H H' : Hp} {v : V} {r : Rw} (s : LK H H') (h : RwAt H v r) : RwAt H' v r := by
  obtain ⟨a, jl, j, e, h1, h2, h3⟩ := h
  exact ⟨a, jl, j, e, s _ _ h1 (fun _ z => nomatch z), s _ _ h2 (fun _ z => nomatch z), s _ _ h3 (fun _ z => nomatch z)⟩
def RwsAt (H : Hp) (vs : List V) (rs : List Rw) : Prop := All2 (RwAt H) vs rs
theorem RwsAt.lk {H H' : Hp} {vs : List V} {rs : List Rw} (s : LK H H') (h : RwsAt H vs rs) : RwsAt H' vs rs := h.imp fun _ _ q => q.lk s
/-- what is kept of the frames -/
def blkF (kf : Hd → List Int → List Int) : List Rc → List (List Int)
  | [] => []
  | .st _ :: r => blkF kf r
  | .fr d ns _ :: r => kf d ns :: blkF kf r
abbrev kfB : Hd → List Int → List Int := fun d ns => joinL (ns.map (· * (d.2.2.2.2 : Int))) d.2.2.2.1
abbrev kfN : Hd → List Int → List Int := fun _ ns => ns
abbrev blkR := blkF kfB
theorem blkF_snoc (kf : Hd → List Int → List Int) : ∀ (rs : List Rc) (r : Rc), blkF kf (rs ++ [r]) = blkF kf rs ++ blkF kf [r]
  | [], r => rfl
  | .st _ :: rs, r => blkF_snoc kf rs r
  | .fr d ns _ :: rs, r => congrArg (kf d ns :: ·) (blkF_snoc kf rs r)
def BksAt (l : List Addr) (H : Hp) (vs : List V) (bs : List (List Int)) : Prop := All2 (fun v b => ∃ a, v = .ref a ∧ a ∉ l ∧ H a = some (.lst (b.map V.int))) vs bs
theorem BksAt.kp {l : List Addr} {H H' : Hp} {vs : List V} {bs : List (List Int)} (k : KpL l H H') (h : BksAt l H vs bs) : BksAt l H' vs bs := h.imp fun _ _ ⟨a, e, n, q⟩ => ⟨a, e, n, k _ _ n q⟩
/-- records that can be read one after the other: from tables and a width at the left, to tables and a width -/
def Vd : Tb × Tb → Nat → List Rc → Tb × Tb → Nat → Prop
  | T, l, [], T2, l2 => T = T2 ∧ l = l2
  | _, l, .st T' :: r, T2, l2 => TkOk T' ∧ Vd T' l r T2 l2
  | T, l, .fr d ns T0 :: r, T2, l2 => T0 = T ∧ HdOk d ∧ l + d.2.1 ≤ d.1 ∧ ns.length = d.1 ∧ (∀ z ∈ ns, z.natAbs ≤ 10 ^ 45) ∧ TkOk T ∧ Vd (nextF d ns T) d.2.1 r T2 l2
def T0 : Tb × Tb := ((2, 1), (2, 1))
/-- what the writing of a stream keeps -/
structure SI (kf : Hd → List Int → List Int) (K : PySem.W.Frag) (p R W B : Addr) (H : Hp) (refs rws bks : List V) (rs : List Rc) (T : Tb × Tb) (jl : Addr) (lj : Nat × Nat) (o pl n : Nat) : Prop where
  eR : H R = some (.lst refs)
  eW : H W = some (.lst rws)
  eB : H B = some (.lst bks)
  rc : RcsAt K H refs rs
  rw : RwsAt H rws (runR rs).rows
  bk : BksAt [p, R, W, B] H bks (blkF kf rs)
  vd : Vd T0 0 rs T lj.1
  jt : JtAt H jl lj
  r1 : (runR rs).lj = lj
  r2 : (runR rs).pl = pl
  r3 : (runR rs).o = o
  ln : refs.length = rs.length
  le : rs.length ≤ n
  po : Pool H p
  nRp : R ≠ p
  nWp : W ≠ p
  nBp : B ≠ p
  nRW : R ≠ W
  nRB : R ≠ B
  nWB : W ≠ B
section
variable {kf : Hd → List Int → List Int} {K : PySem.W.Frag} {p R W B jl : Addr} {H H' : Hp} {refs rws bks : List V} {rs : List Rc} {T : Tb × Tb} {lj : Nat × Nat} {o pl n : Nat}
theorem JtAt.lk {j : Addr} {x : Nat × Nat} (s : LK H H') (h : JtAt H j x) : JtAt H' j x := s _ _ h fun _ z => nomatch z
theorem SI.kp (h : SI kf K p R W B H refs rws bks rs T jl lj o pl n) (k : Kp p H H') (hP : Pool H' p) : SI kf K p R W B H' refs rws bks rs T jl lj o pl n :=
  have lk := LK.pool h.po k
  { h with eR := k _ _ h.nRp h.eR, eW := k _ _ h.nWp h.eW, eB := k _ _ h.nBp h.eB, rc := h.rc.lk lk, rw := h.rw.lk lk, bk := h.bk.kp (KpL.ofK List.mem_cons_self k), jt := h.jt.lk lk, po := hP }
theorem SI.new {q : Addr} {u : HO} (h : SI kf K p R W B H refs rws bks rs T jl lj o pl n) (nq : H q = none) : SI kf K p R W B (upd H q u) refs rws bks rs T jl lj o pl n := h.kp (Kp.new nq) (h.po.new nq)
theorem SI.same (h : SI kf K p R W B H refs rws bks rs T jl lj o pl n) (s : Same H H') : SI kf K p R W B H' refs rws bks rs T jl lj o pl n := h.kp (fun a x _ e => s a x e) (h.po.same s)
theorem pool_upd {a : Addr} {u : HO} (ne : a ≠ p) (h : Pool H p) : Pool (upd H a u) p := by
  obtain ⟨x, y, e, r⟩ := h
  exact ⟨x, y, by rw [upd_ne ne.symm]; exact e, r⟩
end
theorem SI.up {kf : Hd → List Int → List Int} {K : PySem.W.Frag} {p R W B jl : Addr} {H : Hp} {refs rws bks : List V} {rs : List Rc} {T : Tb × Tb} {lj : Nat × Nat} {o pl n m : Nat} (h : SI kf K p R W B H refs rws bks rs T jl lj o pl n) (k : n ≤ m) : SI kf K p R W B H refs rws bks rs T jl lj o pl m := { h with le := Nat.le_trans h.le k }
theorem rows_le (rs : List Rc) : (runR rs).rows.length ≤ rs.length := by
  have key : ∀ (rs : List Rc) (s : Run), (rs.foldl stpR s).rows.length ≤ s.rows.length + rs.length := by
    intro rs
    induction rs with
    | nil => intro s; exact Nat.le_refl _
    | cons r rs ih =>
      intro s
      rw [List.foldl_cons, List.length_cons]
      have := ih (stpR s r)
      cases r with
      | st T => exact Nat.le_trans this (by show s.rows.length + _ ≤ _; omega)
      | fr d ns T => exact Nat.le_trans this (by show (s.rows ++ [_]).length + _ ≤ _; rw [List.length_append]; simp only [List.length_cons, List.length_nil]; omega)
  have z : (runR rs).rows.length ≤ 0 + rs.length := key rs ⟨0, 0, (0, 0), 0, []⟩
  omega
theorem lc_mapM {K : PySem.W.Frag} {σ : L2.St} {Q : VK} {vs : List Nat} {k : Nat} {a D : Addr} {xs : List Int} {H1 : Hp} {te : TE} (f : Int → Int) (hS : SqL K H1 a (xs.map V.int)) (hn : xs.length ≤ 1000) (hw : ∀ v, wipe ((wipe σ vs).set k (some v)) vs = wipe σ vs) (hD : H1 D = none)
    (turn : ∀ z ∈ xs, ∀ (H : Hp) (Q' : VK), Same H1 H → Q' (.int (f z)) H → te ((wipe σ vs).set k (some (.int z))) H Q')
    (q : ∀ H', Same H1 H' → H' D = some (.lst ((xs.map f).map V.int)) → Q (.ref D) H') : LcW (Itl K a) (gName k) tYes te vs Q σ H1 D := by
  refine lc_list (xs := xs.map V.int) (Pv := fun j H => Same H1 H ∧ H D = some (.lst (((xs.map f).take j).map V.int))) ⟨same_new hD, upd_same⟩ (fun j H _ hI => hI.1.seq hS) (fun j v H hv hI => ?_) (fun H hI => ?_)
  · obtain ⟨hs, hd⟩ := hI
    obtain ⟨z, rfl, hz⟩ : ∃ z, v = .int z ∧ xs[j]? = some z := by
      rw [List.getElem?_map] at hv
      cases g : xs[j]? with
      | none => rw [g] at hv; cases hv
      | some z => rw [g] at hv; exact ⟨z, (Option.some.inj hv).symm, rfl⟩
    have hj := (List.getElem?_eq_some_iff.mp hz).1
    refine ⟨hw _, rd_yes ?_⟩
    refine turn z (List.mem_of_getElem? hz) H _ hs ⟨_, hd, small1000 (by rw [List.length_map, List.length_take, List.length_map]; omega), ?_, ?_⟩
    · exact fun b o e => by rw [upd_ne (ne_of_none e hD)]; exact hs _ _ e
    · have hz2 : (xs.map f)[j]? = some (f z) := by rw [List.getElem?_map, hz]; rfl
      rw [upd_same, List.take_add_one, hz2, List.map_append]
      rfl
  · obtain ⟨hs, hd⟩ := hI
    rw [List.take_of_length_le (by rw [List.length_map, List.length_map]; exact Nat.le_refl _)] at hd
    exact q H hs hd
end Z
namespace Z
open PySem PySem.Spec PyProof.Rows L2
open SX (S S_len S_cat S_inj)
structure Mn (K : PySem.W.Frag) (C : Addr) (x q : Str) (st : Stmt) (ps : List Str) (f : Addr) (fd : FuncData) : Prop where
  F : Fun K x q st f fd
  m : Meth K C x f
  b : Binds K fd ps []
structure Pn (K : PySem.W.Frag) (C : Addr) (x q : Str) (st : Stmt) (ps : List Str) (p f : Addr) (fd : FuncData) : Prop where
  F : Fun K x q st f fd
  p : PropOf K C x p f
  b : Binds K fd ps []
structure StmC (K : PySem.W.Frag) (mg : Str → Option Value) (C : Addr) : Prop where
  cl : Cls K C
  g : mg "Stream" = some (.ref C)
  mks : PySem.W.makesIn K C = true
  kc : PySem.W.keepIn K (.ref C) = true
  nh : NoAttr K C "held"
  nr : NoAttr K C "read"
theorem rd_decT {p : Prop} [Decidable p] {H : Hp} {Q : VK} (h : p) (q : Q (.bl true) H) : Q (.bl (decide p)) H := by rw [decide_eq_true h]; exact q
def spIsB : Sp := fun vs H Q _ => ∃ l : List Nat, vs = [.str (S l)] ∧ (∀ c ∈ l, IsB c) ∧ l.length ≤ 1000000 ∧ Q (.bl true) H
theorem use_isb {l : List Nat} {H : Hp} {Q : VK} {E : XK} (h1 : ∀ c ∈ l, IsB c) (h2 : l.length ≤ 1000000) (q : Q (.bl true) H) : spIsB ([.str (S l)] ++ []) H Q E := ⟨l, rfl, h1, h2, q⟩
def spIsLay : Sp := fun vs H Q _ => ∃ (a j : Addr) (d : Hd), vs = [.ref a] ∧ HdAt H a j d ∧ HdOk d ∧ Q (.bl true) H
theorem use_islay {a j : Addr} {d : Hd} {H : Hp} {Q : VK} {E : XK} (h : HdAt H a j d) (ok : HdOk d) (q : Q (.bl true) H) : spIsLay ([.ref a] ++ []) H Q E := ⟨a, j, d, rfl, h, ok, q⟩
/-- a record that is valid -/
def RcOk : Rc → Prop
  | .st T => TkOk T
  | .fr d ns T => HdOk d ∧ ns.length = d.1 ∧ (∀ z ∈ ns, z.natAbs ≤ 10 ^ 45) ∧ TkOk T
def isSt : Rc → Bool
  | .st _ => true
  | .fr _ _ _ => false
def spIsSt (K : PySem.W.Frag) : Sp := fun vs H Q _ => ∃ v r, vs = [v] ∧ RcAt K H v r ∧ RcOk r ∧ Q (.bl (isSt r)) H
theorem use_isst {K : PySem.W.Frag} {v : V} {r : Rc} {H : Hp} {Q : VK} {E : XK} (h : RcAt K H v r) (ok : RcOk r) (q : Q (.bl (isSt r)) H) : spIsSt K ([v] ++ []) H Q E := ⟨v, r, rfl, h, ok, q⟩
def spIsFr (K : PySem.W.Frag) : Sp := fun vs H Q _ => ∃ v d ns T, vs = [v] ∧ RcAt K H v (.fr d ns T) ∧ RcOk (.fr d ns T) ∧ ∀ H', Same H H' → Q (.bl true) H'
theorem use_isfr {K : PySem.W.Frag} {v : V} {d : Hd} {ns : List Int} {T : Tb × Tb} {H : Hp} {Q : VK} {E : XK} (h : RcAt K H v (.fr d ns T)) (ok : RcOk (.fr d ns T)) (q : ∀ H', Same H H' → Q (.bl true) H') : spIsFr K ([v] ++ []) H Q E := ⟨v, d, ns, T, rfl, h, ok, q⟩
def spIsRc (K : PySem.W.Frag) : Sp := fun vs H Q _ => ∃ v r, vs = [v] ∧ RcAt K H v r ∧ RcOk r ∧ ∀ H', Same H H' → Q (.bl true) H'
theorem use_isrc {K : PySem.W.Frag} {v : V} {r : Rc} {H : Hp} {Q : VK} {E : XK} (h : RcAt K H v r) (ok : RcOk r) (q : ∀ H', Same H H' → Q (.bl true) H') : spIsRc K ([v] ++ []) H Q E := ⟨v, r, rfl, h, ok, q⟩
def spCkRc (K : PySem.W.Frag) : Sp := fun vs H Q _ => ∃ a refs rs, vs = [.ref a] ∧ H a = some (.lst refs) ∧ RcsAt K H refs rs ∧ (∀ r ∈ rs, RcOk r) ∧ ∀ H', Same H H' → Q .non H'
theorem use_ckrc {K : PySem.W.Frag} {a : Addr} {refs : List V} {rs : List Rc} {H : Hp} {Q : VK} {E : XK} (h : H a = some (.lst refs)) (k : RcsAt K H refs rs) (ok : ∀ r ∈ rs, RcOk r) (q : ∀ H', Same H H' → Q .non H') : spCkRc K ([.ref a] ++ []) H Q E := ⟨a, refs, rs, rfl, h, k, ok, q⟩
theorem bitsF_len {d : Hd} {ns : List Int} {T : Tb × Tb} (ok : RcOk (.fr d ns T)) : (bitsF d ns T).length ≤ 1000000 ∧ ∀ c ∈ bitsF d ns T, IsB c := by
  obtain ⟨h1, h2, h3, h4, h5⟩ := ok
  refine ⟨?_, wst_bin _ _ _ _⟩
  have z := wst_flat (first := cc d.1 d.2.2.2.1) (fun z hz => Nat.lt_of_le_of_lt (h3 z hz) (by decide)) (h4.up (by decide : (10:Int) ^ 50 ≤ 10 ^ 58)) (h5.up (by decide : (10:Int) ^ 50 ≤ 10 ^ 58)) ns.length (by have := h1.2.1; omega)
  have := h1.2.1
  unfold bitsF
  omega
/-- index, place, head, left joint, numbers, tables -/
abbrev Fm := Nat × Nat × Hd × (Nat × Nat) × List Int × (Tb × Tb)
def frR : Nat → Nat → (Nat × Nat) → List Rc → List Fm
  | _, _, _, [] => []
  | i, pl, lj, .st _ :: r => frR (i + 1) pl lj r
  | i, pl, lj, .fr d ns T :: r => (i, pl, d, lj, ns, T) :: frR (i + 1) (pl + d.1) (d.2.1, d.2.2.1) r
def JtV (K : PySem.W.Frag) (H : Hp) (j : Addr) (x : Nat × Nat) : Prop := TupV K H j [.int (x.1 : Nat), .int (x.2 : Nat)]
theorem JtAt.v {K : PySem.W.Frag} {H : Hp} {j : Addr} {x : Nat × Nat} (h : JtAt H j x) : JtV K H j x := TupV.of h
theorem JtV.lk {K : PySem.W.Frag} {H H' : Hp} {j : Addr} {x : Nat × Nat} (s : LK H H') (h : JtV K H j x) : JtV K H' j x := TupV.lk s h
def FmAt (K : PySem.W.Frag) (l : List Addr) (H : Hp) (v : V) (f : Fm) : Prop := ∃ a b jl j m t q, v = .ref a ∧ H a = some (.tup [.ref b, .ref m, .ref t, .ref q]) ∧ H b = some (.tup [.int (f.1 : Nat), .int (f.2.1 : Nat), .int (f.2.2.1.1 : Nat), .ref jl, .ref j]) ∧ JtV K H jl f.2.2.2.1 ∧ JtAt H j (f.2.2.1.2.1, f.2.2.1.2.2.1) ∧
  m ∉ l ∧ H m = some (.lst (f.2.2.2.2.1.map V.int)) ∧ TbsV K H t f.2.2.2.2.2 ∧ TbsV K H q (nextF f.2.2.1 f.2.2.2.2.1 f.2.2.2.2.2)
theorem FmAt.kp {K : PySem.W.Frag} {l : List Addr} {H H' : Hp} {v : V} {f : Fm} (s : LK H H') (k : KpL l H H') (h : FmAt K l H v f) : FmAt K l H' v f := by
  obtain ⟨a, b, jl, j, m, t, q, e, h1, h2, h3, h4, h5, h6, h7, h8⟩ := h
  exact ⟨a, b, jl, j, m, t, q, e, s _ _ h1 (fun _ z => nomatch z), s _ _ h2 (fun _ z => nomatch z), h3.lk s, h4.lk s, h5, k _ _ h5 h6, h7.lk s, h8.lk s⟩
theorem FmAt.same {K : PySem.W.Frag} {l : List Addr} {H H' : Hp} {v : V} {f : Fm} (s : Same H H') (h : FmAt K l H v f) : FmAt K l H' v f := h.kp (.of s) (.ofS s)
theorem FmAt.out {K : PySem.W.Frag} {l : List Addr} {H : Hp} {v : V} {f : Fm} (h : FmAt K l H v f) : FmAt K [] H v f := by
  obtain ⟨a, b, jl, j, m, t, q, e, h1, h2, h3, h4, h5, h⟩ := h
  exact ⟨a, b, jl, j, m, t, q, e, h1, h2, h3, h4, List.not_mem_nil, h⟩
def FmsAt (K : PySem.W.Frag) (l : List Addr) (H : Hp) (vs : List V) (fs : List Fm) : Prop := All2 (FmAt K l H) vs fs
theorem Vd.ok : ∀ {rs : List Rc} {T : Tb × Tb} {l : Nat} {T2 : Tb × Tb} {l2 : Nat}, Vd T l rs T2 l2 → ∀ r ∈ rs, RcOk r
  | [], _, _, _, _, _, r, h => absurd h List.not_mem_nil
  | .st T' :: rs, _, _, _, _, ⟨h, q⟩, r, hm => by
    rcases List.mem_cons.mp hm with rfl | hm
    · exact h
    · exact Vd.ok q r hm
  | .fr d ns T' :: rs, _, _, _, _, ⟨e, h2, h3, h4, h5, h6, q⟩, r, hm => by
    rcases List.mem_cons.mp hm with rfl | hm
    · subst e; exact ⟨h2, h4, h5, h6⟩
    · exact Vd.ok q r hm
theorem All2.drop_head {α β : Type} {R : α → β → Prop} {as : List α} {bs : List β} (h : All2 R as bs) {i : Nat} {a : α} (e : as[i]? = some a) : ∃ b r, R a b ∧ bs.drop i = b :: r ∧ bs.drop (i + 1) = r ∧ b ∈ bs := by
  obtain ⟨b, r, h1, h2, h3⟩ := h.get _ _ e
  exact ⟨b, r, h1, h2, h3, List.mem_of_mem_drop (i := i) (by rw [h2]; exact List.mem_cons_self)⟩
structure FI (K : PySem.W.Frag) (F : Addr) (H0 H : Hp) (rs : List Rc) (Te : Tb × Tb) (i : Nat) (fms : List V) (dn : List Fm) (t : Addr) (T : Tb × Tb) (pl : Nat) (jl : Addr) (lj : Nat × Nat) : Prop where
  eF : H F = some (.lst fms)
  nF : H0 F = none
  fm : FmsAt K [F] H fms dn
  sp : frR 0 0 (0, 0) rs = dn ++ frR i pl lj (rs.drop i)
  vd : Vd T lj.1 (rs.drop i) Te 0
  jt : JtV K H jl lj
  j0 : lj.1 = 0 → lj.2 = 0
  tb : TbsV K H t T
  sm : Same H0 H
  le : dn.length ≤ i
section
variable {K : PySem.W.Frag} {F t jl : Addr} {H0 H H' : Hp} {rs : List Rc} {Te T : Tb × Tb} {i pl : Nat} {fms : List V} {dn : List Fm} {lj : Nat × Nat}
theorem FI.same (h : FI K F H0 H rs Te i fms dn t T pl jl lj) (s : Same H H') : FI K F H0 H' rs Te i fms dn t T pl jl lj :=
  { h with eF := s _ _ h.eF, fm := h.fm.imp fun _ _ q => q.same s, jt := h.jt.lk (.of s), tb := h.tb.lk (.of s), sm := h.sm.trans s }
theorem FI.len (h : FI K F H0 H rs Te i fms dn t T pl jl lj) : fms.length ≤ i := by rw [h.fm.len]; exact h.le
theorem FI.st (h : FI K F H0 H rs Te i fms dn t T pl jl lj) {T' : Tb × Tb} {r : List Rc} (e : rs.drop i = .st T' :: r) (e' : rs.drop (i + 1) = r) {t' : Addr} (ht : TbsV K H t' T') : FI K F H0 H rs Te (i + 1) fms dn t' T' pl jl lj := by
  have sp := h.sp
  have vd := h.vd
  rw [e] at sp vd
  exact { h with sp := by rw [e']; exact sp, vd := by rw [e']; exact vd.2, tb := ht, le := Nat.le_succ_of_le h.le }
theorem FI.fr (h : FI K F H0 H rs Te i fms dn t T pl jl lj) {d : Hd} {ns : List Int} {T0 : Tb × Tb} {r : List Rc} (e : rs.drop i = .fr d ns T0 :: r) (e' : rs.drop (i + 1) = r) {v : V} {q j : Addr} (hv : FmAt K [F] H v (i, pl, d, lj, ns, T)) (hj : JtAt H j (d.2.1, d.2.2.1)) (hq : TbsV K H q (nextF d ns T)) :
    FI K F H0 (upd H F (.lst (fms ++ [v]))) rs Te (i + 1) (fms ++ [v]) (dn ++ [(i, pl, d, lj, ns, T)]) q (nextF d ns T) (pl + d.1) j (d.2.1, d.2.2.1) := by
  have sp := h.sp
  have vd := h.vd
  rw [e] at sp vd
  obtain ⟨rfl, v2, v3, v4, v5, v6, v7⟩ := vd
  have lk : LK H (upd H F (.lst (fms ++ [v]))) := LK.at h.eF
  have kp : KpL [F] H (upd H F (.lst (fms ++ [v]))) := KpL.at (by simp)
  exact { eF := upd_same, nF := h.nF, fm := (h.fm.imp fun _ _ q => q.kp lk kp).app (hv.kp lk kp)
          sp := by rw [e', sp, List.append_assoc]; rfl
          vd := by rw [e']; exact v7
          jt := (hj.lk lk).v, j0 := v2.2.2.2.2.1, tb := hq.lk lk
          sm := fun b o eb => by rw [upd_ne (ne_of_none eb h.nF)]; exact h.sm _ _ eb
          le := by rw [List.length_append]; exact Nat.succ_le_succ h.le }
end
/-- a list of numbers is not the list of frames -/
theorem ne_fms {F m : Addr} {H : Hp} {fms : List V} {ns : List Int} (hF : H F = some (.lst fms)) (hm : H m = some (.lst (ns.map V.int))) (h1 : 1 ≤ ns.length) (hr : ∀ v ∈ fms, ∃ a, v = .ref a) : m ≠ F := fun z => by
  rw [z, hF] at hm
  cases ns with
  | nil => simp at h1
  | cons n ns =>
    have e := HO.lst.inj (Option.some.inj hm)
    obtain ⟨a, ha⟩ := hr _ (by rw [e]; exact List.mem_cons_self)
    cases ha
theorem fms_ref {K : PySem.W.Frag} {l : List Addr} {H : Hp} {vs : List V} {fs : List Fm} (h : FmsAt K l H vs fs) : ∀ v ∈ vs, ∃ a, v = .ref a := by
  induction h with
  | nil => exact fun v h => absurd h List.not_mem_nil
  | cons h _ ih =>
    intro v hv
    rcases List.mem_cons.mp hv with rfl | hv
    · obtain ⟨a, b, jl, j, m, t, q, e, _⟩ := h
      exact ⟨a, e⟩
    · exact ih v hv
def LKI (H H' : Hp) : Prop := ∀ b o, H b = some o → (∀ xs, o ≠ .lst xs) → (∀ C dx fs, o ≠ .ins C dx fs) → H' b = some o
theorem LK.i {H H' : Hp} (s : LK H H') : LKI H H' := fun b o e n _ => s b o e n
theorem LKI.ofK {x C dx : Addr} {fs : List (Str × V)} {H H' : Hp} (hx : H x = some (.ins C dx fs)) (k : Kp x H H') : LKI H H' := fun b o e _ n => k b o (fun z => by
  rw [z, hx] at e
  exact n _ _ _ (Option.some.inj e).symm) e
theorem TupV.lki {K : PySem.W.Frag} {H H' : Hp} {a : Addr} {xs : List V} (s : LKI H H') (h : TupV K H a xs) : TupV K H' a xs := by
  obtain ⟨h1, h2⟩ := h
  refine ⟨?_, ?_⟩
  · rcases h1 with (h | ⟨o, h⟩) | h
    · exact .inl (.inl (s _ _ h (fun _ z => nomatch z) (fun _ _ _ z => nomatch z)))
    · exact .inl (.inr ⟨o, s _ _ h (fun _ z => nomatch z) (fun _ _ _ z => nomatch z)⟩)
    · exact .inr h
  · generalize ht : (Value.type "tuple") = t at h2 ⊢
    cases h2 with
    | base b =>
      cases b with
      | lst e => exact absurd ht (by decide)
      | frz e => exact absurd ht (by decide)
      | tup e => exact .base (.tup (s _ _ e (fun _ z => nomatch z) (fun _ _ _ z => nomatch z)))
      | dK e => exact absurd ht (by decide)
      | dT e => exact absurd ht (by decide)
      | ins e => cases ht
    | set e => exact absurd ht (by decide)
    | kList e c => exact .kList e c
    | kTuple e c => exact .kTuple e c
    | kDict e c => exact .kDict e c
    | fTuple e => exact .fTuple (s _ _ e (fun _ z => nomatch z) (fun _ _ _ z => nomatch z))
    | fDict e => exact absurd ht (by decide)
section
variable {K : PySem.W.Frag} {H H' : Hp}
theorem TbsV.lki {a : Addr} {T : Tb × Tb} (s : LKI H H') (h : TbsV K H a T) : TbsV K H' a T := let ⟨r0, r1, h0, h1, h2⟩ := h; ⟨r0, r1, h0.lki s, TupV.lki s h1, TupV.lki s h2⟩
theorem JtV.lki {j : Addr} {x : Nat × Nat} (s : LKI H H') (h : JtV K H j x) : JtV K H' j x := TupV.lki s h
theorem JtAt.lki {j : Addr} {x : Nat × Nat} (s : LKI H H') (h : JtAt H j x) : JtAt H' j x := s _ _ h (fun _ z => nomatch z) (fun _ _ _ z => nomatch z)
theorem RcAt.lki {v : V} (s : LKI H H') : ∀ {r : Rc}, RcAt K H v r → RcAt K H' v r
  | .st T, ⟨a, t, e, h, q⟩ => ⟨a, t, e, s _ _ h (fun _ z => nomatch z) (fun _ _ _ z => nomatch z), q.lki s⟩
  | .fr d ns T, ⟨a, j, e, h, q⟩ => ⟨a, j, e, s _ _ h (fun _ z => nomatch z) (fun _ _ _ z => nomatch z), s _ _ q (fun _ z => nomatch z) (fun _ _ _ z => nomatch z)⟩
theorem RcsAt.lki {vs : List V} {rs : List Rc} (s : LKI H H') (h : RcsAt K H vs rs) : RcsAt K H' vs rs := h.imp fun _ _ q => q.lki s
theorem FmAt.lki {l : List Addr} {v : V} {f : Fm} (s : LKI H H') (k : ∀ m ns, H m = some (.lst ns) → H' m = some (.lst ns)) (h : FmAt K l H v f) : FmAt K l H' v f := by
  obtain ⟨a, b, jl, j, m, t, q, e, h1, h2, h3, h4, h5, h6, h7, h8⟩ := h
  exact ⟨a, b, jl, j, m, t, q, e, s _ _ h1 (fun _ z => nomatch z) (fun _ _ _ z => nomatch z), s _ _ h2 (fun _ z => nomatch z) (fun _ _ _ z => nomatch z), h3.lki s, h4.lki s, h5, k _ _ h6, h7.lki s, h8.lki s⟩
theorem lst_kp {x C dx : Addr} {fs : List (Str × V)} (hx : H x = some (.ins C dx fs)) (k : Kp x H H') : ∀ m ns, H m = some (.lst ns) → H' m = some (.lst ns) := fun m ns e => k m _ (fun z => by rw [z, hx] at e; cases e) e
theorem FmsAt.fld {l : List Addr} {x C dx : Addr} {fs : List (Str × V)} {vs : List V} {fms : List Fm} (hx : H x = some (.ins C dx fs)) (k : Kp x H H') (h : FmsAt K l H vs fms) : FmsAt K l H' vs fms := h.imp fun _ _ q => q.lki (.ofK hx k) (lst_kp hx k)
end
theorem held_ (L : Addr) : (putF "held" (.ref L) []).lookup ("held" : Str) = some (V.ref L) := by
  rw [lookup_putF, if_pos rfl]
theorem hr_ : ¬ (("held" : Str) = "read") := by decide +kernel
def sf (L F : Addr) : List (Str × V) := putF "read" (.ref F) (putF "held" (.ref L) [])
theorem sf_held (L F : Addr) : (sf L F).lookup ("held" : Str) = some (.ref L) := by
  unfold sf
  rw [lookup_putF, if_neg hr_, lookup_putF, if_pos rfl]
theorem sf_read (L F : Addr) : (sf L F).lookup ("read" : Str) = some (.ref F) := by
  unfold sf
  rw [lookup_putF, if_pos rfl]
theorem sf_no (L F : Addr) {m : Str} (h1 : ¬ m = "read") (h2 : ¬ m = "held") : (sf L F).lookup m = none := by
  unfold sf
  rw [lookup_putF, if_neg h1, lookup_putF, if_neg h2]
  all_goals rfl
def StmAt (K : PySem.W.Frag) (C : Addr) (H : Hp) (x : Addr) (refs : List V) (rs : List Rc) : Prop := ∃ dx L F fms Te, H x = some (.ins C dx (sf L F)) ∧ H L = some (.lst refs) ∧ refs.length ≤ 400 ∧ RcsAt K H refs rs ∧ Vd T0 0 rs Te 0 ∧ H F = some (.lst fms) ∧ FmsAt K [] H fms (frR 0 0 (0, 0) rs)
theorem StmAt.same {K : PySem.W.Frag} {C x : Addr} {H H' : Hp} {refs : List V} {rs : List Rc} (s : Same H H') (h : StmAt K C H x refs rs) : StmAt K C H' x refs rs := by
  obtain ⟨dx, L, F, fms, Te, h1, h2, h3, h4, h5, h6, h7⟩ := h
  exact ⟨dx, L, F, fms, Te, s _ _ h1, s _ _ h2, h3, h4.lk (.of s), h5, s _ _ h6, h7.imp fun _ _ q => q.same s⟩
def spRecs (K : PySem.W.Frag) (C : Addr) : Sp := fun vs H Q _ => ∃ (x : Addr) (refs : List V) (rs : List Rc), vs = [.ref x] ∧ StmAt K C H x refs rs ∧ ∀ p, H p = none → Q (.ref p) (upd H p (.lst refs))
def BlAt (K : PySem.W.Frag) (H : Hp) (b : Addr) (f : Fm) : Prop := ∃ jl j, H b = some (.tup [.int (f.1 : Nat), .int (f.2.1 : Nat), .int (f.2.2.1.1 : Nat), .ref jl, .ref j]) ∧ JtV K H jl f.2.2.2.1 ∧ JtAt H j (f.2.2.1.2.1, f.2.2.1.2.2.1)
def spPart (K : PySem.W.Frag) (C : Addr) : Sp := fun vs H Q _ => ∃ (x : Addr) (refs : List V) (rs : List Rc) (n k : Nat) (f : Fm), vs = [.ref x, .int (n : Nat), .int (k : Nat)] ∧ StmAt K C H x refs rs ∧ (frR 0 0 (0, 0) rs)[n]? = some f ∧ k < 4 ∧
  ∀ b m t q v, BlAt K H b f → H m = some (.lst (f.2.2.2.2.1.map V.int)) → TbsV K H t f.2.2.2.2.2 → TbsV K H q (nextF f.2.2.1 f.2.2.2.2.1 f.2.2.2.2.2) → ([.ref b, .ref m, .ref t, .ref q] : List V)[k]? = some v → Q v H
theorem use_part {K : PySem.W.Frag} {C x : Addr} {refs : List V} {rs : List Rc} {n : Nat} {z : Int} {f : Fm} {H : Hp} {Q : VK} {E : XK} (k : Nat) (ez : z = (k : Int)) (h : StmAt K C H x refs rs) (hf : (frR 0 0 (0, 0) rs)[n]? = some f) (hk : k < 4)
    (q : ∀ b m t q v, BlAt K H b f → H m = some (.lst (f.2.2.2.2.1.map V.int)) → TbsV K H t f.2.2.2.2.2 → TbsV K H q (nextF f.2.2.1 f.2.2.2.2.1 f.2.2.2.2.2) → ([.ref b, .ref m, .ref t, .ref q] : List V)[k]? = some v → Q v H) : spPart K C (.ref x :: ([.int (n : Nat), .int z] ++ [])) H Q E := by
  subst ez
  exact ⟨x, refs, rs, n, k, f, rfl, h, hf, hk, q⟩
def spBlk (K : PySem.W.Frag) (C : Addr) : Sp := fun vs H Q _ => ∃ (x : Addr) (refs : List V) (rs : List Rc) (n : Nat) (f : Fm), vs = [.ref x, .int (n : Nat)] ∧ StmAt K C H x refs rs ∧ (frR 0 0 (0, 0) rs)[n]? = some f ∧ ∀ b, BlAt K H b f → Q (.ref b) H
theorem use_blk {K : PySem.W.Frag} {C x : Addr} {refs : List V} {rs : List Rc} {n : Nat} {f : Fm} {H : Hp} {Q : VK} {E : XK} (h : StmAt K C H x refs rs) (hf : (frR 0 0 (0, 0) rs)[n]? = some f) (q : ∀ b, BlAt K H b f → Q (.ref b) H) : spBlk K C (.ref x :: ([.int (n : Nat)] ++ [])) H Q E := ⟨x, refs, rs, n, f, rfl, h, hf, q⟩
section
variable {K : PySem.W.Frag} {mg : Str → Option Value} {σ : L2.St} {H : Hp} {Q : VK} {C x L F dx : Addr} {ta : TE}
theorem rd_heldV {i : Nat} (T : StmC K mg C) (e : H x = some (.ins C dx (sf L F))) (ei : σ[i]? = some (some (.ref x))) (q : Q (.ref L) H) : tFld K (tVar i) "held" σ H Q := ⟨.ref x, ei, x, C, dx, _, _, rfl, e, T.cl, T.nh, sf_held L F, q⟩
theorem rd_readV {i : Nat} (T : StmC K mg C) (e : H x = some (.ins C dx (sf L F))) (ei : σ[i]? = some (some (.ref x))) (q : Q (.ref F) H) : tFld K (tVar i) "read" σ H Q := ⟨.ref x, ei, x, C, dx, _, _, rfl, e, T.cl, T.nr, sf_read L F, q⟩
theorem rd_setF {n : L2.St → Hp → Prop} {r : VK} {b c : L2.St → Hp → Prop} {tv : TE} {f : Str} {i : Nat} (h : tv σ H fun y H1 => ∃ x C dx fs, σ[i]? = some (some (.ref x)) ∧ H1 x = some (.ins C dx fs) ∧ Cls K C ∧ NoAttr K C f ∧ fs.length < 1000 ∧ n σ (upd H1 x (.ins C dx (putF f y fs)))) : sFld K (tVar i) tv f ⟨n, r, b, c⟩ σ H := by
  show tv σ H fun y H1 => ∃ v, σ[i]? = some (some v) ∧ ∃ a C dx fs, v = .ref a ∧ H1 a = some (.ins C dx fs) ∧ Cls K C ∧ NoAttr K C f ∧ fs.length < 1000 ∧ n σ (upd H1 a (.ins C dx (putF f y fs)))
  have e : (fun y H1 => ∃ x C dx fs, σ[i]? = some (some (V.ref x)) ∧ H1 x = some (.ins C dx fs) ∧ Cls K C ∧ NoAttr K C f ∧ fs.length < 1000 ∧ n σ (upd H1 x (.ins C dx (putF f y fs)))) = (fun (y : V) (H1 : Hp) => ∃ v, σ[i]? = some (some v) ∧ ∃ a C dx fs, v = V.ref a ∧ H1 a = some (.ins C dx fs) ∧ Cls K C ∧ NoAttr K C f ∧ fs.length < 1000 ∧ n σ (upd H1 a (.ins C dx (putF f y fs)))) := by
    funext y H1
    refine propext ⟨?_, ?_⟩
    · rintro ⟨x, C, dx, fs, e, h⟩
      exact ⟨_, e, x, C, dx, fs, rfl, h⟩
    · rintro ⟨v, e, x, C, dx, fs, rfl, h⟩
      exact ⟨x, C, dx, fs, e, h⟩
  rw [← e]
  exact h
theorem rd_methS {i : Nat} {m : Str} {sp : Sp} {dvs : List V} {E : XK} {t : TA} {refs : List V} {rs : List Rc} (hS : StmAt K C H x refs rs) (ei : σ[i]? = some (some (.ref x))) (h1 : ¬ m = "read") (h2 : ¬ m = "held") (h : t σ H fun vs H2 => sp (.ref x :: (vs ++ dvs)) H2 Q E) : tMeth C m sp dvs E (tVar i) t σ H Q := by
  obtain ⟨dx, L, F, fms, Te, e, _⟩ := hS
  exact ⟨.ref x, ei, x, dx, _, rfl, e, sf_no L F h1 h2, h⟩
theorem rd_propS {i : Nat} {sp : Sp} {dvs : List V} {E : XK} {refs : List V} {rs : List Rc} (hS : StmAt K C H x refs rs) (ei : σ[i]? = some (some (.ref x))) (h : sp (.ref x :: dvs) H Q E) : tProp C sp dvs E (tVar i) σ H Q := by
  obtain ⟨dx, L, F, fms, Te, e, _⟩ := hS
  exact ⟨.ref x, ei, x, dx, _, rfl, e, h⟩
end
def rowsF : Nat → Nat → (Nat × Nat) → Nat → List Rc → List Rw
  | _, _, _, _, [] => []
  | i, pl, lj, _, .st _ :: r => rowsF (i + 1) pl lj i r
  | i, pl, lj, o, .fr d _ _ :: r => (i, pl, d, lj, o) :: rowsF (i + 1) (pl + d.1) (d.2.1, d.2.2.1) o r
theorem run_rows : ∀ (rs : List Rc) (s : Run), (rs.foldl stpR s).rows = s.rows ++ rowsF s.i s.pl s.lj s.o rs
  | [], s => by rw [show rowsF s.i s.pl s.lj s.o [] = [] from rfl, List.append_nil]; rfl
  | .st T :: rs, s => by
    rw [List.foldl_cons, run_rows rs]
    rfl
  | .fr d ns T :: rs, s => by
    rw [List.foldl_cons, run_rows rs]
    show s.rows ++ [(s.i, s.pl, d, s.lj, s.o)] ++ _ = _
    rw [List.append_assoc]
    rfl
theorem runR_rows (rs : List Rc) : (runR rs).rows = rowsF 0 0 (0, 0) 0 rs := run_rows rs ⟨0, 0, (0, 0), 0, []⟩
def RwV (K : PySem.W.Frag) (H : Hp) (v : V) (r : Rw) : Prop := ∃ a jl j, v = .ref a ∧ H a = some (.tup [.int (r.1 : Nat), .int (r.2.1 : Nat), .int (r.2.2.1.1 : Nat), .ref jl, .ref j, .int (r.2.2.1.2.2.2.1 : Nat), .int (r.2.2.1.2.2.2.2 : Nat), .int (r.2.2.2.2 : Nat)]) ∧ JtV K H jl r.2.2.2.1 ∧ JtAt H j (r.2.2.1.2.1, r.2.2.1.2.2.1)
theorem RwV.lk {K : PySem.W.Frag} {H H' : Hp} {v : V} {r : Rw} (s : LK H H') (h : RwV K H v r) : RwV K H' v r := by
  obtain ⟨a, jl, j, e, h1, h2, h3⟩ := h
  exact ⟨a, jl, j, e, s _ _ h1 (fun _ z => nomatch z), h2.lk s, h3.lk s⟩
theorem RwAt.v {K : PySem.W.Frag} {H : Hp} {v : V} {r : Rw} (h : RwAt H v r) : RwV K H v r := by
  obtain ⟨a, jl, j, e, h1, h2, h3⟩ := h
  exact ⟨a, jl, j, e, h1, h2.v, h3⟩
def RwsV (K : PySem.W.Frag) (H : Hp) (vs : List V) (rs : List Rw) : Prop := All2 (RwV K H) vs rs
def spIdx (K : PySem.W.Frag) (C : Addr) : Sp := fun vs H Q _ => ∃ (x : Addr) (refs : List V) (rs : List Rc), vs = [.ref x] ∧ StmAt K C H x refs rs ∧ ∀ D idx H', H D = none → H' D = some (.lst idx) → RwsV K H' idx (runR rs).rows → Same H H' → Q (.ref D) H'
theorem use_idx {K : PySem.W.Frag} {C x : Addr} {refs : List V} {rs : List Rc} {H : Hp} {Q : VK} {E : XK} (h : StmAt K C H x refs rs) (q : ∀ D idx H', H D = none → H' D = some (.lst idx) → RwsV K H' idx (runR rs).rows → Same H H' → Q (.ref D) H') : spIdx K C ([.ref x] ++ []) H Q E := ⟨x, refs, rs, rfl, h, q⟩
theorem use_idxK {K : PySem.W.Frag} {C x : Addr} {refs : List V} {rs : List Rc} {H : Hp} {Q : VK} {E : XK} (h : StmAt K C H x refs rs) (q : ∀ D idx H', H D = none → H' D = some (.lst idx) → RwsV K H' idx (runR rs).rows → Same H H' → Q (.ref D) H') : spIdx K C (kg 0 1 [0] [] [.ref x]) H Q E := ⟨x, refs, rs, rfl, h, q⟩
theorem rd_catT2 {K : PySem.W.Frag} {H : Hp} {Q : VK} {a b : Addr} {xs ys zs : List V} (h : SqT K H a xs) (hb : SqT K H b ys) (n : xs ≠ []) (m : ys ≠ []) (l : xs.length + ys.length ≤ 1000) (ez : xs ++ ys = zs) (q : ∀ p, H p = none → Q (.ref p) (upd H p (.tup zs))) : rCatT K (.ref a) (.ref b) H Q := by
  subst ez
  exact ⟨a, b, xs, ys, rfl, rfl, h, hb, n, Nat.le_of_lt (small1000 l), fun z => absurd z m, fun _ => q⟩
structure II (K : PySem.W.Frag) (D : Addr) (H0 H : Hp) (rs : List Rc) (i : Nat) (idx : List V) (dn : List Rw) (fd : List Fm) (pl : Nat) (lj : Nat × Nat) (o : Nat) : Prop where
  eD : H D = some (.lst idx)
  nD : H0 D = none
  ix : RwsV K H idx dn
  s1 : rowsF 0 0 (0, 0) 0 rs = dn ++ rowsF i pl lj o (rs.drop i)
  s2 : frR 0 0 (0, 0) rs = fd ++ frR i pl lj (rs.drop i)
  ln : dn.length = fd.length
  sm : Same H0 H
  le : dn.length ≤ i
section
variable {K : PySem.W.Frag} {D : Addr} {H0 H H' : Hp} {rs : List Rc} {i pl o : Nat} {idx : List V} {dn : List Rw} {fd : List Fm} {lj : Nat × Nat}
theorem II.same (h : II K D H0 H rs i idx dn fd pl lj o) (s : Same H H') : II K D H0 H' rs i idx dn fd pl lj o :=
  { h with eD := s _ _ h.eD, ix := h.ix.imp fun _ _ q => q.lk (.of s), sm := h.sm.trans s }
theorem II.len (h : II K D H0 H rs i idx dn fd pl lj o) : idx.length ≤ i := by rw [h.ix.len]; exact h.le
theorem II.st (h : II K D H0 H rs i idx dn fd pl lj o) {T' : Tb × Tb} {r : List Rc} (e : rs.drop i = .st T' :: r) (e' : rs.drop (i + 1) = r) : II K D H0 H rs (i + 1) idx dn fd pl lj i := by
  have s1 := h.s1
  have s2 := h.s2
  rw [e] at s1 s2
  exact { h with s1 := by rw [e']; exact s1, s2 := by rw [e']; exact s2, le := Nat.le_succ_of_le h.le }
theorem II.at (h : II K D H0 H rs i idx dn fd pl lj o) {d : Hd} {ns : List Int} {T : Tb × Tb} {r : List Rc} (e : rs.drop i = .fr d ns T :: r) : (frR 0 0 (0, 0) rs)[idx.length]? = some (i, pl, d, lj, ns, T) := by
  have s2 := h.s2
  rw [e] at s2
  rw [s2, h.ix.len, h.ln, List.getElem?_append_right (Nat.le_refl _), Nat.sub_self]
  rfl
theorem II.fr (h : II K D H0 H rs i idx dn fd pl lj o) {d : Hd} {ns : List Int} {T : Tb × Tb} {r : List Rc} (e : rs.drop i = .fr d ns T :: r) (e' : rs.drop (i + 1) = r) {v : V} (hv : RwV K H v (i, pl, d, lj, o)) :
    II K D H0 (upd H D (.lst (idx ++ [v]))) rs (i + 1) (idx ++ [v]) (dn ++ [(i, pl, d, lj, o)]) (fd ++ [(i, pl, d, lj, ns, T)]) (pl + d.1) (d.2.1, d.2.2.1) o := by
  have s1 := h.s1
  have s2 := h.s2
  rw [e] at s1 s2
  have lk : LK H (upd H D (.lst (idx ++ [v]))) := LK.at h.eD
  exact { eD := upd_same, nD := h.nD, ix := (h.ix.imp fun _ _ q => q.lk lk).app (hv.lk lk)
          s1 := by rw [e', s1, List.append_assoc]; rfl
          s2 := by rw [e', s2, List.append_assoc]; rfl
          ln := by rw [List.length_append, List.length_append, h.ln]; rfl
          sm := fun b x eb => by rw [upd_ne (ne_of_none eb h.nD)]; exact h.sm _ _ eb
          le := by rw [List.length_append]; exact Nat.succ_le_succ h.le }
end
theorem sm_jt {K : PySem.W.Frag} {H : Hp} {a b : Addr} {x : Nat × Nat} (h : JtV K H a x) (g : JtV K H b x) : SmV K H 1 (.ref a) (.ref b) :=
  .inr (.inr ⟨a, b, _, _, rfl, rfl, h, g, rfl, fun i x y e1 e2 => by
    rw [e1] at e2
    have e := Option.some.inj e2
    subst e
    rcases i with _ | _ | i
    · cases e1; exact ⟨rfl, rfl⟩
    · cases e1; exact ⟨rfl, rfl⟩
    · simp at e1⟩)
theorem sm_rw {K : PySem.W.Frag} {H : Hp} {v w : V} {r : Rw} (h : RwV K H v r) (g : RwV K H w r) : SmV K H 2 v w := by
  obtain ⟨a, jl, j, rfl, h1, h2, h3⟩ := h
  obtain ⟨b, ml, m, rfl, g1, g2, g3⟩ := g
  refine .inr (.inr ⟨a, b, _, _, rfl, rfl, .of h1, .of g1, rfl, fun i x y e1 e2 => ?_⟩)
  rcases i with _ | _ | _ | _ | _ | _ | _ | _ | i
  · cases e1; cases e2; exact sm_sc rfl
  · cases e1; cases e2; exact sm_sc rfl
  · cases e1; cases e2; exact sm_sc rfl
  · cases e1; cases e2; exact sm_jt h2 g2
  · cases e1; cases e2; exact sm_jt h3.v g3.v
  · cases e1; cases e2; exact sm_sc rfl
  · cases e1; cases e2; exact sm_sc rfl
  · cases e1; cases e2; exact sm_sc rfl
  · simp at e1
theorem sm_rows {K : PySem.W.Frag} {H : Hp} {a b : Addr} {xs ys : List V} {rs : List Rw} (ha : H a = some (.lst xs)) (hb : H b = some (.lst ys)) (h : RwsV K H xs rs) (g : RwsV K H ys rs) : SmV K H 3 (.ref a) (.ref b) :=
  .inr (.inl ⟨a, b, _, _, rfl, rfl, .of ha, .of hb, h.len.trans g.len.symm, fun i x y e1 e2 => by
    obtain ⟨r, rr, h1, h2, _⟩ := h.get _ _ e1
    obtain ⟨r', rr', g1, g2, _⟩ := g.get _ _ e2
    rw [h2] at g2
    cases g2
    exact sm_rw h1 g1⟩)
theorem RwsAt.v {K : PySem.W.Frag} {H : Hp} {vs : List V} {rs : List Rw} (h : RwsAt H vs rs) : RwsV K H vs rs := h.imp fun _ _ q => q.v
theorem RwsV.lk {K : PySem.W.Frag} {H H' : Hp} {vs : List V} {rs : List Rw} (s : LK H H') (h : RwsV K H vs rs) : RwsV K H' vs rs := h.imp fun _ _ q => q.lk s
theorem rd_mk {σ : L2.St} {H : Hp} {Q : VK} {C : Addr} {sp : Sp} {dvs : List V} {E : XK} {t : TA} (h : t σ H fun vs H1 => ∀ (x dx : Addr), H1 x = none → H1 dx = none → dx ≠ x → sp (.ref x :: (vs ++ dvs)) (upd (upd H1 dx (.own x)) x (.ins C dx [])) (fun v H2 => v = .non ∧ Q (.ref x) H2) E) : tMake C sp dvs E t σ H Q := h
end Z
namespace Z
open PySem PySem.Spec PyProof.Rows L2
section
variable {σ : L2.St} {H : Hp} {n : L2.St → Hp → Prop} {r : VK} {b c : L2.St → Hp → Prop} {te : TE}
theorem rd_aug {i : Nat} {ti : TIp} {x : V} (e : σ[i]? = some (some x)) (h : te σ H fun y H1 => ti x y H1 fun z H2 => n (σ.set i (some z)) H2) : tAug i te ti ⟨n, r, b, c⟩ σ H := ⟨x, e, h⟩
theorem rd_ipI {f : Int → Int → Int} {i j : Int} {Q : VK} (h : Q (.int (f i j)) H) : ipI f (.int i) (.int j) H Q := ⟨i, j, rfl, rfl, h⟩
end
def spTakeB : Sp := fun vs H Q _ => ∃ (p : Addr) (m : Int), vs = [.ref p, .int m] ∧ Pool H p ∧ 0 < m ∧ m < 18446744073709551616 ∧ ∀ r H', 0 ≤ r → r < m → Pool H' p → Kp p H H' → Q (.int r) H'
theorem use_takeB {p : Addr} {m : Int} {H : Hp} {Q : VK} {E : XK} (h1 : Pool H p) (h2 : 0 < m) (h3 : m < 18446744073709551616) (q : ∀ r H', 0 ≤ r → r < m → Pool H' p → Kp p H H' → Q (.int r) H') : spTakeB ([.ref p, .int m] ++ []) H Q E := ⟨p, m, rfl, h1, h2, h3, q⟩
abbrev Sz := Int × Int
def SzAt (H : Hp) (v : V) (s : Sz) : Prop := ∃ a, v = .ref a ∧ H a = some (.tup [.int s.1, .int s.2])
def SzsAt (H : Hp) (vs : List V) (ss : List Sz) : Prop := All2 (SzAt H) vs ss
def LKT (H H' : Hp) : Prop := ∀ b o, H b = some o → (∀ xs, o ≠ .lst xs) → H' b = some o
theorem SzsAt.lk {H H' : Hp} {vs : List V} {ss : List Sz} (s : LKT H H') (h : SzsAt H vs ss) : SzsAt H' vs ss := h.imp fun _ _ ⟨a, e, q⟩ => ⟨a, e, s _ _ q (fun _ z => nomatch z)⟩
theorem LKT.of {H H' : Hp} (s : Same H H') : LKT H H' := fun b o e _ => s b o e
theorem LKT.new {H : Hp} {q : Addr} {o : HO} (n : H q = none) : LKT H (upd H q o) := .of (same_new n)
theorem LKT.trans {H H1 H2 : Hp} (a : LKT H H1) (b : LKT H1 H2) : LKT H H2 := fun x o e n => b x o (a x o e n) n
theorem LKT.at {H : Hp} {q : Addr} {o : HO} {ys : List V} (n : H q = some (.lst ys)) : LKT H (upd H q o) := fun b x e nl => by
  rw [upd_ne (fun z => by rw [z, n] at e; cases e; exact nl _ rfl)]
  exact e
theorem SzsAt.same {H H' : Hp} {vs : List V} {ss : List Sz} (s : Same H H') (h : SzsAt H vs ss) : SzsAt H' vs ss := h.lk (.of s)
theorem All2.at_ {α β : Type} {R : α → β → Prop} {as : List α} {bs : List β} (h : All2 R as bs) : ∀ (i : Nat) (a : α), as[i]? = some a → ∃ b, bs[i]? = some b ∧ R a b ∧ bs.drop i = b :: bs.drop (i + 1) := by
  induction h with
  | nil => intro i a e; simp at e
  | @cons a b as bs h t ih =>
    intro i x e
    cases i with
    | zero => cases e; exact ⟨b, rfl, h, rfl⟩
    | succ i => exact ih i x e
end Z
namespace Z
open PySem PySem.Spec PyProof.Rows L2
def rend (r : Rw) : Nat := r.2.1 + r.2.2.1.1
def rnear (r : Rw) : Int := (r.2.1 : Int) - (r.2.2.2.1.1 : Int)
def rfar (r : Rw) : Int := (r.2.1 : Int) + (r.2.2.1.1 : Int) + (r.2.2.1.2.1 : Int)
def lenW (rows : List Rw) : Nat := match rows.getLast? with
  | none => 0
  | some r => rend r
structure RwO (r : Rw) : Prop where
  o : r.2.2.2.2 ≤ r.1
  l1 : 1 ≤ r.2.2.1.1
  l2 : r.2.2.1.1 ≤ 64
  w : r.2.2.1.2.1 ≤ 8
  v : r.2.2.2.1.1 ≤ 8
structure RunO (s : Run) : Prop where
  each : ∀ r ∈ s.rows, RwO r ∧ r.1 < s.i ∧ r.2.2.2.2 ≤ s.o ∧ rend r ≤ s.pl
  asc : s.rows.Pairwise fun a b => a.1 < b.1 ∧ a.2.2.2.2 ≤ b.2.2.2.2
  last : lenW s.rows = s.pl
  oi : s.o ≤ s.i
  pl : s.pl ≤ 64 * s.rows.length
  lj : s.lj.1 ≤ 8
  le : s.rows.length ≤ s.i
theorem RunO.step {s : Run} {r : Rc} (h : RunO s) (ok : RcOk r) : RunO (stpR s r) := by
  cases r with
  | st T =>
    exact { each := fun r hr => by
              obtain ⟨a, b, c, d⟩ := h.each r hr
              exact ⟨a, by show r.1 < s.i + 1; omega, by show _ ≤ s.i; have := a.o; omega, d⟩
            asc := h.asc, last := h.last, oi := Nat.le_succ s.i, pl := h.pl, lj := h.lj, le := Nat.le_succ_of_le h.le }
  | fr d ns T =>
    obtain ⟨hd, _, _, _⟩ := id ok
    obtain ⟨d1, d2, d3, _⟩ := hd
    have hlen : (s.rows ++ [(s.i, s.pl, d, s.lj, s.o)]).length = s.rows.length + 1 := by simp
    exact { each := fun r hr => by
              rcases List.mem_append.mp hr with hr | hr
              · obtain ⟨a, b, c, e⟩ := h.each r hr
                exact ⟨a, by show r.1 < s.i + 1; omega, c, by show _ ≤ s.pl + d.1; omega⟩
              · rw [List.mem_singleton.mp hr]
                exact ⟨⟨h.oi, d1, d2, d3, h.lj⟩, Nat.lt_succ_self _, Nat.le_refl _, Nat.le_refl _⟩
            asc := by
              show (s.rows ++ [(s.i, s.pl, d, s.lj, s.o)]).Pairwise _
              rw [List.pairwise_append]
              refine ⟨h.asc, List.pairwise_singleton _ _, fun a ha b hb => ?_⟩
              rw [List.mem_singleton.mp hb]
              exact ⟨(h.each a ha).2.1, (h.each a ha).2.2.1⟩
            last := by
              show lenW (s.rows ++ [(s.i, s.pl, d, s.lj, s.o)]) = s.pl + d.1
              unfold lenW
              rw [List.getLast?_append]
              rfl
            oi := Nat.le_succ_of_le h.oi
            pl := by
              show s.pl + d.1 ≤ 64 * (s.rows ++ [(s.i, s.pl, d, s.lj, s.o)]).length
              rw [hlen]
              have := h.pl
              omega
            lj := d3
            le := by
              show (s.rows ++ [(s.i, s.pl, d, s.lj, s.o)]).length ≤ s.i + 1
              rw [hlen]
              have := h.le
              omega }
theorem RunO.fold : ∀ (rs : List Rc) (s : Run), RunO s → (∀ r ∈ rs, RcOk r) → RunO (rs.foldl stpR s)
  | [], _, h, _ => h
  | r :: rs, s, h, ok => RunO.fold rs _ (h.step (ok r List.mem_cons_self)) fun x hx => ok x (List.mem_cons_of_mem _ hx)
theorem runO {rs : List Rc} (ok : ∀ r ∈ rs, RcOk r) : RunO (runR rs) := RunO.fold rs _ { each := fun r hr => (List.not_mem_nil hr).elim, asc := .nil, last := rfl, oi := Nat.le_refl _, pl := Nat.le_refl _, lj := Nat.zero_le _, le := Nat.le_refl _ } ok
def selW (s e : Int) (r : Rw) : Bool := decide (rnear r < e) && decide (s < rfar r)
def ndW (s e : Int) (rows : List Rw) : List Rw := if s = e then [] else rows.filter (selW s e)
def rngI (a b : Int) : List Int := (List.range (b - a).toNat).map fun i => a + (i : Nat)
theorem rngI_mem {a b x : Int} : x ∈ rngI a b ↔ a ≤ x ∧ x < b := by
  unfold rngI
  rw [List.mem_map]
  constructor
  · rintro ⟨i, hi, rfl⟩
    have := List.mem_range.mp hi
    omega
  · intro h
    exact ⟨(x - a).toNat, List.mem_range.mpr (by omega), by omega⟩
theorem rngI_len (a b : Int) : (rngI a b).length = (b - a).toNat := by unfold rngI; simp
theorem rngV_eq (a b : Int) : rgV a b = (rngI a b).map V.int := by
  unfold rgV rngI
  rw [List.map_map]
  rfl
def lowW (r : Rw) (b : Int) : Int := if b > (r.2.2.2.2 : Int) then b else (r.2.2.2.2 : Int)
def rcU : List Rw → Int → List Int
  | [], _ => []
  | r :: t, b => rngI (lowW r b) ((r.1 : Int) + 1) ++ rcU t ((r.1 : Int) + 1)
theorem rcU_mem : ∀ (rows : List Rw) (b x : Int), (rows.Pairwise fun a b => a.1 < b.1 ∧ a.2.2.2.2 ≤ b.2.2.2.2) → (∀ r ∈ rows, b ≤ r.1) → (x ∈ rcU rows b ↔ b ≤ x ∧ ∃ r ∈ rows, (r.2.2.2.2 : Int) ≤ x ∧ x ≤ r.1)
  | [], b, x, _, _ => by simp [rcU]
  | r :: t, b, x, h, hb => by
    obtain ⟨h1, h2⟩ := List.pairwise_cons.mp h
    have hr := hb r List.mem_cons_self
    have ih := rcU_mem t ((r.1 : Int) + 1) x h2 fun y hy => by have := (h1 y hy).1; omega
    unfold rcU
    rw [List.mem_append, rngI_mem, ih]
    unfold lowW
    constructor
    · rintro (⟨a1, a2⟩ | ⟨a1, r2, m2, a2, a3⟩)
      · split at a1
        · exact ⟨a1, r, List.mem_cons_self, by omega, by omega⟩
        · exact ⟨by omega, r, List.mem_cons_self, a1, by omega⟩
      · exact ⟨by omega, r2, List.mem_cons_of_mem _ m2, a2, a3⟩
    · rintro ⟨a1, r2, m2, a2, a3⟩
      by_cases c : x ≤ r.1
      · refine .inl ⟨?_, by omega⟩
        have : (r.2.2.2.2 : Int) ≤ x := by
          rcases List.mem_cons.mp m2 with rfl | m2
          · exact a2
          · have := (h1 r2 m2).2
            omega
        split <;> omega
      · rcases List.mem_cons.mp m2 with rfl | m2
        · omega
        · exact .inr ⟨by omega, r2, m2, a2, a3⟩
theorem rcU_len : ∀ (rows : List Rw) (b : Int), (rows.Pairwise fun a b => a.1 < b.1 ∧ a.2.2.2.2 ≤ b.2.2.2.2) → (∀ r ∈ rows, b ≤ r.1) → 0 ≤ b → ∀ m : Nat, (∀ r ∈ rows, r.1 < m) → ((rcU rows b).length : Int) ≤ m - b ∨ rows = []
  | [], _, _, _, _, _, _ => .inr rfl
  | r :: t, b, h, hb, h0, m, hm => by
    obtain ⟨h1, h2⟩ := List.pairwise_cons.mp h
    have hb2 : ∀ y ∈ t, (r.1 : Int) + 1 ≤ y.1 := fun y hy => by have := (h1 y hy).1; omega
    have hr := hb r List.mem_cons_self
    have hm1 := hm r List.mem_cons_self
    left
    unfold rcU
    rw [List.length_append, rngI_len]
    have hl : b ≤ lowW r b := by unfold lowW; split <;> omega
    rcases rcU_len t ((r.1 : Int) + 1) h2 hb2 (by omega) m (fun y hy => hm y (List.mem_cons_of_mem _ hy)) with z | rfl
    · omega
    · simp only [rcU, List.length_nil]
      omega
theorem nd_sub {s e : Int} {rows : List Rw} : (ndW s e rows).Sublist rows := by
  unfold ndW
  split
  · exact List.nil_sublist _
  · exact List.filter_sublist
end Z
namespace Z
open PySem PySem.Spec PyProof.Rows L2
section
variable {K : PySem.W.Frag} {σ : L2.St} {H : Hp} {Q : VK}
theorem rd_lstRg {te : L2.St → Hp → (Int → Int → Hp → Prop) → Prop} (h : te σ H fun a b H1 => RgOk a b ∧ ∀ q, H1 q = none → Q (.ref q) (upd H1 q (.lst (rgV a b)))) : tLstRg te σ H Q := h
theorem rd_rg2 {ta tb : TE} {R : Int → Int → Hp → Prop} (h : ta σ H fun x H1 => tb σ H1 fun y H2 => ∃ i j, x = .int i ∧ y = .int j ∧ R i j H2) : tRg2 ta tb σ H R := h
theorem rd_ij {i j : Int} {P : Int → Int → Prop} (h : P i j) : ∃ k l : Int, V.int i = .int k ∧ V.int j = .int l ∧ P k l := ⟨i, j, rfl, rfl, h⟩
end
theorem RwV.same {K : PySem.W.Frag} {H H' : Hp} {v : V} {r : Rw} (s : Same H H') (h : RwV K H v r) : RwV K H' v r := h.lk (.of s)
theorem RwsV.same {K : PySem.W.Frag} {H H' : Hp} {vs : List V} {rs : List Rw} (s : Same H H') (h : RwsV K H vs rs) : RwsV K H' vs rs := h.imp fun _ _ q => q.same s
def spStretch : Sp := fun vs H Q _ => ∃ s e n : Int, vs = [.int s, .int e, .int n] ∧ 0 ≤ s ∧ s ≤ e ∧ e ≤ n ∧ ∀ H', Same H H' → Q .non H'
theorem use_stretch {s e n : Int} {H : Hp} {Q : VK} {E : XK} (h0 : 0 ≤ s) (h1 : s ≤ e) (h2 : e ≤ n) (q : ∀ H', Same H H' → Q .non H') : spStretch ([.int s, .int e, .int n] ++ []) H Q E := ⟨s, e, n, rfl, h0, h1, h2, q⟩
def spSndLen (K : PySem.W.Frag) : Sp := fun vs H Q _ => ∃ (a : Addr) (idx : List V) (rows : List Rw), vs = [.ref a] ∧ H a = some (.lst idx) ∧ RwsV K H idx rows ∧ Q (.int (lenW rows : Nat)) H
theorem use_sndlen {K : PySem.W.Frag} {a : Addr} {idx : List V} {rows : List Rw} {H : Hp} {Q : VK} {E : XK} (h : H a = some (.lst idx)) (r : RwsV K H idx rows) (q : Q (.int (lenW rows : Nat)) H) : spSndLen K ([.ref a] ++ []) H Q E := ⟨a, idx, rows, rfl, h, r, q⟩
def spReach (K : PySem.W.Frag) : Sp := fun vs H Q _ => ∃ (v : V) (r : Rw), vs = [v] ∧ RwV K H v r ∧ ∀ p H', H p = none → Same H H' → H' p = some (.tup [.int (rnear r), .int (rfar r)]) → Q (.ref p) H'
theorem use_reach {K : PySem.W.Frag} {v : V} {r : Rw} {H : Hp} {Q : VK} {E : XK} (h : RwV K H v r) (q : ∀ p H', H p = none → Same H H' → H' p = some (.tup [.int (rnear r), .int (rfar r)]) → Q (.ref p) H') : spReach K ([v] ++ []) H Q E := ⟨v, r, rfl, h, q⟩
def spNdE (K : PySem.W.Frag) : Sp := fun vs H Q _ => ∃ (a : Addr) (s e : Int) (idx : List V) (rows : List Rw), vs = [.ref a, .int s, .int e] ∧ H a = some (.lst idx) ∧ RwsV K H idx rows ∧ idx.length ≤ 40 ∧ ∀ D sel H', H D = none → H' D = some (.lst sel) → RwsV K H' sel (ndW s e rows) → Same H H' → Q (.ref D) H'
theorem use_ndE {K : PySem.W.Frag} {a : Addr} {s e : Int} {idx : List V} {rows : List Rw} {H : Hp} {Q : VK} {E : XK} (h : H a = some (.lst idx)) (r : RwsV K H idx rows) (l : idx.length ≤ 40) (q : ∀ D sel H', H D = none → H' D = some (.lst sel) → RwsV K H' sel (ndW s e rows) → Same H H' → Q (.ref D) H') : spNdE K ([.ref a, .int s, .int e] ++ []) H Q E := ⟨a, s, e, idx, rows, rfl, h, r, l, q⟩
/-- rows that stand in order -/
structure RowsO (rows : List Rw) : Prop where
  each : ∀ r ∈ rows, RwO r ∧ r.1 < 40
  asc : rows.Pairwise fun a b => a.1 < b.1 ∧ a.2.2.2.2 ≤ b.2.2.2.2
theorem RowsO.sub {rows sel : List Rw} (h : RowsO rows) (s : sel.Sublist rows) : RowsO sel := ⟨fun r hr => h.each r (s.subset hr), h.asc.sublist s⟩
theorem RunO.rows {s : Run} (h : RunO s) (i : s.i ≤ 40) : RowsO s.rows := ⟨fun r hr => ⟨(h.each r hr).1, by have := (h.each r hr).2.1; omega⟩, h.asc⟩
def spRcU (K : PySem.W.Frag) : Sp := fun vs H Q _ => ∃ (a : Addr) (sel : List V) (rows : List Rw), vs = [.ref a] ∧ H a = some (.lst sel) ∧ RwsV K H sel rows ∧ RowsO rows ∧ ∀ D H', H D = none → H' D = some (.lst ((rcU rows 0).map V.int)) → Same H H' → Q (.ref D) H'
theorem use_rcU {K : PySem.W.Frag} {a : Addr} {sel : List V} {rows : List Rw} {H : Hp} {Q : VK} {E : XK} (h : H a = some (.lst sel)) (r : RwsV K H sel rows) (o : RowsO rows) (q : ∀ D H', H D = none → H' D = some (.lst ((rcU rows 0).map V.int)) → Same H H' → Q (.ref D) H') : spRcU K ([.ref a] ++ []) H Q E := ⟨a, sel, rows, rfl, h, r, o, q⟩
def spNdd (K : PySem.W.Frag) : Sp := fun vs H Q _ => ∃ (a : Addr) (s e : Int) (idx : List V) (rows : List Rw), vs = [.ref a, .int s, .int e] ∧ H a = some (.lst idx) ∧ RwsV K H idx rows ∧ idx.length ≤ 40 ∧ RowsO rows ∧ 0 ≤ s ∧ s ≤ e ∧ e ≤ (lenW rows : Nat) ∧ ∀ D H', H D = none → H' D = some (.lst ((rcU (ndW s e rows) 0).map V.int)) → Same H H' → Q (.ref D) H'
theorem use_ndd {K : PySem.W.Frag} {a : Addr} {s e : Int} {idx : List V} {rows : List Rw} {H : Hp} {Q : VK} {E : XK} (h : H a = some (.lst idx)) (r : RwsV K H idx rows) (l : idx.length ≤ 40) (o : RowsO rows) (h0 : 0 ≤ s) (h1 : s ≤ e) (h2 : e ≤ (lenW rows : Nat)) (q : ∀ D H', H D = none → H' D = some (.lst ((rcU (ndW s e rows) 0).map V.int)) → Same H H' → Q (.ref D) H') : spNdd K ([.ref a, .int s, .int e] ++ []) H Q E := ⟨a, s, e, idx, rows, rfl, h, r, l, o, h0, h1, h2, q⟩
theorem All2.lastE {α β : Type} {R : α → β → Prop} {xs : List α} {ys : List β} (h : All2 R xs ys) : (xs = [] ∧ ys = []) ∨ ∃ xs' x ys' y, xs = xs' ++ [x] ∧ ys = ys' ++ [y] ∧ R x y := by
  induction h with
  | nil => exact .inl ⟨rfl, rfl⟩
  | @cons a b as bs h t ih =>
    rcases ih with ⟨rfl, rfl⟩ | ⟨xs', x, ys', y, rfl, rfl, r⟩
    · exact .inr ⟨[], a, [], b, rfl, rfl, h⟩
    · exact .inr ⟨a :: xs', x, b :: ys', y, rfl, rfl, r⟩
theorem same_put {H H1 : Hp} {D : Addr} {o : HO} (s : Same H H1) (n : H D = none) : Same H (upd H1 D o) := fun b x e => by rw [upd_ne (ne_of_none e n)]; exact s b x e
theorem All2.takeS {α β : Type} {R : α → β → Prop} {as : List α} {bs : List β} (h : All2 R as bs) {i : Nat} {a : α} (e : as[i]? = some a) : ∃ b, R a b ∧ b ∈ bs ∧ bs[i]? = some b ∧ bs.take (i + 1) = bs.take i ++ [b] := by
  obtain ⟨b, r, h1, h2, _, h4⟩ := h.drop_head e
  have e2 : bs[i]? = some b := by
    have z : (bs.drop i)[0]? = (b :: r)[0]? := by rw [h2]
    rw [List.getElem?_drop] at z
    simpa using z
  refine ⟨b, h1, h4, e2, ?_⟩
  rw [List.take_add_one, e2]
  rfl
theorem lenW_snoc (rows : List Rw) (r : Rw) : lenW (rows ++ [r]) = rend r := by unfold lenW; rw [List.getLast?_append]; rfl
theorem rcU_snoc (r : Rw) : ∀ (rows : List Rw) (b : Int), rcU (rows ++ [r]) b = rcU rows b ++ rngI (lowW r (match rows.getLast? with | none => b | some q => (q.1 : Int) + 1)) ((r.1 : Int) + 1)
  | [], b => by simp [rcU]
  | [q], b => by simp [rcU]
  | q :: q2 :: t, b => by
    have ih := rcU_snoc r (q2 :: t) ((q.1 : Int) + 1)
    show rngI _ _ ++ rcU (q2 :: t ++ [r]) _ = rngI _ _ ++ rcU (q2 :: t) _ ++ _
    rw [ih, List.append_assoc]
    congr 2
def behW (rows : List Rw) : Int := match rows.getLast? with
  | none => 0
  | some q => (q.1 : Int) + 1
theorem rcU_put (r : Rw) (rows : List Rw) : rcU (rows ++ [r]) 0 = rcU rows 0 ++ rngI (lowW r (behW rows)) ((r.1 : Int) + 1) := rcU_snoc r rows 0
theorem behW_snoc (rows : List Rw) (r : Rw) : behW (rows ++ [r]) = (r.1 : Int) + 1 := by unfold behW; rw [List.getLast?_append]; rfl
theorem RowsO.lenU {rows : List Rw} (o : RowsO rows) : (rcU rows 0).length ≤ 40 := by
  rcases rcU_len rows 0 o.asc (fun _ _ => by omega) (Int.le_refl _) 40 (fun r hr => (o.each r hr).2) with h | rfl
  · omega
  · simp [rcU]
theorem RowsO.beh {rows : List Rw} (o : RowsO rows) : 0 ≤ behW rows ∧ behW rows ≤ 40 := by
  unfold behW
  split
  · omega
  · rename_i q h
    have := (o.each q (List.mem_of_getLast? h)).2
    omega
theorem RowsO.rg {rows : List Rw} (o : RowsO rows) {i : Nat} {r : Rw} (hm : r ∈ rows) : RgOk (lowW r (behW (rows.take i))) ((r.1 : Int) + 1) ∧ (rngI (lowW r (behW (rows.take i))) ((r.1 : Int) + 1)).length ≤ 40 := by
  have h1 := (o.sub (List.take_sublist i rows)).beh
  obtain ⟨h2, h3⟩ := o.each r hm
  have h4 := h2.o
  have h5 : 0 ≤ lowW r (behW (rows.take i)) ∧ lowW r (behW (rows.take i)) ≤ 40 := by unfold lowW; split <;> omega
  refine ⟨.of_le h5.1 (by omega) (by omega) (by omega), ?_⟩
  rw [rngI_len]
  omega
end Z
namespace Z
open PySem PySem.Spec PyProof.Rows L2
def ixsW (f : Rw → Bool) (rows : List Rw) (i : Nat) : List Nat := (List.range i).filter fun j => match rows[j]? with
  | some r => f r
  | none => false
theorem ixsW_snoc {f : Rw → Bool} {rows : List Rw} {i : Nat} {r : Rw} (h : rows[i]? = some r) : ixsW f rows (i + 1) = ixsW f rows i ++ if f r = true then [i] else [] := by
  unfold ixsW
  rw [List.range_succ, List.filter_append]
  congr 1
  simp only [List.filter_cons, List.filter_nil, h]
theorem ixsW_len (f : Rw → Bool) (rows : List Rw) (i : Nat) : (ixsW f rows i).length ≤ i := by
  unfold ixsW
  refine Nat.le_trans (List.length_filter_le _ _) ?_
  rw [List.length_range]
  exact Nat.le_refl _
theorem ixsW_lt {f : Rw → Bool} {rows : List Rw} {i j : Nat} (h : j ∈ ixsW f rows i) : j < i := List.mem_range.mp (List.mem_filter.mp h).1
theorem runR_iF : ∀ (rs : List Rc) (s : Run), (rs.foldl stpR s).i = s.i + rs.length
  | [], s => rfl
  | r :: rs, s => by
    have h : (stpR s r).i = s.i + 1 := by cases r <;> rfl
    rw [List.foldl_cons, runR_iF rs, h, List.length_cons]
    omega
theorem runR_at (rs : List Rc) : (runR rs).i = rs.length := (runR_iF rs _).trans (Nat.zero_add _)
theorem RowsO.near {rows : List Rw} (o : RowsO rows) {r : Rw} (h : r ∈ rows) : rnear r < rfar r := by
  have := (o.each r h).1.l1
  unfold rnear rfar
  omega
theorem sm_ints3 {K : PySem.W.Frag} {H : Hp} {p q : Addr} {ns : List Int} (hp : H p = some (.lst (ns.map V.int))) (hq : H q = some (.lst (ns.map V.int))) : SmV K H 3 (.ref p) (.ref q) :=
  .inr (.inl ⟨p, q, _, _, rfl, rfl, .of hp, .of hq, rfl, fun i x y e1 e2 => by
    rw [e1] at e2
    have e := Option.some.inj e2
    subst e
    rw [List.getElem?_map] at e1
    cases g : ns[i]? with
    | none => rw [g] at e1; cases e1
    | some z => rw [g] at e1; cases e1; exact .inl ⟨rfl, rfl⟩⟩)
end Z
namespace Z
open PySem PySem.Spec PyProof.Rows L2 Srt
section
variable {prog : Program} {w : World} {A : Around} {E : Value → Shared → Prop} {s : Shared}
/-- the heap behind the gathering of vs -/
def gth (h : Heap) (vs : List Value) : Heap := (h.push (seqObj "list" #[] 0)).update h.objs.size (Obj.mapSeq (· ++ vs.toArray))
theorem gather_tup {l : Addr} {vs : List Value} {Q : List Value → Shared → Prop} (ht : IsTup s.heap l vs.toArray) (hz : vs.length ≤ sizeLine) (q : Q vs { s with heap := gth s.heap vs }) : wpAny (model prog w) A (collect (.ref l)) Q E s := by
  obtain ⟨u, hu, cu, k, du⟩ := ht
  have en : (s.heap.push (seqObj "list" #[] 0)).get? s.heap.objs.size = some (seqObj "list" #[] 0) := Heap.get?_push_size _ rfl
  have eu : (s.heap.push (seqObj "list" #[] 0)).get? l = some u := Heap.get?_push_of_some _ hu
  unfold collect
  refine wpAny_bind (wpAny_runValue (codeAny_builtin entry_proto_collect' (?_ : wpAny _ _ (do again (.builtin "list.__iadd__" ⟨[← newList [], .ref l], []⟩)) _ _ s)))
  refine wpAny_bind (wpAny_newList (wpAny_pure ⟨Code.quiet_builtin _ (by decide +kernel), codeAny_builtin entry_list_iadd' (?_ : wpAny _ _ (Builtin.List.listExtendWith (.ref s.heap.objs.size) (.ref l) (.ref s.heap.objs.size)) _ _ { s with heap := s.heap.push (seqObj "list" #[] 0) })⟩))
  unfold Builtin.List.listExtendWith
  refine wpAny_bind (wpAny_typeOf (T := "tuple") ⟨u, eu, cu⟩ ?_)
  rw [if_pos (by rw [show (Value.type "tuple" == Value.type "tuple") = true by rfl]; simp)]
  refine wpAny_bind (listItems_at eu du (wpAny_bind (listItems_at (xs := #[]) (n := 0) en rfl ?_)))
  rw [if_neg (by simp)]
  refine wpAny_bind (listUpdate_at (xs := #[]) (n := 0) en rfl (wpAny_pure ?_) (Nat.zero_le _) (by show (#[] ++ vs.toArray).size ≤ sizeLine + 1; rw [Array.size_append, List.size_toArray]; simp; omega))
  refine (?_ : wpAny (model prog w) A (do let o ← load s.heap.objs.size; match o.data with | .seq xs _ => pure xs.toList | _ => unsupported "internal:collect") Q E { s with heap := gth s.heap vs })
  refine wpAny_bind (wpAny_load (get?_update_seq en _) (?_ : wpAny _ _ (pure ((#[] : Array Value) ++ vs.toArray).toList) Q E _))
  have e : ((#[] : Array Value) ++ vs.toArray).toList = vs := by simp
  rw [e]
  exact wpAny_pure q
theorem sortedT_ord {l : Addr} {vs : List Value} {ltv : Value → Value → Bool} {Q : Value → Shared → Prop} (O : SrtO.Swo ltv) (ht : IsTup s.heap l vs.toArray) (hz : vs.length ≤ sizeLine)
    (hS : 2 ≤ vs.length → ∀ (g : Heap) (a : Addr), SrtO.SortableO prog w A.in1.in1 { s with heap := g } a vs ltv) (q : ∀ out : List Value, SrtO.Srtd ltv out → SrtO.Stb ltv out vs → Q (.ref (s.heap.objs.size + 1)) { s with heap := sortedAll s.heap vs out.toArray }) :
    wpAny (model prog w) A (call (.builtin "sorted") [.ref l]) Q E s := by
  refine Calls.call_function_entry kind_sorted plain_sorted entry_sorted (args_sorted1 _) ?_
  unfold Builtin.«sorted»
  refine wpAny_bind (m := checkCount "sorted" 1 1 _) (wpAny_pure (wpAny_bind (gather_tup ht hz (wpAny_bind (wpAny_newList ?_ hz)))))
  have z : (gth s.heap vs).objs.size = s.heap.objs.size + 1 := (Heap.size_update _ _ _).trans (size_push' _ _)
  have en : ((gth s.heap vs).push (seqObj "list" vs.toArray 0)).get? (s.heap.objs.size + 1) = some (seqObj "list" vs.toArray 0) := z ▸ Heap.get?_push_size _ rfl
  refine (?_ : wpAny _ _ _ _ _ { s with heap := (gth s.heap vs).push (seqObj "list" vs.toArray 0) })
  show wpAny _ _ (holding [.ref (gth s.heap vs).objs.size] _ >>= fun _ => _) _ _ _
  rw [z]
  exact wpAny_bind (wpAny_holding (wpAny_call_entry slot_list_sort ⟨_, en, rfl⟩ entry_list_sort (SrtO.list_sort_ord O en hz (fun h2 => hS h2 _ _) fun out h1 h2 => ⟨_, rfl, wpAny_pure ⟨_, rfl, q out h1 h2⟩⟩) (args_list_sort _)))
end
/-- sorted(xs), xs a list or a tuple of ints -/
def rSortA (K : PySem.W.Frag) : List V → Hp → VK → Prop := fun vs H Q => ∃ (a : Addr) (ns : List Int), vs = [V.ref a] ∧ (SqL K H a (ns.map V.int) ∨ SqT K H a (ns.map V.int)) ∧
  ∀ (ms : List Int) (p : Addr), ms.Perm ns → ms.Pairwise (· ≤ ·) → H p = none → Q (.ref p) (upd H p (.lst (ms.map V.int)))
theorem cr_sortA {X : Cx} : CallR X (.builtin "sorted") (rSortA X.K) := by
  intro pins s σ H vs us Q I r h
  obtain ⟨a, ns, rfl, hs, q⟩ := h
  rcases hs with hs | hs
  · exact cr_sortedI pins s σ H _ us Q I r ⟨a, ns, rfl, hs, q⟩
  obtain ⟨its, rv, ht, hz⟩ := I.tuple hs
  rw [Vals.ref1 r]
  have hi := rv.ints
  refine sortedT_ord SrtO.swo_int ht (rv.length ▸ hz) (fun h2 _ _ => SrtO.ints_sortable hi h2) fun out h1 h2 => ?_
  obtain ⟨k1, k2, k3⟩ := SrtO.ints_out hi h1 h2
  obtain ⟨ep, ee⟩ := PyProof.Rows.sortedAll_at s.heap its out.toArray
  have hl : ((out.map SrtO.iv).map V.int).length ≤ sizeLine := by
    rw [List.length_map] at hz ⊢
    rw [k2.length_eq]
    exact hz
  refine ⟨.ref (s.heap.objs.size + 1), upd H (s.heap.objs.size + 1) (.lst ((out.map SrtO.iv).map V.int)), ?_, rfl, q _ _ k2 k3 (I.hok.fresh (Nat.le_succ _))⟩
  exact I.laid (t' := s.toks) (fun _ _ => PyProof.Rows.sortedAll_old) (Nat.le_succ _) ⟨hl, out, ep, vals_of_ints k1, ee⟩
theorem rd_sortT {K : PySem.W.Frag} {H : Hp} {Q : VK} {a : Addr} {ns : List Int} (h : SqL K H a (ns.map V.int) ∨ SqT K H a (ns.map V.int)) (q : ∀ (ms : List Int) (p : Addr), ms.Perm ns → ms.Pairwise (· ≤ ·) → H p = none → Q (.ref p) (upd H p (.lst (ms.map V.int)))) : rSortA K [.ref a] H Q := ⟨a, ns, rfl, h, q⟩
end Z
namespace Z
open PySem PySem.Spec PyProof.Rows L2
def hitL (ns : List Int) (r : Rw) : Bool := !((ns.filter fun x => decide ((r.2.2.2.2 : Int) ≤ x) && decide (x ≤ (r.1 : Int))).isEmpty)
theorem hitL_iff {ns : List Int} {r : Rw} : hitL ns r = true ↔ ∃ x ∈ ns, (r.2.2.2.2 : Int) ≤ x ∧ x ≤ (r.1 : Int) := by
  unfold hitL
  rw [Bool.not_eq_true', List.isEmpty_eq_false_iff, ne_eq, List.filter_eq_nil_iff]
  constructor
  · intro h
    by_cases c : ∃ x ∈ ns, (r.2.2.2.2 : Int) ≤ x ∧ x ≤ (r.1 : Int)
    · exact c
    · refine (h fun x hx z => c ⟨x, hx, ?_⟩).elim
      rw [Bool.and_eq_true, decide_eq_true_eq, decide_eq_true_eq] at z
      exact z
  · rintro ⟨x, hx, h1, h2⟩ h
    exact h x hx (by rw [decide_eq_true h1, decide_eq_true h2]; rfl)
/-- the last of the first n, or -1 -/
def latS (asc : List Int) (n : Nat) : Int := ((-1) :: asc).getD n (-1)
theorem latS_zero (asc : List Int) : latS asc 0 = -1 := rfl
theorem latS_succ {asc : List Int} {n : Nat} (h : n < asc.length) : latS asc (n + 1) = asc[n] := by
  unfold latS
  rw [List.getD_cons_succ, List.getD_eq_getElem?_getD, List.getElem?_eq_getElem h]
  rfl
/-- how many are not above z -/
def cntS (asc : List Int) (z : Int) : Nat := (asc.takeWhile fun x => decide (x ≤ z)).length
theorem cntS_le (asc : List Int) (z : Int) : cntS asc z ≤ asc.length := (List.takeWhile_sublist _).length_le
theorem cntS_lt : ∀ {asc : List Int} {z : Int} {i : Nat}, i < cntS asc z → ∃ h : i < asc.length, asc[i] ≤ z
  | [], _, _, h => absurd h (Nat.not_lt_zero _)
  | x :: xs, z, i, h => by
    unfold cntS at h
    by_cases c : x ≤ z
    · rw [List.takeWhile_cons_of_pos (by simpa using c)] at h
      cases i with
      | zero => exact ⟨Nat.zero_lt_succ _, c⟩
      | succ i =>
        obtain ⟨h1, h2⟩ := cntS_lt (asc := xs) (z := z) (i := i) (Nat.lt_of_succ_lt_succ h)
        exact ⟨Nat.succ_lt_succ h1, h2⟩
    · rw [List.takeWhile_cons_of_neg (by simpa using c)] at h
      exact absurd h (Nat.not_lt_zero _)
theorem cntS_at : ∀ {asc : List Int} {z : Int} (h : cntS asc z < asc.length), z < asc[cntS asc z]
  | [], _, h => absurd h (Nat.not_lt_zero _)
  | x :: xs, z, h => by
    by_cases c : x ≤ z
    · have e : cntS (x :: xs) z = cntS xs z + 1 := by
        unfold cntS
        rw [List.takeWhile_cons_of_pos (by simpa using c)]
        rfl
      have h' : cntS xs z < xs.length := by rw [e] at h; exact Nat.lt_of_succ_lt_succ h
      have := cntS_at h'
      simp only [e, List.getElem_cons_succ]
      exact this
    · have e : cntS (x :: xs) z = 0 := by
        unfold cntS
        rw [List.takeWhile_cons_of_neg (by simpa using c)]
        rfl
      simp only [e, List.getElem_cons_zero]
      omega
theorem cntS_mono {asc : List Int} {z w : Int} (h : z ≤ w) : cntS asc z ≤ cntS asc w := by
  by_cases c : cntS asc w < cntS asc z
  · obtain ⟨h1, h2⟩ := cntS_lt c
    have := cntS_at h1
    omega
  · omega
theorem latS_ge {asc ns : List Int} (hp : asc.Perm ns) (hs : asc.Pairwise (· ≤ ·)) (h0 : ∀ x ∈ ns, 0 ≤ x) (r : Rw) : decide (latS asc (cntS asc r.1) ≥ (r.2.2.2.2 : Int)) = hitL ns r := by
  rw [Bool.eq_iff_iff, decide_eq_true_eq, hitL_iff]
  constructor
  · intro h
    cases e : cntS asc r.1 with
    | zero => rw [e, latS_zero] at h; omega
    | succ n =>
      obtain ⟨h1, h2⟩ := cntS_lt (asc := asc) (z := r.1) (i := n) (by omega)
      rw [e, latS_succ h1] at h
      exact ⟨asc[n], hp.mem_iff.mp (List.getElem_mem h1), h, h2⟩
  · rintro ⟨x, hx, h1, h2⟩
    obtain ⟨k, hk, rfl⟩ := List.mem_iff_getElem.mp (hp.mem_iff.mpr hx)
    have hc : k < cntS asc r.1 := by
      by_cases c : k < cntS asc r.1
      · exact c
      · have hl : cntS asc r.1 < asc.length := by omega
        have z := cntS_at hl
        by_cases e : cntS asc r.1 = k
        · simp only [e] at z
          omega
        · have := List.pairwise_iff_getElem.mp hs _ k hl hk (by omega)
          omega
    obtain ⟨n, hn⟩ : ∃ n, cntS asc r.1 = n + 1 := ⟨cntS asc r.1 - 1, by omega⟩
    obtain ⟨g1, g2⟩ := cntS_lt (asc := asc) (z := r.1) (i := n) (by omega)
    rw [hn, latS_succ g1]
    by_cases e : k = n
    · subst e; exact h1
    · have := List.pairwise_iff_getElem.mp hs k n hk g1 (by omega)
      omega
def spCkLost : Sp := fun vs H Q _ => ∃ (a : Addr) (ns : List Int), vs = [.ref a] ∧ LT H a (ns.map V.int) ∧ (∀ x ∈ ns, 0 ≤ x) ∧ ∀ H', Same H H' → Q .non H'
theorem use_cklost {a : Addr} {ns : List Int} {H : Hp} {Q : VK} {E : XK} (h : LT H a (ns.map V.int)) (h0 : ∀ x ∈ ns, 0 ≤ x) (q : ∀ H', Same H H' → Q .non H') : spCkLost ([.ref a] ++ []) H Q E := ⟨a, ns, rfl, h, h0, q⟩
def spUnr (K : PySem.W.Frag) : Sp := fun vs H Q _ => ∃ (a b : Addr) (idx : List V) (rows : List Rw) (ns : List Int), vs = [.ref a, .ref b] ∧ H a = some (.lst idx) ∧ RwsV K H idx rows ∧ RowsO rows ∧ idx.length ≤ 40 ∧ LT H b (ns.map V.int) ∧ (∀ x ∈ ns, 0 ≤ x) ∧ ns.length ≤ 100 ∧
  ∀ D H', H D = none → Same H H' → H' D = some (.lst ((ixsW (hitL ns) rows rows.length).map nv)) → Q (.ref D) H'
theorem use_unr {K : PySem.W.Frag} {a b : Addr} {idx : List V} {rows : List Rw} {ns : List Int} {H : Hp} {Q : VK} {E : XK} (h : H a = some (.lst idx)) (r : RwsV K H idx rows) (o : RowsO rows) (l : idx.length ≤ 40) (hb : LT H b (ns.map V.int)) (h0 : ∀ x ∈ ns, 0 ≤ x) (hl : ns.length ≤ 100)
  (q : ∀ D H', H D = none → Same H H' → H' D = some (.lst ((ixsW (hitL ns) rows rows.length).map nv)) → Q (.ref D) H') : spUnr K ([.ref a, .ref b] ++ []) H Q E := ⟨a, b, idx, rows, ns, rfl, h, r, o, l, hb, h0, hl, q⟩
abbrev Iv := Int × Int
def cov (S : List Iv) (p : Int) : Bool := S.any fun v => decide (v.1 ≤ p) && decide (p < v.2)
theorem cov_iff {S : List Iv} {p : Int} : cov S p = true ↔ ∃ v ∈ S, v.1 ≤ p ∧ p < v.2 := by
  unfold cov
  rw [List.any_eq_true]
  constructor
  · rintro ⟨v, h, q⟩
    rw [Bool.and_eq_true, decide_eq_true_eq, decide_eq_true_eq] at q
    exact ⟨v, h, q⟩
  · rintro ⟨v, h, q1, q2⟩
    exact ⟨v, h, by rw [decide_eq_true q1, decide_eq_true q2]; rfl⟩
def mg1 (S : List Iv) (v : Iv) : List Iv := match S.getLast? with
  | none => [v]
  | some u => if v.1 ≤ u.2 then S.dropLast ++ [(u.1, v.2)] else S ++ [v]
def mgA (vs : List Iv) : List Iv := vs.foldl mg1 []
theorem mgA_snoc (vs : List Iv) (v : Iv) : mgA (vs ++ [v]) = mg1 (mgA vs) v := by unfold mgA; rw [List.foldl_append]; rfl
theorem mg1_nil (v : Iv) : mg1 [] v = [v] := rfl
theorem mg1_yes {S : List Iv} {u v : Iv} (h : v.1 ≤ u.2) : mg1 (S ++ [u]) v = S ++ [(u.1, v.2)] := by
  unfold mg1
  rw [List.getLast?_concat]
  show (if v.1 ≤ u.2 then _ else _) = _
  rw [if_pos h, List.dropLast_concat]
theorem mg1_no {S : List Iv} {u v : Iv} (h : ¬ v.1 ≤ u.2) : mg1 (S ++ [u]) v = S ++ [u] ++ [v] := by
  unfold mg1
  rw [List.getLast?_concat]
  show (if v.1 ≤ u.2 then _ else _) = _
  rw [if_neg h]
theorem last_or {α : Type} (xs : List α) : xs = [] ∨ ∃ ys x, xs = ys ++ [x] := by
  cases h : xs.getLast? with
  | none => exact .inl (List.getLast?_eq_none_iff.mp h)
  | some x =>
    obtain ⟨ys, e⟩ := List.getLast?_eq_some_iff.mp h
    exact .inr ⟨ys, x, e⟩
structure MgI (S pre : List Iv) : Prop where
  ok : ∀ v ∈ S, v.1 < v.2
  sep : S.Pairwise fun a b => a.2 < b.1
  cv : ∀ p, cov S p = cov pre p
  l1 : ∀ u, S.getLast? = some u → (∃ w ∈ pre, u.1 = w.1) ∧ ∃ w ∈ pre, u.2 = w.2
theorem MgI.step {S pre : List Iv} {v : Iv} (h : MgI S pre) (hv : v.1 < v.2) (hm : ∀ w ∈ pre, w.1 ≤ v.1 ∧ w.2 ≤ v.2) : MgI (mg1 S v) (pre ++ [v]) := by
  have covs : ∀ (A B : List Iv) p, cov (A ++ B) p = (cov A p || cov B p) := fun A B p => List.any_append
  rcases last_or S with rfl | ⟨S0, u, rfl⟩
  · rw [mg1_nil]
    refine ⟨fun w hw => by rw [List.mem_singleton.mp hw]; exact hv, List.pairwise_singleton _ _, fun p => ?_, fun u hu => ?_⟩
    · have e := h.cv p
      rw [covs, ← e]
      rfl
    · cases hu
      exact ⟨⟨v, List.mem_append_right _ List.mem_cons_self, rfl⟩, ⟨v, List.mem_append_right _ List.mem_cons_self, rfl⟩⟩
  · obtain ⟨⟨w1, hw1, e1⟩, w2, hw2, e2⟩ := h.l1 u List.getLast?_concat
    have b1 := (hm w1 hw1).1
    have b2 := (hm w2 hw2).2
    have hu := h.ok u (List.mem_append_right _ List.mem_cons_self)
    obtain ⟨p1, p2, p3⟩ := List.pairwise_append.mp h.sep
    by_cases c : v.1 ≤ u.2
    · rw [mg1_yes c]
      refine ⟨fun w hw => ?_, ?_, fun p => ?_, fun w hw => ?_⟩
      · rcases List.mem_append.mp hw with hw | hw
        · exact h.ok w (List.mem_append_left _ hw)
        · rw [List.mem_singleton.mp hw]
          show u.1 < v.2
          omega
      · refine List.pairwise_append.mpr ⟨p1, List.pairwise_singleton _ _, fun a ha b hb => ?_⟩
        rw [List.mem_singleton.mp hb]
        exact p3 a ha u List.mem_cons_self
      · have e := h.cv p
        rw [covs] at e ⊢
        rw [covs, ← e]
        have e3 : cov [(u.1, v.2)] p = (cov [u] p || cov [v] p) := by
          show ((decide (u.1 ≤ p) && decide (p < v.2)) || false) = (((decide (u.1 ≤ p) && decide (p < u.2)) || false) || ((decide (v.1 ≤ p) && decide (p < v.2)) || false))
          rw [Bool.eq_iff_iff]
          simp only [Bool.or_eq_true, Bool.and_eq_true, decide_eq_true_eq, Bool.false_eq_true, or_false]
          omega
        rw [e3, Bool.or_assoc]
      · rw [List.getLast?_concat] at hw
        cases hw
        exact ⟨⟨w1, List.mem_append_left _ hw1, e1⟩, ⟨v, List.mem_append_right _ List.mem_cons_self, rfl⟩⟩
    · rw [mg1_no c]
      refine ⟨fun w hw => ?_, ?_, fun p => ?_, fun w hw => ?_⟩
      · rcases List.mem_append.mp hw with hw | hw
        · exact h.ok w hw
        · rw [List.mem_singleton.mp hw]
          exact hv
      · refine List.pairwise_append.mpr ⟨h.sep, List.pairwise_singleton _ _, fun a ha b hb => ?_⟩
        rw [List.mem_singleton.mp hb]
        rcases List.mem_append.mp ha with ha | ha
        · have := p3 a ha u List.mem_cons_self
          omega
        · rw [List.mem_singleton.mp ha]
          omega
      · rw [covs (S0 ++ [u]) [v], covs pre [v], h.cv p]
      · rw [List.getLast?_concat] at hw
        cases hw
        exact ⟨⟨v, List.mem_append_right _ List.mem_cons_self, rfl⟩, ⟨v, List.mem_append_right _ List.mem_cons_self, rfl⟩⟩
theorem MgI.fold : ∀ (vs S pre : List Iv), MgI S pre → (∀ v ∈ vs, v.1 < v.2) → ((pre ++ vs).Pairwise fun a b => a.1 ≤ b.1 ∧ a.2 ≤ b.2) → MgI (vs.foldl mg1 S) (pre ++ vs)
  | [], S, pre, h, _, _ => by rw [List.append_nil]; exact h
  | v :: vs, S, pre, h, hv, hp => by
    have e : pre ++ v :: vs = (pre ++ [v]) ++ vs := by rw [List.append_assoc]; rfl
    rw [e] at hp ⊢
    refine MgI.fold vs _ _ (h.step (hv v List.mem_cons_self) fun w hw => ?_) (fun w hw => hv w (List.mem_cons_of_mem _ hw)) hp
    exact (List.pairwise_append.mp (List.pairwise_append.mp hp).1).2.2 w hw v List.mem_cons_self
theorem mgA_ok {vs : List Iv} (hv : ∀ v ∈ vs, v.1 < v.2) (hp : vs.Pairwise fun a b => a.1 ≤ b.1 ∧ a.2 ≤ b.2) : MgI (mgA vs) vs := by
  have h := MgI.fold vs [] [] ⟨fun v h => (List.not_mem_nil h).elim, .nil, fun _ => rfl, fun u h => nomatch h⟩ hv hp
  exact h
def ivW (r : Rw) : Iv := (rnear r, rfar r)
structure RowsM (rows : List Rw) (N : Nat) : Prop where
  lo : ∀ r ∈ rows, 0 ≤ rnear r
  hi : ∀ r ∈ rows, rfar r ≤ N
  ne : ∀ r ∈ rows, rnear r < rfar r
  mo : rows.Pairwise fun a b => rnear a ≤ rnear b ∧ rfar a ≤ rfar b
def plE : List Rc → Nat
  | [] => 0
  | .st _ :: r => plE r
  | .fr d _ _ :: r => d.1 + plE r
theorem foldl_pl : ∀ (rs : List Rc) (s : Run), (rs.foldl stpR s).pl = s.pl + plE rs
  | [], s => rfl
  | .st T :: rs, s => foldl_pl rs _
  | .fr d ns T :: rs, s => by
    rw [List.foldl_cons, foldl_pl rs]
    show s.pl + d.1 + plE rs = s.pl + (d.1 + plE rs)
    omega
theorem rowsF_mono : ∀ (rs : List Rc) (i pl : Nat) (lj : Nat × Nat) (o : Nat) {T T2 : Tb × Tb} {l2 : Nat}, Vd T lj.1 rs T2 l2 → lj.1 ≤ pl →
    (pl + lj.1 ≤ pl + plE rs + l2) ∧ (∀ r ∈ rowsF i pl lj o rs, (pl : Int) - lj.1 ≤ rnear r ∧ (pl : Int) + lj.1 ≤ rfar r ∧ rnear r < rfar r ∧ rfar r ≤ (pl + plE rs + l2 : Nat)) ∧ (rowsF i pl lj o rs).Pairwise fun a b => rnear a ≤ rnear b ∧ rfar a ≤ rfar b
  | [], i, pl, lj, o, T, T2, l2, h, _ => by
    have e : lj.1 = l2 := h.2
    exact ⟨by rw [e]; exact Nat.le_refl _, fun r hr => (List.not_mem_nil hr).elim, .nil⟩
  | .st T' :: rs, i, pl, lj, o, T, T2, l2, h, hp => rowsF_mono rs (i + 1) pl lj i h.2 hp
  | .fr d ns T' :: rs, i, pl, lj, o, T, T2, l2, h, hp => by
    obtain ⟨_, hd, hl, _, _, _, hv⟩ := h
    have d1 := hd.1
    obtain ⟨a, b, c⟩ := rowsF_mono rs (i + 1) (pl + d.1) (d.2.1, d.2.2.1) o hv (by show d.2.1 ≤ pl + d.1; omega)
    have a : pl + d.1 + d.2.1 ≤ pl + d.1 + plE rs + l2 := a
    have ep : plE (.fr d ns T' :: rs) = d.1 + plE rs := rfl
    have n0 : rnear (i, pl, d, lj, o) = (pl : Int) - (lj.1 : Nat) := rfl
    have f0 : rfar (i, pl, d, lj, o) = (pl : Int) + (d.1 : Nat) + (d.2.1 : Nat) := rfl
    refine ⟨by rw [ep]; omega, fun r hr => ?_, List.pairwise_cons.mpr ⟨fun r hr => ?_, c⟩⟩
    · rcases List.mem_cons.mp hr with rfl | hr
      · rw [n0, f0, ep]
        refine ⟨by omega, by omega, by omega, by push_cast; omega⟩
      · obtain ⟨b1, b2, b3, b4⟩ := b r hr
        have b1 : ((pl + d.1 : Nat) : Int) - (d.2.1 : Nat) ≤ rnear r := b1
        have b2 : ((pl + d.1 : Nat) : Int) + (d.2.1 : Nat) ≤ rfar r := b2
        rw [ep]
        refine ⟨by omega, by omega, b3, by push_cast at b4 ⊢; omega⟩
    · obtain ⟨b1, b2, b3, b4⟩ := b r hr
      have b1 : ((pl + d.1 : Nat) : Int) - (d.2.1 : Nat) ≤ rnear r := b1
      have b2 : ((pl + d.1 : Nat) : Int) + (d.2.1 : Nat) ≤ rfar r := b2
      rw [n0, f0]
      exact ⟨by omega, by omega⟩
theorem rowsM_of {rs : List Rc} {T : Tb × Tb} (h : Vd T0 0 rs T 0) : RowsM (runR rs).rows (lenW (runR rs).rows) := by
  obtain ⟨a, b, c⟩ := rowsF_mono rs 0 0 (0, 0) 0 h (Nat.zero_le _)
  have e : lenW (runR rs).rows = plE rs := by
    rw [(runO h.ok).last]
    show (rs.foldl stpR ⟨0, 0, (0, 0), 0, []⟩).pl = _
    rw [foldl_pl]
    exact Nat.zero_add _
  rw [e]
  rw [← runR_rows] at b c
  exact ⟨fun r hr => by have := (b r hr).1; exact this, fun r hr => by have := (b r hr).2.2.2; rw [Nat.zero_add, Nat.add_zero] at this; exact this, fun r hr => (b r hr).2.2.1, c⟩
/-- the rows at these places -/
def rowsAt (rows : List Rw) (js : List Nat) : List Rw := js.filterMap fun j => rows[j]?
theorem rowsAt_snoc {rows : List Rw} {js : List Nat} {j : Nat} {r : Rw} (h : rows[j]? = some r) : rowsAt rows (js ++ [j]) = rowsAt rows js ++ [r] := by
  unfold rowsAt
  rw [List.filterMap_append, List.filterMap_cons_some h]
  rfl
theorem rowsAt_mem {rows : List Rw} {js : List Nat} {r : Rw} (h : r ∈ rowsAt rows js) : r ∈ rows := by
  obtain ⟨j, _, e⟩ := List.mem_filterMap.mp h
  exact List.mem_of_getElem? e
theorem rowsAt_mono {rows : List Rw} {N : Nat} (m : RowsM rows N) : ∀ {js : List Nat}, js.Pairwise (· < ·) → (rowsAt rows js).Pairwise fun a b => rnear a ≤ rnear b ∧ rfar a ≤ rfar b
  | [], _ => .nil
  | j :: js, h => by
    obtain ⟨h1, h2⟩ := List.pairwise_cons.mp h
    have ih := rowsAt_mono m h2
    cases e : rows[j]? with
    | none =>
      have e2 : rowsAt rows (j :: js) = rowsAt rows js := List.filterMap_cons_none e
      rw [e2]
      exact ih
    | some r =>
      have e2 : rowsAt rows (j :: js) = r :: rowsAt rows js := List.filterMap_cons_some e
      rw [e2]
      refine List.pairwise_cons.mpr ⟨fun s hs => ?_, ih⟩
      obtain ⟨k, hk, ek⟩ := List.mem_filterMap.mp hs
      have lt := h1 k hk
      obtain ⟨a1, a2⟩ := List.getElem?_eq_some_iff.mp e
      obtain ⟨b1, b2⟩ := List.getElem?_eq_some_iff.mp ek
      have := List.pairwise_iff_getElem.mp m.mo j k a1 b1 lt
      rw [a2, b2] at this
      exact this
def PrAt (H : Hp) (v : V) (p : Iv) : Prop := ∃ t, v = .ref t ∧ H t = some (.tup [.int p.1, .int p.2])
def PrsAt (H : Hp) (vs : List V) (ps : List Iv) : Prop := All2 (PrAt H) vs ps
theorem PrAt.lk {H H' : Hp} {v : V} {p : Iv} (s : LK H H') (h : PrAt H v p) : PrAt H' v p := let ⟨t, e, q⟩ := h; ⟨t, e, s _ _ q fun _ z => nomatch z⟩
theorem PrsAt.lk {H H' : Hp} {vs : List V} {ps : List Iv} (s : LK H H') (h : PrsAt H vs ps) : PrsAt H' vs ps := h.imp fun _ _ q => q.lk s
def tchW (rows : List Rw) (ns : List Int) : List Iv := mgA ((rowsAt rows (ixsW (hitL ns) rows rows.length)).map ivW)
def spTch (K : PySem.W.Frag) : Sp := fun vs H Q _ => ∃ (a b : Addr) (idx : List V) (rows : List Rw) (ns : List Int), vs = [.ref a, .ref b] ∧ H a = some (.lst idx) ∧ RwsV K H idx rows ∧ RowsO rows ∧ idx.length ≤ 40 ∧ LT H b (ns.map V.int) ∧ (∀ x ∈ ns, 0 ≤ x) ∧ ns.length ≤ 100 ∧
  ∀ D ps H', H D = none → Same H H' → H' D = some (.lst ps) → PrsAt H' ps (tchW rows ns) → Q (.ref D) H'
theorem use_tch {K : PySem.W.Frag} {a b : Addr} {idx : List V} {rows : List Rw} {ns : List Int} {H : Hp} {Q : VK} {E : XK} (h : H a = some (.lst idx)) (r : RwsV K H idx rows) (o : RowsO rows) (l : idx.length ≤ 40) (hb : LT H b (ns.map V.int)) (h0 : ∀ x ∈ ns, 0 ≤ x) (hl : ns.length ≤ 100)
  (q : ∀ D ps H', H D = none → Same H H' → H' D = some (.lst ps) → PrsAt H' ps (tchW rows ns) → Q (.ref D) H') : spTch K ([.ref a, .ref b] ++ []) H Q E := ⟨a, b, idx, rows, ns, rfl, h, r, o, l, hb, h0, hl, q⟩
theorem mgA_le : ∀ vs S : List Iv, (vs.foldl mg1 S).length ≤ S.length + vs.length
  | [], S => Nat.le_refl _
  | v :: vs, S => by
    have ih := mgA_le vs (mg1 S v)
    have h : (mg1 S v).length ≤ S.length + 1 := by
      rcases last_or S with rfl | ⟨S0, u, rfl⟩
      · rw [mg1_nil]; simp
      · by_cases c : v.1 ≤ u.2
        · rw [mg1_yes c]; simp
        · rw [mg1_no c]; simp
    rw [List.foldl_cons, List.length_cons]
    omega
theorem rowsAt_le (rows : List Rw) (js : List Nat) : (rowsAt rows js).length ≤ js.length := List.length_filterMap_le _ _
theorem All2.snocE {α β : Type} {R : α → β → Prop} {as : List α} {bs : List β} {b : β} (h : All2 R as (bs ++ [b])) : ∃ xs x, as = xs ++ [x] ∧ All2 R xs bs ∧ R x b := by
  induction bs generalizing as with
  | nil =>
    cases h with
    | cons h t => cases t with
      | nil => exact ⟨[], _, rfl, .nil, h⟩
  | cons c bs ih =>
    cases h with
    | cons h t =>
      obtain ⟨xs, x, rfl, h1, h2⟩ := ih t
      exact ⟨_ :: xs, x, rfl, .cons h h1, h2⟩
end Z
namespace Z
open PySem PySem.Spec PyProof.Rows L2
theorem sm_pr {K : PySem.W.Frag} {H : Hp} {v w : V} {p : Iv} (h : PrAt H v p) (g : PrAt H w p) : SmV K H 2 v w := by
  obtain ⟨a, rfl, h1⟩ := h
  obtain ⟨b, rfl, g1⟩ := g
  refine .inr (.inr ⟨a, b, _, _, rfl, rfl, .of h1, .of g1, rfl, fun i x y e1 e2 => ?_⟩)
  rcases i with _ | _ | i
  · cases e1; cases e2; exact sm_sc rfl
  · cases e1; cases e2; exact sm_sc rfl
  · simp at e1
theorem sm_prs {K : PySem.W.Frag} {H : Hp} {a b : Addr} {xs ys : List V} {ps : List Iv} (ha : H a = some (.lst xs)) (hb : H b = some (.lst ys)) (h : PrsAt H xs ps) (g : PrsAt H ys ps) : SmV K H 3 (.ref a) (.ref b) :=
  .inr (.inl ⟨a, b, _, _, rfl, rfl, .of ha, .of hb, h.len.trans g.len.symm, fun i x y e1 e2 => by
    obtain ⟨r, rr, h1, h2, _⟩ := h.get _ _ e1
    obtain ⟨r', rr', g1, g2, _⟩ := g.get _ _ e2
    rw [h2] at g2
    cases g2
    exact sm_pr h1 g1⟩)
theorem sm_flatL {K : PySem.W.Frag} {H : Hp} {p q : Addr} {xs : List V} (hp : H p = some (.lst xs)) (hq : H q = some (.lst xs)) (sc : ∀ x ∈ xs, scalarV x = true) : SmV K H 3 (.ref p) (.ref q) :=
  .inr (.inl ⟨p, q, _, _, rfl, rfl, .of hp, .of hq, rfl, fun i x y e1 e2 => by
    rw [e1] at e2
    cases e2
    exact sm_sc (sc x (List.mem_of_getElem? e1))⟩)
theorem sc_nats (js : List Nat) : ∀ x ∈ js.map nv, scalarV x = true := fun x hx => by
  obtain ⟨j, _, rfl⟩ := List.mem_map.mp hx
  rfl
end Z
namespace Z
open PySem PySem.Spec PyProof.Rows L2
/-- length, width, shape of frames that follow each other -/
abbrev Fw := Nat × Nat × Nat
def Chn : Nat → List Fw → Prop
  | _, [] => True
  | wb, f :: r => 1 ≤ f.1 ∧ wb + f.2.1 ≤ f.1 ∧ f.2.1 ≤ 8 ∧ f.2.2 ≤ 3 ∧ (f.2.1 = 0 → f.2.2 = 0) ∧ Chn f.2.1 r
theorem Chn.low {wb : Nat} : ∀ {fs : List Fw}, Chn wb fs → Chn 0 fs
  | [], _ => trivial
  | f :: r, ⟨h1, h2, h3⟩ => ⟨h1, by omega, h3⟩
def plJ : Nat → List Fw → List Jo
  | _, [] => []
  | p, f :: r => (p + f.1, f.2.1, f.2.2) :: plJ (p + f.1) r
def totW (fs : List Fw) : Nat := (fs.map (·.1)).sum
theorem totW_cons (f : Fw) (r : List Fw) : totW (f :: r) = f.1 + totW r := by unfold totW; rw [List.map_cons, List.sum_cons]
theorem totW_snoc (fs : List Fw) (f : Fw) : totW (fs ++ [f]) = totW fs + f.1 := by unfold totW; rw [List.map_append, List.sum_append, List.map_singleton, List.sum_singleton]
theorem plJ_snoc : ∀ (fs : List Fw) (p : Nat) (f : Fw), plJ p (fs ++ [f]) = plJ p fs ++ [(p + totW fs + f.1, f.2.1, f.2.2)]
  | [], p, f => rfl
  | g :: r, p, f => by
    show (p + g.1, g.2.1, g.2.2) :: plJ (p + g.1) (r ++ [f]) = _
    rw [plJ_snoc r (p + g.1) f, totW_cons, show p + g.1 + totW r = p + (g.1 + totW r) by omega]
    rfl
theorem plJ_rm : ∀ (fs : List Fw) (p wb n : Nat), Chn wb fs → n = p + totW fs → Rm n p wb (plJ p fs).dropLast
  | [], _, _, _, _, _ => trivial
  | [f], _, _, _, _, _ => trivial
  | f :: g :: r, p, wb, n, ⟨h1, h2, h3, h4, h5, h6⟩, hn => by
    have ih := plJ_rm (g :: r) (p + f.1) f.2.1 n h6 (by rw [hn, totW_cons]; omega)
    obtain ⟨g1, g2, _⟩ := h6
    rw [totW_cons, totW_cons] at hn
    exact ⟨by show p < p + f.1; omega, by show p + f.1 < n; omega, by show p + wb + f.2.1 ≤ p + f.1; omega, by show p + f.1 + f.2.1 ≤ n; omega, h3, h4, h5, ih⟩
/-- the samples -/
def sndW (fs : List Fw) (bs : List (List Int)) : List Int := turnL unfoldP bs.flatten (plJ 0 fs).dropLast
theorem flat_len {bs : List (List Int)} : bs.flatten.length = (bs.map (·.length)).sum := List.length_flatten
def fwR : List Rc → List Fw
  | [] => []
  | .st _ :: r => fwR r
  | .fr d _ _ :: r => (d.1, d.2.1, d.2.2.1) :: fwR r
theorem Vd.chn : ∀ {rs : List Rc} {T : Tb × Tb} {l : Nat} {T2 : Tb × Tb} {l2 : Nat}, Vd T l rs T2 l2 → Chn l (fwR rs)
  | [], _, _, _, _, _ => trivial
  | .st _ :: rs, _, _, _, _, ⟨_, q⟩ => Vd.chn (rs := rs) q
  | .fr d ns T' :: rs, _, _, _, _, ⟨_, hd, h3, _, _, _, q⟩ => ⟨hd.1, h3, hd.2.2.1, hd.2.2.2.1, hd.2.2.2.2.1, Vd.chn (rs := rs) q⟩
theorem kfB_len {d : Hd} {ns : List Int} (h : ns.length = d.1) : (kfB d ns).length = d.1 := by
  show (joinL (ns.map (· * (d.2.2.2.2 : Int))) d.2.2.2.1).length = d.1
  rw [joinL_length, List.length_map, h]
theorem Vd.blen : ∀ {rs : List Rc} {T : Tb × Tb} {l : Nat} {T2 : Tb × Tb} {l2 : Nat}, Vd T l rs T2 l2 → (blkR rs).map (·.length) = (fwR rs).map (·.1)
  | [], _, _, _, _, _ => rfl
  | .st _ :: rs, _, _, _, _, ⟨_, q⟩ => Vd.blen (rs := rs) q
  | .fr d ns T' :: rs, _, _, _, _, ⟨_, hd, h3, h4, _, _, q⟩ => by
    have ih := Vd.blen (rs := rs) q
    show (kfB d ns).length :: (blkR rs).map (·.length) = d.1 :: (fwR rs).map (·.1)
    rw [kfB_len h4, ih]
def sndR (rs : List Rc) : List Int := sndW (fwR rs) (blkR rs)
def fwF (f : Fm) : Fw := (f.2.2.1.1, f.2.2.1.2.1, f.2.2.1.2.2.1)
def bkF (f : Fm) : List Int := kfB f.2.2.1 f.2.2.2.2.1
theorem frR_fw : ∀ (rs : List Rc) (i pl : Nat) (lj : Nat × Nat), (frR i pl lj rs).map fwF = fwR rs
  | [], _, _, _ => rfl
  | .st _ :: rs, i, pl, lj => frR_fw rs (i + 1) pl lj
  | .fr d ns T :: rs, i, pl, lj => congrArg ((d.1, d.2.1, d.2.2.1) :: ·) (frR_fw rs (i + 1) (pl + d.1) (d.2.1, d.2.2.1))
theorem frR_bk : ∀ (rs : List Rc) (i pl : Nat) (lj : Nat × Nat), (frR i pl lj rs).map bkF = blkR rs
  | [], _, _, _ => rfl
  | .st _ :: rs, i, pl, lj => frR_bk rs (i + 1) pl lj
  | .fr d ns T :: rs, i, pl, lj => congrArg (kfB d ns :: ·) (frR_bk rs (i + 1) (pl + d.1) (d.2.1, d.2.2.1))
theorem frR_at : ∀ (rs : List Rc) (i pl : Nat) (lj : Nat × Nat) (f : Fm), f ∈ frR i pl lj rs → ∃ k, f.1 = i + k ∧ rs[k]? = some (.fr f.2.2.1 f.2.2.2.2.1 f.2.2.2.2.2)
  | .st _ :: rs, i, pl, lj, f, h => by
    obtain ⟨k, h1, h2⟩ := frR_at rs (i + 1) pl lj f h
    exact ⟨k + 1, by omega, h2⟩
  | .fr d ns T :: rs, i, pl, lj, f, h => by
    rcases List.mem_cons.mp h with rfl | h
    · exact ⟨0, rfl, rfl⟩
    · obtain ⟨k, h1, h2⟩ := frR_at rs (i + 1) (pl + d.1) (d.2.1, d.2.2.1) f h
      exact ⟨k + 1, by omega, h2⟩
theorem frR_le : ∀ (rs : List Rc) (i pl : Nat) (lj : Nat × Nat), (frR i pl lj rs).length ≤ rs.length
  | [], _, _, _ => Nat.le_refl _
  | .st _ :: rs, i, pl, lj => Nat.le_succ_of_le (frR_le rs (i + 1) pl lj)
  | .fr d ns T :: rs, i, pl, lj => Nat.succ_le_succ (frR_le rs (i + 1) (pl + d.1) (d.2.1, d.2.2.1))
theorem pi_listK {X : Cx} {K : PySem.W.Frag} {tg l : Expr} {tl : TE} (hl : PE X l tl) (h : X.K = K := by rfl) : PI X tg l (iList K tl) := by
  subst h
  exact pi_list hl
def BsAt (H : Hp) (vs : List V) (bs : List (List Int)) : Prop := All2 (fun v b => ∃ q, v = .ref q ∧ H q = some (.lst (b.map V.int))) vs bs
theorem BsAt.same {H H' : Hp} {vs : List V} {bs : List (List Int)} (s : Same H H') (h : BsAt H vs bs) : BsAt H' vs bs := h.imp fun _ _ ⟨q, e, h⟩ => ⟨q, e, s _ _ h⟩
def JfAt (H : Hp) (vs : List V) (fs : List Fw) : Prop := All2 (fun v f => ∃ j, v = .ref j ∧ JtAt H j (f.2.1, f.2.2)) vs fs
theorem JfAt.same {H H' : Hp} {vs : List V} {fs : List Fw} (s : Same H H') (h : JfAt H vs fs) : JfAt H' vs fs := h.imp fun _ _ ⟨q, e, h⟩ => ⟨q, e, s _ _ h⟩
/-- two walks, one within the other -/
def Lc2W (J : It) (g : TG) (tt : TT) (wi1 : TI) (g1 : TG) (tt1 : TT) (te : TE) (vs vs1 : List Nat) (Q : VK) (σ : L2.St) (H1 : Hp) (D : Addr) : Prop := ∃ W : Nat → Nat → Hp → Prop, (∃ m, W 0 m (upd H1 D (.lst []))) ∧ ∀ i m H, W i m H →
  (J.stop i H ∧ Q (.ref D) H) ∨ (J.go i H ∧ ∃ Nx : Hp → Prop, (∀ H', Nx H' → ∃ m', m' < m ∧ W (i + 1) m' H') ∧ ∀ x H', J.yld i H x H' → g x (wipe σ vs) H' fun σ2 H2 => wipe σ2 vs = wipe σ vs ∧ tt σ2 H2 fun b H3 =>
    if b = true then wi1 σ2 H3 fun J1 H4 => ∃ W1 : Nat → Nat → Hp → Prop, (∃ m, W1 0 m H4) ∧ ∀ j k H, W1 j k H →
      (J1.stop j H ∧ Nx H) ∨ (J1.go j H ∧ ∃ Nx1 : Hp → Prop, (∀ H', Nx1 H' → ∃ k', k' < k ∧ W1 (j + 1) k' H') ∧ ∀ x H', J1.yld j H x H' → g1 x (wipe σ2 vs1) H' fun σ3 H5 => wipe σ3 vs1 = wipe σ2 vs1 ∧ tt1 σ3 H5 fun b H6 =>
        if b = true then te σ3 H6 fun y H7 => ∃ acc, H7 D = some (.lst acc) ∧ acc.length < sizeLine ∧ Nx1 (upd H7 D (.lst (acc ++ [y]))) else Nx1 H6)
    else Nx H3)
theorem All2.at2 {α β : Type} {R : α → β → Prop} {as : List α} {bs : List β} (h : All2 R as bs) {i : Nat} {a : α} (e : as[i]? = some a) : ∃ b, bs[i]? = some b ∧ R a b := by
  obtain ⟨b, r, h1, h2, h3⟩ := h.get _ _ e
  refine ⟨b, ?_, h1⟩
  have := congrArg (fun l => l[0]?) h2
  simpa using this
/-- [x for b in bs for x in b] -/
theorem lc_flat {K : PySem.W.Frag} {σ : L2.St} {Q : VK} {vs : List Nat} {k k1 : Nat} {a D : Addr} {bks : List V} {bs : List (List Int)} {H1 : Hp} (hb : H1 a = some (.lst bks)) (hB : BsAt H1 bks bs) (hn : bs.flatten.length ≤ 10000) (hD : H1 D = none)
    (h1 : ∀ v, wipe ((wipe σ vs).set k (some v)) vs = wipe σ vs) (h2 : ∀ v, ((wipe σ vs).set k (some v))[k]? = some (some v)) (h3 : ∀ v x, wipe ((wipe ((wipe σ vs).set k (some v)) [k1]).set k1 (some x)) [k1] = wipe ((wipe σ vs).set k (some v)) [k1])
    (h4 : ∀ v x, ((wipe ((wipe σ vs).set k (some v)) [k1]).set k1 (some x))[k1]? = some (some x)) (q : ∀ H', Same H1 H' → H' D = some (.lst (bs.flatten.map V.int)) → Q (.ref D) H') :
    Lc2W (Itl K a) (gName k) tYes (iList K (tVar k)) (gName k1) tYes (tVar k1) vs [k1] Q σ H1 D := by
  have hln := hB.len
  refine ⟨fun i m H => m = bks.length - i ∧ i ≤ bks.length ∧ Same H1 H ∧ H D = some (.lst ((bs.take i).flatten.map V.int)), ⟨_, rfl, Nat.zero_le _, same_new hD, upd_same⟩, ?_⟩
  rintro i m H ⟨rfl, hi, hs, hd⟩
  have eL : SqL K H a bks := SqL.of (hs _ _ hb)
  by_cases hlt : i < bks.length
  · refine .inr ⟨⟨bks, bks[i], eL, List.getElem?_eq_getElem hlt⟩, fun H' => Same H1 H' ∧ H' D = some (.lst ((bs.take (i + 1)).flatten.map V.int)), fun H' p => ⟨bks.length - (i + 1), by omega, rfl, hlt, p⟩, fun x H' y => ?_⟩
    obtain ⟨rfl, y⟩ := y
    obtain ⟨b, eb, q', rfl, hq⟩ := hB.at2 (y bks eL)
    have et : (bs.take (i + 1)).flatten = (bs.take i).flatten ++ b := by
      rw [List.take_add_one, eb, List.flatten_append]
      show _ ++ (b ++ []) = _
      rw [List.append_nil]
    have hbl : (bs.take i).flatten.length + b.length ≤ 10000 := by
      have e2 : bs = bs.take (i + 1) ++ bs.drop (i + 1) := (List.take_append_drop _ _).symm
      rw [e2, List.flatten_append, et, List.length_append, List.length_append] at hn
      omega
    refine rd_gname ⟨h1 _, rd_yes ?_⟩
    refine rd_var (h2 _) ⟨q', rfl, ⟨_, SqL.of (hs _ _ hq)⟩, ?_⟩
    refine ⟨fun j kk G => kk = b.length - j ∧ j ≤ b.length ∧ Same H1 G ∧ G D = some (.lst (((bs.take i).flatten ++ b.take j).map V.int)), ⟨_, rfl, Nat.zero_le _, hs, by rw [List.take_zero, List.append_nil]; exact hd⟩, ?_⟩
    rintro j kk G ⟨rfl, hj, gs, gd⟩
    have eq2 : SqL K G q' (b.map V.int) := SqL.of (gs _ _ hq)
    by_cases hjl : j < b.length
    · refine .inr ⟨⟨_, .int b[j], eq2, by rw [List.getElem?_map, List.getElem?_eq_getElem hjl]; rfl⟩, fun G' => Same H1 G' ∧ G' D = some (.lst (((bs.take i).flatten ++ b.take (j + 1)).map V.int)), fun G' p => ⟨b.length - (j + 1), by omega, rfl, hjl, p⟩, fun x G' y => ?_⟩
      obtain ⟨rfl, y⟩ := y
      have ex := y _ eq2
      rw [List.getElem?_map, List.getElem?_eq_getElem hjl] at ex
      cases ex
      refine rd_gname ⟨h3 _ _, rd_yes ?_⟩
      refine rd_var (h4 _ _) ⟨_, gd, ?_, fun c o e => ?_, ?_⟩
      · rw [List.length_map, List.length_append, List.length_take]
        exact Nat.lt_of_le_of_lt (show _ ≤ 10000 by omega) (by unfold sizeLine; decide)
      · rw [upd_ne (ne_of_none e hD)]
        exact gs _ _ e
      · rw [upd_same, List.take_add_one, List.getElem?_eq_getElem hjl, ← List.append_assoc]
        show _ = some (HO.lst (((bs.take i).flatten ++ b.take j ++ [b[j]]).map V.int))
        rw [List.map_append (l₂ := [b[j]])]
        rfl
    · have e : j = b.length := by omega
      subst e
      refine .inl ⟨⟨_, eq2, by rw [List.length_map]; exact Nat.le_refl _⟩, gs, ?_⟩
      rw [et, gd, List.take_length]
  · refine .inl ⟨⟨bks, eL, by omega⟩, q H hs ?_⟩
    rw [hd, List.take_of_length_le (by omega)]
theorem rd_lcc {ti ti1 te : TE} {g g1 : TG} {tt tt1 : TT} {vs vs1 : List Nat} {K : PySem.W.Frag} {σ : L2.St} {H : Hp} {Q : VK} (h : ti σ H fun x H1 => ∃ a, x = .ref a ∧ (∃ xs, SqL K H1 a xs) ∧ ∀ D, H1 D = none → Lc2W (Itl K a) g tt (iList K ti1) g1 tt1 te vs vs1 Q σ H1 D) : tLc2 (iList K ti) g tt (iList K ti1) g1 tt1 te vs vs1 σ H Q := h
theorem lc_ofG {K : PySem.W.Frag} {σ : L2.St} {Q : VK} {vs : List Nat} {g : TG} {te : TE} {a D : Addr} {xs : List V} {α : Type} {as : List α} {H1 : Hp} (R : V → α → Prop) (gv : α → V) (hR : All2 R xs as) (hS : SqL K H1 a xs) (hn : xs.length ≤ 10000) (hD : H1 D = none)
    (turn : ∀ v y (H : Hp) (Q' : VK), y ∈ as → R v y → Same H1 H → (∀ H', Same H H' → Q' (gv y) H') → g v (wipe σ vs) H fun σ2 H2 => wipe σ2 vs = wipe σ vs ∧ te σ2 H2 Q')
    (q : ∀ H', Same H1 H' → H' D = some (.lst (as.map gv)) → Q (.ref D) H') : LcW (Itl K a) g tYes te vs Q σ H1 D := by
  have hln := hR.len
  refine ⟨fun i m H => m = xs.length - i ∧ i ≤ xs.length ∧ Same H1 H ∧ H D = some (.lst ((as.take i).map gv)), ⟨_, rfl, Nat.zero_le _, same_new hD, upd_same⟩, ?_⟩
  rintro i m H ⟨rfl, hi, hs, hd⟩
  have eL : SqL K H a xs := hs.seq hS
  by_cases hlt : i < xs.length
  · refine .inr ⟨⟨xs, xs[i], eL, List.getElem?_eq_getElem hlt⟩, fun H' => Same H1 H' ∧ H' D = some (.lst ((as.take (i + 1)).map gv)), fun H' p => ⟨xs.length - (i + 1), by omega, rfl, hlt, p⟩, fun x H' y => ?_⟩
    obtain ⟨rfl, y⟩ := y
    obtain ⟨b, eb, hb⟩ := hR.at2 (y xs eL)
    have key := turn x b H' (fun v H4 => ∃ acc, H4 D = some (.lst acc) ∧ acc.length < sizeLine ∧ Same H1 (upd H4 D (.lst (acc ++ [v]))) ∧ (upd H4 D (.lst (acc ++ [v]))) D = some (.lst ((as.take (i + 1)).map gv))) (List.mem_of_getElem? eb) hb hs fun H4 s4 => ⟨_, s4 _ _ hd, Nat.lt_of_le_of_lt (show _ ≤ 10000 by rw [List.length_map, List.length_take]; omega) (by unfold sizeLine; decide), fun c o e => by rw [upd_ne (ne_of_none e hD)]; exact s4 _ _ (hs _ _ e), by
        rw [upd_same, List.take_add_one, eb, List.map_append]
        rfl⟩
    exact key
  · refine .inl ⟨⟨xs, eL, by omega⟩, q H hs ?_⟩
    rw [hd, List.take_of_length_le (by omega)]
theorem lc_rangeR {σ : L2.St} {Q : VK} {vs : List Nat} {k : Nat} {te : TE} {D : Addr} {lo : Int} {n : Nat} {β : Type} {bs : List β} {H1 : Hp} (R : Hp → V → β → Prop) (hs : ∀ H H' v b, Same H H' → R H v b → R H' v b) (hu : ∀ H o v b, R H v b → R (upd H D o) v b) (hn : bs.length = n) (hl : n ≤ 10000) (hw : ∀ v, wipe ((wipe σ vs).set k (some v)) vs = wipe σ vs) (hD : H1 D = none)
    (turn : ∀ (i : Nat) b (H : Hp) (Q' : VK), bs[i]? = some b → Same H1 H → H D ≠ none → (∀ v H', Same H H' → R H' v b → Q' v H') → te ((wipe σ vs).set k (some (.int (lo + (i : Nat))))) H Q')
    (q : ∀ ws H', Same H1 H' → H' D = some (.lst ws) → All2 (R H') ws bs → Q (.ref D) H') : LcW (Itr lo n) (gName k) tYes te vs Q σ H1 D := by
  refine lc_range (Pv := fun j H => Same H1 H ∧ ∃ ws, H D = some (.lst ws) ∧ ws.length = j ∧ All2 (R H) ws (bs.take j)) ⟨same_new hD, [], upd_same, rfl, .nil⟩ (fun j H hj hI => ?_) (fun H hI => ?_)
  · obtain ⟨hsm, ws, hd, hwl, hws⟩ := hI
    have eb := List.getElem?_eq_getElem (show j < bs.length by omega)
    refine ⟨hw _, rd_yes ?_⟩
    refine turn j _ H _ eb hsm (by rw [hd]; exact fun z => nomatch z) fun v H' s' hv => ?_
    refine ⟨ws, s' _ _ hd, Nat.lt_of_le_of_lt (show _ ≤ 10000 by omega) (by unfold sizeLine; decide), fun c o e => ?_, ws ++ [v], upd_same, by rw [List.length_append, hwl]; rfl, ?_⟩
    · rw [upd_ne (ne_of_none e hD)]
      exact s' _ _ (hsm _ _ e)
    · have et : bs.take (j + 1) = bs.take j ++ [bs[j]] := by rw [List.take_add_one, eb]; rfl
      rw [et]
      exact All2.app (hws.imp fun _ _ z => hu _ _ _ _ (hs _ _ _ _ s' z)) (hu _ _ _ _ hv)
  · obtain ⟨hsm, ws, hd, hwl, hws⟩ := hI
    rw [List.take_of_length_le (by omega)] at hws
    exact q ws H hsm hd hws
theorem cut_drop (xs : List V) : cutV xs none (some (-1)) = xs.dropLast := by
  unfold cutV
  rw [HT.sIx_none, List.drop_zero, Nat.sub_zero, List.dropLast_eq_take]
  congr 1
  show (if (-1 : Int) < 0 then ((-1 : Int) + (xs.length : Int)).toNat else min (-1 : Int).toNat xs.length) = xs.length - 1
  rw [if_pos (by decide)]
  omega
theorem rd_slD {K : PySem.W.Frag} {H : Hp} {Q : VK} {a : Addr} {xs : List V} (h : SqL K H a xs) (q : ∀ p, H p = none → Q (.ref p) (upd H p (.lst xs.dropLast))) : rSlL K (.ref a) none (some (-1)) H Q := ⟨a, xs, rfl, h, fun p hp => by rw [cut_drop]; exact q p hp⟩
theorem JsAt.drop {H : Hp} {vs : List V} {js : List Jo} (h : JsAt H vs js) : JsAt H vs.dropLast js.dropLast := ⟨by rw [List.length_dropLast, List.length_dropLast, h.1], fun i v e => by
  have hl : i < vs.length - 1 := by
    have := (List.getElem?_eq_some_iff.mp e).1
    rw [List.length_dropLast] at this
    exact this
  rw [List.dropLast_eq_take, List.getElem?_take_of_lt (by omega)] at e
  obtain ⟨j, a, q, e1, e2, e3, e4⟩ := h.2 i v e
  refine ⟨j, a, q, ?_, e2, e3, e4⟩
  rw [List.dropLast_eq_take, List.getElem?_take_of_lt (by rw [← h.1]; omega)]
  exact e1⟩
theorem fms_js {K : PySem.W.Frag} {l : List Addr} {H : Hp} {vs : List V} {fs : List Fm} (h : FmsAt K l H vs fs) : ∃ js, All2 (fun v u => ∃ a b m t q jl j n p c, v = .ref a ∧ H a = some (.tup [.ref b, .ref m, .ref t, .ref q]) ∧ H b = some (.tup [n, p, c, .ref jl, .ref j]) ∧ u = V.ref j) vs js ∧ JfAt H js (fs.map fwF) := by
  induction h with
  | nil => exact ⟨[], .nil, .nil⟩
  | cons h _ ih =>
    obtain ⟨js, h1, h2⟩ := ih
    obtain ⟨a, b, jl, j, m, t, q, e, k1, k2, k3, k4, _⟩ := h
    exact ⟨.ref j :: js, .cons ⟨a, b, m, t, q, jl, j, _, _, _, e, k1, k2, rfl⟩ h1, .cons ⟨j, rfl, k4⟩ h2⟩
theorem bs_of {H : Hp} {D : Addr} {ws : List V} {fs : List Fm} (h : All2 (fun v f => ∃ q, v = .ref q ∧ H q = some (.lst ((bkF f).map V.int)) ∧ q ≠ D) ws fs) : BsAt H ws (fs.map bkF) := by
  induction h with
  | nil => exact .nil
  | cons h _ ih =>
    obtain ⟨q', e, h, _⟩ := h
    exact .cons ⟨q', e, h⟩ ih
def spBlkV : Sp := fun vs H Q _ => ∃ (a : Addr) (ns : List Int) (k st : Nat), vs = [.ref a, .int (k : Nat), .int (st : Nat)] ∧ H a = some (.lst (ns.map V.int)) ∧ 1 ≤ ns.length ∧ ns.length ≤ 64 ∧ k ≤ 5 ∧ st ≤ 64 ∧ ∀ D H', H D = none → Same H H' → H' D = some (.lst ((joinL (ns.map (· * (st : Int))) k).map V.int)) → Q (.ref D) H'
theorem use_blkV {a : Addr} {ns : List Int} {k st : Nat} {H : Hp} {Q : VK} {E : XK} (h : H a = some (.lst (ns.map V.int))) (h1 : 1 ≤ ns.length) (h2 : ns.length ≤ 64) (h3 : k ≤ 5) (h4 : st ≤ 64) (q : ∀ D H', H D = none → Same H H' → H' D = some (.lst ((joinL (ns.map (· * (st : Int))) k).map V.int)) → Q (.ref D) H') : spBlkV ([.ref a, .int (k : Nat), .int (st : Nat)] ++ []) H Q E := ⟨a, ns, k, st, rfl, h, h1, h2, h3, h4, q⟩
def spPlcd : Sp := fun vs H Q _ => ∃ (a b : Addr) (fs : List Fw) (js : List V), vs = [.ref a, .ref b] ∧ H a = some (.lst (fs.map fun f => .int (f.1 : Nat))) ∧ H b = some (.lst js) ∧ JfAt H js fs ∧ fs.length ≤ 400 ∧ ∀ D ps H', H D = none → Same H H' → H' D = some (.lst ps) → JsAt H' ps (plJ 0 fs).dropLast → Q (.ref D) H'
theorem use_plcd {a b : Addr} {fs : List Fw} {js : List V} {H : Hp} {Q : VK} {E : XK} (h : H a = some (.lst (fs.map fun f => .int (f.1 : Nat)))) (h1 : H b = some (.lst js)) (h2 : JfAt H js fs) (h3 : fs.length ≤ 400) (q : ∀ D ps H', H D = none → Same H H' → H' D = some (.lst ps) → JsAt H' ps (plJ 0 fs).dropLast → Q (.ref D) H') : spPlcd ([.ref a, .ref b] ++ []) H Q E := ⟨a, b, fs, js, rfl, h, h1, h2, h3, q⟩
def spUnB : Sp := fun vs H Q _ => ∃ (a b : Addr) (fs : List Fw) (bs : List (List Int)) (bks js : List V) (wb : Nat), vs = [.ref a, .ref b] ∧ H a = some (.lst bks) ∧ BsAt H bks bs ∧ bs.map (·.length) = fs.map (·.1) ∧ H b = some (.lst js) ∧ JfAt H js fs ∧ Chn wb fs ∧ fs.length ≤ 400 ∧ totW fs ≤ 10000 ∧
  ∀ D H', H D = none → Same H H' → H' D = some (.lst ((sndW fs bs).map V.int)) → Q (.ref D) H'
theorem use_unB {a b : Addr} {fs : List Fw} {bs : List (List Int)} {bks js : List V} {wb : Nat} {H : Hp} {Q : VK} {E : XK} (h : H a = some (.lst bks)) (h1 : BsAt H bks bs) (h2 : bs.map (·.length) = fs.map (·.1)) (h3 : H b = some (.lst js)) (h4 : JfAt H js fs) (h5 : Chn wb fs) (h6 : fs.length ≤ 400) (h7 : totW fs ≤ 10000)
  (q : ∀ D H', H D = none → Same H H' → H' D = some (.lst ((sndW fs bs).map V.int)) → Q (.ref D) H') : spUnB ([.ref a, .ref b] ++ []) H Q E := ⟨a, b, fs, bs, bks, js, wb, rfl, h, h1, h2, h3, h4, h5, h6, h7, q⟩
def spCont (K : PySem.W.Frag) (C : Addr) : Sp := fun vs H Q _ => ∃ (x : Addr) (refs : List V) (rs : List Rc) (n : Nat) (f : Fm), vs = [.ref x, .int (n : Nat)] ∧ StmAt K C H x refs rs ∧ (frR 0 0 (0, 0) rs)[n]? = some f ∧ ∀ D H', H D = none → Same H H' → H' D = some (.lst ((bkF f).map V.int)) → Q (.ref D) H'
theorem use_cont {K : PySem.W.Frag} {C x : Addr} {refs : List V} {rs : List Rc} {n : Nat} {f : Fm} {H : Hp} {Q : VK} {E : XK} (h : StmAt K C H x refs rs) (hf : (frR 0 0 (0, 0) rs)[n]? = some f) (q : ∀ D H', H D = none → Same H H' → H' D = some (.lst ((bkF f).map V.int)) → Q (.ref D) H') : spCont K C (.ref x :: ([.int (n : Nat)] ++ [])) H Q E := ⟨x, refs, rs, n, f, rfl, h, hf, q⟩
def spSndS (K : PySem.W.Frag) (C : Addr) : Sp := fun vs H Q _ => ∃ (x : Addr) (refs : List V) (rs : List Rc), vs = [.ref x] ∧ StmAt K C H x refs rs ∧ totW (fwR rs) ≤ 10000 ∧ ∀ D H', H D = none → Same H H' → H' D = some (.lst ((sndR rs).map V.int)) → Q (.ref D) H'
theorem use_sndS {K : PySem.W.Frag} {C x : Addr} {refs : List V} {rs : List Rc} {H : Hp} {Q : VK} {E : XK} (h : StmAt K C H x refs rs) (l : totW (fwR rs) ≤ 10000) (q : ∀ D H', H D = none → Same H H' → H' D = some (.lst ((sndR rs).map V.int)) → Q (.ref D) H') : spSndS K C (.ref x :: []) H Q E := ⟨x, refs, rs, rfl, h, l, q⟩
end Z
namespace Z
open PySem PySem.Spec PyProof.Rows L2
def qL (st : Nat) (vs : List Int) : List Int := vs.map fun v => (2 * v + (st : Int)) / (2 * (st : Int))
/-- the numbers of a frame -/
def nsQ (d : Hd) (vs : List Int) : List Int := qL d.2.2.2.2 (splitL vs d.2.2.2.1)
theorem nsQ_len (d : Hd) (vs : List Int) : (nsQ d vs).length = vs.length := by unfold nsQ qL; rw [List.length_map, splitL_length]
def stB (g i : Nat) : Bool := decide (0 < g) && (decide (0 < i) && decide (i % g = 0))
def encR (g : Nat) : Nat → Tb × Tb → List Hd → List Int → List Rc
  | _, _, [], _ => []
  | i, T, d :: hs, vs => (if stB g i = true then [Rc.st T] else []) ++ .fr d (nsQ d (vs.take d.1)) T :: encR g (i + 1) (nextF d (nsQ d (vs.take d.1)) T) hs (vs.drop d.1)
def hdW (d : Hd) : Fw := (d.1, d.2.1, d.2.2.1)
def totH (hs : List Hd) : Nat := totW (hs.map hdW)
theorem totH_cons (d : Hd) (r : List Hd) : totH (d :: r) = d.1 + totH r := by unfold totH; rw [List.map_cons, totW_cons]; rfl
def plH (hs : List Hd) : List Jo := (plJ 0 (hs.map hdW)).dropLast
def encA (g : Nat) (hs : List Hd) (xs : List Int) : List Rc := encR g 0 T0 hs (turnL foldP xs (plH hs))
theorem Ch.chn : ∀ {hs : List Hd} {l e : Nat}, Ch l hs e → Chn l (hs.map hdW)
  | [], _, _, _ => trivial
  | d :: r, l, e, ⟨h1, h2, h3⟩ => ⟨h1.1, h2, h1.2.2.1, h1.2.2.2.1, h1.2.2.2.2.1, h3.chn⟩
theorem encR_fw (g : Nat) : ∀ (hs : List Hd) (i : Nat) (T : Tb × Tb) (vs : List Int), fwR (encR g i T hs vs) = hs.map hdW
  | [], _, _, _ => rfl
  | d :: hs, i, T, vs => by
    have ih := encR_fw g hs (i + 1) (nextF d (nsQ d (vs.take d.1)) T) (vs.drop d.1)
    unfold encR
    split
    · show (d.1, d.2.1, d.2.2.1) :: fwR _ = _
      rw [ih]
      rfl
    · show (d.1, d.2.1, d.2.2.1) :: fwR _ = _
      rw [ih]
      rfl
theorem encR_len (g : Nat) : ∀ (hs : List Hd) (i : Nat) (T : Tb × Tb) (vs : List Int), (encR g i T hs vs).length ≤ 2 * hs.length
  | [], _, _, _ => Nat.le_refl _
  | d :: hs, i, T, vs => by
    have ih := encR_len g hs (i + 1) (nextF d (nsQ d (vs.take d.1)) T) (vs.drop d.1)
    unfold encR
    rw [List.length_append, List.length_cons, List.length_cons]
    split
    · simp only [List.length_cons, List.length_nil]
      omega
    · simp only [List.length_nil]
      omega
theorem plH_rm {hs : List Hd} {e : Nat} {n : Nat} (h : Ch 0 hs e) (hn : n = totH hs) : Rm n 0 0 (plH hs) := plJ_rm _ 0 0 n h.chn (by rw [Nat.zero_add]; exact hn)
theorem lvS_bd {B : Int} : ∀ (xs : List Int), (∀ x ∈ xs, -B ≤ x ∧ x ≤ B) → (∀ x ∈ spS xs, -B ≤ x ∧ x ≤ B) ∧ ∀ x ∈ spD xs, -(2 * B) ≤ x ∧ x ≤ 2 * B
  | [], _ => ⟨fun x h => (List.not_mem_nil h).elim, fun x h => (List.not_mem_nil h).elim⟩
  | [y], h => ⟨h, fun x h => (List.not_mem_nil h).elim⟩
  | a :: b :: r, h => by
    obtain ⟨i1, i2⟩ := lvS_bd r fun x hx => h x (List.mem_cons_of_mem _ (List.mem_cons_of_mem _ hx))
    have ha := h a List.mem_cons_self
    have hb := h b (List.mem_cons_of_mem _ List.mem_cons_self)
    refine ⟨fun x hx => ?_, fun x hx => ?_⟩
    · rcases List.mem_cons.mp hx with rfl | hx
      · omega
      · exact i1 x hx
    · rcases List.mem_cons.mp hx with rfl | hx
      · omega
      · exact i2 x hx
theorem split_bd {B : Int} {xs : List Int} (h : ∀ x ∈ xs, -B ≤ x ∧ x ≤ B) : ∀ k, (∀ x ∈ lvS xs k, -B ≤ x ∧ x ≤ B) ∧ ∀ x ∈ lvR xs k, -(2 * B) ≤ x ∧ x ≤ 2 * B
  | 0 => ⟨h, fun x h => (List.not_mem_nil h).elim⟩
  | k + 1 => by
    obtain ⟨i1, i2⟩ := split_bd h k
    obtain ⟨j1, j2⟩ := lvS_bd _ i1
    refine ⟨j1, fun x hx => ?_⟩
    rcases List.mem_append.mp hx with hx | hx
    · exact j2 x hx
    · exact i2 x hx
theorem quant_bd {v s B : Int} (hs : 1 ≤ s) (h : -B ≤ v ∧ v ≤ B) (hB : 0 ≤ B) : -(B + 1) ≤ (2 * v + s) / (2 * s) ∧ (2 * v + s) / (2 * s) ≤ B + 1 := by
  constructor
  · refine (Int.le_ediv_iff_mul_le (by omega)).mpr ?_
    have : (B + 1) * 1 ≤ (B + 1) * s := Int.mul_le_mul_of_nonneg_left hs (by omega)
    have e : -(B + 1) * (2 * s) = -2 * ((B + 1) * s) := by rw [Int.neg_mul, Int.mul_left_comm, ← Int.neg_mul]
    have h2 : (B + 1) * s = B * s + s := by rw [Int.add_mul, Int.one_mul]
    have h3 : B * 1 ≤ B * s := Int.mul_le_mul_of_nonneg_left hs hB
    omega
  · refine Int.le_of_lt_add_one ((Int.ediv_lt_iff_lt_mul (by omega)).mpr ?_)
    have h2 : (B + 1 + 1) * (2 * s) = 2 * (B * s) + 4 * s := by
      rw [show B + 1 + 1 = B + 2 by omega, Int.add_mul, Int.mul_left_comm]
      omega
    have h3 : B * 1 ≤ B * s := Int.mul_le_mul_of_nonneg_left hs hB
    omega
theorem nsQ_bd {d : Hd} {vs : List Int} {B : Int} (hd : HdOk d) (hB : 0 ≤ B) (h : ∀ x ∈ vs, -B ≤ x ∧ x ≤ B) : ∀ z ∈ nsQ d vs, -(2 * B + 1) ≤ z ∧ z ≤ 2 * B + 1 := by
  intro z hz
  obtain ⟨v, hv, rfl⟩ := List.mem_map.mp hz
  obtain ⟨i1, i2⟩ := split_bd h d.2.2.2.1
  refine quant_bd (B := 2 * B) (by have := hd.2.2.2.2.2.2.1; omega) ?_ (by omega)
  rcases List.mem_append.mp hv with hv | hv
  · have := i1 v hv; omega
  · exact i2 v hv
theorem fold_bd {s a b B : Int} (h0 : 0 ≤ s) (h1 : s < 4) (hB : 0 ≤ B) (ha : -B ≤ a ∧ a ≤ B) (hb : -B ≤ b ∧ b ≤ B) : (-(10 * B + 10) ≤ (foldP s a b).1 ∧ (foldP s a b).1 ≤ 10 * B + 10) ∧ -(10 * B + 10) ≤ (foldP s a b).2 ∧ (foldP s a b).2 ≤ 10 * B + 10 := by
  unfold foldP
  dsimp only
  rcases four h0 h1 with rfl | rfl | rfl | rfl
  · rw [show cC 0 = -1 from rfl, show cD 0 = 2 from rfl]
    generalize e1 : (-1 * b + 2) / 4 = u
    generalize e2 : (2 * (a + u) + 2) / 4 = v
    generalize e3 : (-1 * (b + v) + 2) / 4 = w
    omega
  · rw [show cC 1 = -2 from rfl, show cD 1 = 3 from rfl]
    generalize e1 : (-2 * b + 2) / 4 = u
    generalize e2 : (3 * (a + u) + 2) / 4 = v
    generalize e3 : (-2 * (b + v) + 2) / 4 = w
    omega
  · rw [show cC 2 = 1 from rfl, show cD 2 = -2 from rfl]
    generalize e1 : (1 * b + 2) / 4 = u
    generalize e2 : (-2 * (a + u) + 2) / 4 = v
    generalize e3 : (1 * (b + v) + 2) / 4 = w
    omega
  · rw [show cC 3 = 2 from rfl, show cD 3 = -3 from rfl]
    generalize e1 : (2 * b + 2) / 4 = u
    generalize e2 : (-3 * (a + u) + 2) / 4 = v
    generalize e3 : (2 * (b + v) + 2) / 4 = w
    omega
theorem rm_shape {n : Nat} : ∀ (js : List Jo) (b wb : Nat), Rm n b wb js → ∀ t ∈ prs js, t.1 ≤ 3
  | [], _, _, _, t, h => absurd h List.not_mem_nil
  | j :: r, b, wb, ⟨a1, a2, a3, a4, a5, a6, a7, a8⟩, t, h => by
    have e : prs (j :: r) = prs1 j j.2.1 ++ prs r := by simp [prs]
    rw [e] at h
    rcases List.mem_append.mp h with h | h
    · obtain ⟨k, hk, rfl⟩ := mem_prs1.mp h
      exact a6
    · exact rm_shape r j.1 j.2.1 a8 t h
theorem turn_bd {n : Nat} {xs : List Int} {js : List Jo} {B : Int} (hn : xs.length = n) (h : Rm n 0 0 js) (hB : 0 ≤ B) (hx : ∀ x ∈ xs, -B ≤ x ∧ x ≤ B) : ∀ x ∈ turnL foldP xs js, -(10 * B + 10) ≤ x ∧ x ≤ 10 * B + 10 := by
  intro x hm
  obtain ⟨k, hk, rfl⟩ := List.mem_iff_getElem.mp hm
  have hkn : k < xs.length := by rw [turnL_length] at hk; exact hk
  have gx : ∀ i, i < xs.length → -B ≤ xs.getD i 0 ∧ xs.getD i 0 ≤ B := fun i hi => by
    rw [List.getD_eq_getElem?_getD, List.getElem?_eq_getElem hi]
    exact hx _ (List.getElem_mem hi)
  have ek := List.getElem?_eq_getElem hk
  cases e : prt js k with
  | none =>
    rw [turn_none h e, get_getD hkn] at ek
    have := gx k hkn
    rw [← Option.some.inj ek]
    omega
  | some m =>
    obtain ⟨t, ht, q⟩ := prt_some js k m e (rm_all js 0 0 h)
    have g1 := get_in (f := foldP) (prs js) xs hn (rm_ap js 0 0 h) t ht
    have b := (rm_ap js 0 0 h).1 t ht
    have hs := rm_shape js 0 0 h t ht
    have f := fold_bd (s := (t.1 : Nat)) (by omega) (by omega) hB (gx t.2.1 (by omega)) (gx t.2.2 (by omega))
    rcases q with ⟨q1, _⟩ | ⟨q1, _⟩
    · subst q1
      have g : (turnL foldP xs js)[t.2.1]? = some _ := g1.1
      rw [ek] at g
      rw [Option.some.inj g]
      exact f.1
    · subst q1
      have g : (turnL foldP xs js)[t.2.2]? = some _ := g1.2
      rw [ek] at g
      rw [Option.some.inj g]
      exact f.2
theorem wst_grow {ns : List Int} {first : Nat} {T : Tb × Tb} {m B : Int} (hB : 0 ≤ B) (hn : ∀ z ∈ ns, -B ≤ z ∧ z ≤ B) (h1 : TbOk m T.1) (h2 : TbOk m T.2) : ∀ i, i ≤ ns.length → TbOk (m + (i : Int) * (2 * B + 1)) (wst ns first T i).2.1 ∧ TbOk (m + (i : Int) * (2 * B + 1)) (wst ns first T i).2.2
  | 0, _ => ⟨h1.up (by omega), h2.up (by omega)⟩
  | i + 1, hi => by
    obtain ⟨a1, a2⟩ := wst_grow (first := first) hB hn h1 h2 i (by omega)
    have hu : (uOf (ns.getD i 0) : Int) ≤ 2 * B + 1 := by
      have hz := hn _ (List.getElem_mem (show i < ns.length by omega))
      rw [getD_some (List.getElem?_eq_getElem (show i < ns.length by omega))]
      unfold uOf codeU
      split <;> omega
    have em : ((i + 1 : Nat) : Int) * (2 * B + 1) = (i : Int) * (2 * B + 1) + (2 * B + 1) := by push_cast; rw [Int.add_mul, Int.one_mul]
    have step : ∀ t : Tb, TbOk (m + (i : Int) * (2 * B + 1)) t → TbOk (m + ((i + 1 : Nat) : Int) * (2 * B + 1)) (tbB t (uOf (ns.getD i 0))) := fun t ⟨b1, b2, b3, b4⟩ => by
      rw [em]
      generalize (i : Int) * (2 * B + 1) = w at b2 ⊢
      unfold tbB
      split
      · exact ⟨by dsimp only; omega, by dsimp only; omega, by dsimp only; omega, by dsimp only; omega⟩
      · exact ⟨by dsimp only; omega, by dsimp only; omega, by dsimp only; omega, by dsimp only; omega⟩
    by_cases c : i < first
    · rw [wst_lo c]
      exact ⟨step _ a1, a2.up (by rw [em]; omega)⟩
    · rw [wst_hi c]
      exact ⟨a1.up (by rw [em]; omega), step _ a2⟩
theorem encR_vd {g : Nat} {B : Int} (hB : 0 ≤ B) : ∀ (hs : List Hd) (i : Nat) (T : Tb × Tb) (vs : List Int) (l e : Nat) (m : Int), Ch l hs e → vs.length = totH hs → (∀ v ∈ vs, -B ≤ v ∧ v ≤ B) → 2 * B + 1 ≤ 10 ^ 45 → TbOk m T.1 → TbOk m T.2 → m + (totH hs : Int) * (4 * B + 3) ≤ 10 ^ 50 → ∃ T2, Vd T l (encR g i T hs vs) T2 e
  | [], _, T, _, l, e, m, h, _, _, _, _, _, _ => ⟨T, rfl, h⟩
  | d :: hs, i, T, vs, l, e, m, ⟨hd, hw, hc⟩, hl, hb, hB2, t1, t2, hm => by
    rw [totH_cons] at hl hm
    have lt : (vs.take d.1).length = d.1 := by rw [List.length_take]; omega
    have nb := nsQ_bd (vs := vs.take d.1) hd hB fun x hx => hb x (List.mem_of_mem_take hx)
    have nl : (nsQ d (vs.take d.1)).length = d.1 := by rw [nsQ_len, lt]
    have em : ((d.1 + totH hs : Nat) : Int) * (4 * B + 3) = (d.1 : Int) * (4 * B + 3) + (totH hs : Int) * (4 * B + 3) := by push_cast; rw [Int.add_mul]
    rw [em] at hm
    have p1 : 0 ≤ (d.1 : Int) * (4 * B + 3) := Int.mul_nonneg (by omega) (by omega)
    have p2 : 0 ≤ (totH hs : Int) * (4 * B + 3) := Int.mul_nonneg (by omega) (by omega)
    have gr := wst_grow (first := cc d.1 d.2.2.2.1) (B := 2 * B + 1) (by omega) nb t1 t2 (nsQ d (vs.take d.1)).length (Nat.le_refl _)
    rw [nl, show 2 * (2 * B + 1) + 1 = 4 * B + 3 by omega] at gr
    have nx : TbOk (m + (d.1 : Int) * (4 * B + 3)) (nextF d (nsQ d (vs.take d.1)) T).1 ∧ TbOk (m + (d.1 : Int) * (4 * B + 3)) (nextF d (nsQ d (vs.take d.1)) T).2 := by
      unfold nextF
      rw [nl]
      exact gr
    obtain ⟨T2, ih⟩ := encR_vd hB hs (i + 1) (nextF d (nsQ d (vs.take d.1)) T) (vs.drop d.1) d.2.1 e (m + (d.1 : Int) * (4 * B + 3)) hc (by rw [List.length_drop]; omega) (fun v hv => hb v (List.mem_of_mem_drop hv)) hB2 nx.1 nx.2 (by omega)
    have tk : TkOk T := ⟨t1.up (by omega), t2.up (by omega)⟩
    have core : Vd T l (.fr d (nsQ d (vs.take d.1)) T :: encR g (i + 1) (nextF d (nsQ d (vs.take d.1)) T) hs (vs.drop d.1)) T2 e := ⟨rfl, hd, hw, nl, fun z hz => by have := nb z hz; omega, tk, ih⟩
    refine ⟨T2, ?_⟩
    unfold encR
    split
    · exact ⟨tk, core⟩
    · exact core
theorem enc_vd {g : Nat} {hs : List Hd} {xs : List Int} (h : Ch 0 hs 0) (hl : xs.length = totH hs) (ht : totH hs ≤ 10000) (hx : ∀ x ∈ xs, -(10 ^ 30) ≤ x ∧ x ≤ 10 ^ 30) : ∃ T2, Vd T0 0 (encA g hs xs) T2 0 := by
  have hb := turn_bd (B := 10 ^ 30) hl (plH_rm (hs := hs) h rfl) (by decide) hx
  refine encR_vd (B := 10 * 10 ^ 30 + 10) (by decide) hs 0 T0 _ 0 0 2 h (by rw [turnL_length, hl]) hb (by decide) ⟨by decide, by decide, by decide, by decide⟩ ⟨by decide, by decide, by decide, by decide⟩ ?_
  have h1 : (totH hs : Int) * (4 * (10 * 10 ^ 30 + 10) + 3) ≤ 10000 * (4 * (10 * 10 ^ 30 + 10) + 3) := Int.mul_le_mul_of_nonneg_right (by omega) (by decide)
  have h2 : (2 : Int) + 10000 * (4 * (10 * 10 ^ 30 + 10) + 3) ≤ 10 ^ 50 := by decide
  omega
theorem hds_js {H : Hp} {vs : List V} {hs : List Hd} (h : HdsAt H vs hs) : ∃ js, All2 (fun v u => ∃ a j l x y, v = .ref a ∧ H a = some (.tup [l, .ref j, x, y]) ∧ u = V.ref j) vs js ∧ JfAt H js (hs.map hdW) := by
  induction h with
  | nil => exact ⟨[], .nil, .nil⟩
  | cons h _ ih =>
    obtain ⟨js, h1, h2⟩ := ih
    obtain ⟨a, j, e, k1, k2⟩ := h
    exact ⟨.ref j :: js, .cons ⟨a, j, _, _, _, e, k1, rfl⟩ h1, .cons ⟨j, rfl, k2⟩ h2⟩
theorem totH_snoc (hs : List Hd) (d : Hd) : totH (hs ++ [d]) = totH hs + d.1 := by
  unfold totH
  rw [List.map_append, List.map_singleton, totW_snoc]
  rfl
theorem totH_take {hs : List Hd} {i : Nat} {d : Hd} (h : hs[i]? = some d) : totH (hs.take (i + 1)) = totH (hs.take i) + d.1 := by
  rw [List.take_add_one, h]
  exact totH_snoc _ d
theorem totH_le (hs : List Hd) (i : Nat) : totH (hs.take i) ≤ totH hs := by
  have e : totH hs = totH (hs.take i) + totH (hs.drop i) := by
    unfold totH totW
    rw [← List.sum_append, ← List.map_append, ← List.map_append, List.take_append_drop]
  omega
/-- what the encoding keeps -/
structure EI (K : PySem.W.Frag) (R : Addr) (H0 H : Hp) (g : Nat) (hs : List Hd) (xs : List Int) (Te : Tb × Tb) (i : Nat) (ws : List V) (dn : List Rc) (t : Addr) (T : Tb × Tb) : Prop where
  eR : H R = some (.lst ws)
  rc : RcsAt K H ws dn
  tb : TbsV K H t T
  le : ws.length ≤ 2 * i
  sp : encA g hs xs = dn ++ encR g i T (hs.drop i) ((turnL foldP xs (plH hs)).drop (totH (hs.take i)))
  vd : ∃ l, Vd T l (encR g i T (hs.drop i) ((turnL foldP xs (plH hs)).drop (totH (hs.take i)))) Te 0
  sm : Same H0 H
theorem EI.same {K : PySem.W.Frag} {R : Addr} {H0 H H' : Hp} {g : Nat} {hs : List Hd} {xs : List Int} {Te : Tb × Tb} {i : Nat} {ws : List V} {dn : List Rc} {t : Addr} {T : Tb × Tb} (h : EI K R H0 H g hs xs Te i ws dn t T) (s : Same H H') : EI K R H0 H' g hs xs Te i ws dn t T :=
  { h with eR := s _ _ h.eR, rc := h.rc.lk (.of s), tb := h.tb.lk (.of s), sm := h.sm.trans s }
theorem stB_yes {g i : Nat} (h1 : 0 < g) (h2 : 0 < i) (h3 : (i : Int) % (g : Int) = 0) : stB g i = true := by
  have h4 : i % g = 0 := by exact_mod_cast h3
  unfold stB
  rw [decide_eq_true h1, decide_eq_true h2, decide_eq_true h4]
  rfl
theorem stB_no {g i : Nat} (h : ¬ (0 < g ∧ 0 < i ∧ (i : Int) % (g : Int) = 0)) : stB g i = false := by
  cases e : stB g i with
  | false => rfl
  | true =>
    unfold stB at e
    rw [Bool.and_eq_true, Bool.and_eq_true, decide_eq_true_eq, decide_eq_true_eq, decide_eq_true_eq] at e
    exact (h ⟨e.1, e.2.1, by exact_mod_cast e.2.2⟩).elim
def spCkPl (K : PySem.W.Frag) : Sp := fun vs H Q _ => ∃ (a : Addr) (refs : List V) (hs : List Hd) (n : Nat), vs = [.ref a, .int (n : Nat)] ∧ H a = some (.lst refs) ∧ HdsAt H refs hs ∧ Ch 0 hs 0 ∧ totH hs = n ∧ ∀ H', Same H H' → Q .non H'
theorem use_ckpl {K : PySem.W.Frag} {a : Addr} {refs : List V} {hs : List Hd} {n : Nat} {H : Hp} {Q : VK} {E : XK} (h : H a = some (.lst refs)) (h1 : HdsAt H refs hs) (h2 : Ch 0 hs 0) (h3 : totH hs = n) (q : ∀ H', Same H H' → Q .non H') : spCkPl K ([.ref a, .int (n : Nat)] ++ []) H Q E := ⟨a, refs, hs, n, rfl, h, h1, h2, h3, q⟩
def spCdF (K : PySem.W.Frag) : Sp := fun vs H Q _ => ∃ (a h j b : Addr) (xs : List Int) (d : Hd) (T : Tb × Tb), vs = [.ref a, .ref h, .ref b] ∧ H a = some (.lst (xs.map V.int)) ∧ HdAt H h j d ∧ HdOk d ∧ xs.length = d.1 ∧ (∀ z ∈ nsQ d xs, z.natAbs ≤ 10 ^ 45) ∧ TbsV K H b T ∧ TkOk T ∧
  ∀ p r q H', Same H H' → H p = none → H' p = some (.tup [.ref r, .ref q]) → FrAt H' r j d (nsQ d xs) T → TbsV K H' q (nextF d (nsQ d xs) T) → Q (.ref p) H'
theorem use_cdF {K : PySem.W.Frag} {a h j b : Addr} {xs : List Int} {d : Hd} {T : Tb × Tb} {H : Hp} {Q : VK} {E : XK} (e : H a = some (.lst (xs.map V.int))) (h1 : HdAt H h j d) (h2 : HdOk d) (h3 : xs.length = d.1) (h4 : ∀ z ∈ nsQ d xs, z.natAbs ≤ 10 ^ 45) (h5 : TbsV K H b T) (h6 : TkOk T)
  (q : ∀ p r q H', Same H H' → H p = none → H' p = some (.tup [.ref r, .ref q]) → FrAt H' r j d (nsQ d xs) T → TbsV K H' q (nextF d (nsQ d xs) T) → Q (.ref p) H') : spCdF K ([.ref a, .ref h, .ref b] ++ []) H Q E := ⟨a, h, j, b, xs, d, T, rfl, e, h1, h2, h3, h4, h5, h6, q⟩
def spCdR (K : PySem.W.Frag) : Sp := fun vs H Q _ => ∃ (a b : Addr) (xs : List Int) (refs : List V) (hs : List Hd) (g : Nat) (Te : Tb × Tb), vs = [.ref a, .ref b, .int (g : Nat)] ∧ H a = some (.lst (xs.map V.int)) ∧ H b = some (.lst refs) ∧ HdsAt H refs hs ∧ Ch 0 hs 0 ∧ xs.length = totH hs ∧ totH hs ≤ 10000 ∧ refs.length ≤ 200 ∧ Vd T0 0 (encA g hs xs) Te 0 ∧
  ∀ D ws H', H D = none → Same H H' → H' D = some (.lst ws) → RcsAt K H' ws (encA g hs xs) → Q (.ref D) H'
theorem use_cdR {K : PySem.W.Frag} {a b : Addr} {xs : List Int} {refs : List V} {hs : List Hd} {g : Nat} {Te : Tb × Tb} {H : Hp} {Q : VK} {E : XK} (e : H a = some (.lst (xs.map V.int))) (h : H b = some (.lst refs)) (h1 : HdsAt H refs hs) (h2 : Ch 0 hs 0) (h3 : xs.length = totH hs) (h4 : totH hs ≤ 10000) (h5 : refs.length ≤ 200) (h6 : Vd T0 0 (encA g hs xs) Te 0)
  (q : ∀ D ws H', H D = none → Same H H' → H' D = some (.lst ws) → RcsAt K H' ws (encA g hs xs) → Q (.ref D) H') : spCdR K ([.ref a, .ref b, .int (g : Nat)] ++ []) H Q E := ⟨a, b, xs, refs, hs, g, Te, rfl, e, h, h1, h2, h3, h4, h5, h6, q⟩
/-- a def with keyword-only parameters that have defaults -/
structure Kn (K : PySem.W.Frag) (mg : Str → Option Value) (x : Str) (st : Stmt) (ps : List Str) (n : Nat) (ks : List Str) (ms : List V) (f : Addr) (fd : FuncData) : Prop where
  F : Fun K x x st f fd
  g : mg x = some (.ref f)
  b : ∃ ds, Vals ms ds ∧ Binds K fd ps ds
  kb : KBn K fd ps n ks (fun us ws => us ++ ws) (fun us ws => us ++ ws)
def spTakeV : Sp := fun vs H Q _ => ∃ (p : Addr) (m : Int), vs = [.ref p, .int m] ∧ Pool H p ∧ 0 < m ∧ m < 10 ^ 40 ∧ ∀ r H', 0 ≤ r → r < m → Pool H' p → Kp p H H' → Q (.int r) H'
theorem use_takeV {p : Addr} {m : Int} {H : Hp} {Q : VK} {E : XK} (h1 : Pool H p) (h2 : 0 < m) (h3 : m < 10 ^ 40) (q : ∀ r H', 0 ≤ r → r < m → Pool H' p → Kp p H H' → Q (.int r) H') : spTakeV ([.ref p, .int m] ++ []) H Q E := ⟨p, m, rfl, h1, h2, h3, q⟩
theorem lc_draw {σ : L2.St} {Q : VK} {vs : List Nat} {k : Nat} {p D : Addr} {n : Nat} {lo : Int} {H1 : Hp} {te : TE} (Pm : Int → Prop) (hw : ∀ v, wipe ((wipe σ vs).set k (some v)) vs = wipe σ vs) (hP : Pool H1 p) (hD : H1 D = none) (hn : n ≤ 1000)
    (turn : ∀ (i : Nat) (H : Hp) (Q' : VK), Pool H p → (∀ z H', Pm z → Pool H' p → Kp p H H' → Q' (.int z) H') → te ((wipe σ vs).set k (some (.int (lo + (i : Nat))))) H Q')
    (q : ∀ (ns : List Int) H', ns.length = n → (∀ z ∈ ns, Pm z) → Pool H' p → Kp p H1 H' → H' D = some (.lst (ns.map V.int)) → Q (.ref D) H') : LcW (Itr lo n) (gName k) tYes te vs Q σ H1 D := by
  have hDp : D ≠ p := hP.ne hD
  refine lc_range (Pv := fun j H => ∃ ns : List Int, ns.length = j ∧ (∀ z ∈ ns, Pm z) ∧ Pool H p ∧ Kp p H1 H ∧ H D = some (.lst (ns.map V.int))) ⟨[], rfl, fun z h => (List.not_mem_nil h).elim, hP.new hD, Kp.new hD, upd_same⟩ (fun j H hj hI => ?_) (fun H hI => ?_)
  · obtain ⟨ns, hl, hb, hP', hK, hd⟩ := hI
    refine ⟨hw _, rd_yes ?_⟩
    refine turn j H _ hP' fun z H' hz hP2 hK2 => ?_
    refine ⟨_, hK2 _ _ hDp hd, by rw [List.length_map]; exact small1000 (by omega), ns ++ [z], by rw [List.length_append, hl]; rfl, fun w hw2 => ?_, pool_upd hDp hP2, kp_app hD hK hK2, ?_⟩
    · rcases List.mem_append.mp hw2 with hw2 | hw2
      · exact hb w hw2
      · rw [List.mem_singleton.mp hw2]
        exact hz
    · rw [upd_same, List.map_append]
      rfl
  · obtain ⟨ns, hl, hb, hP', hK, hd⟩ := hI
    exact q ns H hl hb hP' hK hd
end Z
namespace Z
open PySem PySem.Spec PyProof.Rows L2
theorem Ch.all : ∀ {hs : List Hd} {l e : Nat}, Ch l hs e → ∀ d ∈ hs, HdOk d
  | [], _, _, _, d, hd => absurd hd List.not_mem_nil
  | c :: r, l, e, ⟨h1, h2, h3⟩, d, hd => by
    rcases List.mem_cons.mp hd with rfl | hd
    · exact h1
    · exact h3.all d hd
theorem rd_cN {n m : Nat} {sp : Sp} {gV : List V → List V → List V} {E : XK} {t tk : TA} {σ : L2.St} {H : Hp} {Q : VK} (h : t σ H fun vs H1 => tk σ H1 fun zs H2 => vs.length = n ∧ zs.length = m ∧ sp (gV vs zs) H2 Q E) : tCallN n m sp gV E t tk σ H Q := h
end Z
namespace Z
open PySem PySem.Spec PyProof.Rows L2
open SX (S S_len S_cat S_inj)
def ef (n : Nat) : Nat → Nat
  | 0 => 0
  | k + 1 => if cc n k > 1 then k + 1 else ef n k
def ljE : (Nat × Nat) → List Rc → Nat × Nat
  | lj, [] => lj
  | lj, .st _ :: r => ljE lj r
  | _, .fr d _ _ :: r => ljE (d.2.1, d.2.2.1) r
theorem fwR_st (T : Tb × Tb) : ∀ (rs : List Rc), fwR (rs ++ [.st T]) = fwR rs
  | [] => rfl
  | .st _ :: r => fwR_st T r
  | .fr d _ _ :: r => congrArg ((d.1, d.2.1, d.2.2.1) :: ·) (fwR_st T r)
theorem fwR_fr (d : Hd) (ns : List Int) (T : Tb × Tb) : ∀ (rs : List Rc), fwR (rs ++ [.fr d ns T]) = fwR rs ++ [(d.1, d.2.1, d.2.2.1)]
  | [] => rfl
  | .st _ :: r => fwR_fr d ns T r
  | .fr d' _ _ :: r => congrArg ((d'.1, d'.2.1, d'.2.2.1) :: ·) (fwR_fr d ns T r)
/-- what the law tells of a frame: its block, numbers, values, the tables before and behind it -/
def TlAt (K : PySem.W.Frag) (l : List Addr) (H : Hp) (v : V) (f : Fm) : Prop := ∃ a b m q t t2 jl j, v = .ref a ∧ a ∉ l ∧ m ∉ l ∧ q ∉ l ∧ H a = some (.lst [.ref b, .ref m, .ref q, .ref t, .ref t2]) ∧
  H b = some (.tup [.int (f.1 : Nat), .int (f.2.1 : Nat), .int (f.2.2.1.1 : Nat), .ref jl, .ref j]) ∧ JtAt H jl f.2.2.2.1 ∧ JtAt H j (f.2.2.1.2.1, f.2.2.1.2.2.1) ∧ H m = some (.lst (f.2.2.2.2.1.map V.int)) ∧ H q = some (.lst ((bkF f).map V.int)) ∧
  TbsV K H t f.2.2.2.2.2 ∧ TbsV K H t2 (nextF f.2.2.1 f.2.2.2.2.1 f.2.2.2.2.2)
theorem TlAt.kp {K : PySem.W.Frag} {l : List Addr} {H H' : Hp} {v : V} {f : Fm} (k : KpL l H H') (lk : LK H H') (h : TlAt K l H v f) : TlAt K l H' v f := by
  obtain ⟨a, b, m, q, t, t2, jl, j, e, n1, n2, n3, h1, h2, h3, h4, h5, h6, h7, h8⟩ := h
  exact ⟨a, b, m, q, t, t2, jl, j, e, n1, n2, n3, k _ _ n1 h1, lk _ _ h2 (fun _ z => nomatch z), lk _ _ h3 (fun _ z => nomatch z), lk _ _ h4 (fun _ z => nomatch z), k _ _ n2 h5, k _ _ n3 h6, h7.lk lk, h8.lk lk⟩
end Z
namespace Z
open PySem PySem.Spec PyProof.Rows L2
structure BI (K : PySem.W.Frag) (p R W S : Addr) (H0 H : Hp) (hrefs : List V) (hs : List Hd) (i m : Nat) (refs tls : List V) (rs : List Rc) (t : Addr) (T : Tb × Tb) (jl : Addr) : Prop where
  eR : H R = some (.lst refs)
  eW : H W = some (.lst tls)
  eS : H S = some (.lst hrefs)
  rc : RcsAt K H refs rs
  vd : Vd T0 0 rs T (ljE (0, 0) rs).1
  tl : All2 (TlAt K [p, R, W] H) tls (frR 0 0 (0, 0) rs)
  tb : TbsV K H t T
  t1 : TbOk (2 * 10 ^ 14 * (i : Int) + 100) T.1
  t2 : TbOk (2 * 10 ^ 14 * (i : Int) + 100) T.2
  jt : JtAt H jl (ljE (0, 0) rs)
  le : refs.length ≤ m
  fw : fwR rs = (hs.take i).map hdW
  po : Pool H p
  hh : HdsAt H hrefs hs
  kp : Kp p H0 H
  nRp : R ≠ p
  nWp : W ≠ p
  nSp : S ≠ p
  nRW : R ≠ W
  nSR : S ≠ R
  nSW : S ≠ W
  nR0 : H0 R = none
  nW0 : H0 W = none
  ch : Ch (ljE (0, 0) rs).1 (hs.drop i) 0
section
variable {K : PySem.W.Frag} {p R W S t jl : Addr} {H0 H H' : Hp} {hrefs refs tls : List V} {hs : List Hd} {i m : Nat} {rs : List Rc} {T : Tb × Tb}
theorem BI.move (h : BI K p R W S H0 H hrefs hs i m refs tls rs t T jl) (k : Kp p H H') (hP : Pool H' p) : BI K p R W S H0 H' hrefs hs i m refs tls rs t T jl :=
  have lk := LK.pool h.po k
  { h with eR := k _ _ h.nRp h.eR, eW := k _ _ h.nWp h.eW, eS := k _ _ h.nSp h.eS, rc := h.rc.lk lk, tl := h.tl.imp fun _ _ z => z.kp (KpL.ofK List.mem_cons_self k) lk
           tb := h.tb.lk lk, jt := lk _ _ h.jt (fun _ z => nomatch z), po := hP, hh := h.hh.lk lk, kp := h.kp.trans k }
theorem BI.same (h : BI K p R W S H0 H hrefs hs i m refs tls rs t T jl) (s : Same H H') : BI K p R W S H0 H' hrefs hs i m refs tls rs t T jl := h.move (fun a x _ e => s a x e) (h.po.same s)
end
end Z
namespace Z
open PySem PySem.Spec PyProof.Rows L2
open SX (S S_len S_cat S_inj)
theorem BlAt.same {K : PySem.W.Frag} {H H' : Hp} {b : Addr} {f : Fm} (s : Same H H') (h : BlAt K H b f) : BlAt K H' b f := by
  obtain ⟨jl, j, h1, h2, h3⟩ := h
  exact ⟨jl, j, s _ _ h1, h2.lk (.of s), s _ _ h3⟩
theorem TlAt.same {K : PySem.W.Frag} {l : List Addr} {H H' : Hp} {v : V} {f : Fm} (s : Same H H') (h : TlAt K l H v f) : TlAt K l H' v f := h.kp (KpL.ofS s) (LK.of s)
end Z
namespace Z
open PySem PySem.Spec PyProof.Rows L2
/-- a def that is called while no text is being made -/
structure FnG (P : Program) (w : World) (K : PySem.W.Frag) (mg : Str → Option Value) (base : Heap) (CX : CXT) (k : Nat) (f : Addr) (fd : FuncData) (ps : List Str) (sp : Sp) : Prop where
  many : ∀ vs H Q E, sp vs H Q E → vs.length = ps.length
  runs : ∀ (A : Around) (stack : List Env) (s : Shared) (H : Hp) (args : Args) (us : List Value) (vs : List V) (Q : VK) (E : XK), Room k A → A.guards = some [] → Env0 P w K mg base A stack s H → BindsTo s fd args (ps.zip us) → Vals vs us →
    sp vs H Q E → codeAny (model P w) A (.call (.ref f) args) (CR CX stack P w H s Q E) s
section
variable {P : Program} {w : World} {K : PySem.W.Frag} {mg : Str → Option Value} {base : Heap} {CX : CXT} {k : Nat} {f : Addr} {fd : FuncData} {ps : List Str} {sp : Sp}
theorem FnG.mono {j : Nat} (F : FnG P w K mg base CX j f fd ps sp) (h : j ≤ k) : FnG P w K mg base CX k f fd ps sp := ⟨F.many, fun A stack s H args us vs Q E r => F.runs A stack s H args us vs Q E (r.mono h)⟩
end
def Sh (n m : Nat) (d : PyData) : Prop := d.showable = true ∧ d.hasDict = false ∧ d.depth ≤ n ∧ d.shown.length ≤ m
theorem Sh.up {n m n' m' : Nat} {d : PyData} (h : Sh n m d) (a : n ≤ n') (b : m ≤ m') : Sh n' m' d := ⟨h.1, h.2.1, Nat.le_trans h.2.2.1 a, Nat.le_trans h.2.2.2 b⟩
theorem Sh.int {i : Int} (h : i.natAbs < 2 ^ 1920) : Sh 0 1921 (.int i) := by
  have l : i.natAbs.log2 < 1920 := by
    by_cases c : i.natAbs = 0
    · rw [c]
      decide
    · exact (Nat.log2_lt c).mpr h
  exact ⟨decide_eq_true l, rfl, Nat.le_refl _, int_text_len_1921 l⟩
theorem sh_all {n m : Nat} : ∀ {ds : List PyData}, (∀ d ∈ ds, Sh n m d) → PyData.showableAll ds = true ∧ PyData.hasDictAll ds = false ∧ PyData.depthAll ds ≤ n ∧ ((PyData.shownAll ds).map (·.length)).sum ≤ ds.length * m ∧ (PyData.shownAll ds).length = ds.length
  | [], _ => ⟨rfl, rfl, Nat.zero_le _, Nat.zero_le _, rfl⟩
  | d :: r, h => by
    obtain ⟨a1, a2, a3, a4, a5⟩ := sh_all (ds := r) fun x hx => h x (List.mem_cons_of_mem _ hx)
    obtain ⟨b1, b2, b3, b4⟩ := h d List.mem_cons_self
    refine ⟨?_, ?_, Nat.max_le.mpr ⟨b3, a3⟩, ?_, congrArg (· + 1) a5⟩
    · show (d.showable && PyData.showableAll r) = true
      rw [b1, a1]
      rfl
    · show (d.hasDict || PyData.hasDictAll r) = false
      rw [b2, a2]
      rfl
    · show d.shown.length + ((PyData.shownAll r).map (·.length)).sum ≤ (r.length + 1) * m
      rw [Nat.add_mul, Nat.one_mul]
      omega
theorem Sh.list {n m k : Nat} {ds : List PyData} (h : ∀ d ∈ ds, Sh n m d) (l : ds.length ≤ k) : Sh (n + 1) (k * (m + 2) + 3) (.list ds) := by
  obtain ⟨a1, a2, a3, a4, a5⟩ := sh_all h
  refine ⟨a1, a2, Nat.succ_le_succ a3, Nat.le_trans (listText_len_le _) ?_⟩
  rw [a5]
  have : ds.length * (m + 2) ≤ k * (m + 2) := Nat.mul_le_mul_right _ l
  rw [Nat.mul_add] at this
  omega
theorem Sh.tup {n m k : Nat} {ds : List PyData} (h : ∀ d ∈ ds, Sh n m d) (l : ds.length ≤ k) : Sh (n + 1) (k * (m + 2) + 3) (.tuple ds) := by
  obtain ⟨a1, a2, a3, a4, a5⟩ := sh_all h
  refine ⟨a1, a2, Nat.succ_le_succ a3, Nat.le_trans (tupleText_len_le _) ?_⟩
  rw [a5]
  have : ds.length * (m + 2) ≤ k * (m + 2) := Nat.mul_le_mul_right _ l
  rw [Nat.mul_add] at this
  omega
def hdD (d : Hd) : PyData := .tuple [.int (d.1 : Nat), .tuple [.int (d.2.1 : Nat), .int (d.2.2.1 : Nat)], .int (d.2.2.2.1 : Nat), .int (d.2.2.2.2 : Nat)]
theorem sh_nat {n : Nat} (h : n ≤ 1000) : Sh 0 1921 (.int (n : Nat)) := .int (Nat.lt_of_le_of_lt (show _ ≤ 1000 by omega) (by decide +kernel))
theorem Sh.hd {d : Hd} (ok : HdOk d) : Sh 2 20000 (hdD d) := by
  obtain ⟨o1, o2, o3, o4, o5, o6, o7, o8⟩ := ok
  refine (Sh.tup (n := 1) (m := 4000) (k := 4) (fun x hx => ?_) (Nat.le_refl _)).up (Nat.le_refl _) (by decide)
  simp only [List.mem_cons, List.not_mem_nil, or_false] at hx
  rcases hx with rfl | rfl | rfl | rfl
  · exact (sh_nat (by omega)).up (by decide) (by decide)
  · refine (Sh.tup (n := 0) (m := 1921) (k := 2) (fun y hy => ?_) (Nat.le_refl _)).up (by decide) (by decide)
    simp only [List.mem_cons, List.not_mem_nil, or_false] at hy
    rcases hy with rfl | rfl
    · exact sh_nat (by omega)
    · exact sh_nat (by omega)
  · exact (sh_nat (by omega)).up (by decide) (by decide)
  · exact (sh_nat (by omega)).up (by decide) (by decide)
end Z
namespace Z
open PySem PySem.Spec PyProof.Rows L2 LamX NdefX
/-- what is not told of stays, but for slots -/
def PreH (H H' : Hp) (h h' : Heap) : Prop := ∀ b o, h.get? b = some o → H b = none → (∃ sl, h'.get? b = some { o with slots := sl }) ∧ H' b = none
section
variable {H H1 H2 H' : Hp} {h h1 h2 h' : Heap} {cl : List (Str × Addr)} {fr : List Str} {ws : List (Option V)}
theorem PreH.refl : PreH H H h h := fun b o e n => ⟨⟨o.slots, e⟩, n⟩
theorem PreH.trans (a : PreH H H1 h h1) (b : PreH H1 H2 h1 h2) : PreH H H2 h h2 := fun c o e n => by
  obtain ⟨⟨sl, e1⟩, n1⟩ := a c o e n
  obtain ⟨⟨sl2, e2⟩, n2⟩ := b c _ e1 n1
  exact ⟨⟨sl2, e2⟩, n2⟩
theorem PreH.of {fs : List Addr} (u : Un fs [] H H' h h') : PreH H H' h h' := fun b o e n => ⟨u.any e n List.not_mem_nil, u.free b o e n List.not_mem_nil⟩
theorem cells_pre (C : CellsAt cl fr ws h H) (p : PreH H H' h h') : CellsAt cl fr ws h' H' := by
  have kp : ∀ c, H c = none → ∀ v, h.IsCell c v → h'.IsCell c v := fun c n v ⟨o, ho, hd⟩ => by
    obtain ⟨⟨sl, e⟩, _⟩ := p c o ho n
    exact ⟨_, e, hd⟩
  refine ⟨C.len, fun y c e => ?_, C.inj, fun i y e => ?_⟩
  · obtain ⟨n, v, z⟩ := C.all y c e
    obtain ⟨o, ho, hd⟩ := id z
    exact ⟨(p c o ho n).2, v, kp c n v z⟩
  · obtain ⟨c, hc, hv⟩ := C.has i y e
    refine ⟨c, hc, fun v ev => ?_⟩
    obtain ⟨u, r, z⟩ := hv v ev
    exact ⟨u, r, kp c (C.all y c hc).1 _ z⟩
end
/-- what a function that was given does, called with these values -/
abbrev TL := List V → Hp → VK → Prop
/-- the function at f, its code at c, can be called from here on: t is what it does -/
structure Can (P : Program) (w : World) (K : PySem.W.Frag) (mg : Str → Option Value) (base : Heap) (m : Nat) (f c : Addr) (t : TL) (h : Heap) (H : Hp) : Prop where
  run : ∀ (A : Around) (stack : List Env) (s : Shared) (H' : Hp) (us : List Value) (vs : List V) (Q : VK), Room m A → Env0 P w K mg base A stack s H' → PreH H H' h s.heap → H' f = H f → H' c = H c → Vals vs us → t vs H' Q →
    codeAny (model P w) A (.call (.ref f) ⟨us, []⟩) (CR CX0 stack P w H' s Q E0) s
  fn : ∀ (H' : Hp) (h' : Heap), HOk P w H' h' → H' f = H f → PySem.W.FnAt f h'
section
variable {P : Program} {w : World} {K : PySem.W.Frag} {mg : Str → Option Value} {base : Heap} {m k : Nat} {f c : Addr} {t : TL} {h h' : Heap} {H H' : Hp}
theorem Can.later (C : Can P w K mg base m f c t h H) (p : PreH H H' h h') (e1 : H' f = H f) (e2 : H' c = H c) : Can P w K mg base m f c t h' H' :=
  ⟨fun A stack s G us vs Q r e0 q a b => C.run A stack s G us vs Q r e0 (p.trans q) (a.trans e1) (b.trans e2), fun G g hok a => C.fn G g hok (a.trans e1)⟩
theorem Can.mono (C : Can P w K mg base m f c t h H) (l : m ≤ k) : Can P w K mg base k f c t h H := ⟨fun A stack s G us vs Q r => C.run A stack s G us vs Q (r.mono l), C.fn⟩
theorem Can.imp {t' : TL} (C : Can P w K mg base m f c t h H) (i : ∀ vs H Q, t' vs H Q → t vs H Q) : Can P w K mg base m f c t' h H := ⟨fun A stack s G us vs Q r e0 q a b rv z => C.run A stack s G us vs Q r e0 q a b rv (i _ _ _ z), C.fn⟩
/-- a lambda -/
theorem can_lam {q : Str} {params : Arguments} {body : Expr} {scope : Scope} {cl : List (Str × Addr)} {pm ctv : Value} {N ps fr : List Str} {ws : List (Option V)} (S : NScope N ps fr scope) (hb : ∀ (us : List Value), us.length = ps.length → bindArgs (PySem.W.kla_fn "<lambda>" q params body scope cl pm (.ref c) ctv) ⟨us, []⟩ = pure (ps.zip us))
    (len : ∀ vs H Q, t vs H Q → vs.length = ps.length) (hbody : ∀ (A : Around) (stack : List Env) (s : Shared) (H : Hp) (vs : List V) (Q : VK), Room k (A.deeper (envF ⟨"<lambda>", q, params, [], scope, cl, c⟩ f s.heap.objs.size)) → t vs H Q →
      ∃ te, PE (ncx CX0 P w K mg base N ⟨"<lambda>", q, params, [], scope, cl, c⟩ f A stack s H E0) body te ∧ te (startF N vs ws) H Q)
    (C : CellsAt cl fr ws h H) (hf : H f = some (LamO f (PySem.W.kla_obj "<lambda>" q params body scope cl pm c ctv))) (hc : H c = some (CodeO c q)) : Can P w K mg base (k + 1) f c t h H := by
  refine ⟨fun A stack s G us vs Q room e0 pre ef ec rv z => ?_, fun G g hok e => ⟨_, _, _, _, (hok f _ (e.trans hf)).1⟩⟩
  have o1 := (e0.hok f _ (ef.trans hf)).1
  obtain ⟨⟨oc, xs, tt, w1, w2, w3⟩, _, _⟩ := e0.hok c _ (ec.trans hc)
  have hl := len _ _ _ z
  have lim : s.heap.NoLimit := e0.mod.nolimit.keeps fun b o e => (e0.bs b o e).1
  refine PySem.W.kla_callFunE room.depth o1 rfl S.co S.gen rfl ⟨c, oc, xs, tt, rfl, w1, w2, w3⟩ ?_
  rw [hb us (rv.length.symm.trans hl)]
  refine wpAny_pure (wpAny_newFunctionEnv S.nocell (fun ⟨n, _⟩ hy => S.par n (List.of_mem_zip hy).1) (fun h₁ hns hsb => ⟨lim.fresh _ hsb, ?_⟩) S.kind)
  show codeAny _ _ (.expr body (envF ⟨"<lambda>", q, params, [], scope, cl, c⟩ f s.heap.objs.size)) _ _
  obtain ⟨te, hte, hq⟩ := hbody A stack s G vs Q (room.deeper _) z
  have kp : ∀ b o, s.heap.get? b = some o → h₁.get? b = some o := fun b o e => hsb.extBut b o (Nat.ne_of_lt (Heap.lt_size e)) (Heap.get?_push_of_some _ e)
  have J := inv_startN (CX := CX0) (P := P) (w := w) (K := K) (mg := mg) (base := base) (F := ⟨"<lambda>", q, params, [], scope, cl, c⟩) (f := f) (E := E0) (tk := s.toks + (ps.zip us).length) S room.hd e0 hl rv (cells_pre C pre) hns kp
  refine PySem.W.kla_codeExpr (wpAny_mono (hte.run [] _ _ G Q J hq) (fun v s' y => ?_) fun _ _ y => y)
  obtain ⟨w', H', J', rw', y⟩ := y
  exact ⟨w', H', J'.os, J'.bare, J'.base, J'.hok, rw', y⟩
end
def tCallC (i : Nat) (f c : Addr) (H0 : Hp) (t : TL) (ta : TA) : TE := fun σ H Q => σ[i]? = some (some (.ref f)) ∧ H f = H0 f ∧ ta σ H fun vs H1 => H1 f = H0 f ∧ H1 c = H0 c ∧ t vs H1 Q
section
variable {X : Cx} {m i : Nat} {f c : Addr} {t : TL} {x : Str} {p pos : Pos} {e : Expr} {es : List Expr} {ta : TA}
theorem pe_callC (C : Can X.prog X.w X.K X.mg X.base m f c t X.s_0.heap X.H_0) (hr : Room m X.A) (hN : X.N[i]? = some x) (hv : Vis X.env.scope x) (ha : PA X (e :: es) ta) (hex : X.ex = [] := by rfl)
    (hd : (x == ("__debug__" : Str)) = false := by decide) (hcd : (x == ("__classdict__" : Str)) = false := by decide)
    (he : starEach (e :: es) X.env = (false, eval e X.env) :: starEach es X.env := by rfl) (hpl : (backTo pos (starEach es X.env)).any (·.1) = false := by rfl) :
    PE X (.Call (.Name x p) (e :: es) [] pos) (tCallC i f c X.H_0 t ta) := by
  refine ⟨fun pins s σ H Q I ⟨hs, hf, ht⟩ => ?_⟩
  refine wpAny_Call_Name_kw (thn ((pe_var (pos := p) hN hv hd hcd).run pins s σ H (fun v H1 => v = .ref f ∧ H1 = H) I ⟨.ref f, hs, rfl, rfl⟩) ?_)
  rintro u s1 ⟨v, H1, I1, r1, rfl, rfl⟩
  obtain rfl : u = Value.ref f := r1
  refine PySem.W.callWith_F (first := []) (C.fn _ _ I1.hok hf) (thn (ha.run pos pins s1 σ _ _ I1 ht) ?_) he hpl
  rintro us s2 ⟨vs, H2, I2, r, e1, e2, q⟩
  refine ⟨C.fn _ _ I2.hok e1, ?_⟩
  show wpAny _ _ (call (.ref f) us) _ _ _
  have un := I2.base
  rw [hex] at un
  refine wpAny_call (codeAny_mono (C.run X.A X.stack s2 H2 us vs Q hr I2.env0 (PreH.of un) e1 e2 r q) fun r s' z => ?_)
  rcases r with e | fl
  · exact (show False from z).elim
  · rcases fl with _ | _ | _ | u
    · exact z.elim
    · exact z.elim
    · exact z.elim
    · exact I2.after z
end
abbrev SpC := Addr → Addr → TL → Sp
structure FnC (P : Program) (w : World) (K : PySem.W.Frag) (mg : Str → Option Value) (base : Heap) (k m : Nat) (g : Addr) (fd : FuncData) (ps : List Str) (sp : SpC) : Prop where
  many : ∀ f c t vs H Q E, sp f c t vs H Q E → vs.length = ps.length
  runs : ∀ (f c : Addr) (t : TL) (A : Around) (stack : List Env) (s : Shared) (H : Hp) (args : Args) (us : List Value) (vs : List V) (Q : VK) (E : XK), Room k A → Can P w K mg base m f c t s.heap H → Env0 P w K mg base A stack s H → BindsTo s fd args (ps.zip us) → Vals vs us →
    sp f c t vs H Q E → codeAny (model P w) A (.call (.ref g) args) (CR CX0 stack P w H s Q E) s
section
variable {P : Program} {w : World} {K : PySem.W.Frag} {mg : Str → Option Value} {base : Heap} {k m : Nat} {g : Addr} {fd : FuncData} {ps : List Str} {sp : SpC}
theorem FnC.mono {j : Nat} (F : FnC P w K mg base j m g fd ps sp) (h : j ≤ k) : FnC P w K mg base k m g fd ps sp := ⟨F.many, fun f c t A stack s H args us vs Q E r => F.runs f c t A stack s H args us vs Q E (r.mono h)⟩
theorem fnC_of {qual x : Str} {st : Stmt} {N : List Str} (F : Fun K x qual st g fd) (S : FnScope N ps (defScope st)) (many : ∀ f c t vs H Q E, sp f c t vs H Q E → vs.length = ps.length)
    (body : ∀ (f c : Addr) (t : TL) (cdv : Value) (A : Around) (stack : List Env) (s : Shared) (H : Hp) (vs : List V) (Q : VK) (E : XK), Room k (A.deeper (envOfC qual (defScope st) s.heap.objs.size g cdv)) → Can P w K mg base m f c t s.heap H → sp f c t vs H Q E →
      ∃ tt, PSs (cxOf CX0 P w K mg base N qual (defScope st) g cdv A stack s H E).nox (defBody st) tt ∧ tt { nx := fun _ H' => Q .non H', rt := Q } (start N vs) H) : FnC P w K mg base (k + 1) m g fd ps sp := by
  obtain ⟨oc, od, kV, doc, pm, an, cdv, ct, osl, rfl, lk, hc⟩ := F.ex
  refine ⟨many, fun f c t A stack s H args us vs Q E room can e0 bound rel want => ?_⟩
  have kept : ∀ b o, base.get? b = some o → s.heap.get? b = some o := fun b o e => (e0.bs b o e).1
  have inK : K.In s.heap := e0.mod.kin.keeps kept
  refine codeAny_call_function room.depth (inK _ _ lk) rfl S.co S.gen rfl (PySem.W.codeRec_of inK hc) (bound _ _ _ _ ?_)
  refine wpAny_newFunctionEnv_cells S.kind (fun ⟨n, v⟩ hy => ?_) fun env he s1 x => ?_
  · rcases S.par n (List.of_mem_zip hy).1 with q | q
    · exact .inl q
    · exact .inr ⟨q, PySem.W.cellsFrom_some _ _ _ (.inl q)⟩
  · subst he
    refine ⟨(e0.mod.nolimit.keeps kept).keeps x.toInCall.keep, codeAny_func ?_⟩
    obtain ⟨tt, ht, hq⟩ := body f c t cdv A stack s H vs Q E (room.deeper _) can want
    have J := inv_start (CX := CX0) (E := E) S room.hd e0 (many _ _ _ _ _ _ _ want) rel x
    refine wpAny_mono (ht.nox.run [] s1 (start N vs) H _ J hq) (fun fl s2 z => ?_) fun _ _ z => z
    rcases fl with _ | _ | _ | u
    · obtain ⟨σ2, H2, J2, q⟩ := z
      exact ⟨.non, H2, J2.os, J2.bare, J2.base, J2.hok, rfl, q⟩
    · obtain ⟨_, _, _, q⟩ := z
      exact q.elim
    · obtain ⟨_, _, _, q⟩ := z
      exact q.elim
    · obtain ⟨v, σ2, H2, J2, rv, q⟩ := z
      exact ⟨v, H2, J2.os, J2.bare, J2.base, J2.hok, rv, q⟩
end
/-- where the function that is given on comes from: what is known of it tells what it can -/
def Src (X : Cx) (m : Nat) (W : L2.St → Hp → Addr → Addr → TL → Prop) : Prop := ∀ (pins : List (Addr × Obj)) (s : Shared) (σ : L2.St) (H : Hp) (f c : Addr) (t : TL), Inv X pins σ H s → W σ H f c t → Can X.prog X.w X.K X.mg X.base m f c t s.heap H
def tCallFC (sp : SpC) (W : L2.St → Hp → Addr → Addr → TL → Prop) (ta : TA) : TE := fun σ H Q => ta σ H fun vs H1 => ∃ f c t, W σ H1 f c t ∧ sp f c t vs H1 Q E0
section
variable {X : Cx} {k m : Nat} {g : Addr} {fd : FuncData} {ps : List Str} {sp : SpC} {W : L2.St → Hp → Addr → Addr → TL → Prop} {x : Str} {p pos : Pos} {e : Expr} {es : List Expr} {ta : TA}
theorem pe_callFC (F : FnC X.prog X.w X.K X.mg X.base k m g fd ps sp) (src : Src X m W) (hr : Room k X.A) (hg : Gl X x) (hm : X.mg x = some (.ref g)) (hk : PySem.W.keepIn X.K (.ref g) = true) (hb : Binds X.K fd ps []) (ha : PA X (e :: es) ta)
    (hdb : (x == ("__debug__" : Str)) = false := by decide) (he : starEach (e :: es) X.env = (false, eval e X.env) :: starEach es X.env := by rfl) (hpl : (backTo pos (starEach es X.env)).any (·.1) = false := by rfl) :
    PE X (.Call (.Name x p) (e :: es) [] pos) (tCallFC sp W ta) := by
  refine ⟨fun pins s σ H Q I h => wpAny_Call_Name_kw (ld_glob I hg hm ?_ hdb)⟩
  refine PySem.W.callWith_K (h₀ := X.base) I.ok.mod.kin hk (thn (ha.run pos pins s σ H _ I h) fun us s1 ⟨vs, H1, I1, r, q⟩ => ⟨I1.kIn, ?_⟩) he hpl
  obtain ⟨f, c, t, hw, q⟩ := q
  have hl : us.length = ps.length := r.length.symm.trans (F.many _ _ _ _ _ _ _ q)
  have bd : BindsTo s1 fd ⟨us, []⟩ (ps.zip us) := by
    have := hb s1 us I1.kIn (by rw [List.append_nil]; exact hl)
    rwa [List.append_nil] at this
  refine wpAny_call (codeAny_mono (F.runs f c t X.A X.stack s1 H1 ⟨us, []⟩ us vs Q E0 hr (src pins s1 σ H1 f c t I1 hw) I1.env0 bd r q) fun r s' z => ?_)
  rcases r with e | fl
  · exact (show False from z).elim
  · rcases fl with _ | _ | _ | u
    · exact z.elim
    · exact z.elim
    · exact z.elim
    · exact I1.after z
/-- a parameter given on -/
def WPar (H0 : Hp) (f0 c0 : Addr) (t0 : TL) : L2.St → Hp → Addr → Addr → TL → Prop := fun _ H f c t => f = f0 ∧ c = c0 ∧ t = t0 ∧ H f0 = H0 f0 ∧ H c0 = H0 c0
theorem src_par {f0 c0 : Addr} {t0 : TL} (C : Can X.prog X.w X.K X.mg X.base m f0 c0 t0 X.s_0.heap X.H_0) (hex : X.ex = [] := by rfl) : Src X m (WPar X.H_0 f0 c0 t0) := by
  rintro pins s σ H f c t I ⟨rfl, rfl, rfl, e1, e2⟩
  have un := I.base
  rw [hex] at un
  exact C.later (PreH.of un) e1 e2
end
end Z
namespace Z
open PySem PySem.Spec PyProof.Rows L2
open SX (S S_len S_cat S_inj)
/-- all but lists and dicts stays -/
def LKD (H H' : Hp) : Prop := ∀ b o, H b = some o → (∀ xs, o ≠ .lst xs) → (∀ k, o ≠ .dK k) → H' b = some o
section
variable {K : PySem.W.Frag} {H H' H1 : Hp} {a q : Addr} {xs : List V} {o : HO}
theorem LKD.trans (h : LKD H H') (k : LKD H' H1) : LKD H H1 := fun b o e n m => k b o (h b o e n m) n m
theorem LKD.lk (s : LK H H') : LKD H H' := fun b o e n _ => s b o e n
theorem LKD.of (s : Same H H') : LKD H H' := fun b o e _ _ => s b o e
theorem LKD.at {k : List (Key × V)} (n : H q = some (.dK k)) : LKD H (upd H q o) := fun b x e _ nk => by
  have nb : b ≠ q := fun z => by
    rw [z, n] at e
    exact nk k (Option.some.inj e).symm
  rw [upd_ne nb]
  exact e
theorem LKD.tup (s : LKD H H') (h : H a = some (.tup xs)) : H' a = some (.tup xs) := s _ _ h (fun _ z => nomatch z) fun _ z => nomatch z
theorem LKD.seqT (s : LKD H H') (h : SqT K H a xs) : SqT K H' a xs := by
  rcases h with (h | ⟨o, h⟩) | h
  · exact .inl (.inl (s.tup h))
  · exact .inl (.inr ⟨o, s _ _ h (fun _ z => nomatch z) fun _ z => nomatch z⟩)
  · exact .inr h
theorem LKD.tyo {t : Value} (ht : t = .type "tuple") (s : LKD H H') (h : TyOf K H (.ref a) t) : TyOf K H' (.ref a) t := by
  cases h with
  | lst e => exact absurd ht (by decide)
  | frz e => exact .frz (s _ _ e (fun _ z => nomatch z) fun _ z => nomatch z)
  | tup e => exact .tup (s.tup e)
  | dK e => exact absurd ht (by decide)
  | dT e => exact .dT (s _ _ e (fun _ z => nomatch z) fun _ z => nomatch z)
  | ins e cl ha hn htk hm => exact .ins (s _ _ e (fun _ z => nomatch z) fun _ z => nomatch z) cl ha hn htk hm
theorem LKD.tyx (s : LKD H H') (h : TyX K H (.ref a) (.type "tuple")) : TyX K H' (.ref a) (.type "tuple") := by
  generalize ht : (Value.type "tuple") = t at h ⊢
  cases h with
  | base b => exact .base (s.tyo ht.symm b)
  | set e => exact .set (s _ _ e (fun _ z => nomatch z) fun _ z => nomatch z)
  | kList e c => exact .kList e c
  | kTuple e c => exact .kTuple e c
  | kDict e c => exact .kDict e c
  | fTuple e => exact .fTuple (s _ _ e (fun _ z => nomatch z) fun _ z => nomatch z)
  | fDict e => exact absurd ht (by decide)
theorem TupV.lkd (s : LKD H H') (h : TupV K H a xs) : TupV K H' a xs := ⟨s.seqT h.1, s.tyx h.2⟩
theorem TbsV.lkd {T : Tb × Tb} (s : LKD H H') (h : TbsV K H a T) : TbsV K H' a T := let ⟨r0, r1, h0, h1, h2⟩ := h; ⟨r0, r1, TupV.lkd s h0, TupV.lkd s h1, TupV.lkd s h2⟩
theorem RwV.lkd {v : V} {r : Rw} (s : LKD H H') (h : RwV K H v r) : RwV K H' v r := by
  obtain ⟨b, jl, j, e, h1, h2, h3⟩ := h
  exact ⟨b, jl, j, e, s.tup h1, TupV.lkd s h2, s.tup h3⟩
theorem RcAt.lkd {v : V} (s : LKD H H') : ∀ {r : Rc}, RcAt K H v r → RcAt K H' v r
  | .st T, ⟨a, t, e, h, hT⟩ => ⟨a, t, e, s.tup h, hT.lkd s⟩
  | .fr d ns T, ⟨a, j, e, h, hj⟩ => ⟨a, j, e, s.tup h, s.tup hj⟩
end
/-- all but lists, dicts and tables stays -/
def LKX (H H' : Hp) : Prop := ∀ b o, H b = some o → (∀ xs, o ≠ .lst xs) → (∀ k, o ≠ .dK k) → (∀ ps, o ≠ .tbl ps) → H' b = some o
theorem LKX.ext {H H' : Hp} (s : LamX.ExtN H H') : LKX H H' := fun b o e _ _ y => s b o e y
section
variable {K : PySem.W.Frag} {H H' H1 : Hp} {a q : Addr} {xs : List V} {o : HO}
theorem LKX.trans (h : LKX H H') (k : LKX H' H1) : LKX H H1 := fun b o e n m y => k b o (h b o e n m y) n m y
theorem LKX.lk (s : LK H H') : LKX H H' := fun b o e n _ _ => s b o e n
theorem LKX.of (s : Same H H') : LKX H H' := fun b o e _ _ _ => s b o e
theorem LKX.at {k : List (Key × V)} (n : H q = some (.dK k)) : LKX H (upd H q o) := fun b x e _ nk _ => by
  have nb : b ≠ q := fun z => by
    rw [z, n] at e
    exact nk k (Option.some.inj e).symm
  rw [upd_ne nb]
  exact e
theorem LKX.tup (s : LKX H H') (h : H a = some (.tup xs)) : H' a = some (.tup xs) := s _ _ h (fun _ z => nomatch z) (fun _ z => nomatch z) fun _ z => nomatch z
theorem LKX.seqT (s : LKX H H') (h : SqT K H a xs) : SqT K H' a xs := by
  rcases h with (h | ⟨o, h⟩) | h
  · exact .inl (.inl (s.tup h))
  · exact .inl (.inr ⟨o, s _ _ h (fun _ z => nomatch z) (fun _ z => nomatch z) fun _ z => nomatch z⟩)
  · exact .inr h
theorem LKX.tyo {t : Value} (ht : t = .type "tuple") (s : LKX H H') (h : TyOf K H (.ref a) t) : TyOf K H' (.ref a) t := by
  cases h with
  | lst e => exact absurd ht (by decide)
  | frz e => exact .frz (s _ _ e (fun _ z => nomatch z) (fun _ z => nomatch z) fun _ z => nomatch z)
  | tup e => exact .tup (s.tup e)
  | dK e => exact absurd ht (by decide)
  | dT e => exact .dT (s _ _ e (fun _ z => nomatch z) (fun _ z => nomatch z) fun _ z => nomatch z)
  | ins e cl ha hn htk hm => exact .ins (s _ _ e (fun _ z => nomatch z) (fun _ z => nomatch z) fun _ z => nomatch z) cl ha hn htk hm
theorem LKX.tyx (s : LKX H H') (h : TyX K H (.ref a) (.type "tuple")) : TyX K H' (.ref a) (.type "tuple") := by
  generalize ht : (Value.type "tuple") = t at h ⊢
  cases h with
  | base b => exact .base (s.tyo ht.symm b)
  | set e => exact .set (s _ _ e (fun _ z => nomatch z) (fun _ z => nomatch z) fun _ z => nomatch z)
  | kList e c => exact .kList e c
  | kTuple e c => exact .kTuple e c
  | kDict e c => exact .kDict e c
  | fTuple e => exact .fTuple (s _ _ e (fun _ z => nomatch z) (fun _ z => nomatch z) fun _ z => nomatch z)
  | fDict e => exact absurd ht (by decide)
theorem TupV.lkx (s : LKX H H') (h : TupV K H a xs) : TupV K H' a xs := ⟨s.seqT h.1, s.tyx h.2⟩
theorem TbsV.lkx {T : Tb × Tb} (s : LKX H H') (h : TbsV K H a T) : TbsV K H' a T := let ⟨r0, r1, h0, h1, h2⟩ := h; ⟨r0, r1, TupV.lkx s h0, TupV.lkx s h1, TupV.lkx s h2⟩
theorem RwV.lkx {v : V} {r : Rw} (s : LKX H H') (h : RwV K H v r) : RwV K H' v r := by
  obtain ⟨b, jl, j, e, h1, h2, h3⟩ := h
  exact ⟨b, jl, j, e, s.tup h1, TupV.lkx s h2, s.tup h3⟩
theorem RcAt.lkx {v : V} (s : LKX H H') : ∀ {r : Rc}, RcAt K H v r → RcAt K H' v r
  | .st T, ⟨a, t, e, h, hT⟩ => ⟨a, t, e, s.tup h, hT.lkx s⟩
  | .fr d ns T, ⟨a, j, e, h, hj⟩ => ⟨a, j, e, s.tup h, s.tup hj⟩
end
def rcT : Rc → Tb × Tb
  | .st T => T
  | .fr d ns T => nextF d ns T
def rcN : Rc → List Int
  | .st _ => []
  | .fr _ ns _ => ns
/-- the tables behind the first i records -/
def tbG : Tb × Tb → List Rc → Nat → Tb × Tb
  | T, _, 0 => T
  | T, [], _ + 1 => T
  | _, r :: t, i + 1 => tbG (rcT r) t i
theorem tbG_zero {T : Tb × Tb} {rs : List Rc} : tbG T rs 0 = T := by cases rs <;> rfl
theorem tbG_at : ∀ {rs : List Rc} {T : Tb × Tb} {i : Nat} {r : Rc}, rs[i]? = some r → tbG T rs (i + 1) = rcT r
  | [], _, _, _, h => by cases h
  | x :: t, _, 0, r, h => by
    cases h
    cases t <;> rfl
  | x :: t, _, i + 1, r, h => tbG_at (rs := t) (T := rcT x) (i := i) h
theorem Vd.tb : ∀ {rs : List Rc} {T : Tb × Tb} {l : Nat} {T2 : Tb × Tb} {l2 : Nat}, Vd T l rs T2 l2 → ∀ {i : Nat} {d : Hd} {ns : List Int} {T' : Tb × Tb}, rs[i]? = some (.fr d ns T') → T' = tbG T rs i
  | [], _, _, _, _, _, i, _, _, _, e => by cases e
  | .st T0 :: r, T, _, _, _, ⟨_, q⟩, 0, _, _, _, e => by cases e
  | .st T0 :: r, T, _, _, _, ⟨_, q⟩, i + 1, _, _, _, e => Vd.tb (rs := r) q (i := i) e
  | .fr d ns T0 :: r, T, _, _, _, ⟨e0, _, _, _, _, _, q⟩, 0, _, _, _, e => by
    cases e
    exact e0
  | .fr d ns T0 :: r, T, _, _, _, ⟨e0, _, _, _, _, _, q⟩, i + 1, _, _, _, e => by
    have := Vd.tb (rs := r) q (i := i) e
    rw [this, e0]
    rfl
/-- records in an order in which their tables are known: n is the place whose tables are held -/
def Gd (rs : List Rc) : Nat → List Nat → Prop
  | _, [] => True
  | n, u :: r => u < rs.length ∧ (u = n ∨ ∃ T, rs[u]? = some (.st T)) ∧ Gd rs (u + 1) r
/-- rows that tell of these records -/
structure RowsOf (rs : List Rc) (rows : List Rw) : Prop where
  fr : ∀ r ∈ rows, ∃ ns T, rs[r.1]? = some (.fr r.2.2.1 ns T)
  og : ∀ r ∈ rows, r.2.2.2.2 = 0 ∨ ∃ T, rs[r.2.2.2.2]? = some (.st T)
  all : ∀ u d ns T, rs[u]? = some (.fr d ns T) → ∃ r ∈ rows, r.1 = u ∧ r.2.2.1 = d
  near : ∀ r ∈ rows, ∀ (u : Nat) T, rs[u]? = some (.st T) → u ≤ r.1 → u ≤ r.2.2.2.2
theorem list_snoc {α : Type} {P : List α → Prop} (h0 : P []) (h1 : ∀ xs x, P xs → P (xs ++ [x])) : ∀ xs, P xs := fun xs => by
  have key : ∀ ys : List α, P ys.reverse := fun ys => by
    induction ys with
    | nil => exact h0
    | cons y r ih =>
      rw [List.reverse_cons]
      exact h1 _ _ ih
  have := key xs.reverse
  rwa [List.reverse_reverse] at this
theorem rowsOf' : ∀ rs : List Rc, RowsOf rs (runR rs).rows ∧ ((runR rs).o = 0 ∨ ∃ T, rs[(runR rs).o]? = some (.st T)) ∧ (∀ (u : Nat) T, rs[u]? = some (.st T) → u ≤ (runR rs).o) ∧ ∀ r ∈ (runR rs).rows, r.1 < rs.length := list_snoc ⟨⟨fun r h => absurd h List.not_mem_nil, fun r h => absurd h List.not_mem_nil, fun u d ns T e => (nomatch e), fun r h => absurd h List.not_mem_nil⟩, .inl rfl, fun u T e => (nomatch e), fun r h => absurd h List.not_mem_nil⟩ (fun rs x ⟨h, ho, hm, hlt⟩ => by
  have hi := runR_i rs
  have up : ∀ {u : Nat} {y : Rc}, rs[u]? = some y → (rs ++ [x])[u]? = some y := fun {u y} e => by
    rw [List.getElem?_append_left (List.getElem?_eq_some_iff.mp e).1]
    exact e
  have last : (rs ++ [x])[rs.length]? = some x := by rw [List.getElem?_append_right (Nat.le_refl _), Nat.sub_self]; rfl
  have old : ∀ {u : Nat} {y : Rc}, (rs ++ [x])[u]? = some y → rs[u]? = some y ∨ (u = rs.length ∧ y = x) := fun {u y} e => by
    by_cases c : u < rs.length
    · rw [List.getElem?_append_left c] at e
      exact .inl e
    · have l := (List.getElem?_eq_some_iff.mp e).1
      rw [List.length_append, List.length_singleton] at l
      have c2 : u = rs.length := by omega
      subst c2
      rw [last] at e
      exact .inr ⟨rfl, (Option.some.inj e).symm⟩
  have ll : (rs ++ [x]).length = rs.length + 1 := by rw [List.length_append]; rfl
  rw [runR_snoc]
  cases x with
  | st T =>
    refine ⟨⟨fun r hr => ?_, fun r hr => ?_, fun u d ns T' e => ?_, fun r hr u T' e l => ?_⟩, .inr ⟨T, ?_⟩, fun u T' e => ?_, fun r hr => ?_⟩
    · obtain ⟨ns, T', e⟩ := h.fr r hr
      exact ⟨ns, T', up e⟩
    · rcases h.og r hr with z | ⟨T', z⟩
      · exact .inl z
      · exact .inr ⟨T', up z⟩
    · rcases old e with z | ⟨_, z⟩
      · exact h.all u d ns T' z
      · cases z
    · have := hlt r hr
      rcases old e with z | ⟨z, _⟩
      · exact h.near r hr u T' z l
      · omega
    · show (rs ++ [Rc.st T])[(runR rs).i]? = _
      rw [hi]
      exact last
    · show u ≤ (runR rs).i
      have := (List.getElem?_eq_some_iff.mp e).1
      omega
    · have := hlt r hr
      omega
  | fr d ns T =>
    have ho' : (runR rs).o = 0 ∨ ∃ T', (rs ++ [Rc.fr d ns T])[(runR rs).o]? = some (.st T') := ho.elim .inl fun ⟨T', z⟩ => .inr ⟨T', up z⟩
    have hm' : ∀ (u : Nat) T', (rs ++ [Rc.fr d ns T])[u]? = some (.st T') → u ≤ (runR rs).o := fun u T' e => by
      rcases old e with z | ⟨_, z⟩
      · exact hm u T' z
      · cases z
    refine ⟨⟨fun r hr => ?_, fun r hr => ?_, fun u d' ns' T' e => ?_, fun r hr u T' e l => ?_⟩, ho', hm', fun r hr => ?_⟩
    · rcases List.mem_append.mp hr with hr | hr
      · obtain ⟨ns', T', e⟩ := h.fr r hr
        exact ⟨ns', T', up e⟩
      · rw [List.mem_singleton.mp hr]
        refine ⟨ns, T, ?_⟩
        show (rs ++ [Rc.fr d ns T])[(runR rs).i]? = _
        rw [hi]
        exact last
    · rcases List.mem_append.mp hr with hr | hr
      · rcases h.og r hr with z | ⟨T', z⟩
        · exact .inl z
        · exact .inr ⟨T', up z⟩
      · rw [List.mem_singleton.mp hr]
        exact ho'
    · rcases old e with z | ⟨z1, z⟩
      · obtain ⟨r, hr, e1, e2⟩ := h.all u d' ns' T' z
        exact ⟨r, List.mem_append.mpr (.inl hr), e1, e2⟩
      · cases z
        exact ⟨_, List.mem_append.mpr (.inr List.mem_cons_self), by rw [z1]; exact hi, rfl⟩
    · rcases List.mem_append.mp hr with hr | hr
      · rcases old e with z | ⟨z, y⟩
        · exact h.near r hr u T' z l
        · cases y
      · rw [List.mem_singleton.mp hr]
        exact hm' u T' e
    · rcases List.mem_append.mp hr with hr | hr
      · have := hlt r hr
        omega
      · rw [List.mem_singleton.mp hr]
        show (runR rs).i < _
        omega)
theorem rowsOf (rs : List Rc) : RowsOf rs (runR rs).rows := (rowsOf' rs).1
def IdxD (K : PySem.W.Frag) (H : Hp) (kvs : List (Key × V)) (rows : List Rw) : Prop := ∀ u : Nat, (∃ r ∈ rows, r.1 = u ∧ ∃ v, valV kvs (.inl (u : Int)) = some v ∧ RwV K H v r) ∨ ((∀ r ∈ rows, r.1 ≠ u) ∧ valV kvs (.inl (u : Int)) = none)
theorem IdxD.nil {K : PySem.W.Frag} {H : Hp} : IdxD K H [] [] := fun u => .inr ⟨fun r h => absurd h List.not_mem_nil, rfl⟩
theorem IdxD.lk {K : PySem.W.Frag} {H H' : Hp} {kvs : List (Key × V)} {rows : List Rw} (s : LK H H') (h : IdxD K H kvs rows) : IdxD K H' kvs rows := fun u => by
  rcases h u with ⟨r, a, b, v, c, d⟩ | z
  · exact .inl ⟨r, a, b, v, c, d.lk s⟩
  · exact .inr z
theorem IdxD.lkd {K : PySem.W.Frag} {H H' : Hp} {kvs : List (Key × V)} {rows : List Rw} (s : LKD H H') (h : IdxD K H kvs rows) : IdxD K H' kvs rows := fun u => by
  rcases h u with ⟨r, a, b, v, c, d⟩ | z
  · exact .inl ⟨r, a, b, v, c, d.lkd s⟩
  · exact .inr z
theorem IdxD.put {K : PySem.W.Frag} {H : Hp} {kvs : List (Key × V)} {rows : List Rw} {r : Rw} {v : V} (h : IdxD K H kvs rows) (hv : RwV K H v r) (nw : ∀ q ∈ rows, q.1 < r.1) : IdxD K H (putK kvs (.inl (r.1 : Int)) v) (rows ++ [r]) := fun u => by
  rw [valV_put]
  by_cases c : u = r.1
  · subst c
    exact .inl ⟨r, List.mem_append.mpr (.inr List.mem_cons_self), rfl, v, if_pos rfl, hv⟩
  · have nc : ¬ (Sum.inl (u : Int) : Key) = Sum.inl (r.1 : Int) := fun z => c (by have := Sum.inl.inj z; omega)
    rw [if_neg nc]
    rcases h u with ⟨q, a, b⟩ | ⟨a, b⟩
    · exact .inl ⟨q, List.mem_append.mpr (.inl a), b⟩
    · refine .inr ⟨fun q hq => ?_, b⟩
      rcases List.mem_append.mp hq with hq | hq
      · exact a q hq
      · rw [List.mem_singleton.mp hq]
        exact fun z => c z.symm
def spEbr (K : PySem.W.Frag) : Sp := fun vs H Q _ => ∃ (a : Addr) (idx : List V) (rows : List Rw), vs = [.ref a] ∧ H a = some (.lst idx) ∧ RwsV K H idx rows ∧ idx.length ≤ 40 ∧ rows.Pairwise (fun a b => a.1 < b.1) ∧ ∀ D kvs H', H D = none → Same H H' → H' D = some (.dK kvs) → IdxD K H' kvs rows → Q (.ref D) H'
theorem use_ebr {K : PySem.W.Frag} {a : Addr} {idx : List V} {rows : List Rw} {H : Hp} {Q : VK} {E : XK} (h : H a = some (.lst idx)) (r : RwsV K H idx rows) (l : idx.length ≤ 40) (p : rows.Pairwise (fun a b => a.1 < b.1)) (q : ∀ D kvs H', H D = none → Same H H' → H' D = some (.dK kvs) → IdxD K H' kvs rows → Q (.ref D) H') : spEbr K ([.ref a] ++ []) H Q E := ⟨a, idx, rows, rfl, h, r, l, p, q⟩
def DcW (J : It) (g : TG) (tt : TT) (tk tv : TE) (vs : List Nat) (Q : VK) (σ : L2.St) (H1 : Hp) (D : Addr) : Prop := ∃ W : Nat → Nat → Hp → Prop, (∃ m, W 0 m (upd H1 D (.dK []))) ∧ ∀ i m H, W i m H →
  (J.stop i H ∧ Q (.ref D) H) ∨ (J.go i H ∧ ∃ Nx : Hp → Prop, (∀ H', Nx H' → ∃ m', m' < m ∧ W (i + 1) m' H') ∧ ∀ x H', J.yld i H x H' → g x (wipe σ vs) H' fun σ2 H2 => wipe σ2 vs = wipe σ vs ∧ tt σ2 H2 fun b H3 =>
    if b = true then tk σ2 H3 fun y H4 => tv σ2 H4 fun z H5 => ∃ kvs k, y = kV k ∧ H5 D = some (.dK kvs) ∧ kvs.length < sizeLine ∧ Nx (upd H5 D (.dK (putK kvs k z))) else Nx H3)
theorem rd_dcL {K : PySem.W.Frag} {ti : TE} {g : TG} {tt : TT} {tk tv : TE} {vs : List Nat} {σ : L2.St} {H : Hp} {Q : VK} (h : ti σ H fun x H1 => ∃ a, x = .ref a ∧ (∃ xs, SqL K H1 a xs) ∧ ∀ D, H1 D = none → DcW (Itl K a) g tt tk tv vs Q σ H1 D) : tDc (iList K ti) g tt tk tv vs σ H Q := h
/-- a dict made over a list that stays -/
theorem dc_lst {K : PySem.W.Frag} {a : Addr} {xs : List V} {g : TG} {tk tv : TE} {vs : List Nat} {σ : L2.St} {H1 : Hp} {D : Addr} {Q : VK} (Pv : Nat → Hp → Prop) (h0 : Pv 0 (upd H1 D (.dK []))) (hl : ∀ i H, i ≤ xs.length → Pv i H → SqL K H a xs)
    (hs : ∀ i x H, xs[i]? = some x → Pv i H → g x (wipe σ vs) H fun σ2 H2 => wipe σ2 vs = wipe σ vs ∧ tk σ2 H2 fun y H4 => tv σ2 H4 fun z H5 => ∃ kvs k, y = kV k ∧ H5 D = some (.dK kvs) ∧ kvs.length < sizeLine ∧ Pv (i + 1) (upd H5 D (.dK (putK kvs k z)))) (hd : ∀ H, Pv xs.length H → Q (.ref D) H) :
    DcW (Itl K a) g tYes tk tv vs Q σ H1 D := by
  refine ⟨fun i m H => m = xs.length - i ∧ i ≤ xs.length ∧ Pv i H, ⟨_, rfl, Nat.zero_le _, h0⟩, ?_⟩
  rintro i m H ⟨rfl, hi, p⟩
  have q := hl i H hi p
  rcases Nat.lt_or_ge i xs.length with c | c
  · refine .inr ⟨⟨xs, xs[i], q, List.getElem?_eq_getElem c⟩, fun H' => Pv (i + 1) H', fun H' p' => ⟨xs.length - (i + 1), by omega, rfl, c, p'⟩, fun x H' y => ?_⟩
    obtain ⟨rfl, y⟩ := y
    have key := hs i x _ (y xs q) p
    exact key
  · have e : i = xs.length := by omega
    subst e
    exact .inl ⟨⟨xs, q, Nat.le_refl _⟩, hd H p⟩
def spRdM (K : PySem.W.Frag) : Sp := fun vs H Q _ => ∃ (ns : List Int) (first : Nat) (b : Addr) (T : Tb × Tb), vs = [.str (S (wst ns first T ns.length).1.flatten), .int (ns.length : Nat), .int (first : Int), .ref b] ∧ ns.length ≤ 64 ∧ first ≤ ns.length ∧ (∀ z ∈ ns, z.natAbs < 10 ^ 55) ∧ TbsV K H b T ∧ TbOk (10 ^ 58) T.1 ∧ TbOk (10 ^ 58) T.2 ∧
  ∀ p m q H', H m = none → Same H H' → H p = none → H' p = some (.tup [.ref m, .ref q]) → H' m = some (.lst (ns.map V.int)) → TbsV K H' q (wst ns first T ns.length).2 → Q (.ref p) H'
theorem use_rdM {K : PySem.W.Frag} {ns : List Int} {first n : Nat} {b : Addr} {T : Tb × Tb} {l : List Nat} {H : Hp} {Q : VK} {E : XK} (e : l = (wst ns first T ns.length).1.flatten) (en : n = ns.length) (h1 : ns.length ≤ 64) (h2 : first ≤ ns.length) (h3 : ∀ z ∈ ns, z.natAbs < 10 ^ 55) (h4 : TbsV K H b T) (o1 : TbOk (10 ^ 58) T.1) (o2 : TbOk (10 ^ 58) T.2)
    (q : ∀ p m q H', H m = none → Same H H' → H p = none → H' p = some (.tup [.ref m, .ref q]) → H' m = some (.lst (ns.map V.int)) → TbsV K H' q (wst ns first T ns.length).2 → Q (.ref p) H') : spRdM K ([.str (S l), .int (n : Nat), .int (first : Int), .ref b] ++ []) H Q E := by
  subst e en
  exact ⟨ns, first, b, T, rfl, h1, h2, h3, h4, o1, o2, q⟩
def spRfM (K : PySem.W.Frag) : Sp := fun vs H Q _ => ∃ v d ns T t, vs = [v, .ref t] ∧ RcAt K H v (.fr d ns T) ∧ RcOk (.fr d ns T) ∧ TbsV K H t T ∧
  ∀ p m q H', H m = none → Same H H' → H p = none → H' p = some (.tup [.ref m, .ref q]) → H' m = some (.lst (ns.map V.int)) → TbsV K H' q (nextF d ns T) → Q (.ref p) H'
theorem use_rfM {K : PySem.W.Frag} {v : V} {d : Hd} {ns : List Int} {T : Tb × Tb} {t : Addr} {H : Hp} {Q : VK} {E : XK} (h : RcAt K H v (.fr d ns T)) (ok : RcOk (.fr d ns T)) (hT : TbsV K H t T)
    (q : ∀ p m q H', H m = none → Same H H' → H p = none → H' p = some (.tup [.ref m, .ref q]) → H' m = some (.lst (ns.map V.int)) → TbsV K H' q (nextF d ns T) → Q (.ref p) H') : spRfM K ([v, .ref t] ++ []) H Q E := ⟨v, d, ns, T, t, rfl, h, ok, hT, q⟩
/-- the row that goes with a record: none, or the frame's own -/
def EntR (K : PySem.W.Frag) (H : Hp) (x : V) (T : Tb × Tb) : Rc → Prop
  | .st _ => x = .non
  | .fr d _ T' => T' = T ∧ ∃ w : Rw, w.2.2.1 = d ∧ RwV K H x w
theorem EntR.lkd {K : PySem.W.Frag} {H H' : Hp} {x : V} {T : Tb × Tb} (s : LKD H H') : ∀ {r : Rc}, EntR K H x T r → EntR K H' x T r
  | .st _, h => h
  | .fr _ _ _, ⟨a, w, b, c⟩ => ⟨a, w, b, c.lkd s⟩
theorem rd_cC {i : Nat} {f c : Addr} {H0 : Hp} {t : TL} {ta : TA} {σ : L2.St} {H : Hp} {Q : VK} (e : σ[i]? = some (some (.ref f))) (h : H f = H0 f) (q : ta σ H fun vs H1 => H1 f = H0 f ∧ H1 c = H0 c ∧ t vs H1 Q) : tCallC i f c H0 t ta σ H Q := ⟨e, h, q⟩
def spRat (K : PySem.W.Frag) : Sp := fun vs H Q _ => ∃ (x v : V) (t : Addr) (r : Rc) (T : Tb × Tb), vs = [x, v, .ref t] ∧ RcAt K H v r ∧ RcOk r ∧ TbsV K H t T ∧ EntR K H x T r ∧
  ∀ p l t' H', H p = none → Same H H' → H' p = some (.tup [.ref l, .ref t']) → H l = none → H' l = some (.lst ((rcN r).map V.int)) → TbsV K H' t' (rcT r) → Q (.ref p) H'
theorem use_rat {K : PySem.W.Frag} {x v : V} {t : Addr} {r : Rc} {T : Tb × Tb} {H : Hp} {Q : VK} {E : XK} (h : RcAt K H v r) (ok : RcOk r) (hT : TbsV K H t T) (m : EntR K H x T r)
  (q : ∀ p l t' H', H p = none → Same H H' → H' p = some (.tup [.ref l, .ref t']) → H l = none → H' l = some (.lst ((rcN r).map V.int)) → TbsV K H' t' (rcT r) → Q (.ref p) H') : spRat K ([x, v, .ref t] ++ []) H Q E := ⟨x, v, t, r, T, rfl, h, ok, hT, m, q⟩
theorem rd_dg1 {td ty : TE} {σ : L2.St} {H : Hp} {Q : VK} (h : td σ H fun x H1 => ∃ a, x = .ref a ∧ IsD H1 a ∧ ty σ H1 fun y H2 => ∃ o, DGet H2 a y o ∧ Q (o.getD .non) H2) : tDGet1 td ty σ H Q := h
theorem rd_neTp {K : PySem.W.Frag} {H : Hp} {Q : VK} {p q : Addr} {vs ws : List V} {ds : List PyData} (hp : SqT K H p vs) (hq : SqT K H q ws) (h1 : DpAll K H vs ds) (h2 : DpAll K H ws ds) (c : PyData.canLayAll0 ds = true) (d : PyData.depthAll ds ≤ 60) (h : Q (.bl false) H) : rNeD K (.ref p) (.ref q) H Q := by
  have sh : SeqAt.shaped (.tuple ds) = true := by
    show (PyData.canLayAll0 ds && decide (PyData.depthAll ds + 1 ≤ 64)) = true
    rw [c, decide_eq_true (by omega)]
    rfl
  exact ⟨.tuple ds, .tuple ds, .tup hp h1, .tup hq h2, sh, sh, by rw [SeqAt.eqv_refl _ (SeqAt.canLay_of_shaped sh)]; exact h⟩
def LogAt (C : Option Addr) (H : Hp) (cs : List Int) : Prop := match C with
  | none => True
  | some c => H c = some (.lst (cs.map V.int))
def logU (C : Option Addr) (H : Hp) (cs : List Int) (u : Int) : Hp := match C with
  | none => H
  | some c => upd H c (.lst ((cs ++ [u]).map V.int))
theorem LogAt.up {C : Option Addr} {H : Hp} {cs : List Int} {u : Int} : LogAt C (logU C H cs u) (cs ++ [u]) := by
  cases C with
  | none => trivial
  | some c => exact upd_same
theorem LogAt.same {C : Option Addr} {H H' : Hp} {cs : List Int} (s : Same H H') (h : LogAt C H cs) : LogAt C H' cs := by
  cases C with
  | none => trivial
  | some c => exact s _ _ h
theorem logU_kp {C : Option Addr} {H : Hp} {cs : List Int} {u : Int} : KpL C.toList H (logU C H cs u) := by
  cases C with
  | none => exact KpL.refl
  | some c => exact KpL.at (by simp)
/-- LK over a log written -/
theorem logU_lk {C : Option Addr} {H : Hp} {cs : List Int} {u : Int} (h : LogAt C H cs) : LK H (logU C H cs u) := by
  cases C with
  | none => exact LK.of (Same.refl _)
  | some c => exact LK.at h
/-- what is given fetches these records, from here on, and keeps this log -/
def Fetches (K : PySem.W.Frag) (t : TL) (rs : List Rc) (us : List Nat) (C : Option Addr) (H0 : Hp) : Prop := ∀ (H : Hp) (u : Nat) (r : Rc) (cs : List Int) (Q : VK), KpL C.toList H0 H → LogAt C H cs → cs.length ≤ 900 → u ∈ us → rs[u]? = some r → (∀ v, RcAt K (logU C H cs u) v r → Q v (logU C H cs u)) → t [.int (u : Nat)] H Q
theorem Fetches.kp {K : PySem.W.Frag} {t : TL} {rs : List Rc} {us : List Nat} {C : Option Addr} {H0 H1 : Hp} (k : KpL C.toList H0 H1) (h : Fetches K t rs us C H0) : Fetches K t rs us C H1 := fun H u r cs Q k1 => h H u r cs Q (k.trans k1)
/-- the dict of numbers -/
def NumD (C : Option Addr) (H : Hp) (kvs : List (Key × V)) (rs : List Rc) (us : List Nat) : Prop := ∀ u : Nat, (u ∈ us ∧ ∃ r a, rs[u]? = some r ∧ valV kvs (.inl (u : Int)) = some (.ref a) ∧ C ≠ some a ∧ H a = some (.lst ((rcN r).map V.int))) ∨ (u ∉ us ∧ valV kvs (.inl (u : Int)) = none)
theorem NumD.nil {C : Option Addr} {H : Hp} {rs : List Rc} : NumD C H [] rs [] := fun u => .inr ⟨List.not_mem_nil, rfl⟩
theorem NumD.put {C : Option Addr} {H H' : Hp} {kvs : List (Key × V)} {rs : List Rc} {us : List Nat} {u : Nat} {r : Rc} {a : Addr} (h : NumD C H kvs rs us) (kp : ∀ b xs, C ≠ some b → H b = some (.lst xs) → H' b = some (.lst xs)) (hr : rs[u]? = some r) (hc : C ≠ some a) (ha : H' a = some (.lst ((rcN r).map V.int))) : NumD C H' (putK kvs (.inl (u : Int)) (.ref a)) rs (us ++ [u]) := fun w => by
  rw [valV_put]
  by_cases c : w = u
  · subst c
    exact .inl ⟨List.mem_append.mpr (.inr List.mem_cons_self), r, a, hr, if_pos rfl, hc, ha⟩
  · have nc : ¬ (Sum.inl (w : Int) : Key) = Sum.inl (u : Int) := fun z => c (by have := Sum.inl.inj z; omega)
    rw [if_neg nc]
    rcases h w with ⟨m, r', b, e1, e2, e4, e3⟩ | ⟨m, e⟩
    · exact .inl ⟨List.mem_append.mpr (.inl m), r', b, e1, e2, e4, kp b _ e4 e3⟩
    · exact .inr ⟨fun z => (List.mem_append.mp z).elim m fun z => c (List.mem_singleton.mp z), e⟩
theorem NumD.same {C : Option Addr} {H H' : Hp} {kvs : List (Key × V)} {rs : List Rc} {us : List Nat} (s : Same H H') (h : NumD C H kvs rs us) : NumD C H' kvs rs us := fun u => by
  rcases h u with ⟨m, r, a, e1, e2, e4, e3⟩ | z
  · exact .inl ⟨m, r, a, e1, e2, e4, s _ _ e3⟩
  · exact .inr z
theorem LK.ofLog {C : Option Addr} {H H' : Hp} {cs : List Int} (h : LogAt C H cs) (k : KpL C.toList H H') : LK H H' := fun b o e n => k b o (fun z => by
  cases C with
  | none => exact absurd z List.not_mem_nil
  | some c =>
    have z : b = c := List.mem_singleton.mp z
    have h : H c = some (.lst (cs.map V.int)) := h
    rw [z, h] at e
    exact n _ (Option.some.inj e).symm) e
theorem nmO {C : Option Addr} {a : Addr} (h : C ≠ some a) : a ∉ C.toList := fun z => by
  cases C with
  | none => exact absurd z List.not_mem_nil
  | some c => exact h (congrArg some (List.mem_singleton.mp z).symm)
theorem LogAt.ne {C : Option Addr} {H : Hp} {cs : List Int} {a : Addr} (h : LogAt C H cs) (n : H a = none) : C ≠ some a := fun z => by
  subst z
  have h : H a = some (.lst (cs.map V.int)) := h
  rw [n] at h
  cases h
theorem LogAt.kp {C : Option Addr} {H H' : Hp} {cs : List Int} {N : Addr} (h : LogAt C H cs) (n : C ≠ some N) {o : HO} (e : H' = upd H N o) : LogAt C H' cs := by
  cases C with
  | none => trivial
  | some c =>
    show H' c = _
    rw [e, upd_ne (fun z => n (congrArg some z))]
    exact h
def uI (u : Nat) : Int := (u : Int)
/-- numbers of the records up to some rows, fetched -/
def spFet (K : PySem.W.Frag) : SpC := fun f c t vs H Q _ => ∃ (x e : Addr) (idx sel : List V) (rows srows : List Rw) (rs : List Rc) (us : List Nat) (C : Option Addr) (cs : List Int) (Te : Tb × Tb), vs = [.ref x, .ref f, .ref e] ∧ H x = some (.lst idx) ∧ RwsV K H idx rows ∧ idx.length ≤ 40 ∧ rows.Pairwise (fun a b => a.1 < b.1) ∧ RowsOf rs rows ∧ Vd T0 0 rs Te 0 ∧
  H e = some (.lst sel) ∧ RwsV K H sel srows ∧ RowsO srows ∧ rcU srows 0 = us.map uI ∧ Gd rs 0 us ∧ us.length ≤ 300 ∧ Fetches K t rs us C H ∧ LogAt C H cs ∧ cs.length ≤ 500 ∧ C ≠ some x ∧ C ≠ some e ∧ (∃ o, H f = some o) ∧ (∃ o, H c = some o) ∧ C ≠ some f ∧ C ≠ some c ∧
  ∀ D kvs H', H D = none → KpL C.toList H H' → LK H H' → LogAt C H' (cs ++ us.map uI) → H' D = some (.dK kvs) → NumD C H' kvs rs us → Q (.ref D) H'
theorem use_fet {K : PySem.W.Frag} {f c : Addr} {t : TL} {x e : Addr} {idx sel : List V} {rows srows : List Rw} {rs : List Rc} {us : List Nat} {C : Option Addr} {cs : List Int} {Te : Tb × Tb} {H : Hp} {Q : VK} {E : XK} (h1 : H x = some (.lst idx)) (h2 : RwsV K H idx rows) (h3 : idx.length ≤ 40) (h4 : rows.Pairwise (fun a b => a.1 < b.1)) (h5 : RowsOf rs rows) (h6 : Vd T0 0 rs Te 0)
  (h7 : H e = some (.lst sel)) (h8 : RwsV K H sel srows) (h9 : RowsO srows) (k1 : rcU srows 0 = us.map uI) (k2 : Gd rs 0 us) (k3 : us.length ≤ 300) (k4 : Fetches K t rs us C H) (k5 : LogAt C H cs) (k6 : cs.length ≤ 500) (k7 : C ≠ some x) (k8 : C ≠ some e) (k9 : ∃ o, H f = some o) (l1 : ∃ o, H c = some o) (l2 : C ≠ some f) (l3 : C ≠ some c)
  (q : ∀ D kvs H', H D = none → KpL C.toList H H' → LK H H' → LogAt C H' (cs ++ us.map uI) → H' D = some (.dK kvs) → NumD C H' kvs rs us → Q (.ref D) H') : spFet K f c t ([.ref x, .ref f, .ref e]) H Q E := ⟨x, e, idx, sel, rows, srows, rs, us, C, cs, Te, rfl, h1, h2, h3, h4, h5, h6, h7, h8, h9, k1, k2, k3, k4, k5, k6, k7, k8, k9, l1, l2, l3, q⟩
theorem rngI_nat (a n : Nat) : rngI (a : Int) ((a : Int) + (n : Int)) = (List.range' a n).map uI := by
  unfold rngI
  rw [show ((a : Int) + (n : Int) - (a : Int)).toNat = n by omega, List.range'_eq_map_range, List.map_map]
  refine List.map_congr_left fun i _ => ?_
  show (a : Int) + (i : Int) = ((a + i : Nat) : Int)
  omega
theorem gd_run {rs : List Rc} : ∀ (n m : Nat) (us : List Nat), m + n ≤ rs.length → Gd rs (m + n) us → Gd rs m (List.range' m n ++ us)
  | 0, m, us, _, h => h
  | n + 1, m, us, l, h => by
    rw [List.range'_succ]
    exact ⟨by omega, .inl rfl, gd_run n (m + 1) us (by omega) (by rw [show m + 1 + n = m + (n + 1) by omega]; exact h)⟩
theorem gd_from {rs : List Rc} {n m b : Nat} {us : List Nat} (hn : 0 < n) (hm : m = b ∨ ∃ T, rs[m]? = some (.st T)) (h : Gd rs m (List.range' m n ++ us)) : Gd rs b (List.range' m n ++ us) := by
  cases n with
  | zero => omega
  | succ n =>
    rw [List.range'_succ] at h ⊢
    exact ⟨h.1, hm, h.2.2⟩
theorem rcU_gd {rs : List Rc} : ∀ (rows : List Rw) (b : Nat), (∀ r ∈ rows, r.1 < rs.length ∧ r.2.2.2.2 ≤ r.1 ∧ b ≤ r.1 ∧ (r.2.2.2.2 = 0 ∨ ∃ T, rs[r.2.2.2.2]? = some (.st T))) → (rows.Pairwise fun a b => a.1 < b.1) → ∃ us : List Nat, rcU rows b = us.map uI ∧ Gd rs b us
  | [], b, _, _ => ⟨[], rfl, trivial⟩
  | r :: t, b, h, hp => by
    obtain ⟨h1, h2⟩ := List.pairwise_cons.mp hp
    obtain ⟨a1, a2, a3, a4⟩ := h r List.mem_cons_self
    obtain ⟨us, e, g⟩ := rcU_gd t (r.1 + 1) (fun q hq => by
      obtain ⟨b1, b2, b3, b4⟩ := h q (List.mem_cons_of_mem _ hq)
      exact ⟨b1, b2, h1 q hq, b4⟩) h2
    obtain ⟨m, hm, m1, m2⟩ : ∃ m : Nat, lowW r b = (m : Int) ∧ m ≤ r.1 ∧ (m = b ∨ ∃ T, rs[m]? = some (.st T)) := by
      unfold lowW
      by_cases c : (b : Int) > (r.2.2.2.2 : Int)
      · rw [if_pos c]
        exact ⟨b, rfl, a3, .inl rfl⟩
      · rw [if_neg c]
        refine ⟨r.2.2.2.2, rfl, a2, ?_⟩
        rcases a4 with z | z
        · exact .inl (by omega)
        · exact .inr z
    refine ⟨List.range' m (r.1 + 1 - m) ++ us, ?_, ?_⟩
    · unfold rcU
      rw [show ((r.1 : Int) + 1) = ((r.1 + 1 : Nat) : Int) by omega, e, hm, List.map_append, show ((r.1 + 1 : Nat) : Int) = (m : Int) + ((r.1 + 1 - m : Nat) : Int) by omega, rngI_nat]
    · refine gd_from (by omega) m2 (gd_run _ _ _ (by omega) ?_)
      rw [show m + (r.1 + 1 - m) = r.1 + 1 by omega]
      exact g
/-- what is fetched for some of the rows -/
theorem fetch_of {rs : List Rc} {rows sel : List Rw} (h : RowsOf rs rows) (o : RowsO rows) (s : sel.Sublist rows) : ∃ us : List Nat, rcU sel 0 = us.map uI ∧ Gd rs 0 us ∧ us.length ≤ 40 ∧ ∀ r ∈ rows, r.1 ∈ us ↔ ∃ k ∈ sel, k.2.2.2.2 ≤ r.1 ∧ r.1 ≤ k.1 := by
  have os := o.sub s
  obtain ⟨us, e, g⟩ := rcU_gd (rs := rs) sel 0 (fun r hr => by
    have hr2 := s.subset hr
    obtain ⟨ns, T, z⟩ := h.fr r hr2
    exact ⟨(List.getElem?_eq_some_iff.mp z).1, (o.each r hr2).1.o, Nat.zero_le _, h.og r hr2⟩) (os.asc.imp fun z => z.1)
  have e : rcU sel 0 = us.map uI := e
  refine ⟨us, e, g, ?_, fun r hr => ?_⟩
  · have := os.lenU
    rw [e, List.length_map] at this
    exact this
  · have m := rcU_mem sel 0 (r.1 : Int) os.asc fun q _ => by omega
    rw [e, List.mem_map] at m
    constructor
    · intro z
      obtain ⟨_, k, hk, k1, k2⟩ := m.mp ⟨r.1, z, rfl⟩
      exact ⟨k, hk, by omega, by omega⟩
    · rintro ⟨k, hk, k1, k2⟩
      obtain ⟨u, hu, eu⟩ := m.mpr ⟨by omega, k, hk, by omega, by omega⟩
      have eu : (u : Int) = (r.1 : Int) := eu
      rw [show r.1 = u by omega]
      exact hu
def rwF (r : Rw) : Fw := (r.2.2.1.1, r.2.2.1.2.1, r.2.2.1.2.2.1)
def nsA (rs : List Rc) (u : Nat) : List Int := match rs[u]? with
  | some r => rcN r
  | none => []
def blS (rs : List Rc) (p : Rw → Bool) (r : Rw) : List Int := if p r = true then kfB r.2.2.1 (nsA rs r.1) else List.replicate r.2.2.1.1 0
def spSmp (K : PySem.W.Frag) : Sp := fun vs H Q _ => ∃ (e N : Addr) (sel : List V) (srows : List Rw) (kvs : List (Key × V)) (rs : List Rc) (p : Rw → Bool) (wb : Nat), vs = [.ref e, .ref N] ∧ H e = some (.lst sel) ∧ RwsV K H sel srows ∧ sel.length ≤ 40 ∧ H N = some (.dK kvs) ∧ Chn wb (srows.map rwF) ∧ totW (srows.map rwF) ≤ 10000 ∧
  (∀ r ∈ srows, HdOk r.2.2.1 ∧ (p r = true → ∃ a, valV kvs (.inl (r.1 : Int)) = some (.ref a) ∧ H a = some (.lst ((nsA rs r.1).map V.int)) ∧ (nsA rs r.1).length = r.2.2.1.1) ∧ (p r = false → valV kvs (.inl (r.1 : Int)) = none)) ∧
  ∀ D H', H D = none → Same H H' → H' D = some (.lst ((sndW (srows.map rwF) (srows.map (blS rs p))).map V.int)) → Q (.ref D) H'
theorem use_smp {K : PySem.W.Frag} {e N : Addr} {sel : List V} {srows : List Rw} {kvs : List (Key × V)} {rs : List Rc} {wb : Nat} {H : Hp} {Q : VK} {E : XK} (p : Rw → Bool) (h : H e = some (.lst sel)) (h1 : RwsV K H sel srows) (h2 : sel.length ≤ 40) (h3 : H N = some (.dK kvs)) (h4 : Chn wb (srows.map rwF)) (h5 : totW (srows.map rwF) ≤ 10000)
  (h6 : ∀ r ∈ srows, HdOk r.2.2.1 ∧ (p r = true → ∃ a, valV kvs (.inl (r.1 : Int)) = some (.ref a) ∧ H a = some (.lst ((nsA rs r.1).map V.int)) ∧ (nsA rs r.1).length = r.2.2.1.1) ∧ (p r = false → valV kvs (.inl (r.1 : Int)) = none))
  (q : ∀ D H', H D = none → Same H H' → H' D = some (.lst ((sndW (srows.map rwF) (srows.map (blS rs p))).map V.int)) → Q (.ref D) H') : spSmp K ([.ref e, .ref N] ++ []) H Q E := ⟨e, N, sel, srows, kvs, rs, p, wb, rfl, h, h1, h2, h3, h4, h5, h6, q⟩
theorem kfB_len2 {d : Hd} {ns : List Int} (h : ns.length = d.1) : (kfB d ns).length = d.1 := by
  show (joinL (ns.map (· * (d.2.2.2.2 : Int))) d.2.2.2.1).length = _
  rw [joinL_length, List.length_map, h]
theorem blS_len {rs : List Rc} {p : Rw → Bool} {r : Rw} (h : p r = true → (nsA rs r.1).length = r.2.2.1.1) : (blS rs p r).length = r.2.2.1.1 := by
  unfold blS
  split
  · rename_i c
    exact kfB_len2 (h c)
  · exact List.length_replicate ..
/-- a walk over enumerate(xs), in a comprehension -/
theorem rd_lcE {K : PySem.W.Frag} {ts : TA} {g : TG} {tt : TT} {te : TE} {vs : List Nat} {σ : L2.St} {H : Hp} {Q : VK} (h : ts σ H fun us H1 => ∃ a xs, us = [.ref a] ∧ SqL K H1 a xs ∧ ∀ D, H1 D = none → LcW (Ite K a) g tt te vs Q σ H1 D) : tLc (iEnum K ts) g tt te vs σ H Q := h
theorem lc_enum {K : PySem.W.Frag} {σ : L2.St} {Q : VK} {vs : List Nat} {g : TG} {tt : TT} {te : TE} {a D : Addr} {xs : List V} {H1 : Hp} (Pv : Nat → Hp → Prop) (h0 : Pv 0 (upd H1 D (.lst []))) (hl : ∀ i H, i ≤ xs.length → Pv i H → SqL K H a xs)
    (hs : ∀ i x H T, xs[i]? = some x → Pv i H → H T = none → g (.ref T) (wipe σ vs) (upd H T (.tup [.int (i : Nat), x])) fun σ2 H2 => wipe σ2 vs = wipe σ vs ∧ tt σ2 H2 fun b H3 => if b = true then te σ2 H3 fun y H4 => ∃ acc, H4 D = some (.lst acc) ∧ acc.length < sizeLine ∧ Pv (i + 1) (upd H4 D (.lst (acc ++ [y]))) else Pv (i + 1) H3)
    (hd : ∀ H, Pv xs.length H → Q (.ref D) H) : LcW (Ite K a) g tt te vs Q σ H1 D := by
  refine ⟨fun i m H => m = xs.length - i ∧ i ≤ xs.length ∧ Pv i H, ⟨_, rfl, Nat.zero_le _, h0⟩, ?_⟩
  rintro i m H ⟨rfl, hi, p⟩
  have q := hl i H hi p
  rcases Nat.lt_or_ge i xs.length with c | c
  · refine .inr ⟨⟨xs, xs[i], q, List.getElem?_eq_getElem c⟩, fun H' => Pv (i + 1) H', fun H' p' => ⟨xs.length - (i + 1), by omega, rfl, c, p'⟩, fun x H' y => ?_⟩
    obtain ⟨T, x1, rfl, nT, rfl, y⟩ := y
    exact hs i x1 H T (y xs q) p nT
  · have e : i = xs.length := by omega
    subst e
    exact .inl ⟨⟨xs, q, Nat.le_refl _⟩, hd H p⟩
theorem rd_dget {td ty : TE} {σ : L2.St} {H : Hp} {Q : VK} (h : td σ H fun x H1 => ty σ H1 fun y H2 => ∃ a v, x = .ref a ∧ DGet H2 a y (some v) ∧ Q v H2) : tDGet td ty σ H Q := h
theorem zeros : ∀ n : Nat, (List.replicate n [V.int 0]).flatten = (List.replicate n (0 : Int)).map V.int
  | 0 => rfl
  | n + 1 => by
    rw [List.replicate_succ, List.replicate_succ, List.flatten_cons, zeros n]
    rfl
theorem rws_js {K : PySem.W.Frag} {H : Hp} {vs : List V} {rows : List Rw} (h : RwsV K H vs rows) : ∃ js, All2 (fun v u => ∃ a j x0 x1 x2 x3 x5 x6 x7, v = .ref a ∧ H a = some (.tup [x0, x1, x2, x3, .ref j, x5, x6, x7]) ∧ u = V.ref j) vs js ∧ JfAt H js (rows.map rwF) := by
  induction h with
  | nil => exact ⟨[], .nil, .nil⟩
  | cons h _ ih =>
    obtain ⟨js, h1, h2⟩ := ih
    obtain ⟨a, jl, j, e, k1, k2, k3⟩ := h
    exact ⟨.ref j :: js, .cons ⟨a, j, _, _, _, _, _, _, _, e, k1, rfl⟩ h1, .cons ⟨j, rfl, k3⟩ h2⟩
theorem rd_din {td ty : TE} {σ : L2.St} {H : Hp} {Q : VK} (h : ty σ H fun y H1 => td σ H1 fun x H2 => ∃ a o, x = .ref a ∧ DGet H2 a y o ∧ Q (.bl o.isSome) H2) : tDIn ty td σ H Q := h
theorem rows_fw : ∀ rs : List Rc, (runR rs).rows.map rwF = fwR rs := list_snoc rfl fun rs x h => by
  rw [runR_snoc]
  cases x with
  | st T => rw [fwR_st]; exact h
  | fr d ns T =>
    rw [fwR_fr, ← h]
    show ((runR rs).rows ++ [_]).map rwF = _
    rw [List.map_append]
    rfl
/-- what is known of a row's record -/
theorem RowsOf.at_ {rs : List Rc} {rows : List Rw} {Te : Tb × Tb} (h : RowsOf rs rows) (v : Vd T0 0 rs Te 0) {r : Rw} (hr : r ∈ rows) : ∃ ns T, rs[r.1]? = some (.fr r.2.2.1 ns T) ∧ nsA rs r.1 = ns ∧ HdOk r.2.2.1 ∧ ns.length = r.2.2.1.1 := by
  obtain ⟨ns, T, e⟩ := h.fr r hr
  have ok := v.ok _ (List.mem_of_getElem? e)
  obtain ⟨a, b, _⟩ := ok
  exact ⟨ns, T, e, by unfold nsA; rw [e]; rfl, a, b⟩
/-- the frames that stay readable: each of their records is fetched, no other frame's -/
theorem keep_iff {rs : List Rc} {rows : List Rw} {ns : List Int} {us : List Nat} (h : RowsOf rs rows) (o : RowsO rows) (m : ∀ r ∈ rows, r.1 ∈ us ↔ ∃ k ∈ rows.filter (fun r => !hitL ns r), k.2.2.2.2 ≤ r.1 ∧ r.1 ≤ k.1) {r : Rw} (hr : r ∈ rows) : r.1 ∈ us ↔ (!hitL ns r) = true := by
  rw [m r hr]
  constructor
  · rintro ⟨k, hk, k1, k2⟩
    obtain ⟨hk1, hk2⟩ := List.mem_filter.mp hk
    have le : k.2.2.2.2 ≤ r.2.2.2.2 := by
      rcases h.og k hk1 with z | ⟨T, z⟩
      · omega
      · exact h.near r hr _ T z k1
    cases e : hitL ns r with
    | false => rfl
    | true =>
      obtain ⟨x, hx, x1, x2⟩ := hitL_iff.mp e
      have : hitL ns k = true := hitL_iff.mpr ⟨x, hx, by omega, by omega⟩
      rw [this] at hk2
      cases hk2
  · intro z
    exact ⟨r, List.mem_filter.mpr ⟨hr, z⟩, (o.each r hr).1.o, Nat.le_refl _⟩
def spConc (K : PySem.W.Frag) : SpC := fun f c t vs H Q _ => ∃ (x b : Addr) (idx : List V) (rows : List Rw) (rs : List Rc) (ns : List Int) (C : Option Addr) (cs : List Int) (Te : Tb × Tb), vs = [.ref x, .ref f, .ref b] ∧ H x = some (.lst idx) ∧ RwsV K H idx rows ∧ idx.length ≤ 40 ∧ RowsO rows ∧ RowsOf rs rows ∧ Vd T0 0 rs Te 0 ∧ rows.map rwF = fwR rs ∧ totW (fwR rs) ≤ 10000 ∧
  LT H b (ns.map V.int) ∧ (∀ x ∈ ns, 0 ≤ x) ∧ ns.length ≤ 100 ∧ (∀ us : List Nat, rcU (rows.filter fun r => !hitL ns r) 0 = us.map uI → Fetches K t rs us C H) ∧ LogAt C H cs ∧ cs.length ≤ 400 ∧ C ≠ some x ∧ (∃ o, H f = some o) ∧ (∃ o, H c = some o) ∧ C ≠ some f ∧ C ≠ some c ∧
  ∀ (D : Addr) (us : List Nat) (H' : Hp), H D = none → KpL C.toList H H' → LogAt C H' (cs ++ us.map uI) → us.length ≤ 40 → rcU (rows.filter fun r => !hitL ns r) 0 = us.map uI → H' D = some (.lst ((sndW (fwR rs) (rows.map (blS rs fun r => !hitL ns r))).map V.int)) → Q (.ref D) H'
theorem rd_dnin {td ty : TE} {σ : L2.St} {H : Hp} {Q : VK} (h : ty σ H fun y H1 => td σ H1 fun x H2 => ∃ a o, x = .ref a ∧ DGet H2 a y o ∧ Q (.bl (!o.isSome)) H2) : tDNotIn ty td σ H Q := h
/-- a function that is given on -/
theorem rd_cFC {sp : SpC} {W : L2.St → Hp → Addr → Addr → TL → Prop} {ta : TA} {σ : L2.St} {H : Hp} {Q : VK} (h : ta σ H fun vs H1 => ∃ f c t, W σ H1 f c t ∧ sp f c t vs H1 Q E0) : tCallFC sp W ta σ H Q := h
/-- blocks of rows and numbers, as the law makes them -/
def rowB (r : Rw) (ns : List Int) : List Int := kfB r.2.2.1 ns
theorem rows_bs : ∀ rs : List Rc, All2 (fun (r : Rw) ns => nsA rs r.1 = ns) (runR rs).rows (blkF kfN rs) := list_snoc .nil fun rs x h => by
  have hlt := (rowsOf' rs).2.2.2
  have keep : All2 (fun (r : Rw) ns => nsA (rs ++ [x]) r.1 = ns) (runR rs).rows (blkF kfN rs) := by
    have key : ∀ {rows : List Rw} {bs : List (List Int)}, (∀ r ∈ rows, r.1 < rs.length) → All2 (fun (r : Rw) ns => nsA rs r.1 = ns) rows bs → All2 (fun (r : Rw) ns => nsA (rs ++ [x]) r.1 = ns) rows bs := by
      intro rows bs hm h
      induction h with
      | nil => exact .nil
      | cons e _ ih =>
        refine .cons ?_ (ih fun r hr => hm r (List.mem_cons_of_mem _ hr))
        rw [← e]
        unfold nsA
        rw [List.getElem?_append_left (hm _ List.mem_cons_self)]
    exact key hlt h
  rw [runR_snoc, blkF_snoc]
  cases x with
  | st T =>
    rw [show blkF kfN [Rc.st T] = [] from rfl, List.append_nil]
    exact keep
  | fr d ns T =>
    refine All2.app keep ?_
    show nsA (rs ++ [Rc.fr d ns T]) (runR rs).i = ns
    unfold nsA
    rw [runR_i, List.getElem?_append_right (Nat.le_refl _), Nat.sub_self]
    rfl
theorem use_conc {K : PySem.W.Frag} {f c : Addr} {t : TL} {x b : Addr} {idx : List V} {rows : List Rw} {rs : List Rc} {ns : List Int} {C : Option Addr} {cs : List Int} {Te : Tb × Tb} {H : Hp} {Q : VK} {E : XK} (h1 : H x = some (.lst idx)) (h2 : RwsV K H idx rows) (h3 : idx.length ≤ 40) (h4 : RowsO rows) (h5 : RowsOf rs rows) (h6 : Vd T0 0 rs Te 0) (h7 : rows.map rwF = fwR rs) (h8 : totW (fwR rs) ≤ 10000)
  (h9 : LT H b (ns.map V.int)) (k1 : ∀ x ∈ ns, 0 ≤ x) (k2 : ns.length ≤ 100) (k3 : ∀ us : List Nat, rcU (rows.filter fun r => !hitL ns r) 0 = us.map uI → Fetches K t rs us C H) (k4 : LogAt C H cs) (k5 : cs.length ≤ 400) (k6 : C ≠ some x) (k7 : ∃ o, H f = some o) (k8 : ∃ o, H c = some o) (k9 : C ≠ some f) (l1 : C ≠ some c)
  (q : ∀ (D : Addr) (us : List Nat) (H' : Hp), H D = none → KpL C.toList H H' → LogAt C H' (cs ++ us.map uI) → us.length ≤ 40 → rcU (rows.filter fun r => !hitL ns r) 0 = us.map uI → H' D = some (.lst ((sndW (fwR rs) (rows.map (blS rs fun r => !hitL ns r))).map V.int)) → Q (.ref D) H') : spConc K f c t [.ref x, .ref f, .ref b] H Q E := ⟨x, b, idx, rows, rs, ns, C, cs, Te, rfl, h1, h2, h3, h4, h5, h6, h7, h8, h9, k1, k2, k3, k4, k5, k6, k7, k8, k9, l1, q⟩
end Z
namespace Z
open PySem PySem.Spec PyProof.Rows L2
theorem ixsW_at {f : Rw → Bool} {rows : List Rw} {i : Nat} {r : Rw} (h : rows[i]? = some r) : decide (i ∈ ixsW f rows rows.length) = f r := by
  have hl := (List.getElem?_eq_some_iff.mp h).1
  unfold ixsW
  rw [Bool.eq_iff_iff, decide_eq_true_eq, List.mem_filter, List.mem_range, h]
  exact ⟨fun z => z.2, fun z => ⟨hl, z⟩⟩
theorem blk_rows' {rs : List Rc} {rows : List Rw} {bs : List (List Int)} (h : All2 (fun (r : Rw) ns => nsA rs r.1 = ns) rows bs) : ((rows.zip bs).map fun u => rowB u.1 u.2) = rows.map fun r => kfB r.2.2.1 (nsA rs r.1) := by
  induction h with
  | nil => rfl
  | cons e _ ih =>
    rw [List.zip_cons_cons, List.map_cons, List.map_cons, ih, e]
    rfl
theorem blk_rows (rs : List Rc) : (((runR rs).rows.zip (blkF kfN rs)).map fun u => rowB u.1 u.2) = (runR rs).rows.map fun r => kfB r.2.2.1 (nsA rs r.1) := blk_rows' (rows_bs rs)
theorem All2.ta {α β : Type} {R : α → β → Prop} {as : List α} {bs : List β} (h : All2 R as bs) {i : Nat} {b : β} (e : bs[i]? = some b) : ∃ a, as[i]? = some a ∧ R a b := by
  have l := (List.getElem?_eq_some_iff.mp e).1
  have e2 := List.getElem?_eq_getElem (show i < as.length by rw [h.len]; exact l)
  obtain ⟨b', e3, r⟩ := h.at2 e2
  rw [e] at e3
  cases e3
  exact ⟨_, e2, r⟩
theorem Tabs.lk {T : List (Addr × Str)} {H H' : Hp} (k : LK H H') (t : LamX.Tabs T H) : LamX.Tabs T H' := fun e he => by
  obtain ⟨ps, h1, h2, h3⟩ := t e he
  refine ⟨ps, k _ _ h1 (fun _ z => nomatch z), h2, fun pos cv hc => ?_⟩
  obtain ⟨c, e1, e2⟩ := h3 pos cv hc
  exact ⟨c, e1, k _ _ e2 fun _ => codeO_lst⟩
end Z
namespace Z
open PySem PySem.Spec PyProof.Rows L2
theorem mem_prs {js : List Jo} {t : Nat × Nat × Nat} : t ∈ prs js ↔ ∃ j ∈ js, t ∈ prs1 j j.2.1 := by
  unfold prs
  rw [List.mem_flatMap]
/-- a place of a part is as the same place of the whole: no other joint is near -/
theorem seg_get {f : Int → Int → Int → Int × Int} {n m a k : Nat} {xs ys : List Int} {js jb : List Jo} (hn : xs.length = n) (h : Rm n 0 0 js) (hm : ys.length = m) (hb : Rm m 0 0 jb) (hx : ∀ i, i < m → xs[a + i]? = ys[i]?) (h1 : ∀ j ∈ jb, (j.1 + a, j.2) ∈ js)
    (h2 : ∀ j ∈ js, (∃ j' ∈ jb, j = (j'.1 + a, j'.2)) ∨ j.1 + j.2.1 ≤ a + k ∨ a + k + j.2.1 < j.1) (hk : k < m) : (turnL f xs js)[a + k]? = (turnL f ys jb)[k]? := by
  have wb := rm_all jb 0 0 hb
  have sh : ∀ t ∈ prs jb, (t.1, t.2.1 + a, t.2.2 + a) ∈ prs js := fun t ht => by
    obtain ⟨j, hj, ht⟩ := mem_prs.mp ht
    obtain ⟨i, hi, rfl⟩ := mem_prs1.mp ht
    have := wb j hj
    refine mem_prs.mpr ⟨_, h1 j hj, mem_prs1.mpr ⟨i, hi, ?_⟩⟩
    show (j.2.2, j.1 - 1 - i + a, j.1 + i + a) = (j.2.2, j.1 + a - 1 - i, j.1 + a + i)
    rw [show j.1 - 1 - i + a = j.1 + a - 1 - i by omega, show j.1 + i + a = j.1 + a + i by omega]
  have gd : ∀ i, i < m → xs.getD (i + a) 0 = ys.getD i 0 := fun i hi => by
    rw [List.getD_eq_getElem?_getD, List.getD_eq_getElem?_getD, Nat.add_comm i a, hx i hi]
  cases e : prt jb k with
  | none =>
    rw [turn_none hb e, ← hx k hk]
    refine get_out _ _ _ fun t ht => ?_
    obtain ⟨j, hj, ht⟩ := mem_prs.mp ht
    have wj := rm_all js 0 0 h j hj
    rcases h2 j hj with ⟨j', hj', rfl⟩ | c | c
    · obtain ⟨i, hi, rfl⟩ := mem_prs1.mp ht
      have w := wb j' hj'
      have z := prt_none jb k e (fun j hj => (wb j hj).1) _ (mem_prs.mpr ⟨j', hj', mem_prs1.mpr ⟨i, hi, rfl⟩⟩)
      have hi : i < j'.2.1 := hi
      have z : j'.1 - 1 - i ≠ k ∧ j'.1 + i ≠ k := z
      show j'.1 + a - 1 - i ≠ a + k ∧ j'.1 + a + i ≠ a + k
      omega
    · obtain ⟨i, hi, rfl⟩ := mem_prs1.mp ht
      show j.1 - 1 - i ≠ a + k ∧ j.1 + i ≠ a + k
      omega
    · obtain ⟨i, hi, rfl⟩ := mem_prs1.mp ht
      show j.1 - 1 - i ≠ a + k ∧ j.1 + i ≠ a + k
      omega
  | some c =>
    obtain ⟨t, ht, q⟩ := prt_some jb k c e wb
    have mt := rm_mem jb 0 0 hb t ht
    have g1 := get_in (f := f) (prs js) xs hn (rm_ap js 0 0 h) _ (sh t ht)
    have g2 := get_in (f := f) (prs jb) ys hm (rm_ap jb 0 0 hb) t ht
    have g1 : (turnL f xs js)[t.2.1 + a]? = some (f t.1 (xs.getD (t.2.1 + a) 0) (xs.getD (t.2.2 + a) 0)).1 ∧ (turnL f xs js)[t.2.2 + a]? = some (f t.1 (xs.getD (t.2.1 + a) 0) (xs.getD (t.2.2 + a) 0)).2 := g1
    have g2 : (turnL f ys jb)[t.2.1]? = some (f t.1 (ys.getD t.2.1 0) (ys.getD t.2.2 0)).1 ∧ (turnL f ys jb)[t.2.2]? = some (f t.1 (ys.getD t.2.1 0) (ys.getD t.2.2 0)).2 := g2
    rw [gd t.2.1 (by omega), gd t.2.2 (by omega)] at g1
    rcases q with ⟨q1, q2⟩ | ⟨q1, q2⟩
    · rw [← q1, Nat.add_comm a, g1.1, g2.1]
    · rw [← q1, Nat.add_comm a, g1.2, g2.2]
def Til : Nat → Nat → List Rw → Prop
  | _, _, [] => True
  | p, w, r :: t => r.2.1 = p ∧ r.2.2.2.1.1 = w ∧ Til (p + r.2.2.1.1) r.2.2.1.2.1 t
theorem Til.app {Y : List Rw} : ∀ {X : List Rw} {p w : Nat}, Til p w (X ++ Y) → Til p w X ∧ ∃ w', Til (p + totW (X.map rwF)) w' Y
  | [], p, w, h => ⟨trivial, w, h⟩
  | r :: t, p, w, ⟨a, b, h⟩ => by
    obtain ⟨h1, w', h2⟩ := Til.app (X := t) h
    refine ⟨⟨a, b, h1⟩, w', ?_⟩
    rw [List.map_cons, totW_cons, ← Nat.add_assoc]
    exact h2
def jrR (r : Rw) : Jo := (rend r, r.2.2.1.2.1, r.2.2.1.2.2.1)
theorem plJ_til : ∀ {rows : List Rw} {p w : Nat}, Til p w rows → plJ p (rows.map rwF) = rows.map jrR
  | [], _, _, _ => rfl
  | r :: t, p, w, ⟨a, _, h⟩ => by
    show (p + r.2.2.1.1, r.2.2.1.2.1, r.2.2.1.2.2.1) :: plJ (p + r.2.2.1.1) (t.map rwF) = _ :: t.map jrR
    rw [plJ_til h, ← a]
    rfl
theorem plJ_sh : ∀ (fs : List Fw) (p a : Nat), plJ (p + a) fs = (plJ p fs).map fun j => (j.1 + a, j.2)
  | [], _, _ => rfl
  | f :: r, p, a => by
    show (p + a + f.1, f.2.1, f.2.2) :: plJ (p + a + f.1) r = (p + f.1 + a, f.2.1, f.2.2) :: (plJ (p + f.1) r).map _
    rw [show p + a + f.1 = p + f.1 + a by omega, plJ_sh r (p + f.1) a]
theorem Til.cover : ∀ {rows : List Rw} {p w x : Nat}, Til p w rows → p ≤ x → x < p + totW (rows.map rwF) → ∃ r ∈ rows, r.2.1 ≤ x ∧ x < rend r
  | [], p, w, x, _, h1, h2 => by
    have : totW ([] : List Fw) = 0 := rfl
    rw [List.map_nil, this] at h2
    omega
  | r :: t, p, w, x, ⟨a, b, h⟩, h1, h2 => by
    rw [List.map_cons, totW_cons] at h2
    have h2 : x < p + (r.2.2.1.1 + totW (t.map rwF)) := h2
    by_cases c : x < p + r.2.2.1.1
    · exact ⟨r, List.mem_cons_self, by omega, by unfold rend; omega⟩
    · obtain ⟨q, hq, z⟩ := Til.cover (x := x) h (by omega) (by omega)
      exact ⟨q, List.mem_cons_of_mem _ hq, z⟩
theorem Til.bd : ∀ {rows : List Rw} {p w : Nat}, Til p w rows → ∀ r ∈ rows, p ≤ r.2.1 ∧ rend r ≤ p + totW (rows.map rwF)
  | [], _, _, _, r, h => absurd h List.not_mem_nil
  | q :: t, p, w, ⟨a, b, h⟩, r, hr => by
    rw [List.map_cons, totW_cons]
    show p ≤ r.2.1 ∧ rend r ≤ p + (q.2.2.1.1 + totW (t.map rwF))
    rcases List.mem_cons.mp hr with rfl | hr
    · unfold rend
      omega
    · have := Til.bd h r hr
      omega
/-- the joint on the right of a row is the one on the left of the next -/
theorem Til.next : ∀ {C : List Rw} {z : Rw} {p w : Nat}, Til p w (z :: C) → ∀ r ∈ (z :: C).dropLast, ∃ r' ∈ C, r'.2.1 = rend r ∧ r'.2.2.2.1.1 = r.2.2.1.2.1
  | [], z, _, _, _, r, h => by cases h
  | c :: t, z, p, w, ⟨a, b, h⟩, r, hr => by
    rw [List.dropLast_cons₂] at hr
    rcases List.mem_cons.mp hr with rfl | hr
    · obtain ⟨h1, h2, _⟩ := h
      exact ⟨c, List.mem_cons_self, by unfold rend; omega, h2⟩
    · obtain ⟨r', m, q⟩ := Til.next h r hr
      exact ⟨r', List.mem_cons_of_mem _ m, q⟩
theorem split_rows {s e : Int} : ∀ {rows : List Rw}, (rows.Pairwise fun a b => rnear a ≤ rnear b ∧ rfar a ≤ rfar b) → ∃ A C, rows = A ++ rows.filter (selW s e) ++ C ∧ (∀ r ∈ A, rfar r ≤ s) ∧ (∀ r ∈ C, e ≤ rnear r)
  | [], _ => ⟨[], [], rfl, fun r h => absurd h List.not_mem_nil, fun r h => absurd h List.not_mem_nil⟩
  | r :: t, h => by
    obtain ⟨h1, h2⟩ := List.pairwise_cons.mp h
    obtain ⟨A, C, e1, hA, hC⟩ := split_rows (s := s) (e := e) h2
    by_cases c : rfar r ≤ s
    · have z : selW s e r = false := by
        unfold selW
        rw [decide_eq_false (show ¬ s < rfar r by omega), Bool.and_false]
      refine ⟨r :: A, C, ?_, fun q hq => ?_, hC⟩
      · rw [List.filter_cons_of_neg (by rw [z]; exact Bool.false_ne_true), List.cons_append, List.cons_append, ← e1]
      · rcases List.mem_cons.mp hq with rfl | hq
        · exact c
        · exact hA q hq
    · by_cases d : rnear r < e
      · have z : selW s e r = true := by
          unfold selW
          rw [decide_eq_true d, decide_eq_true (show s < rfar r by omega)]
          rfl
        have nA : A = [] := by
          cases A with
          | nil => rfl
          | cons x A =>
            have := hA x List.mem_cons_self
            have := (h1 x (by rw [e1]; exact List.mem_append_left _ (List.mem_append_left _ List.mem_cons_self))).2
            omega
        subst nA
        refine ⟨[], C, ?_, hA, hC⟩
        rw [List.filter_cons_of_pos z, List.nil_append, List.cons_append]
        congr 1
      · have all : ∀ q ∈ r :: t, e ≤ rnear q := fun q hq => by
          rcases List.mem_cons.mp hq with rfl | hq
          · omega
          · have := (h1 q hq).1
            omega
        refine ⟨[], r :: t, ?_, fun q hq => absurd hq List.not_mem_nil, all⟩
        rw [List.filter_eq_nil_iff.mpr fun q hq => ?_]
        · rfl
        · have := all q hq
          unfold selW
          rw [decide_eq_false (show ¬ rnear q < e by omega), Bool.false_and]
          exact Bool.false_ne_true
theorem blk_len {blk : Rw → List Int} : ∀ {rows : List Rw}, (∀ r ∈ rows, (blk r).length = r.2.2.1.1) → (rows.map blk).flatten.length = totW (rows.map rwF)
  | [], _ => rfl
  | r :: t, h => by
    rw [List.map_cons, List.flatten_cons, List.length_append, blk_len fun q hq => h q (List.mem_cons_of_mem _ hq), List.map_cons, totW_cons, h r List.mem_cons_self]
    rfl
theorem chn_app {Y : List Fw} : ∀ {X : List Fw} {w : Nat}, Chn w (X ++ Y) → Chn w X ∧ ∃ w', Chn w' Y
  | [], w, h => ⟨trivial, w, h⟩
  | f :: r, w, ⟨a, b, c, d, g, h⟩ => by
    obtain ⟨h1, h2⟩ := chn_app (X := r) h
    exact ⟨⟨a, b, c, d, g, h1⟩, h2⟩
/-- the samples of a stretch from the rows that it needs -/
theorem part_eq {rows : List Rw} {blk : Rw → List Int} {s e : Nat} (T : Til 0 0 rows) (hc : Chn 0 (rows.map rwF)) (mo : rows.Pairwise fun a b => rnear a ≤ rnear b ∧ rfar a ≤ rfar b) (hl : ∀ r ∈ rows, (blk r).length = r.2.2.1.1) (se : s < e) (le : e ≤ totW (rows.map rwF)) :
    ∃ r B, ndW (s : Int) (e : Int) rows = r :: B ∧ r.2.1 ≤ s ∧ e ≤ r.2.1 + totW ((r :: B).map rwF) ∧ Chn 0 ((r :: B).map rwF) ∧ (∀ q ∈ r :: B, q ∈ rows) ∧
      ((sndW (rows.map rwF) (rows.map blk)).drop s).take (e - s) = ((sndW ((r :: B).map rwF) ((r :: B).map blk)).drop (s - r.2.1)).take (e - s) := by
  obtain ⟨A, C, e1, hA, hC⟩ := split_rows (s := (s : Int)) (e := (e : Int)) mo
  have en : ndW (s : Int) (e : Int) rows = rows.filter (selW s e) := if_neg (by omega)
  have sel : ∀ r ∈ rows, ∀ x : Nat, s ≤ x → x < e → r.2.1 ≤ x → x < rend r → r ∈ rows.filter (selW s e) := fun r hr x h1 h2 h3 h4 => by
    refine List.mem_filter.mpr ⟨hr, ?_⟩
    unfold selW rnear rfar
    unfold rend at h4
    rw [decide_eq_true (by omega), decide_eq_true (by omega)]
    rfl
  obtain ⟨r0, m0, a0, b0⟩ := T.cover (Nat.zero_le s) (by omega)
  obtain ⟨r1, m1, a1, b1⟩ := T.cover (Nat.zero_le (e - 1)) (by omega)
  have f0 := sel r0 m0 s (Nat.le_refl _) se a0 b0
  have f1 := sel r1 m1 (e - 1) (by omega) (by omega) a1 b1
  have sub : ∀ q ∈ rows.filter (selW s e), q ∈ rows := fun q hq => (List.mem_filter.mp hq).1
  generalize rows.filter (selW (s : Int) (e : Int)) = F at *
  have nF : F ≠ [] := fun z => by
    rw [z] at f0
    cases f0
  obtain ⟨F', z, rfl⟩ : ∃ F' z, F = F' ++ [z] := ⟨F.dropLast, F.getLast nF, (List.dropLast_concat_getLast nF).symm⟩
  have e2 : rows = A ++ ((F' ++ [z]) ++ C) := by rw [e1, List.append_assoc]
  have e3 : rows = (A ++ F') ++ (z :: C) := by rw [e1]; simp
  have T2 := T
  rw [e2] at T2
  obtain ⟨TA, w', T3⟩ := Til.app T2
  obtain ⟨TF, w2, TC⟩ := Til.app T3
  have T4 := T
  rw [e3] at T4
  obtain ⟨_, w3, Tz⟩ := Til.app T4
  have hc2 := hc
  rw [e2, List.map_append, List.map_append] at hc2
  obtain ⟨_, w4, hc3⟩ := chn_app hc2
  have cF := (chn_app hc3).1.low
  have bF := TF.bd
  have x0 := bF _ f0
  have x1 := bF _ f1
  obtain ⟨r, B, eF⟩ : ∃ r B, F' ++ [z] = r :: B := by
    cases F' with
    | nil => exact ⟨z, [], rfl⟩
    | cons r t => exact ⟨r, t ++ [z], rfl⟩
  have pr : r.2.1 = totW (A.map rwF) := by
    have TF := TF
    rw [eF] at TF
    have := TF.1
    omega
  refine ⟨r, B, by rw [en, eF], by omega, ?_, by rw [← eF]; exact cF, fun q hq => sub q (by rw [eF]; exact hq), ?_⟩
  · rw [← eF, pr]
    omega
  rw [← eF, pr]
  generalize ha : totW (A.map rwF) = a at *
  have hlA : ∀ q ∈ A, (blk q).length = q.2.2.1.1 := fun q hq => hl q (by rw [e2]; exact List.mem_append_left _ hq)
  have hlF : ∀ q ∈ F' ++ [z], (blk q).length = q.2.2.1.1 := fun q hq => hl q (sub q hq)
  have lA := blk_len hlA
  have lF := blk_len hlF
  have lR := blk_len hl
  have ex : (rows.map blk).flatten = (A.map blk).flatten ++ (((F' ++ [z]).map blk).flatten ++ (C.map blk).flatten) := by
    rw [e2, List.map_append, List.map_append, List.flatten_append, List.flatten_append]
  have ejs : (plJ 0 (rows.map rwF)).dropLast = (A ++ F').map jrR ++ (z :: C).dropLast.map jrR := by
    rw [plJ_til T, ← List.map_dropLast, e3, List.dropLast_append_of_ne_nil (by simp), List.map_append]
  have ejb : F'.map jrR = ((plJ 0 ((F' ++ [z]).map rwF)).dropLast).map fun j => (j.1 + a, j.2) := by
    have z1 := plJ_til TF
    rw [plJ_sh _ 0 a] at z1
    have z2 := congrArg List.dropLast z1
    rw [← List.map_dropLast, ← List.map_dropLast, List.dropLast_concat] at z2
    exact z2.symm
  have jf : ∀ q : Rw, (jrR q).1 = rend q ∧ (jrR q).2.1 = q.2.2.1.2.1 := fun q => ⟨rfl, rfl⟩
  have key : ∀ i, i < e - s → (sndW (rows.map rwF) (rows.map blk))[s + i]? = (sndW ((F' ++ [z]).map rwF) ((F' ++ [z]).map blk))[s - a + i]? := fun i hi => by
    have es : s + i = a + (s - a + i) := by omega
    rw [es]
    refine seg_get (n := totW (rows.map rwF)) (m := totW ((F' ++ [z]).map rwF)) lR (plJ_rm _ 0 0 _ hc (Nat.zero_add _).symm) lF (plJ_rm _ 0 0 _ cF (Nat.zero_add _).symm) (fun i hi => ?_) (fun j hj => ?_) (fun j hj => ?_) (by omega)
    · rw [ex, List.getElem?_append_right (by rw [lA, ha]; omega), lA, ha, Nat.add_sub_cancel_left, List.getElem?_append_left (by rw [lF]; exact hi)]
    · have m := List.mem_map_of_mem (f := fun j : Jo => (j.1 + a, j.2)) hj
      rw [← ejb] at m
      rw [ejs, List.map_append]
      exact List.mem_append_left _ (List.mem_append_right _ m)
    · rw [ejs, List.map_append] at hj
      rcases List.mem_append.mp hj with hj | hj
      · rcases List.mem_append.mp hj with hj | hj
        · obtain ⟨q, hq, rfl⟩ := List.mem_map.mp hj
          have := hA q hq
          unfold rfar at this
          refine .inr (.inl ?_)
          rw [(jf q).1, (jf q).2]
          unfold rend
          omega
        · rw [ejb] at hj
          obtain ⟨j', hj', e'⟩ := List.mem_map.mp hj
          exact .inl ⟨j', hj', e'.symm⟩
      · obtain ⟨q, hq, rfl⟩ := List.mem_map.mp hj
        obtain ⟨r', hr', k1, k2⟩ := Til.next Tz q hq
        have := hC r' hr'
        unfold rnear at this
        refine .inr (.inr ?_)
        rw [(jf q).1, (jf q).2]
        omega
  refine List.ext_getElem? fun i => ?_
  rw [List.getElem?_take, List.getElem?_take]
  split
  · rename_i c
    rw [List.getElem?_drop, List.getElem?_drop, key i c]
  · rfl
theorem til_rowsF : ∀ (rs : List Rc) (i pl : Nat) (lj : Nat × Nat) (o : Nat), Til pl lj.1 (rowsF i pl lj o rs)
  | [], _, _, _, _ => trivial
  | .st _ :: r, i, pl, lj, o => til_rowsF r (i + 1) pl lj i
  | .fr d _ _ :: r, i, pl, lj, o => ⟨rfl, rfl, til_rowsF r (i + 1) (pl + d.1) (d.2.1, d.2.2.1) o⟩
theorem til_run (rs : List Rc) : Til 0 0 (runR rs).rows := by
  rw [runR_rows]
  exact til_rowsF rs 0 0 (0, 0) 0
theorem til_last : ∀ {rows : List Rw} {p w : Nat} {r : Rw}, Til p w rows → rows.getLast? = some r → rend r = p + totW (rows.map rwF)
  | [], _, _, _, _, e => by cases e
  | [q], p, w, r, ⟨a, _⟩, e => by
    cases e
    rw [List.map_cons, totW_cons]
    show q.2.1 + q.2.2.1.1 = p + (q.2.2.1.1 + 0)
    omega
  | q :: c :: t, p, w, r, ⟨_, _, h⟩, e => by
    rw [List.getLast?_cons_cons] at e
    have := til_last h e
    rw [this, List.map_cons (l := c :: t), totW_cons]
    show p + q.2.2.1.1 + _ = p + (q.2.2.1.1 + _)
    omega
theorem til_len {rows : List Rw} (h : Til 0 0 rows) : lenW rows = totW (rows.map rwF) := by
  unfold lenW
  cases e : rows.getLast? with
  | none =>
    rw [List.getLast?_eq_none_iff.mp e]
    rfl
  | some r =>
    have := til_last h e
    show rend r = _
    omega
theorem rows_bsB : ∀ rs : List Rc, blkR rs = (runR rs).rows.map fun r => kfB r.2.2.1 (nsA rs r.1) := fun rs => by
  rw [← blk_rows rs]
  have key : ∀ (rs : List Rc) (rows : List Rw), rows.map (·.2.2.1) = (rs.filterMap fun r => match r with
    | .st _ => none
    | .fr d _ _ => some d) → blkR rs = (rows.zip (blkF kfN rs)).map fun u => rowB u.1 u.2 := by
    intro rs
    induction rs with
    | nil => intro rows h; cases rows with
      | nil => rfl
      | cons _ _ => cases h
    | cons x t ih =>
      cases x with
      | st T => exact fun rows h => ih rows h
      | fr d ns T =>
        intro rows h
        cases rows with
        | nil => cases h
        | cons r rows =>
          have h : r.2.2.1 :: rows.map (·.2.2.1) = d :: _ := h
          obtain ⟨h1, h2⟩ := List.cons.inj h
          show kfB d ns :: blkR t = rowB r ns :: ((rows.zip (blkF kfN t)).map fun u => rowB u.1 u.2)
          rw [← ih rows h2, ← h1]
          rfl
  refine key rs _ ?_
  have kr : ∀ (rs : List Rc) (i pl : Nat) (lj : Nat × Nat) (o : Nat), (rowsF i pl lj o rs).map (·.2.2.1) = (rs.filterMap fun r => match r with
    | .st _ => none
    | .fr d _ _ => some d) := by
    intro rs
    induction rs with
    | nil => intro i pl lj o; rfl
    | cons x t ih =>
      intro i pl lj o
      cases x with
      | st T => exact ih (i + 1) pl lj i
      | fr d ns T => exact congrArg (d :: ·) (ih (i + 1) (pl + d.1) (d.2.1, d.2.2.1) o)
  rw [runR_rows]
  exact kr rs 0 0 (0, 0) 0
def allB (rs : List Rc) (rows : List Rw) : List (List Int) := rows.map fun r => kfB r.2.2.1 (nsA rs r.1)
theorem blS_all {rs : List Rc} {rows : List Rw} : rows.map (blS rs fun _ => true) = allB rs rows := List.map_congr_left fun r _ => by
  show (if true = true then _ else _) = _
  rw [if_pos rfl]
def spRpt (K : PySem.W.Frag) : SpC := fun f c t vs H Q _ => ∃ (x : Addr) (s e : Nat) (idx : List V) (rows : List Rw) (rs : List Rc) (C : Option Addr) (cs : List Int) (Te : Tb × Tb), vs = [.ref x, .ref f, .int (s : Nat), .int (e : Nat)] ∧ H x = some (.lst idx) ∧ RwsV K H idx rows ∧ idx.length ≤ 40 ∧ RowsO rows ∧ RowsOf rs rows ∧ Vd T0 0 rs Te 0 ∧ rows.map rwF = fwR rs ∧ totW (fwR rs) ≤ 10000 ∧
  Til 0 0 rows ∧ (rows.Pairwise fun a b => rnear a ≤ rnear b ∧ rfar a ≤ rfar b) ∧ s ≤ e ∧ e ≤ totW (fwR rs) ∧ (∀ us : List Nat, rcU (ndW s e rows) 0 = us.map uI → Fetches K t rs us C H) ∧ LogAt C H cs ∧ cs.length ≤ 400 ∧ C ≠ some x ∧ (∃ o, H f = some o) ∧ (∃ o, H c = some o) ∧ C ≠ some f ∧ C ≠ some c ∧
  ∀ (D : Addr) (us : List Nat) (H' : Hp), H D = none → KpL C.toList H H' → LogAt C H' (cs ++ us.map uI) → us.length ≤ 40 → rcU (ndW s e rows) 0 = us.map uI → H' D = some (.lst ((((sndW (fwR rs) (allB rs rows)).drop s).take (e - s)).map V.int)) → Q (.ref D) H'
theorem use_rpt {K : PySem.W.Frag} {f c : Addr} {t : TL} {x : Addr} {zs ze : Int} {s e : Nat} {idx : List V} {rows : List Rw} {rs : List Rc} {C : Option Addr} {cs : List Int} {Te : Tb × Tb} {H : Hp} {Q : VK} {E : XK} (es : zs = (s : Nat)) (ee : ze = (e : Nat)) (h1 : H x = some (.lst idx)) (h2 : RwsV K H idx rows) (h3 : idx.length ≤ 40) (h4 : RowsO rows) (h5 : RowsOf rs rows) (h6 : Vd T0 0 rs Te 0) (h7 : rows.map rwF = fwR rs) (h8 : totW (fwR rs) ≤ 10000)
  (h9 : Til 0 0 rows) (h10 : rows.Pairwise fun a b => rnear a ≤ rnear b ∧ rfar a ≤ rfar b) (k1 : s ≤ e) (k2 : e ≤ totW (fwR rs)) (k3 : ∀ us : List Nat, rcU (ndW s e rows) 0 = us.map uI → Fetches K t rs us C H) (k4 : LogAt C H cs) (k5 : cs.length ≤ 400) (k6 : C ≠ some x) (k7 : ∃ o, H f = some o) (k8 : ∃ o, H c = some o) (k9 : C ≠ some f) (l1 : C ≠ some c)
  (q : ∀ (D : Addr) (us : List Nat) (H' : Hp), H D = none → KpL C.toList H H' → LogAt C H' (cs ++ us.map uI) → us.length ≤ 40 → rcU (ndW s e rows) 0 = us.map uI → H' D = some (.lst ((((sndW (fwR rs) (allB rs rows)).drop s).take (e - s)).map V.int)) → Q (.ref D) H') : spRpt K f c t [.ref x, .ref f, .int zs, .int ze] H Q E := by
  subst es ee
  exact ⟨x, s, e, idx, rows, rs, C, cs, Te, rfl, h1, h2, h3, h4, h5, h6, h7, h8, h9, h10, k1, k2, k3, k4, k5, k6, k7, k8, k9, l1, q⟩
theorem free_log {C : Option Addr} {H H' : Hp} {cs : List Int} {R : Addr} (k : KpL C.toList H H') (l : LogAt C H' cs) (n : H' R = none) : H R = none := KpL.free k n fun z => by
  cases C with
  | none => exact absurd z List.not_mem_nil
  | some c =>
    rw [List.mem_singleton.mp z] at n
    have l : H' c = some _ := l
    rw [n] at l
    cases l
theorem hsub_tot {B rows : List Rw} (h : B.Sublist rows) : totW (B.map rwF) ≤ totW (rows.map rwF) := by
  induction h with
  | slnil => exact Nat.le_refl _
  | cons r _ ih =>
    rw [List.map_cons (l := _), totW_cons]
    omega
  | cons_cons r _ ih =>
    rw [List.map_cons (l := _), List.map_cons (l := _), totW_cons, totW_cons]
    omega
end Z
namespace Z
open PySem PySem.Spec PyProof.Rows L2 LamX NdefX
def inSt : Stmt → Nat → Stmt
  | .For _ _ b _ _, i => b.getD i (.Pass ⟨0, 0, 0, 0⟩)
  | .While _ b _ _, i => b.getD i (.Pass ⟨0, 0, 0, 0⟩)
  | .If _ b _ _, i => b.getD i (.Pass ⟨0, 0, 0, 0⟩)
  | s, _ => s
def noExpr : PySem.Expr := .Name Str.empty ⟨0, 0, 0, 0⟩
def valOf : Stmt → PySem.Expr
  | .Assign _ v _ => v
  | .Return (some v) _ => v
  | .If t _ _ _ => t
  | _ => noExpr
def argOf : PySem.Expr → Nat → PySem.Expr
  | .Call _ as _ _, i => as.getD i noExpr
  | .Compare l _ rs _, i => (l :: rs).getD i noExpr
  | .UnaryOp _ e _, _ => e
  | .BoolOp _ es _, i => es.getD i noExpr
  | .Tuple es _ _, i => es.getD i noExpr
  | .BinOp l _ r _, i => [l, r].getD i noExpr
  | e, _ => e
def lamP : PySem.Expr → Arguments
  | .Lambda a _ _ _ => a
  | _ => ⟨[], [], none, [], [], none, []⟩
def lamB : PySem.Expr → PySem.Expr
  | .Lambda _ b _ _ => b
  | e => e
def lamC : PySem.Expr → Scope
  | .Lambda _ _ s _ => s
  | _ => ⟨.function, [], false, false, []⟩
def tMkLamF (X : Cx) (T : List (Addr × Str)) (e : PySem.Expr) : TE := fun _ H Q => Tabs T H ∧ ∀ (f c : Addr) (pm ctv : Value) (H1 : Hp), H f = none → ExtN H H1 → Tabs T H1 → H1 f = some (LamO f (PySem.W.kla_obj "<lambda>" (X.env.qual ++ "<lambda>") (lamP e) (lamB e) (lamC e) (cloFrom X.env.cells (lamC e).names []) pm c ctv)) → H1 c = some (CodeO c (X.env.qual ++ "<lambda>")) → Q (.ref f) H1
section
variable {X : Cx} {T : List (Addr × Str)} {c P : Addr} {e e' : PySem.Expr} {pos : Pos}
theorem pe_mkLamF (he : e' = .Lambda (lamP e) (lamB e) (lamC e) pos) (TB : TabB X.base X.mg c P) (hcode : X.env.code = .ref c) (hm : (P, X.env.qual ++ "<lambda>") ∈ T) (hu : ∀ p ∈ T, p.1 = P → p.2 = X.env.qual ++ "<lambda>") (hdef : defaultsOf (lamP e) X.env = ([], []))
    (hfree : ∀ y ∈ (lamC e).names, y.2 = .free → X.env.scope.names.lookup y.1 = some .cell ∨ X.env.scope.names.lookup y.1 = some .free) : PE X e' (tMkLamF X T e) := by
  subst he
  refine ⟨fun pins s σ H Q I ⟨hT, h⟩ => lam_made I TB hcode hm hu hT hdef (fun y hy z => ?_) fun f c' pm ctv H1 s' I1 hn eN T1 hl hc => ⟨.ref f, H1, I1, rfl, h f c' pm ctv H1 hn eN T1 hl hc⟩⟩
  rcases hfree y hy z with k | k
  · exact I.ok.has _ (.inl k)
  · exact I.ok.has _ (.inr k)
/-- a lambda of the running body -/
def WLam (X : Cx) (e : PySem.Expr) (js : List Nat) (sp : List (Option V) → TL) : L2.St → Hp → Addr → Addr → TL → Prop := fun σ H f c t => (∃ pm ctv : Value, H f = some (LamO f (PySem.W.kla_obj "<lambda>" (X.env.qual ++ "<lambda>") (lamP e) (lamB e) (lamC e) (cloFrom X.env.cells (lamC e).names []) pm c ctv))) ∧ H c = some (CodeO c (X.env.qual ++ "<lambda>")) ∧ t = sp (js.map (slotAt σ))
theorem src_lam {k : Nat} {N ps fr : List Str} {js : List Nat} {sp : List (Option V) → TL} (S : NScope N ps fr (lamC e))
    (hb : ∀ (q : Str) (cl : List (Str × Addr)) (pm cv ctv : Value) (us : List Value), us.length = ps.length → bindArgs (PySem.W.kla_fn "<lambda>" q (lamP e) (lamB e) (lamC e) cl pm cv ctv) ⟨us, []⟩ = pure (ps.zip us))
    (len : ∀ ws vs H Q, sp ws vs H Q → vs.length = ps.length)
    (hbody : ∀ (f c : Addr) (A : Around) (stack : List Env) (s : Shared) (H : Hp) (vs : List V) (ws : List (Option V)) (Q : VK), Room k (A.deeper (envF ⟨"<lambda>", X.env.qual ++ "<lambda>", lamP e, [], lamC e, cloFrom X.env.cells (lamC e).names [], c⟩ f s.heap.objs.size)) → sp ws vs H Q →
      ∃ te, PE (ncx CX0 X.prog X.w X.K X.mg X.base N ⟨"<lambda>", X.env.qual ++ "<lambda>", lamP e, [], lamC e, cloFrom X.env.cells (lamC e).names [], c⟩ f A stack s H E0) (lamB e) te ∧ te (startF N vs ws) H Q)
    (cp : X.Ok → Caps X (cloFrom X.env.cells (lamC e).names []) fr js) : Src X (k + 1) (WLam X e js sp) := by
  rintro pins s σ H f c t I ⟨⟨pm, ctv, hf⟩, hc, rfl⟩
  exact can_lam S (fun us hl => hb _ _ _ _ _ us hl) (len _) (fun A stack s H vs Q r z => hbody f c A stack s H vs _ Q r z) (cells_of I (cp I.ok)) hf hc
end
def spGet : List (Option V) → TL := fun ws vs H Q => ∃ (R : Addr) (xs : List V) (u : Nat) (v : V), ws = [some (.ref R)] ∧ vs = [.int (u : Nat)] ∧ H R = some (.lst xs) ∧ xs[u]? = some v ∧ Q v H
theorem get_len (ws : List (Option V)) (vs : List V) (H : Hp) (Q : VK) (h : spGet ws vs H Q) : vs.length = 1 := by
  obtain ⟨_, _, _, _, _, rfl, _⟩ := h
  rfl
theorem get_run {K : PySem.W.Frag} {ws : List (Option V)} {vs : List V} {H : Hp} {Q : VK} {a b : Str} (h : spGet ws vs H Q) : tOp (rIxL K) (tVar 1) (tVar 0) (startF [a, b] vs ws) H Q := by
  obtain ⟨R, xs, u, v, rfl, rfl, hR, hu, q⟩ := h
  exact ⟨_, rfl, _, rfl, rd_ixL (SqL.of hR) (atI_nat hu) q⟩
theorem fetches_get {K : PySem.W.Frag} {rs : List Rc} {us : List Nat} {R : Addr} {refs : List V} {H0 : Hp} (h : H0 R = some (.lst refs)) (hr : RcsAt K H0 refs rs) : Fetches K (spGet [some (.ref R)]) rs us none H0 := fun H u r cs Q k _ _ _ hu q => by
  have s : Same H0 H := fun b o e => k b o List.not_mem_nil e
  obtain ⟨v, ev, hv⟩ := All2.ta hr hu
  exact ⟨R, refs, u, v, rfl, rfl, s _ _ h, ev, q v (hv.lk (.of s))⟩
/-- all but the pool and the tables of code stay -/
def KpT (p : Addr) (H H' : Hp) : Prop := ∀ b o, b ≠ p → H b = some o → (∀ ps, o ≠ .tbl ps) → H' b = some o
section
variable {p : Addr} {H H' H1 H2 H3 : Hp}
theorem KpT.refl : KpT p H H := fun _ _ _ e _ => e
theorem KpT.trans (a : KpT p H H1) (b : KpT p H1 H2) : KpT p H H2 := fun c o n e t => b c o n (a c o n e t) t
theorem KpT.of (k : Kp p H H') : KpT p H H' := fun b o n e _ => k b o n e
theorem KpT.ext (s : LamX.ExtN H H') : KpT p H H' := fun b o _ e t => s b o e t
theorem KpT.same (s : Same H H') : KpT p H H' := fun b o _ e _ => s b o e
theorem KpT.new {q : Addr} {o : HO} (n : H q = none) : KpT p H (upd H q o) := KpT.same (same_new n)
theorem KpT.lst {b : Addr} {xs : List V} (k : KpT p H H') (n : b ≠ p) (e : H b = some (.lst xs)) : H' b = some (.lst xs) := k _ _ n e lst_ntbl
theorem KpT.lkx (hP : Pool H p) (k : KpT p H H') : LKX H H' := fun b o e n _ t => k b o (fun z => by
  obtain ⟨x, y, h, _⟩ := hP
  rw [z, h] at e
  exact n _ (Option.some.inj e).symm) e t
theorem extN_kpT (n : H p = none) (s : LamX.ExtN H H1) (k : KpT p H1 H2) : LamX.ExtN H H2 := fun b o e t => k b o (ne_of_none e n) (s b o e t) t
end
end Z
namespace Z
open PySem PySem.Spec PyProof.Rows L2 LamX
def dHd : DecidableEq Hd := inferInstance
instance dRw : DecidableEq Rw := @instDecidableEqProd _ _ inferInstance (@instDecidableEqProd _ _ inferInstance (@instDecidableEqProd _ _ dHd (@instDecidableEqProd _ _ inferInstance inferInstance)))
/-- the tables of the law, in the heap -/
def KnAt (H : Hp) (v : V) (k : List Nat × Int × Int) : Prop := ∃ c a b t : Addr, v = .ref c ∧ H c = some (.tup [.ref a, .ref b]) ∧ H a = some (.lst (k.1.map nv)) ∧ H b = some (.lst [.ref t]) ∧ H t = some (.tup [.int k.2.1, .int k.2.2])
def PtAt (H : Hp) (v : V) (k : Int × Int × List Int) : Prop := ∃ c q l : Addr, v = .ref c ∧ H c = some (.tup [.ref q, .ref l]) ∧ H q = some (.tup [.int k.1, .int k.2.1]) ∧ H l = some (.lst (k.2.2.map V.int))
theorem KnAt.same {H H' : Hp} {v : V} {k : List Nat × Int × Int} (s : Same H H') (h : KnAt H v k) : KnAt H' v k := by
  obtain ⟨c, a, b, t, e, h1, h2, h3, h4⟩ := h
  exact ⟨c, a, b, t, e, s _ _ h1, s _ _ h2, s _ _ h3, s _ _ h4⟩
theorem PtAt.same {H H' : Hp} {v : V} {k : Int × Int × List Int} (s : Same H H') (h : PtAt H v k) : PtAt H' v k := by
  obtain ⟨c, a, b, e, h1, h2, h3⟩ := h
  exact ⟨c, a, b, e, s _ _ h1, s _ _ h2, s _ _ h3⟩
theorem hd39_0 {H : Hp} {u j : Addr} (h1 : H u = some (.tup [.int 4, .ref j, .int 1, .int 1])) (h2 : H j = some (.tup [.int 2, .int 1])) : ∃ h k, V.ref u = .ref h ∧ HdAt H h k (4, 2, 1, 1, 1) := ⟨u, j, rfl, h1, h2⟩
theorem hd39_2 {H : Hp} {u j : Addr} (h1 : H u = some (.tup [.int 2, .ref j, .int 0, .int 1])) (h2 : H j = some (.tup [.int 0, .int 0])) : ∃ h k, V.ref u = .ref h ∧ HdAt H h k (2, 0, 0, 0, 1) := ⟨u, j, rfl, h1, h2⟩
theorem KnAt.ext {H H' : Hp} {v : V} {k : List Nat × Int × Int} (s : ExtN H H') (h : KnAt H v k) : KnAt H' v k := by
  obtain ⟨c, a, b, t, e, h1, h2, h3, h4⟩ := h
  exact ⟨c, a, b, t, e, s _ _ h1 (fun _ z => nomatch z), s _ _ h2 lst_ntbl, s _ _ h3 lst_ntbl, s _ _ h4 (fun _ z => nomatch z)⟩
end Z
namespace Z
open PySem PySem.Spec PyProof.Rows L2 LamX
/-- records of small numbers -/
def SmR (rs : List Rc) : Prop := ∀ r ∈ rs, match r with
  | .st T => TbOk (10 ^ 8) T.1 ∧ TbOk (10 ^ 8) T.2
  | .fr _ ns _ => ∀ z ∈ ns, z.natAbs ≤ 30000
theorem SmR.nil : SmR [] := fun _ h => absurd h List.not_mem_nil
theorem SmR.st {rs : List Rc} {T : Tb × Tb} (h : SmR rs) (h1 : TbOk (10 ^ 8) T.1) (h2 : TbOk (10 ^ 8) T.2) : SmR (rs ++ [.st T]) := fun r hr => by
  rcases List.mem_append.mp hr with m | m
  · exact h r m
  · rw [List.mem_singleton.mp m]
    exact ⟨h1, h2⟩
theorem SmR.fr {rs : List Rc} {d : Hd} {ns : List Int} {T : Tb × Tb} (h : SmR rs) (h1 : ∀ z ∈ ns, z.natAbs ≤ 30000) : SmR (rs ++ [.fr d ns T]) := fun r hr => by
  rcases List.mem_append.mp hr with m | m
  · exact h r m
  · rw [List.mem_singleton.mp m]
    exact h1
/-- b is a with other numbers in the frame wh and, if ab, in those behind it up to the next state; k frames so far, o: such a one was met since the last state -/
inductive OthP (wh : Nat) (ab : Bool) : List Rc → List Rc → Nat → Bool → Prop
  | nil : OthP wh ab [] [] 0 false
  | st {a b : List Rc} {k : Nat} {o : Bool} {T : Tb × Tb} : OthP wh ab a b k o → OthP wh ab (a ++ [.st T]) (b ++ [.st T]) k false
  | fr {a b : List Rc} {k : Nat} {o : Bool} {d : Hd} {ns ms : List Int} {T T' : Tb × Tb} (c : Bool) : OthP wh ab a b k o → (c = true → k = wh ∨ (o = true ∧ ab = true)) → (c = false → ms = ns) → OthP wh ab (a ++ [.fr d ns T]) (b ++ [.fr d ms T']) (k + 1) (o || c)
theorem OthP.run {wh : Nat} {ab : Bool} {a b : List Rc} {k : Nat} {o : Bool} (h : OthP wh ab a b k o) : runR b = runR a ∧ (runR a).rows.length = k ∧ b.length = a.length := by
  induction h with
  | nil => exact ⟨rfl, rfl, rfl⟩
  | st h ih =>
    rw [runR_snoc, runR_snoc, ih.1]
    exact ⟨rfl, ih.2.1, by rw [List.length_append, List.length_append, ih.2.2]⟩
  | fr c h _ _ ih =>
    rw [runR_snoc, runR_snoc, ih.1]
    refine ⟨rfl, ?_, by rw [List.length_append, List.length_append, ih.2.2, List.length_singleton, List.length_singleton]⟩
    show ((runR _).rows ++ [_]).length = _
    rw [List.length_append, ih.2.1]
    rfl
theorem run_o : ∀ rs : List Rc, (runR rs).o ≤ rs.length := list_snoc (Nat.le_refl _) fun rs x h => by
  rw [runR_snoc, List.length_append]
  cases x with
  | st T =>
    show (runR rs).i ≤ _
    rw [runR_i]
    exact Nat.le_add_right _ _
  | fr d ns T => exact Nat.le_trans h (Nat.le_add_right _ _)
theorem nsA_app {rs : List Rc} {x : Rc} {u : Nat} (h : u < rs.length) : nsA (rs ++ [x]) u = nsA rs u := by
  unfold nsA
  rw [List.getElem?_append_left h]
theorem nsA_last {rs : List Rc} {d : Hd} {ns : List Int} {T : Tb × Tb} : nsA (rs ++ [.fr d ns T]) rs.length = ns := by
  unfold nsA
  rw [List.getElem?_append_right (Nat.le_refl _), Nat.sub_self]
  rfl
/-- only frames that cannot be read without that record have other numbers -/
theorem OthP.ns {wh : Nat} {ab : Bool} {a b : List Rc} {k : Nat} {o : Bool} (h : OthP wh ab a b k o) : (o = true → ∃ w, (runR a).rows[wh]? = some w ∧ (runR a).o ≤ w.1) ∧ ∀ r ∈ (runR a).rows, nsA b r.1 = nsA a r.1 ∨ ∃ w, (runR a).rows[wh]? = some w ∧ r.2.2.2.2 ≤ w.1 ∧ w.1 ≤ r.1 := by
  induction h with
  | nil => exact ⟨fun z => (nomatch z), fun r hr => absurd hr List.not_mem_nil⟩
  | @st a b k o T h ih =>
    have lt := (rowsOf' a).2.2.2
    have lb := h.run.2.2
    refine ⟨fun z => (nomatch z), fun r hr => ?_⟩
    rw [runR_snoc] at hr ⊢
    rw [nsA_app (by rw [lb]; exact lt r hr), nsA_app (lt r hr)]
    exact ih.2 r hr
  | @fr a b k o d ns ms T T' c h hc hn ih =>
    have lt := (rowsOf' a).2.2.2
    have lb := h.run.2.2
    have lk := h.run.2.1
    have er : (runR (a ++ [Rc.fr d ns T])).rows = (runR a).rows ++ [((runR a).i, (runR a).pl, d, (runR a).lj, (runR a).o)] := by rw [runR_snoc]; rfl
    have eo : (runR (a ++ [Rc.fr d ns T])).o = (runR a).o := by rw [runR_snoc]; rfl
    have ro := run_o a
    have up : ∀ {w : Rw}, (runR a).rows[wh]? = some w → ((runR a).rows ++ [((runR a).i, (runR a).pl, d, (runR a).lj, (runR a).o)])[wh]? = some w := fun e => by
      rw [List.getElem?_append_left (List.getElem?_eq_some_iff.mp e).1]
      exact e
    have own : k = wh → ((runR a).rows ++ [((runR a).i, (runR a).pl, d, (runR a).lj, (runR a).o)])[wh]? = some ((runR a).i, (runR a).pl, d, (runR a).lj, (runR a).o) := fun e => by
      rw [← e, ← lk, List.getElem?_append_right (Nat.le_refl _), Nat.sub_self]
      rfl
    rw [er, eo]
    refine ⟨fun z => ?_, fun r hr => ?_⟩
    · by_cases ho : o = true
      · obtain ⟨w, e, l⟩ := ih.1 ho
        exact ⟨w, up e, l⟩
      · have hct : c = true := by
          cases o with
          | true => exact absurd rfl ho
          | false => exact z
        rcases hc hct with e | ⟨e, _⟩
        · refine ⟨_, own e, ?_⟩
          show (runR a).o ≤ (runR a).i
          rw [runR_i]
          exact ro
        · exact absurd e ho
    · rcases List.mem_append.mp hr with m | m
      · rw [nsA_app (by rw [lb]; exact lt r m), nsA_app (lt r m)]
        rcases ih.2 r m with z | ⟨w, e, l⟩
        · exact .inl z
        · exact .inr ⟨w, up e, l⟩
      · obtain rfl := List.mem_singleton.mp m
        have ei := runR_i a
        have e1 : nsA (a ++ [Rc.fr d ns T]) (runR a).i = ns := by rw [ei]; exact nsA_last
        have e2 : nsA (b ++ [Rc.fr d ms T']) (runR a).i = ms := by rw [ei, ← lb]; exact nsA_last
        cases c with
        | false => exact .inl (e2.trans ((hn rfl).trans e1.symm))
        | true =>
          rcases hc rfl with e | ⟨e, _⟩
          · exact .inr ⟨_, own e, by show (runR a).o ≤ (runR a).i; omega, Nat.le_refl _⟩
          · obtain ⟨w, ew, l⟩ := ih.1 e
            have := lt w (List.mem_of_getElem? ew)
            exact .inr ⟨w, up ew, l, by show w.1 ≤ (runR a).i; omega⟩
theorem RcsAt.snoc {K : PySem.W.Frag} {H : Hp} {vs : List V} {rs : List Rc} {v : V} {r : Rc} (h : RcsAt K H vs rs) (k : RcAt K H v r) : RcsAt K H (vs ++ [v]) (rs ++ [r]) := All2.app h k
/-- a sample is told by the frames that reach it -/
theorem snd_at {rows : List Rw} {b1 b2 : Rw → List Int} (T : Til 0 0 rows) (hc : Chn 0 (rows.map rwF)) (mo : rows.Pairwise fun a b => rnear a ≤ rnear b ∧ rfar a ≤ rfar b) (l1 : ∀ r ∈ rows, (b1 r).length = r.2.2.1.1) (l2 : ∀ r ∈ rows, (b2 r).length = r.2.2.1.1) {t : Nat} (ht : t < totW (rows.map rwF))
    (ag : ∀ r ∈ rows, rnear r ≤ t → (t : Int) < rfar r → b1 r = b2 r) : (sndW (rows.map rwF) (rows.map b1))[t]? = (sndW (rows.map rwF) (rows.map b2))[t]? := by
  obtain ⟨r, B, e, _, _, _, m, q1⟩ := part_eq (blk := b1) T hc mo l1 (Nat.lt_succ_self t) ht
  obtain ⟨r', B', e', _, _, _, _, q2⟩ := part_eq (blk := b2) T hc mo l2 (Nat.lt_succ_self t) ht
  rw [e] at e'
  obtain ⟨rfl, rfl⟩ := List.cons.inj e'
  have same : (r :: B).map b1 = (r :: B).map b2 := List.map_congr_left fun x hx => by
    have hx2 : x ∈ ndW (t : Int) ((t + 1 : Nat) : Int) rows := by rw [e]; exact hx
    unfold ndW at hx2
    rw [if_neg (by omega)] at hx2
    obtain ⟨hm, hs⟩ := List.mem_filter.mp hx2
    unfold selW at hs
    simp only [Bool.and_eq_true, decide_eq_true_eq] at hs
    exact ag x hm (by omega) hs.2
  rw [same] at q1
  have q := q1.trans q2.symm
  have h := congrArg List.head? q
  rw [List.head?_take, List.head?_take, if_neg (by omega), if_neg (by omega), List.head?_drop, List.head?_drop] at h
  exact h
theorem touched_cov {rows : List Rw} {ns : List Int} {N : Nat} (m : RowsM rows N) (p : Int) : cov (tchW rows ns) p = true ↔ ∃ r ∈ rows, hitL ns r = true ∧ rnear r ≤ p ∧ p < rfar r := by
  have asc : (ixsW (hitL ns) rows rows.length).Pairwise (· < ·) := (List.pairwise_lt_range).sublist (List.filter_sublist)
  have hv : ∀ v ∈ (rowsAt rows (ixsW (hitL ns) rows rows.length)).map ivW, v.1 < v.2 := fun v hv => by
    obtain ⟨r, hr, rfl⟩ := List.mem_map.mp hv
    exact m.ne r (rowsAt_mem hr)
  have hp : ((rowsAt rows (ixsW (hitL ns) rows rows.length)).map ivW).Pairwise fun a b => a.1 ≤ b.1 ∧ a.2 ≤ b.2 := List.pairwise_map.mpr (rowsAt_mono m asc)
  unfold tchW
  rw [(mgA_ok hv hp).cv, cov_iff]
  constructor
  · rintro ⟨v, h, h1, h2⟩
    obtain ⟨r, hr, rfl⟩ := List.mem_map.mp h
    obtain ⟨j, hj, e⟩ := List.mem_filterMap.mp hr
    refine ⟨r, List.mem_of_getElem? e, ?_, h1, h2⟩
    exact (ixsW_at (f := hitL ns) e).symm.trans (decide_eq_true hj)
  · rintro ⟨r, hr, hh, h1, h2⟩
    obtain ⟨j, e⟩ := List.mem_iff_getElem?.mp hr
    refine ⟨ivW r, List.mem_map.mpr ⟨r, List.mem_filterMap.mpr ⟨j, ?_, e⟩, rfl⟩, h1, h2⟩
    exact of_decide_eq_true ((ixsW_at (f := hitL ns) e).trans hh)
section
variable {rs rs2 : List Rc} {wh k : Nat} {o : Bool} {w : Rw} {Te Te2 : Tb × Tb}
theorem OthP.keep (hO : OthP wh true rs rs2 k o) (hw : (runR rs).rows[wh]? = some w) {r : Rw} (hr : r ∈ (runR rs).rows) (hh : hitL [(w.1 : Int)] r = false) : nsA rs2 r.1 = nsA rs r.1 := by
  rcases hO.ns.2 r hr with z | ⟨w', e, l1, l2⟩
  · exact z
  · rw [hw] at e
    cases e
    have : hitL [(w.1 : Int)] r = true := hitL_iff.mpr ⟨_, List.mem_cons_self, by omega, by omega⟩
    rw [hh] at this
    cases this
theorem OthP.len (hO : OthP wh true rs rs2 k o) (hV2 : Vd T0 0 rs2 Te2 0) {r : Rw} (hr : r ∈ (runR rs).rows) : (nsA rs2 r.1).length = r.2.2.1.1 := by
  rw [← hO.run.1] at hr
  obtain ⟨ns, T, e1, e2, e3, e4⟩ := (rowsOf rs2).at_ hV2 hr
  rw [e2, e4]
theorem OthP.out (hO : OthP wh true rs rs2 k o) (hV : Vd T0 0 rs Te 0) (hV2 : Vd T0 0 rs2 Te2 0) (hw : (runR rs).rows[wh]? = some w) {t : Nat} (ht : t < totW (fwR rs)) (hc : cov (tchW (runR rs).rows [(w.1 : Int)]) t = false) :
    (sndW (fwR rs) (allB rs2 (runR rs).rows))[t]? = (sndW (fwR rs) (allB rs (runR rs).rows))[t]? ∧ (sndW (fwR rs) ((runR rs).rows.map (blS rs fun r => !hitL [(w.1 : Int)] r)))[t]? = (sndW (fwR rs) (allB rs (runR rs).rows))[t]? := by
  have til := til_run rs
  have m := rowsM_of hV
  have hfw := rows_fw rs
  have chn : Chn 0 ((runR rs).rows.map rwF) := by rw [hfw]; exact hV.chn
  have ht2 : t < totW ((runR rs).rows.map rwF) := by rw [hfw]; exact ht
  have no : ∀ r ∈ (runR rs).rows, rnear r ≤ t → (t : Int) < rfar r → hitL [(w.1 : Int)] r = false := fun r hr h1 h2 => by
    cases h : hitL [(w.1 : Int)] r with
    | false => rfl
    | true =>
      have := (touched_cov (ns := [(w.1 : Int)]) m t).mpr ⟨r, hr, h, h1, h2⟩
      rw [hc] at this
      cases this
  have l1 : ∀ r ∈ (runR rs).rows, (nsA rs r.1).length = r.2.2.1.1 := fun r hr => by
    obtain ⟨ns, T, e1, e2, e3, e4⟩ := (rowsOf rs).at_ hV hr
    rw [e2, e4]
  rw [← hfw]
  exact ⟨snd_at til chn m.mo (fun r hr => kfB_len2 (hO.len hV2 hr)) (fun r hr => kfB_len2 (l1 r hr)) ht2 fun r hr h1 h2 => by rw [hO.keep hw hr (no r hr h1 h2)],
    snd_at til chn m.mo (fun r hr => blS_len fun _ => l1 r hr) (fun r hr => kfB_len2 (l1 r hr)) ht2 fun r hr h1 h2 => by show (if (!hitL [(w.1 : Int)] r) = true then _ else _) = _; rw [no r hr h1 h2]; rfl⟩
end
theorem sndR_all (rs : List Rc) : sndR rs = sndW (fwR rs) (allB rs (runR rs).rows) := by
  unfold sndR
  rw [rows_bsB rs]
  rfl
theorem OthP.lens {rs rs2 : List Rc} {wh k : Nat} {o : Bool} {Te Te2 : Tb × Tb} (hO : OthP wh true rs rs2 k o) (hV : Vd T0 0 rs Te 0) (hV2 : Vd T0 0 rs2 Te2 0) (p : Rw → Bool) : (sndW (fwR rs) (allB rs (runR rs).rows)).length = totW (fwR rs) ∧ (sndW (fwR rs) (allB rs2 (runR rs).rows)).length = totW (fwR rs) ∧ (sndW (fwR rs) ((runR rs).rows.map (blS rs p))).length = totW (fwR rs) := by
  have l1 : ∀ r ∈ (runR rs).rows, (nsA rs r.1).length = r.2.2.1.1 := fun r hr => by
    obtain ⟨ns, T, e1, e2, e3, e4⟩ := (rowsOf rs).at_ hV hr
    rw [e2, e4]
  unfold sndW
  rw [turnL_length, turnL_length, turnL_length, ← rows_fw rs]
  exact ⟨blk_len fun r hr => kfB_len2 (l1 r hr), blk_len fun r hr => kfB_len2 (hO.len hV2 hr), blk_len fun r hr => blS_len fun _ => l1 r hr⟩
end Z
namespace Z
open PySem PySem.Spec PyProof.Rows L2 LamX NdefX
def kwOf : PySem.Expr → Nat → PySem.Expr
  | .Call _ _ ks _, i => (ks.map Keyword.value).getD i noExpr
  | e, _ => e
def tCallFCK (sp : SpC) (gV : List V → List V → List V) (W : L2.St → Hp → Addr → Addr → TL → Prop) (tk : TA) : TE := fun σ H Q => tk σ H fun zs H1 => ∃ f c t, W σ H1 f c t ∧ sp f c t (gV [] zs) H1 Q E0
section
variable {X : Cx} {k m : Nat} {g : Addr} {fd : FuncData} {ps ks : List Str} {sp : SpC} {W : L2.St → Hp → Addr → Addr → TL → Prop} {x : Str} {p pos : Pos} {kws : List Keyword} {tk : TA} {gk : List Value → List Value → List Value} {gV : List V → List V → List V}
theorem pe_callFCK0 (F : FnC X.prog X.w X.K X.mg X.base k m g fd ps sp) (src : Src X m W) (hr : Room k X.A) (hg : Gl X x) (hm : X.mg x = some (.ref g)) (hk : PySem.W.keepIn X.K (.ref g) = true) (hb : KBinds X.K fd ps ks gk gV)
    (hkw : PK X kws tk) (hall : (backToKw pos (keywordEach kws X.env)).all (·.1.isSome) = true := by rfl) (hks : (backToKw pos (keywordEach kws X.env)).filterMap (·.1) = ks := by rfl)
    (hdb : (x == ("__debug__" : Str)) = false := by decide)
    (hpl : ((backTo pos (starEach [] X.env)).any (·.1) || (backToKw pos (keywordEach kws X.env)).any (·.1.isNone)) = false := by rfl) :
    PE X (.Call (.Name x p) [] kws pos) (tCallFCK sp gV W tk) := by
  refine ⟨fun pins s σ H Q I h => ?_⟩
  refine wpAny_Call_Name_kw (ld_glob I hg hm ?_ hdb)
  refine PySem.W.callWith_KW0 (h₀ := X.base) I.ok.mod.kin hk hall (thn (hkw.run pos pins s σ H _ I h) fun ws s1 ⟨zs, H1, I1, rz, q⟩ => ⟨I1.kIn, ?_⟩) hpl
  rw [hks]
  obtain ⟨f, c, t, hw, q⟩ := q
  have r2 := hb.rel (vs := []) (us := []) .nil rz
  have hl : (gk [] ws).length = ps.length := by rw [← r2.length]; exact F.many _ _ _ _ _ _ _ q
  refine wpAny_call (codeAny_mono (F.runs f c t X.A X.stack s1 H1 ⟨[], ks.zip ws⟩ (gk [] ws) (gV [] zs) Q E0 hr (src pins s1 σ H1 f c t I1 hw) I1.env0 (hb.to s1 [] ws I1.kIn hl) r2 q) fun r s' z => ?_)
  rcases r with e | fl
  · exact (show False from z).elim
  · rcases fl with _ | _ | _ | u
    · exact z.elim
    · exact z.elim
    · exact z.elim
    · exact I1.after z
end
theorem rd_cFCK {sp : SpC} {gV : List V → List V → List V} {W : L2.St → Hp → Addr → Addr → TL → Prop} {tk : TA} {σ : L2.St} {H : Hp} {Q : VK} (h : tk σ H fun zs H1 => ∃ f c t, W σ H1 f c t ∧ sp f c t (gV [] zs) H1 Q E0) : tCallFCK sp gV W tk σ H Q := h
/-- what is salvaged of records that are all good -/
def spSal (K : PySem.W.Frag) : Sp := fun vs H Q _ => ∃ (x R : Addr) (idx refs : List V) (rows : List Rw) (rs : List Rc) (Te : Tb × Tb), vs = [.ref x, .ref R] ∧ H x = some (.lst idx) ∧ RwsV K H idx rows ∧ idx.length ≤ 40 ∧ RowsO rows ∧ RowsOf rs rows ∧ Vd T0 0 rs Te 0 ∧ rows.map rwF = fwR rs ∧ totW (fwR rs) ≤ 10000 ∧ H R = some (.lst refs) ∧ RcsAt K H refs rs ∧ refs.length ≤ 400 ∧
  ∀ (D S L : Addr) (H' : Hp), H D = none → Same H H' → H' D = some (.tup [.ref S, .ref L]) → H' S = some (.lst ((sndW (fwR rs) (allB rs rows)).map V.int)) → H' L = some (.lst []) → Q (.ref D) H'
theorem use_sal {K : PySem.W.Frag} {x R : Addr} {idx refs : List V} {rows : List Rw} {rs : List Rc} {Te : Tb × Tb} {H : Hp} {Q : VK} {E : XK} (h1 : H x = some (.lst idx)) (h2 : RwsV K H idx rows) (h3 : idx.length ≤ 40) (h4 : RowsO rows) (h5 : RowsOf rs rows) (h6 : Vd T0 0 rs Te 0) (h7 : rows.map rwF = fwR rs) (h8 : totW (fwR rs) ≤ 10000) (h9 : H R = some (.lst refs)) (k1 : RcsAt K H refs rs) (k2 : refs.length ≤ 400)
  (q : ∀ (D S L : Addr) (H' : Hp), H D = none → Same H H' → H' D = some (.tup [.ref S, .ref L]) → H' S = some (.lst ((sndW (fwR rs) (allB rs rows)).map V.int)) → H' L = some (.lst []) → Q (.ref D) H') : spSal K [.ref x, .ref R] H Q E := ⟨x, R, idx, refs, rows, rs, Te, rfl, h1, h2, h3, h4, h5, h6, h7, h8, h9, k1, k2, q⟩
/-- the stream of the law -/
def hs45 : List Hd := [(4, 2, 1, 1, 1), (6, 1, 0, 2, 3), (2, 0, 0, 0, 1), (5, 0, 0, 3, 2)]
theorem ch45 : Ch 0 hs45 0 := by
  unfold hs45
  refine ⟨?_, by decide, ?_, by decide, ?_, by decide, ?_, by decide, rfl⟩ <;> (unfold HdOk; decide)
theorem hd45_1 {H : Hp} {u j : Addr} (h1 : H u = some (.tup [.int 6, .ref j, .int 2, .int 3])) (h2 : H j = some (.tup [.int 1, .int 0])) : ∃ h k, V.ref u = .ref h ∧ HdAt H h k (6, 1, 0, 2, 3) := ⟨u, j, rfl, h1, h2⟩
theorem hd45_3 {H : Hp} {u j : Addr} (h1 : H u = some (.tup [.int 5, .ref j, .int 3, .int 2])) (h2 : H j = some (.tup [.int 0, .int 0])) : ∃ h k, V.ref u = .ref h ∧ HdAt H h k (5, 0, 0, 3, 2) := ⟨u, j, rfl, h1, h2⟩
theorem len45 (xs : List Int) : (encA 2 hs45 xs).length = 5 := by
  unfold encA hs45
  rfl
theorem tot45 : totH hs45 = 17 := by decide
theorem fw45 (xs : List Int) : totW (fwR (encA 2 hs45 xs)) = 17 := by
  unfold encA
  rw [encR_fw]
  decide
theorem sm_sal {K : PySem.W.Frag} {H : Hp} {p q a b c d : Addr} {ns : List Int} (hp : H p = some (.tup [.ref a, .ref b])) (hq : H q = some (.tup [.ref c, .ref d])) (h1 : H a = some (.lst (ns.map V.int))) (h2 : H c = some (.lst (ns.map V.int))) (h3 : H b = some (.lst [])) (h4 : H d = some (.lst [])) : SmV K H 3 (.ref p) (.ref q) := by
  refine .inr (.inr ⟨p, q, _, _, rfl, rfl, .of hp, .of hq, rfl, fun i x y e1 e2 => ?_⟩)
  rcases i with _ | _ | i
  · cases e1; cases e2; exact sm_ints2 h1 h2
  · cases e1; cases e2; exact sm_ints2 (ns := []) h3 h4
  · simp at e1
end Z
namespace Z
open PySem PySem.Spec PyProof.Rows L2 LamX NdefX
/-- the numbers of a frame are a list that is not in H0 -/
def MF (H0 H : Hp) (v : V) : Prop := ∃ a b m t q : Addr, v = .ref a ∧ H a = some (.tup [.ref b, .ref m, .ref t, .ref q]) ∧ H0 m = none
theorem MF.lk {H0 H H' : Hp} {v : V} (s : LK H H') (h : MF H0 H v) : MF H0 H' v := by
  obtain ⟨a, b, m, t, q, e, h1, h2⟩ := h
  exact ⟨a, b, m, t, q, e, s _ _ h1 (fun _ z => nomatch z), h2⟩
theorem MF.lki {H0 H H' : Hp} {v : V} (s : LKI H H') (h : MF H0 H v) : MF H0 H' v := by
  obtain ⟨a, b, m, t, q, e, h1, h2⟩ := h
  exact ⟨a, b, m, t, q, e, s _ _ h1 (fun _ z => nomatch z) (fun _ _ _ z => nomatch z), h2⟩
theorem MF.back {H0 H1 H : Hp} {v : V} (s : Same H0 H1) (h : MF H1 H v) : MF H0 H v := by
  obtain ⟨a, b, m, t, q, e, h1, h2⟩ := h
  exact ⟨a, b, m, t, q, e, h1, s.free h2⟩
def spFrsN (K : PySem.W.Frag) : Sp := fun vs H Q _ => ∃ a refs rs T, vs = [.ref a] ∧ H a = some (.lst refs) ∧ refs.length ≤ 400 ∧ RcsAt K H refs rs ∧ Vd T0 0 rs T 0 ∧ ∀ F fms H', H F = none → H' F = some (.lst fms) → FmsAt K [] H' fms (frR 0 0 (0, 0) rs) → Same H H' → (∀ v ∈ fms, MF H H' v) → Q (.ref F) H'
theorem use_frsN {K : PySem.W.Frag} {a : Addr} {refs : List V} {rs : List Rc} {T : Tb × Tb} {H : Hp} {Q : VK} {E : XK} (h : H a = some (.lst refs)) (hl : refs.length ≤ 400) (hR : RcsAt K H refs rs) (hV : Vd T0 0 rs T 0) (q : ∀ F fms H', H F = none → H' F = some (.lst fms) → FmsAt K [] H' fms (frR 0 0 (0, 0) rs) → Same H H' → (∀ v ∈ fms, MF H H' v) → Q (.ref F) H') : spFrsN K ([.ref a] ++ []) H Q E := ⟨a, refs, rs, T, rfl, h, hl, hR, hV, q⟩
/-- a stream whose lists are not in H0 -/
def StmN (K : PySem.W.Frag) (C : Addr) (H0 H : Hp) (x : Addr) (refs : List V) (rs : List Rc) : Prop := ∃ dx L F fms Te, H x = some (.ins C dx (sf L F)) ∧ H L = some (.lst refs) ∧ refs.length ≤ 400 ∧ RcsAt K H refs rs ∧ Vd T0 0 rs Te 0 ∧ H F = some (.lst fms) ∧ FmsAt K [] H fms (frR 0 0 (0, 0) rs) ∧ H0 L = none ∧ H0 F = none ∧ ∀ v ∈ fms, MF H0 H v
section
variable {K : PySem.W.Frag} {C x p : Addr} {H0 H1 H H' : Hp} {refs : List V} {rs : List Rc}
theorem StmN.at_ (h : StmN K C H0 H x refs rs) : StmAt K C H x refs rs := by
  obtain ⟨dx, L, F, fms, Te, h1, h2, h3, h4, h5, h6, h7, _⟩ := h
  exact ⟨dx, L, F, fms, Te, h1, h2, h3, h4, h5, h6, h7⟩
theorem StmN.back (s : Same H0 H1) (h : StmN K C H1 H x refs rs) : StmN K C H0 H x refs rs := by
  obtain ⟨dx, L, F, fms, Te, h1, h2, h3, h4, h5, h6, h7, h8, h9, k⟩ := h
  exact ⟨dx, L, F, fms, Te, h1, h2, h3, h4, h5, h6, h7, s.free h8, s.free h9, fun v hv => (k v hv).back s⟩
theorem FmAt.kpT {v : V} {f : Fm} (hp : ∃ o, H0 p = some o) (lk : LKX H H') (k : KpT p H H') (m : MF H0 H v) (h : FmAt K [] H v f) : FmAt K [] H' v f := by
  obtain ⟨a, b, jl, j, m1, t, q, e, h1, h2, h3, h4, h5, h6, h7, h8⟩ := h
  obtain ⟨a', b', m', t', q', e', g1, g2⟩ := m
  rw [e] at e'
  obtain rfl : a = a' := by cases e'; rfl
  rw [h1] at g1
  obtain rfl : m1 = m' := by cases g1; rfl
  obtain ⟨o, ho⟩ := hp
  have nm : m1 ≠ p := (ne_of_none ho g2).symm
  exact ⟨a, b, jl, j, m1, t, q, e, lk.tup h1, lk.tup h2, TupV.lkx lk h3, lk.tup h4, h5, k.lst nm h6, TbsV.lkx lk h7, TbsV.lkx lk h8⟩
theorem FmsAt.kpT {vs : List V} {fs : List Fm} (hp : ∃ o, H0 p = some o) (lk : LKX H H') (k : KpT p H H') (mf : ∀ v ∈ vs, MF H0 H v) (h : FmsAt K [] H vs fs) : FmsAt K [] H' vs fs := by
  unfold FmsAt at h ⊢
  induction h with
  | nil => exact .nil
  | cons e _ ih => exact .cons (e.kpT hp lk k (mf _ List.mem_cons_self)) (ih fun v hv => mf v (List.mem_cons_of_mem _ hv))
theorem MF.lkx {v : V} (s : LKX H H') (h : MF H0 H v) : MF H0 H' v := by
  obtain ⟨a, b, m, t, q, e, h1, h2⟩ := h
  exact ⟨a, b, m, t, q, e, s.tup h1, h2⟩
theorem StmN.kpT (hp : ∃ o, H0 p = some o) (n : x ≠ p) (lk : LKX H H') (k : KpT p H H') (h : StmN K C H0 H x refs rs) : StmN K C H0 H' x refs rs := by
  obtain ⟨dx, L, F, fms, Te, h1, h2, h3, h4, h5, h6, h7, h8, h9, mf⟩ := h
  obtain ⟨o, ho⟩ := id hp
  refine ⟨dx, L, F, fms, Te, k _ _ n h1 (fun _ z => nomatch z), k.lst (ne_of_none ho h8).symm h2, h3, h4.imp fun _ _ z => RcAt.lkx lk z, h5, k.lst (ne_of_none ho h9).symm h6, ?_, h8, h9, fun v hv => (mf v hv).lkx lk⟩
  exact FmsAt.kpT hp lk k mf h7
end
def spInitN (K : PySem.W.Frag) (C : Addr) : Sp := fun vs H Q _ => ∃ (x a dx : Addr) (refs : List V) (rs : List Rc) (Te : Tb × Tb), vs = [.ref x, .ref a] ∧ H x = some (.ins C dx []) ∧ H a = some (.lst refs) ∧ refs.length ≤ 400 ∧ RcsAt K H refs rs ∧ Vd T0 0 rs Te 0 ∧ ∀ H', StmN K C H H' x refs rs → Kp x H H' → Q .non H'
theorem use_initN {K : PySem.W.Frag} {C x a dx : Addr} {refs : List V} {rs : List Rc} {Te : Tb × Tb} {H : Hp} {Q : VK} {E : XK} (hx : H x = some (.ins C dx [])) (h : H a = some (.lst refs)) (hl : refs.length ≤ 400) (hR : RcsAt K H refs rs) (hV : Vd T0 0 rs Te 0) (q : ∀ H', StmN K C H H' x refs rs → Kp x H H' → Q .non H') : spInitN K C (.ref x :: ([.ref a] ++ [])) H Q E := ⟨x, a, dx, refs, rs, Te, rfl, hx, h, hl, hR, hV, q⟩
def spEncN (K : PySem.W.Frag) (C : Addr) : Sp := fun vs H Q _ => ∃ (a b : Addr) (xs : List Int) (refs : List V) (hs : List Hd) (g : Nat) (Te : Tb × Tb), vs = [.ref a, .ref b, .int (g : Nat)] ∧ H a = some (.lst (xs.map V.int)) ∧ H b = some (.lst refs) ∧ HdsAt H refs hs ∧ Ch 0 hs 0 ∧ xs.length = totH hs ∧ totH hs ≤ 10000 ∧ refs.length ≤ 200 ∧ g ≤ 1000 ∧ Vd T0 0 (encA g hs xs) Te 0 ∧
  ∀ x ws H', H x = none → Same H H' → StmN K C H H' x ws (encA g hs xs) → Q (.ref x) H'
theorem use_encN {K : PySem.W.Frag} {C a b : Addr} {xs : List Int} {refs : List V} {hs : List Hd} {g : Nat} {Te : Tb × Tb} {z : Int} {H : Hp} {Q : VK} {E : XK} (ez : z = (g : Int)) (e : H a = some (.lst (xs.map V.int))) (h : H b = some (.lst refs)) (h1 : HdsAt H refs hs) (h2 : Ch 0 hs 0) (h3 : xs.length = totH hs) (h4 : totH hs ≤ 10000) (h5 : refs.length ≤ 200) (h7 : g ≤ 1000) (h6 : Vd T0 0 (encA g hs xs) Te 0)
  (q : ∀ x ws H', H x = none → Same H H' → StmN K C H H' x ws (encA g hs xs) → Q (.ref x) H') : spEncN K C [.ref a, .ref b, .int z] H Q E := by
  subst ez
  exact ⟨a, b, xs, refs, hs, g, Te, rfl, e, h, h1, h2, h3, h4, h5, h7, h6, q⟩
end Z
namespace Z
open PySem PySem.Spec PyProof.Rows L2
def topS (i : Nat) : Stmt := PySem.Challenge.pw_framejoins_k45_reading_by_names.main.body.getD i (.Pass ⟨0, 0, 0, 0⟩)
local macro_rules | `(tactic| walk_at "hg") => `(tactic| first
  | assumption
  | (with_reducible exact upd_same)
  | ((with_reducible refine' look_new ?k1 ?k2); (case k1 => assumption); (case k2 => walk_at "hg"))
  | ((with_reducible refine' look_same ?k1 ?k2); (case k1 => assumption); (case k2 => walk_at "hg"))
  | ((with_reducible refine' look_kp ?k1 ?k2 ?k3); (case k1 => assumption); (case k2 => walk_at "ne"); (case k3 => walk_at "hg"))
  | ((with_reducible refine' look_upd ?k1 ?k2); (case k1 => assumption); (case k2 => walk_at "hg"))
  | fail)
local macro_rules | `(tactic| walk_at "ne") => `(tactic| first
  | assumption
  | ((with_reducible refine' Pool.ne' ?k1 ?k2); (case k1 => assumption); (case k2 => walk_at "pl"))
  | fail)
local macro_rules | `(tactic| walk_at "r1") => `(tactic| first
  | (with_reducible refine rd_seq ?_) | (with_reducible refine rd_asg ?_) | (with_reducible refine rd_gname ?_) | (with_reducible refine rd_ret ?_) | (with_reducible refine rd_ifs ?_)
  | ((with_reducible refine' rd_var ?k1 ?_); (case k1 => exact rfl))
  | ((with_reducible refine' rd_ixL ?k1 ?k2 ?_); (case k1 => walk_at "sq"); (case k2 => walk_at "at"))
  | ((with_reducible refine' rd_ixT ?k1 ?k2 ?_); (case k1 => walk_at "sqt"); (case k2 => walk_at "at"))
  | ((with_reducible refine' rd_setL ?k1 ?k2 ?_); (case k1 => walk_at "hg"); (case k2 => walk_at "ixn"))
  | ((with_reducible refine' rd_lenL ?k1 ?_); (case k1 => walk_at "sq"))
  | ((with_reducible refine' rd_listL ?k1 fun _ _ => ?_); (case k1 => walk_at "sq"))
  | ((with_reducible refine' rd_lenT ?k1 ?_); (case k1 => walk_at "sqt"))
  | ((with_reducible refine' rd_gtup ?k1 ?k2 ?_); (case k1 => walk_at "sqt"); (case k2 => exact rfl))
  | (with_reducible refine rd_gcons ?_) | (with_reducible refine rd_gnil ?_) | (with_reducible refine rd_forT ?_) | (with_reducible refine rd_forL ?_) | (with_reducible refine rd_for2 ?_)
  | ((with_reducible refine' rd_neT2 ?k1 ?k2 ?k3 ?k4 ?_); (case k1 => walk_at "sqt"); (case k2 => walk_at "sqt"); (case k3 => walk_at "f1"); (case k4 => walk_at "f2"))
  | ((with_reducible refine rd_n1 ?k1 ?k2 ?_); (case k1 => omega); (case k2 => omega))
  | ((with_reducible refine rd_n2 ?k1 ?_); (case k1 => exact ⟨by omega, by omega, by omega, by omega⟩))
  | (with_reducible refine rd_lcD fun _ _ => ?_)
  | ((with_reducible refine' lc_numbers ?k1 ?k2 ?k3 ?k4 ?k5 fun _ _ _ _ _ _ _ => ?_); (case k1 => exact fun _ => rfl); (case k2 => exact fun _ => rfl); (case k3 => walk_at "pl"); (case k4 => assumption); (case k5 => walk_at "sd"))
  | (with_reducible refine rd_for3 ?_) | (with_reducible refine rd_bm ?_)
  | ((with_reducible refine rd_n3 ?k1 ?_); (case k1 => walk_at "sd"))
  | ((with_reducible refine' rd_tyL ?k1 ?_); (case k1 => walk_at "hg"))
  | ((with_reducible refine' rd_catL ?k1 ?k2 ?k3 fun _ _ => ?_); (case k1 => walk_at "hg"); (case k2 => walk_at "hg"); (case k3 => walk_at "sd"))
  | ((with_reducible refine' rd_appI ?k1 ?k2 ?_); (case k1 => walk_at "hg"); (case k2 => walk_at "sd"))
  | ((with_reducible refine' use_once ?k1 ?k2 fun _ _ _ _ _ _ _ _ _ => ?_); (case k1 => walk_at "sq"); (case k2 => walk_at "sd"))
  | ((with_reducible refine' use_split ?k1 ?k2 ?k3 ?k4 ?k5 fun _ _ _ _ _ => ?_); (case k1 => walk_at "hg"); (case k2 => walk_at "sd"); (case k3 => walk_at "sd"); (case k4 => walk_at "sd"); (case k5 => walk_at "sd"))
  | ((with_reducible refine' use_splitK ?k1 ?k2 ?k3 ?k4 ?k5 fun _ _ _ _ _ => ?_); (case k1 => walk_at "hg"); (case k2 => walk_at "sd"); (case k3 => walk_at "sd"); (case k4 => walk_at "sd"); (case k5 => walk_at "sd"))
  | (with_reducible refine rd_sl ?_) | (with_reducible refine rd_part ?_) | (with_reducible refine rd_nopart ?_) | (with_reducible refine rd_oneI ?_)
  | (with_reducible refine rd_lcL ?_)
  | (with_reducible refine rd_forV ?_)
  | ((with_reducible refine rd_nV ?k1 ?k2 ?_); (case k1 => omega); (case k2 => omega))
  | ((with_reducible refine' use_join1 ?k1 ?k2 ?k3 ?k4 fun _ _ _ _ _ => ?_); (case k1 => walk_at "hg"); (case k2 => walk_at "hg"); (case k3 => walk_at "sd"); (case k4 => walk_at "sd"))
  | ((with_reducible refine' use_join ?k1 ?k2 ?k3 ?k4 ?k5 fun _ _ _ _ _ => ?_); (case k1 => walk_at "hg"); (case k2 => walk_at "sd"); (case k3 => walk_at "sd"); (case k4 => walk_at "sd"); (case k5 => walk_at "sd"))
  | ((with_reducible refine' use_joinK ?k1 ?k2 ?k3 ?k4 ?k5 fun _ _ _ _ _ => ?_); (case k1 => walk_at "hg"); (case k2 => walk_at "sd"); (case k3 => walk_at "sd"); (case k4 => walk_at "sd"); (case k5 => walk_at "sd"))
  | ((with_reducible refine' use_ints ?k1 ?k2 ?_); (case k1 => walk_at "hg"); (case k2 => walk_at "sd"))
  | (with_reducible refine rd_isN ?_) | (with_reducible refine rd_lc1 ?_) | (with_reducible refine rd_forE ?_) | (with_reducible refine rd_forZ ?_)
  | ((with_reducible refine' rd_neL ?k1 ?k2 ?_); (case k1 => walk_at "sq"); (case k2 => walk_at "sq"))
  | ((with_reducible refine' rd_eqL ?k1 ?k2 ?_); (case k1 => walk_at "sq"); (case k2 => walk_at "sq"))
  | ((with_reducible refine' rd_neN ?k1 ?k2 ?_); (case k1 => walk_at "sq"); (case k2 => walk_at "sq"))
  | (with_reducible refine rd_c ?_) | (with_reducible refine rd_op ?_) | (with_reducible refine rd_un ?_) | (with_reducible refine rd_i0 ?_)
  | ((with_reducible refine rd_i ?k1 ?_); (case k1 => walk_at "side"))
  | (with_reducible refine rd_u ?_)
  | (with_reducible refine rd_eq rfl ?_) | (with_reducible refine rd_ne rfl ?_) | (with_reducible refine rd_test ?_) | (with_reducible refine rd_b ?_) | (with_reducible refine rd_bl ?_)
  | (with_reducible refine rd_not ?_) | (with_reducible refine rd_and ?_) | (with_reducible refine rd_or ?_) | (with_reducible refine rd_andV ?_) | (with_reducible refine rd_orV ?_) | (with_reducible refine rd_notV ?_)
  | (with_reducible refine rd_if ?_) | (with_reducible refine rd_chain ?_) | (with_reducible refine rd_call ?_) | (with_reducible refine rd_callK ?_) | (with_reducible refine rd_cb ?_)
  | (with_reducible refine rd_cons ?_) | (with_reducible refine rd_nil ?_) | (with_reducible refine rd_next ?_) | (with_reducible refine rd_drop ?_) | (with_reducible refine rd_gsub ?_)
  | (with_reducible refine rd_int ?_) | (with_reducible refine rd_intb ?_) | (with_reducible refine rd_abs ?_) | (with_reducible refine rd_max ?_) | (with_reducible refine rd_min ?_)
  | (with_reducible refine rd_par ?_) | (with_reducible refine rd_par3 ?_) | (with_reducible refine rd_two ?_) | (with_reducible refine rd_three ?_)
  | (with_reducible refine rd_retn ?_) | (with_reducible refine rd_tup ?_) | (with_reducible refine rd_lst ?_) | (with_reducible refine rd_for1 ?_) | (with_reducible refine rd_one ?_)
  | ((with_reducible refine rd_all ?k1 fun _ _ => ?_); (case k1 => exact Nat.le_of_ble_eq_true rfl))
  | ((with_reducible refine use_take ?k1 ?k2 ?k3 fun _ _ _ _ _ _ => ?_); (case k1 => walk_at "pl"); (case k2 => walk_at "sd"); (case k3 => walk_at "sd"))
  | ((with_reducible refine use_number ?k1 fun _ _ _ _ _ => ?_); (case k1 => walk_at "pl"))
  | ((with_reducible refine' use_pool ?k1 ?k2 ?k3 ?k4 fun _ _ _ _ _ => ?_); (case k1 => walk_at "sq"); (case k2 => assumption); (case k3 => walk_at "sd"); (case k4 => walk_at "sd"))
  | ((with_reducible refine use_ckp ?k1 ?k2 ?_); (case k1 => walk_at "sd"); (case k2 => walk_at "sd"))
  | ((with_reducible refine use_pair ?k1 ?k2 fun _ _ => ?_); (case k1 => walk_at "sd"); (case k2 => walk_at "sd"))
  | ((with_reducible refine use_lfold ?k1 ?k2 fun _ _ _ _ => ?_); (case k1 => walk_at "sd"); (case k2 => walk_at "sd"))
  | ((with_reducible refine' use_ispair ?k1 ?_); (case k1 => walk_at "hg"))
  | ((with_reducible refine' use_items ?k1 fun _ _ => ?_); (case k1 => walk_at "sq"))
  | ((with_reducible refine' use_block ?k1 ?k2 ?k3 fun _ _ => ?_); (case k1 => walk_at "hg"); (case k2 => walk_at "sd"); (case k3 => walk_at "sd"))
  | ((with_reducible refine' use_mark ?k1 ?k2 fun _ _ => ?_); (case k1 => walk_at "hg"); (case k2 => walk_at "sd"))
  | (with_reducible refine use_code ?_)
  | ((with_reducible refine' use_same ?k1 fun _ _ => ?_); (case k1 => walk_at "smv"))
  | ((with_reducible refine use_quant ?k1 ?k2 ?_); (case k1 => walk_at "sd"); (case k2 => walk_at "sd"))
  | ((with_reducible refine use_quantK ?k1 ?k2 ?_); (case k1 => walk_at "sd"); (case k2 => walk_at "sd"))
  | (with_reducible refine use_isi_int ?_) | (with_reducible refine use_within_int ?_) | (with_reducible refine use_cki ?_)
  | ((with_reducible refine use_ckw ?k1 ?k2 ?_); (case k1 => walk_at "sd"); (case k2 => walk_at "sd"))
  | (with_reducible refine iteT ?_) | (with_reducible refine iteF ?_)
  | (with_reducible refine iteNT ?_) | (with_reducible refine iteNF ?_)
  | (walk_at "isi")
  | fail)
local macro_rules | `(tactic| walk_at "isi") => `(tactic| first
  | (with_reducible refine isi_int_int ?_)
  | (with_reducible refine isi_int_bool ?_)
  | (with_reducible refine isi_int_str ?_)
  | (with_reducible refine isi_int_list ?_)
  | (with_reducible refine isi_int_tuple ?_)
  | (with_reducible refine isi_bl_int ?_)
  | (with_reducible refine isi_bl_bool ?_)
  | (with_reducible refine isi_bl_str ?_)
  | (with_reducible refine isi_bl_list ?_)
  | (with_reducible refine isi_bl_tuple ?_)
  | (with_reducible refine isi_non_int ?_)
  | (with_reducible refine isi_non_bool ?_)
  | (with_reducible refine isi_non_str ?_)
  | (with_reducible refine isi_non_list ?_)
  | (with_reducible refine isi_non_tuple ?_)
  | (with_reducible refine isi_str_int ?_)
  | (with_reducible refine isi_str_bool ?_)
  | (with_reducible refine isi_str_str ?_)
  | (with_reducible refine isi_str_list ?_)
  | (with_reducible refine isi_str_tuple ?_)
  | ((with_reducible refine' isi_lst_int ?k1 ?_); (case k1 => walk_at "hg"))
  | ((with_reducible refine' isi_lst_bool ?k1 ?_); (case k1 => walk_at "hg"))
  | ((with_reducible refine' isi_lst_str ?k1 ?_); (case k1 => walk_at "hg"))
  | ((with_reducible refine' isi_lst_list ?k1 ?_); (case k1 => walk_at "hg"))
  | ((with_reducible refine' isi_lst_tuple ?k1 ?_); (case k1 => walk_at "hg"))
  | ((with_reducible refine' isi_tup_int ?k1 ?_); (case k1 => walk_at "hg"))
  | ((with_reducible refine' isi_tup_bool ?k1 ?_); (case k1 => walk_at "hg"))
  | ((with_reducible refine' isi_tup_str ?k1 ?_); (case k1 => walk_at "hg"))
  | ((with_reducible refine' isi_tup_list ?k1 ?_); (case k1 => walk_at "hg"))
  | ((with_reducible refine' isi_tup_tuple ?k1 ?_); (case k1 => walk_at "hg"))
  | fail)
local macro_rules | `(tactic| walk_at "side") => `(tactic| first
  | (show (0 : Int) < _; omega)
  | exact ⟨by omega, by omega⟩
  | exact .inl ⟨by omega, by omega⟩
  | exact .inr ⟨by omega, by omega⟩
  | exact .inr ⟨by decide, by decide⟩
  | exact ⟨by decide, by decide, by decide⟩
  | decide
  | fail)
local macro_rules | `(tactic| walk_at "rd") => `(tactic| (repeat walk_at "r1"))
local macro_rules | `(tactic| walk_at "sq") => `(tactic| first
  | assumption
  | ((with_reducible refine' SqL.of ?k1); (case k1 => walk_at "hg"))
  | ((with_reducible refine' sqL_new ?k1 ?k2); (case k1 => assumption); (case k2 => walk_at "sq"))
  | ((with_reducible refine' sqL_same ?k1 ?k2); (case k1 => assumption); (case k2 => walk_at "sq"))
  | fail)
local macro_rules | `(tactic| walk_at "sqt") => `(tactic| first
  | assumption
  | exact by_all (by assumption)
  | ((with_reducible refine' SqT.of ?k1); (case k1 => walk_at "hg"))
  | fail)
local macro_rules | `(tactic| walk_at "at") => `(tactic| first | assumption | exact atI_nat (j := 0) rfl | exact atI_nat (j := 1) rfl | exact atI_nat (j := 2) rfl | exact atI_nat (j := 3) rfl | fail)
local macro_rules | `(tactic| walk_at "ixn") => `(tactic| first | assumption | rfl | fail)
local macro_rules | `(tactic| walk_at "sd") => `(tactic| first | omega | decide +kernel | fail)
local macro_rules | `(tactic| walk_at "pl") => `(tactic| first
  | assumption
  | ((with_reducible refine' Pool.new' ?k1 ?k2); (case k1 => assumption); (case k2 => walk_at "pl"))
  | ((with_reducible refine' Pool.same' ?k1 ?k2); (case k1 => assumption); (case k2 => walk_at "pl"))
  | fail)
local macro_rules | `(tactic| walk_at "allm") => `(tactic| ((repeat (refine List.forall_mem_cons.mpr ⟨⟨_, rfl, by first | decide | omega, by first | decide | omega⟩, ?_⟩)); exact List.forall_mem_nil _))
local macro_rules | `(tactic| walk_at "kp") => `(tactic| first
  | assumption
  | exact Kp.refl
  | ((with_reducible refine' Kp.trans ?k1 (Kp.new ?k2)); (case k2 => assumption); walk_at "kp")
  | (refine' Kp.trans ?k1 ?k2; (case k2 => assumption); walk_at "kp")
  | (refine' Kp.trans ?k1 (Kp.of ?k2); (case k2 => assumption); walk_at "kp")
  | ((with_reducible refine' Kp.trans ?k1 Kp.at); walk_at "kp")
  | fail)
local macro_rules | `(tactic| walk_at "ct") => `(tactic| (refine' close_turn ?k1 ?k2 ?k3 ?k4; (case k1 => assumption); (case k2 => assumption); (case k3 => assumption); (case k4 => walk_at "kp")))
local macro_rules | `(tactic| walk_at "sm") => `(tactic| first
  | (with_reducible assumption)
  | (with_reducible exact Same.refl _)
  | ((with_reducible refine' Same.trans ?k1 (same_new ?k2)); (case k2 => assumption); walk_at "sm")
  | ((with_reducible refine' Same.trans ?k1 ?k2); (case k2 => (with_reducible assumption)); walk_at "sm")
  | fail)
local macro_rules | `(tactic| walk_at "f1") => `(tactic| first | rfl | exact congrArg Prod.fst (fold_unfold _ _ _) | exact congrArg Prod.fst (unfold_fold _ _ _) | fail)
local macro_rules | `(tactic| walk_at "f2") => `(tactic| first | rfl | exact congrArg Prod.snd (fold_unfold _ _ _) | exact congrArg Prod.snd (unfold_fold _ _ _) | fail)
local macro_rules | `(tactic| walk_at "smv") => `(tactic| first
  | (with_reducible assumption)
  | ((with_reducible refine sm_sc ?k1); (case k1 => exact rfl))
  | ((with_reducible refine' sm_ints ?k1 ?k2); (case k1 => walk_at "hg"); (case k2 => walk_at "hg"))
  | fail)
local macro_rules | `(tactic| walk_at "kp2") => `(tactic| first
  | exact Kp2.refl
  | exact Kp2.at
  | ((with_reducible refine' Kp2.trans ?k1 Kp2.at); walk_at "kp2")
  | ((with_reducible refine' Kp2.trans ?k1 (Kp2.new ?k2)); (case k2 => assumption); walk_at "kp2")
  | (refine' Kp2.trans ?k1 (Kp2.ofK ?k2); (case k2 => assumption); walk_at "kp2")
  | (refine' Kp2.trans ?k1 (Kp2.ofS ?k2); (case k2 => assumption); walk_at "kp2")
  | fail)
local macro_rules | `(tactic| walk_at "ty") => `(tactic| first
  | exact True.intro
  | ((refine' Or.inl ⟨_, ?k1⟩); (case k1 => walk_at "hg"))
  | ((refine' Or.inr ⟨_, ?k1⟩); (case k1 => walk_at "hg"))
  | fail)
local macro_rules | `(tactic| walk_at "jr") => `(tactic| first
  | exact ⟨_, JR.flat rfl⟩
  | ((refine' ⟨_, JR.tup2 ?k1 ?k2 ?k3⟩); (case k1 => walk_at "hg"); (case k2 => walk_at "ty"); (case k3 => walk_at "ty"))
  | ((refine' ⟨_, JR.tupn ?k1 ?k2⟩); (case k1 => walk_at "hg"); (case k2 => simp))
  | ((refine' ⟨_, JR.lst ?k1⟩); (case k1 => walk_at "hg"))
  | fail)
local macro_rules | `(tactic| walk_at "jr1") => `(tactic| ((refine' List.forall_mem_cons.mpr ⟨?k1, ?_⟩); (case k1 => walk_at "jr")))
local macro_rules | `(tactic| walk_at "alljr") => `(tactic| ((repeat walk_at "jr1"); exact List.forall_mem_nil _))
local macro_rules | `(tactic| walk_at "r1") => `(tactic| first
  | ((with_reducible refine' rd_raiseV ?k1 ?_); (case k1 => exact rfl))
  | (with_reducible refine rd_raiseC ?_)
  | ((with_reducible refine' rd_lam ?k1 fun _ _ _ => ?_); (case k1 => walk_at "tb"))
  | (with_reducible refine rd_told ?_)
  | (with_reducible refine rd_xf ?_)
  | fail)
local macro_rules | `(tactic| walk_at "tb") => `(tactic| first
  | assumption
  | ((with_reducible refine' Tabs.new ?k1 ?k2); (case k1 => assumption); (case k2 => walk_at "tb"))
  | ((with_reducible refine' Tabs.same ?k1 ?k2); (case k1 => assumption); (case k2 => walk_at "tb"))
  | ((with_reducible refine' Tabs.kp ?k0 ?k1 ?k2); (case k1 => assumption); (case k0 => walk_at "pl"); (case k2 => walk_at "tb"))
  | fail)
local macro_rules | `(tactic| walk_at "kpn") => `(tactic| first
  | assumption
  | exact KpN.refl
  | ((with_reducible refine' KpN.trans ?k1 (KpN.new ?k2)); (case k2 => assumption); walk_at "kpn")
  | ((with_reducible refine' KpN.trans ?k1 ?k2); (case k2 => assumption); walk_at "kpn")
  | ((with_reducible refine' KpN.trans ?k1 (KpN.ofK ?k2)); (case k2 => assumption); walk_at "kpn")
  | ((with_reducible refine' KpN.trans ?k1 (KpN.of ?k2)); (case k2 => assumption); walk_at "kpn")
  | ((with_reducible refine' KpN.trans ?k1 (KpN.ofN ?k2)); (case k2 => assumption); walk_at "kpn")
  | ((with_reducible refine' KpN.trans ?k1 KpN.at); walk_at "kpn")
  | fail)
local macro_rules | `(tactic| walk_at "hg") => `(tactic| first
  | ((with_reducible refine' look_extL ?k1 ?k2); (case k1 => assumption); (case k2 => walk_at "hg"))
  | ((with_reducible refine' look_extT ?k1 ?k2); (case k1 => assumption); (case k2 => walk_at "hg"))
  | fail)
local macro_rules | `(tactic| walk_at "als") => `(tactic| ((repeat (refine List.forall_mem_cons.mpr ⟨rfl, ?_⟩)); exact List.forall_mem_nil _))
local macro_rules | `(tactic| walk_at "dv1") => `(tactic| first
  | exact DV.sc rfl
  | ((refine' DV.lst ?n ?e ?s); (case n => walk_at "ne"); (case e => walk_at "hg"); (case s => walk_at "als"))
  | ((refine' DV.tup ?n ?e ?s); (case n => walk_at "ne"); (case e => walk_at "hg"); (case s => walk_at "als"))
  | fail)
local macro_rules | `(tactic| walk_at "dvm1") => `(tactic| ((refine' List.forall_mem_cons.mpr ⟨⟨?d, ?i⟩, ?_⟩); (case d => walk_at "dv1"); (case i => first | rfl | decide)))
local macro_rules | `(tactic| walk_at "dvm") => `(tactic| ((repeat walk_at "dvm1"); exact List.forall_mem_nil _))
local macro_rules | `(tactic| walk_at "r1") => `(tactic| first
  | ((with_reducible refine' rd_callL ?k1 ?_); (case k1 => exact rfl))
  | ((with_reducible refine' use_sound ?k1 fun _ _ => ?_); (case k1 => walk_at "hg"))
  | fail)
local macro_rules | `(tactic| walk_at "r1") => `(tactic| first
  | ((with_reducible refine' use_ljoints ?k1 ?k2 fun _ _ _ _ _ _ _ _ _ _ => ?_); (case k1 => walk_at "pl"); (case k2 => walk_at "sd"))
  | fail)
local macro_rules | `(tactic| walk_at "r1") => `(tactic| first
  | ((with_reducible refine' use_folds ?k1 ?k2 ?k3 ?k4 ?k5 fun _ _ _ _ _ => ?_); (case k1 => walk_at "hg"); (case k2 => walk_at "hg"); (case k3 => walk_at "js"); (case k4 => assumption); (case k5 => walk_at "sd"))
  | ((with_reducible refine' use_partner ?k1 ?k2 ?k3 ?_); (case k1 => walk_at "hg"); (case k2 => walk_at "js"); (case k3 => assumption))
  | fail)
local macro_rules | `(tactic| walk_at "js") => `(tactic| first
  | assumption
  | ((with_reducible refine' JsAt.new' ?k1 ?k2); (case k1 => assumption); (case k2 => walk_at "js"))
  | ((with_reducible refine' JsAt.same' ?k1 ?k2); (case k1 => assumption); (case k2 => walk_at "js"))
  | ((with_reducible refine' JsAt.at' ?k1 ?k2); (case k1 => walk_at "hg"); (case k2 => walk_at "js"))
  | fail)
local macro_rules | `(tactic| walk_at "kpl") => `(tactic| first
  | assumption
  | exact KpL.refl
  | ((with_reducible refine' KpL.trans ?k1 (KpL.new ?k2)); (case k2 => assumption); walk_at "kpl")
  | ((with_reducible refine' KpL.trans ?k1 ?k2); (case k2 => assumption); walk_at "kpl")
  | ((with_reducible refine' KpL.trans ?k1 (KpL.ofK ?k3 ?k2)); (case k2 => assumption); (case k3 => simp); walk_at "kpl")
  | ((with_reducible refine' KpL.trans ?k1 (KpL.ofS ?k2)); (case k2 => assumption); walk_at "kpl")
  | ((with_reducible refine' KpL.trans ?k1 (KpL.at ?k3)); (case k3 => simp); walk_at "kpl")
  | fail)
local macro_rules | `(tactic| walk_at "lt") => `(tactic| first
  | assumption
  | ((with_reducible refine' LT.new' ?k1 ?k2); (case k1 => assumption); (case k2 => walk_at "lt"))
  | ((with_reducible refine' LT.same' ?k1 ?k2); (case k1 => assumption); (case k2 => walk_at "lt"))
  | ((with_reducible refine' LT.l ?k1); (case k1 => walk_at "hg"))
  | ((with_reducible refine' LT.t ?k1); (case k1 => walk_at "hg"))
  | fail)
local macro_rules | `(tactic| walk_at "r1") => `(tactic| first
  | (with_reducible refine rd_forEA ?_) | (with_reducible refine rd_forS ?_)
  | ((with_reducible refine' use_soundA ?k1 fun _ _ => ?_); (case k1 => walk_at "lt"))
  | ((with_reducible refine' use_itemsA ?k1 fun _ _ => ?_); (case k1 => walk_at "lt"))
  | ((with_reducible refine' rd_lenA ?k1 ?_); (case k1 => walk_at "lt"))
  | ((with_reducible refine' rd_listA ?k1 fun _ _ => ?_); (case k1 => walk_at "lt"))
  | ((with_reducible refine' rd_tupL ?k1 fun _ _ => ?_); (case k1 => walk_at "sq"))
  | ((with_reducible refine' use_foldsA ?k1 ?k2 ?k3 ?k4 ?k5 fun _ _ _ _ _ => ?_); (case k1 => walk_at "lt"); (case k2 => walk_at "lt"); (case k3 => walk_at "js"); (case k4 => assumption); (case k5 => walk_at "sd"))
  | ((with_reducible refine' use_foldsAK ?k1 ?k2 ?k3 ?k4 ?k5 fun _ _ _ _ _ => ?_); (case k1 => walk_at "lt"); (case k2 => walk_at "lt"); (case k3 => walk_at "js"); (case k4 => assumption); (case k5 => walk_at "sd"))
  | fail)
local macro_rules | `(tactic| walk_at "r1") => `(tactic| first
  | (with_reducible refine rd_bits ?_)
  | ((with_reducible refine' use_row ?k1 fun _ _ _ _ _ => ?_); (case k1 => walk_at "pl"))
  | fail)
local macro_rules | `(tactic| walk_at "smm1") => `(tactic| ((refine' List.forall_mem_cons.mpr ⟨?a, ?_⟩); (case a => first | exact True.intro | (show Int.natAbs _ < _; omega) | (show Int.natAbs _ < _; decide))))
local macro_rules | `(tactic| walk_at "smm") => `(tactic| ((repeat walk_at "smm1"); exact List.forall_mem_nil _))
local macro_rules | `(tactic| walk_at "rv1") => `(tactic| first
  | exact RV.sc rfl
  | ((refine' RV.lst ?n ?e ?s ?t); (case n => walk_at "ne"); (case e => walk_at "hg"); (case s => walk_at "als"); (case t => walk_at "smm"))
  | ((refine' RV.tup ?n ?e ?s ?t); (case n => walk_at "ne"); (case e => walk_at "hg"); (case s => walk_at "als"); (case t => walk_at "smm"))
  | fail)
local macro_rules | `(tactic| walk_at "rvm1") => `(tactic| ((refine' List.forall_mem_cons.mpr ⟨?d, ?_⟩); (case d => walk_at "rv1")))
local macro_rules | `(tactic| walk_at "rvm") => `(tactic| ((repeat walk_at "rvm1"); exact List.forall_mem_nil _))
local macro_rules | `(tactic| walk_at "tsr1") => `(tactic| first
  | exact TSR.flat rfl
  | ((refine' TSR.lst ?e); (case e => walk_at "hg"))
  | ((refine' TSR.tupn ?e ?n); (case e => walk_at "hg"); (case n => simp))
  | exact RV.tsr (by assumption)
  | fail)
local macro_rules | `(tactic| walk_at "tsrm1") => `(tactic| ((refine' List.forall_mem_cons.mpr ⟨?d, ?_⟩); (case d => walk_at "tsr1")))
local macro_rules | `(tactic| walk_at "tsrm") => `(tactic| ((repeat walk_at "tsrm1"); exact List.forall_mem_nil _))
local macro_rules | `(tactic| walk_at "sl") => `(tactic| first
  | (with_reducible exact e_0)
  | (with_reducible exact e_1)
  | (with_reducible exact e_01)
  | (with_reducible exact e_empty)
  | (with_reducible exact eb)
  | (with_reducible exact rfl)
  | fail)
local macro_rules | `(tactic| walk_at "sdl") => `(tactic| first
  | assumption
  | omega
  | (simp only [List.length_append, List.length_replicate, lowB_length, binB_length, List.length_cons, List.length_nil, List.length_map, List.length_drop, List.length_take]; omega)
  | fail)
local macro_rules | `(tactic| walk_at "r1") => `(tactic| first
  | ((with_reducible refine' rd_addT ?k1 ?k2 ?k3 ?_); (case k1 => walk_at "sl"); (case k2 => walk_at "sl"); (case k3 => walk_at "sdl"))
  | ((with_reducible refine' rd_mulT ?k1 ?k2 ?_); (case k1 => walk_at "sl"); (case k2 => walk_at "sdl"))
  | ((with_reducible refine' rd_lenS ?k1 ?_); (case k1 => walk_at "sdl"))
  | ((with_reducible refine' rd_slSF ?k1 ?_); (case k1 => walk_at "sdl"))
  | ((with_reducible refine' rd_slST ?k1 ?_); (case k1 => walk_at "sdl"))
  | ((with_reducible refine' rd_joinS ?k1 ?k2 ?k3 ?_); (case k1 => walk_at "sl"); (case k2 => walk_at "sq"); (case k3 => walk_at "sdl"))
  | (with_reducible refine rd_bit ?_)
  | ((with_reducible refine' rd_tupL ?k1 fun _ _ => ?_); (case k1 => walk_at "sq"))
  | (with_reducible refine rd_fmtb ?_) | (with_reducible refine rd_shr ?_)
  | ((with_reducible refine' rd_fmtn ?k1 ?k2 ?_); (case k1 => walk_at "sl"); (case k2 => walk_at "sdl"))
  | (with_reducible refine rd_bmS ?_) | (with_reducible refine rd_tyS ?_)
  | ((with_reducible refine' use_start ?k1 fun _ _ _ _ _ _ _ _ _ => ?_); (case k1 => walk_at "pl"))
  | fail)
local macro_rules | `(tactic| walk_at "r1") => `(tactic| first
  | (with_reducible refine use_numW ?_) | (with_reducible refine rd_notBl ?_)
  | ((with_reducible refine' rd_find ?k1 ?k2 ?_); (case k1 => walk_at "sl"); (case k2 => walk_at "sdl"))
  | ((with_reducible refine' rd_strip ?k1 ?k2 ?k3 ?_); (case k1 => walk_at "sl"); (case k2 => walk_at "sdl"); (case k3 => assumption))
  | fail)
local macro_rules | `(tactic| walk_at "r1") => `(tactic| first
  | (with_reducible refine rd_toldM fun _ _ => ?_)
  | ((with_reducible refine' use_oddE ?k1 fun _ _ _ _ _ => ?_); (case k1 => walk_at "pl"))
  | fail)
local macro_rules | `(tactic| walk_at "ne") => `(tactic| first
  | (refine' ne_new ?k1 ?k2; (case k1 => assumption); (case k2 => walk_at "hg"))
  | fail)
local macro_rules | `(tactic| walk_at "alo") => `(tactic| ((repeat (refine List.forall_mem_cons.mpr ⟨?_, ?_⟩; first | rfl | decide +kernel)); exact List.forall_mem_nil _))
local macro_rules | `(tactic| walk_at "nm") => `(tactic| ((refine' nm_cons ?n1 ?n2); (case n1 => walk_at "ne"); (case n2 => first | exact List.not_mem_nil | walk_at "nm")))
local macro_rules | `(tactic| walk_at "ev1") => `(tactic| first
  | exact EV.sc rfl
  | exact EV.sc (by decide +kernel)
  | ((refine' EV.lst ?n ?e ?s); (case n => walk_at "nm"); (case e => walk_at "hg"); (case s => walk_at "alo"))
  | ((refine' EV.tup ?n ?e ?s); (case n => walk_at "nm"); (case e => walk_at "hg"); (case s => walk_at "alo"))
  | fail)
local macro_rules | `(tactic| walk_at "evm1") => `(tactic| ((refine' List.forall_mem_cons.mpr ⟨?d, ?_⟩); (case d => walk_at "ev1")))
local macro_rules | `(tactic| walk_at "evm") => `(tactic| ((repeat walk_at "evm1"); exact List.forall_mem_nil _))
local macro_rules | `(tactic| walk_at "kln") => `(tactic| first
  | assumption
  | exact KpLN.refl
  | ((with_reducible refine' KpLN.trans ?k1 (KpLN.new ?k2)); (case k2 => assumption); walk_at "kln")
  | ((with_reducible refine' KpLN.trans ?k1 ?k2); (case k2 => assumption); walk_at "kln")
  | ((with_reducible refine' KpLN.trans ?k1 (KpLN.ofK ?k3 ?k2)); (case k2 => assumption); (case k3 => simp); walk_at "kln")
  | ((with_reducible refine' KpLN.trans ?k1 (KpLN.of ?k2)); (case k2 => assumption); walk_at "kln")
  | ((with_reducible refine' KpLN.trans ?k1 (KpLN.ofN ?k2)); (case k2 => assumption); walk_at "kln")
  | ((with_reducible refine' KpLN.trans ?k1 (KpLN.ofL ?k2)); (case k2 => assumption); walk_at "kln")
  | fail)
local macro_rules | `(tactic| walk_at "pv0") => `(tactic| first
  | exact PV.sc rfl
  | exact PV.sc (by decide +kernel)
  | fail)
local macro_rules | `(tactic| walk_at "pv1") => `(tactic| first
  | walk_at "pv0"
  | ((refine' PV.tup ?n ?e ?s); (case n => walk_at "nm"); (case e => walk_at "hg"); (case s => walk_at "pvm0"))
  | ((refine' PV.lst ?n ?e ?s); (case n => walk_at "nm"); (case e => walk_at "hg"); (case s => walk_at "pvm0"))
  | fail)
local macro_rules | `(tactic| walk_at "pv2") => `(tactic| first
  | walk_at "pv0"
  | ((refine' PV.tup ?n ?e ?s); (case n => walk_at "nm"); (case e => walk_at "hg"); (case s => walk_at "pvm1"))
  | ((refine' PV.lst ?n ?e ?s); (case n => walk_at "nm"); (case e => walk_at "hg"); (case s => walk_at "pvm1"))
  | fail)
local macro_rules | `(tactic| walk_at "pvs0") => `(tactic| ((refine' List.forall_mem_cons.mpr ⟨?d, ?_⟩); (case d => walk_at "pv0")))
local macro_rules | `(tactic| walk_at "pvm0") => `(tactic| ((repeat walk_at "pvs0"); exact List.forall_mem_nil _))
local macro_rules | `(tactic| walk_at "pvs1") => `(tactic| ((refine' List.forall_mem_cons.mpr ⟨?d, ?_⟩); (case d => walk_at "pv1")))
local macro_rules | `(tactic| walk_at "pvm1") => `(tactic| ((repeat walk_at "pvs1"); exact List.forall_mem_nil _))
local macro_rules | `(tactic| walk_at "pvs2") => `(tactic| ((refine' List.forall_mem_cons.mpr ⟨?d, ?_⟩); (case d => walk_at "pv2")))
local macro_rules | `(tactic| walk_at "pvm2") => `(tactic| ((repeat walk_at "pvs2"); exact List.forall_mem_nil _))
local macro_rules | `(tactic| walk_at "nm") => `(tactic| first
  | (refine' nm_al ?hl ?k ?hp ?n; (case hl => assumption); (case n => assumption); (case k => walk_at "kp"); (case hp => walk_at "pl"))
  | fail)
local macro_rules | `(tactic| walk_at "trt") => `(tactic| (refine' tr_ok ?h ?a ?b ?c; (case h => walk_at "hg"); (case a => first | decide | omega); (case b => first | decide | omega); (case c => first | decide | omega)))
local macro_rules | `(tactic| walk_at "stf1") => `(tactic| ((refine' List.forall_mem_cons.mpr ⟨⟨?d, ?e⟩, ?_⟩); (case d => walk_at "pv2"); (case e => first | walk_at "tsf" | (refine' tsr_ii ?h; (case h => walk_at "hg")))))
local macro_rules | `(tactic| walk_at "stfm") => `(tactic| ((repeat walk_at "stf1"); exact List.forall_mem_nil _))
local macro_rules | `(tactic| walk_at "pni1") => `(tactic| ((refine' List.forall_mem_cons.mpr ⟨⟨?d, ?e⟩, ?_⟩); (case d => walk_at "pv1"); (case e => exact fun _ z => nomatch z)))
local macro_rules | `(tactic| walk_at "pnim") => `(tactic| ((repeat walk_at "pni1"); exact List.forall_mem_nil _))
local macro_rules | `(tactic| walk_at "r1") => `(tactic| first
  | ((with_reducible refine' use_listV ?k1 fun _ _ _ _ _ => ?_); (case k1 => walk_at "pl"))
  | ((with_reducible refine' use_startX ?k1 fun _ _ _ _ _ _ _ => ?_); (case k1 => walk_at "pl"))
  | fail)
local macro_rules | `(tactic| walk_at "r1") => `(tactic| first
  | ((with_reducible refine' use_tabsX ?k1 fun _ _ _ _ _ _ _ _ => ?_); (case k1 => walk_at "pl"))
  | ((with_reducible refine' use_heads ?k1 ?k2 fun _ _ _ _ _ _ _ _ _ _ _ => ?_); (case k1 => walk_at "pl"); (case k2 => walk_at "sd"))
  | ((with_reducible refine' use_someX ?k1 ?k2 fun _ _ _ _ _ _ _ _ _ => ?_); (case k1 => walk_at "pl"); (case k2 => walk_at "sd"))
  | fail)
local macro_rules | `(tactic| walk_at "at") => `(tactic| first | exact atI_nat (j := 4) rfl | exact atI_nat (j := 5) rfl | exact atI_nat (j := 6) rfl | exact atI_nat (j := 7) rfl | fail)
local macro_rules | `(tactic| walk_at "r1") => `(tactic| first
  | ((with_reducible refine' rd_aug ?k1 ?_); (case k1 => exact rfl))
  | (with_reducible refine rd_ipI ?_)
  | ((with_reducible refine use_takeB ?k1 ?k2 ?k3 fun _ _ _ _ _ _ => ?_); (case k1 => walk_at "pl"); (case k2 => walk_at "sd"); (case k3 => walk_at "sd"))
  | fail)
local macro_rules | `(tactic| walk_at "side") => `(tactic| exact wide_div (b := 64) (by omega) (by omega) (by decide) (by decide))
local macro_rules | `(tactic| walk_at "r1") => `(tactic| first
  | ((with_reducible refine use_takeV ?k1 ?k2 ?k3 fun _ _ _ _ _ _ => ?_); (case k1 => walk_at "pl"); (case k2 => walk_at "sd"); (case k3 => walk_at "sd"))
  | fail)
local macro_rules | `(tactic| walk_at "side") => `(tactic| exact wide_div (b := 200) (by omega) (by omega) (by decide) (by decide))
abbrev s_is_integer : Stmt := topS 11
theorem sc_is_integer : FnScope ["value"] ["value"] (defScope s_is_integer) := ⟨rfl, rfl, rfl, by decide +kernel, rfl, by decide +kernel, by decide +kernel⟩
abbrev s_is_within : Stmt := topS 12
theorem sc_is_within : FnScope ["value", "low", "high"] ["value", "low", "high"] (defScope s_is_within) := ⟨rfl, rfl, rfl, by decide +kernel, rfl, by decide +kernel, by decide +kernel⟩
abbrev s_check_integer : Stmt := topS 13
theorem sc_check_integer : FnScope ["value"] ["value"] (defScope s_check_integer) := ⟨rfl, rfl, rfl, by decide +kernel, rfl, by decide +kernel, by decide +kernel⟩
abbrev s_check_within : Stmt := topS 14
theorem sc_check_within : FnScope ["value", "low", "high"] ["value", "low", "high"] (defScope s_check_within) := ⟨rfl, rfl, rfl, by decide +kernel, rfl, by decide +kernel, by decide +kernel⟩
abbrev s_check_stretch : Stmt := topS 15
theorem sc_check_stretch : FnScope ["start", "end", "length", "place"] ["start", "end", "length"] (defScope s_check_stretch) := ⟨rfl, rfl, rfl, by decide +kernel, rfl, by decide +kernel, by decide +kernel⟩
abbrev s_check_items : Stmt := topS 16
theorem sc_check_items : FnScope ["values", "index", "value"] ["values"] (defScope s_check_items) := ⟨rfl, rfl, rfl, by decide +kernel, rfl, by decide +kernel, by decide +kernel⟩
abbrev s_check_sound : Stmt := topS 17
theorem sc_check_sound : FnScope ["values"] ["values"] (defScope s_check_sound) := ⟨rfl, rfl, rfl, by decide +kernel, rfl, by decide +kernel, by decide +kernel⟩
abbrev s_check_block : Stmt := topS 18
theorem sc_check_block : FnScope ["values", "least"] ["values", "least"] (defScope s_check_block) := ⟨rfl, rfl, rfl, by decide +kernel, rfl, by decide +kernel, by decide +kernel⟩
abbrev s_is_joint : Stmt := topS 24
theorem sc_is_joint : FnScope ["value", "width", "shape"] ["value"] (defScope s_is_joint) := ⟨rfl, rfl, rfl, by decide +kernel, rfl, by decide +kernel, by decide +kernel⟩
abbrev s_fold_pair : Stmt := topS 25
theorem sc_fold_pair : FnScope ["shape", "a", "b", "c", "d"] ["shape", "a", "b"] (defScope s_fold_pair) := ⟨rfl, rfl, rfl, by decide +kernel, rfl, by decide +kernel, by decide +kernel⟩
abbrev s_unfold_pair : Stmt := topS 26
theorem sc_unfold_pair : FnScope ["shape", "a", "b", "c", "d"] ["shape", "a", "b"] (defScope s_unfold_pair) := ⟨rfl, rfl, rfl, by decide +kernel, rfl, by decide +kernel, by decide +kernel⟩
abbrev s_check_pair : Stmt := topS 27
theorem sc_check_pair : FnScope ["shape", "a", "b"] ["shape", "a", "b"] (defScope s_check_pair) := ⟨rfl, rfl, rfl, by decide +kernel, rfl, by decide +kernel, by decide +kernel⟩
abbrev s_folded : Stmt := topS 28
theorem sc_folded : FnScope ["values", "joints"] ["values", "joints"] (defScope s_folded) := ⟨rfl, rfl, rfl, by decide +kernel, rfl, by decide +kernel, by decide +kernel⟩
abbrev s_unfolded : Stmt := topS 29
theorem sc_unfolded : FnScope ["values", "joints"] ["values", "joints"] (defScope s_unfolded) := ⟨rfl, rfl, rfl, by decide +kernel, rfl, by decide +kernel, by decide +kernel⟩
abbrev s_turned : Stmt := topS 30
theorem sc_turned : FnScope ["values", "joints", "turn", "result", "place", "width", "shape", "i", "left", "right"] ["values", "joints", "turn"] (defScope s_turned) := ⟨rfl, rfl, rfl, by decide +kernel, rfl, by decide +kernel, by decide +kernel⟩
abbrev s_check_joints : Stmt := topS 31
theorem sc_check_joints : FnScope ["joints", "length", "place", "width", "index", "item"] ["joints", "length"] (defScope s_check_joints) := ⟨rfl, rfl, rfl, by decide +kernel, rfl, by decide +kernel, by decide +kernel⟩
abbrev s_is_placed_joint : Stmt := topS 32
theorem sc_is_placed_joint : FnScope ["value"] ["value"] (defScope s_is_placed_joint) := ⟨rfl, rfl, rfl, by decide +kernel, rfl, by decide +kernel, by decide +kernel⟩
abbrev s_has_room : Stmt := topS 33
theorem sc_has_room : FnScope ["item", "before", "width_before", "length", "place", "width"] ["item", "before", "width_before", "length"] (defScope s_has_room) := ⟨rfl, rfl, rfl, by decide +kernel, rfl, by decide +kernel, by decide +kernel⟩
abbrev s_split_levels : Stmt := topS 37
theorem sc_split_levels : FnScope ["values", "levels", "sums", "rest", "level", "differences"] ["values", "levels"] (defScope s_split_levels) := ⟨rfl, rfl, rfl, by decide +kernel, rfl, by decide +kernel, by decide +kernel⟩
abbrev s_split_once : Stmt := topS 38
theorem sc_split_once : FnScope ["values", "sums", "differences", "at", "a", "b"] ["values"] (defScope s_split_once) := ⟨rfl, rfl, rfl, by decide +kernel, rfl, by decide +kernel, by decide +kernel⟩
abbrev s_join_levels : Stmt := topS 39
theorem sc_join_levels : FnScope ["numbers", "levels", "values", "level", "many"] ["numbers", "levels"] (defScope s_join_levels) := ⟨rfl, rfl, rfl, by decide +kernel, rfl, by decide +kernel, by decide +kernel⟩
abbrev s_join_once : Stmt := topS 40
theorem sc_join_once : FnScope ["sums", "differences", "values", "at", "difference", "b"] ["sums", "differences"] (defScope s_join_once) := ⟨rfl, rfl, rfl, by decide +kernel, rfl, by decide +kernel, by decide +kernel⟩
abbrev s_coarse_count : Stmt := topS 41
theorem sc_coarse_count : FnScope ["length", "levels", "many", "level"] ["length", "levels"] (defScope s_coarse_count) := ⟨rfl, rfl, rfl, by decide +kernel, rfl, by decide +kernel, by decide +kernel⟩
abbrev s_quantized : Stmt := topS 42
theorem sc_quantized : FnScope ["value", "step"] ["value", "step"] (defScope s_quantized) := ⟨rfl, rfl, rfl, by decide +kernel, rfl, by decide +kernel, by decide +kernel⟩
abbrev s_is_table : Stmt := topS 50
theorem sc_is_table : FnScope ["value", "total", "count"] ["value"] (defScope s_is_table) := ⟨rfl, rfl, rfl, by decide +kernel, rfl, by decide +kernel, by decide +kernel⟩
abbrev s_is_tables : Stmt := topS 51
theorem sc_is_tables : FnScope ["value"] ["value"] (defScope s_is_tables) := ⟨rfl, rfl, rfl, by decide +kernel, rfl, by decide +kernel, by decide +kernel⟩
abbrev s_parameter : Stmt := topS 52
theorem sc_parameter : FnScope ["table", "total", "count", "least"] ["table"] (defScope s_parameter) := ⟨rfl, rfl, rfl, by decide +kernel, rfl, by decide +kernel, by decide +kernel⟩
abbrev s_table_behind : Stmt := topS 53
theorem sc_table_behind : FnScope ["table", "code", "total", "count"] ["table", "code"] (defScope s_table_behind) := ⟨rfl, rfl, rfl, by decide +kernel, rfl, by decide +kernel, by decide +kernel⟩
abbrev s_code_number : Stmt := topS 54
theorem sc_code_number : FnScope ["number"] ["number"] (defScope s_code_number) := ⟨rfl, rfl, rfl, by decide +kernel, rfl, by decide +kernel, by decide +kernel⟩
abbrev s_number_with : Stmt := topS 55
theorem sc_number_with : FnScope ["code"] ["code"] (defScope s_number_with) := ⟨rfl, rfl, rfl, by decide +kernel, rfl, by decide +kernel, by decide +kernel⟩
abbrev s_code_bits : Stmt := topS 56
theorem sc_code_bits : FnScope ["code", "k", "digits", "ones", "padded"] ["code", "k"] (defScope s_code_bits) := ⟨rfl, rfl, rfl, by decide +kernel, rfl, by decide +kernel, by decide +kernel⟩
abbrev s_write_numbers : Stmt := topS 57
theorem sc_write_numbers : FnScope ["numbers", "coarse", "tables", "now", "words", "at", "number", "which", "code"] ["numbers", "coarse", "tables"] (defScope s_write_numbers) := ⟨rfl, rfl, rfl, by decide +kernel, rfl, by decide +kernel, by decide +kernel⟩
abbrev s_read_numbers : Stmt := topS 58
theorem sc_read_numbers : FnScope ["bits", "length", "coarse", "tables", "now", "numbers", "place", "at", "which", "found", "code"] ["bits", "length", "coarse", "tables"] (defScope s_read_numbers) := ⟨rfl, rfl, rfl, by decide +kernel, rfl, by decide +kernel, by decide +kernel⟩
abbrev s_check_coding : Stmt := topS 59
theorem sc_check_coding : FnScope ["length", "coarse", "tables"] ["length", "coarse", "tables"] (defScope s_check_coding) := ⟨rfl, rfl, rfl, by decide +kernel, rfl, by decide +kernel, by decide +kernel⟩
abbrev s_read_code : Stmt := topS 60
theorem sc_read_code : FnScope ["bits", "place", "k", "zero", "ones", "many", "end", "digits", "low"] ["bits", "place", "k"] (defScope s_read_code) := ⟨rfl, rfl, rfl, by decide +kernel, rfl, by decide +kernel, by decide +kernel⟩
abbrev s_mark_of : Stmt := topS 61
theorem sc_mark_of : FnScope ["numbers", "mark", "number"] ["numbers"] (defScope s_mark_of) := ⟨rfl, rfl, rfl, by decide +kernel, rfl, by decide +kernel, by decide +kernel⟩
abbrev s_is_record : Stmt := topS 64
theorem sc_is_record : FnScope ["value"] ["value"] (defScope s_is_record) := ⟨rfl, rfl, rfl, by decide +kernel, rfl, by decide +kernel, by decide +kernel⟩
abbrev s_is_state : Stmt := topS 65
theorem sc_is_state : FnScope ["value"] ["value"] (defScope s_is_state) := ⟨rfl, rfl, rfl, by decide +kernel, rfl, by decide +kernel, by decide +kernel⟩
abbrev s_is_frame : Stmt := topS 66
theorem sc_is_frame : FnScope ["value", "mark", "bits"] ["value"] (defScope s_is_frame) := ⟨rfl, rfl, rfl, by decide +kernel, rfl, by decide +kernel, by decide +kernel⟩
abbrev s_is_layout : Stmt := topS 67
theorem sc_is_layout : FnScope ["value", "length", "joint", "levels", "step"] ["value"] (defScope s_is_layout) := ⟨rfl, rfl, rfl, by decide +kernel, rfl, by decide +kernel, by decide +kernel⟩
abbrev s_is_bits : Stmt := topS 68
theorem sc_is_bits : FnScope ["value"] ["value"] (defScope s_is_bits) := ⟨rfl, rfl, rfl, by decide +kernel, rfl, by decide +kernel, by decide +kernel⟩
abbrev s_read_frame : Stmt := topS 69
theorem sc_read_frame : FnScope ["record", "tables", "length", "joint", "levels", "step", "mark", "bits", "found"] ["record", "tables"] (defScope s_read_frame) := ⟨rfl, rfl, rfl, by decide +kernel, rfl, by decide +kernel, by decide +kernel⟩
abbrev s_block_values : Stmt := topS 70
theorem sc_block_values : FnScope ["numbers", "levels", "step", "number"] ["numbers", "levels", "step"] (defScope s_block_values) := ⟨rfl, rfl, rfl, by decide +kernel, rfl, by decide +kernel, by decide +kernel⟩
abbrev s_placed_joints : Stmt := topS 71
theorem sc_placed_joints : FnScope ["lengths", "joints", "placed", "place", "length", "joint"] ["lengths", "joints"] (defScope s_placed_joints) := ⟨rfl, rfl, rfl, by decide +kernel, rfl, by decide +kernel, by decide +kernel⟩
abbrev s_unfolded_blocks : Stmt := topS 72
theorem sc_unfolded_blocks : FnScope ["blocks", "joints", "values", "block", "value"] ["blocks", "joints"] (defScope s_unfolded_blocks) := ⟨rfl, rfl, rfl, by decide +kernel, rfl, by decide +kernel, by decide +kernel⟩
abbrev s_check_records : Stmt := topS 73
theorem sc_check_records : FnScope ["records", "index", "record"] ["records"] (defScope s_check_records) := ⟨rfl, rfl, rfl, by decide +kernel, rfl, by decide +kernel, by decide +kernel⟩
abbrev s_read_frames : Stmt := topS 74
theorem sc_read_frames : FnScope ["records", "frames", "tables", "start", "left", "index", "record", "length", "right", "found", "numbers", "behind"] ["records"] (defScope s_read_frames) := ⟨rfl, rfl, rfl, by decide +kernel, rfl, by decide +kernel, by decide +kernel⟩
abbrev s_index_of : Stmt := topS 77
theorem sc_index_of : FnScope ["stream", "index", "origin", "at", "record"] ["stream"] (defScope s_index_of) := ⟨rfl, rfl, rfl, by decide +kernel, rfl, by decide +kernel, by decide +kernel⟩
abbrev s_needed_records : Stmt := topS 78
theorem sc_needed_records : FnScope ["index", "start", "end"] ["index", "start", "end"] (defScope s_needed_records) := ⟨rfl, rfl, rfl, by decide +kernel, rfl, by decide +kernel, by decide +kernel⟩
abbrev s_read_part : Stmt := topS 79
theorem sc_read_part : FnScope ["index", "fetch", "start", "end", "entries", "samples", "first"] ["index", "fetch", "start", "end"] (defScope s_read_part) := ⟨rfl, rfl, rfl, by decide +kernel, rfl, by decide +kernel, by decide +kernel⟩
abbrev s_sound_length : Stmt := topS 80
theorem sc_sound_length : FnScope ["index"] ["index"] (defScope s_sound_length) := ⟨rfl, rfl, rfl, by decide +kernel, rfl, by decide +kernel, by decide +kernel⟩
abbrev s_reach : Stmt := topS 81
theorem sc_reach : FnScope ["entry", "record", "start", "length", "left", "right"] ["entry"] (defScope s_reach) := ⟨rfl, rfl, rfl, by decide +kernel, rfl, by decide +kernel, by decide +kernel⟩
abbrev s_needed_entries : Stmt := topS 82
theorem sc_needed_entries : FnScope ["index", "start", "end", "needed", "entry", "first", "last"] ["index", "start", "end"] (defScope s_needed_entries) := ⟨rfl, rfl, rfl, by decide +kernel, rfl, by decide +kernel, by decide +kernel⟩
abbrev s_records_up_to : Stmt := topS 83
theorem sc_records_up_to : FnScope ["entries", "records", "behind", "entry", "record", "origin"] ["entries"] (defScope s_records_up_to) := ⟨rfl, rfl, rfl, by decide +kernel, rfl, by decide +kernel, by decide +kernel⟩
abbrev s_entries_by_record : Stmt := topS 84
theorem sc_entries_by_record : FnScope ["index", "entry"] ["index"] (defScope s_entries_by_record) := ⟨rfl, rfl, rfl, by decide +kernel, rfl, by decide +kernel, by decide +kernel⟩
abbrev s_fetched_numbers : Stmt := topS 85
theorem sc_fetched_numbers : FnScope ["index", "fetch", "entries", "by_record", "numbers", "tables", "at", "found"] ["index", "fetch", "entries"] (defScope s_fetched_numbers) := ⟨rfl, rfl, rfl, by decide +kernel, rfl, by decide +kernel, by decide +kernel⟩
abbrev s_read_as_told : Stmt := topS 86
theorem sc_read_as_told : FnScope ["entry", "value", "tables", "length", "right", "levels", "step"] ["entry", "value", "tables"] (defScope s_read_as_told) := ⟨rfl, rfl, rfl, by decide +kernel, rfl, by decide +kernel, by decide +kernel⟩
abbrev s_samples_of : Stmt := topS 87
theorem sc_samples_of : FnScope ["entries", "numbers", "blocks", "entry", "record", "length", "levels", "step"] ["entries", "numbers"] (defScope s_samples_of) := ⟨rfl, rfl, rfl, by decide +kernel, rfl, by decide +kernel, by decide +kernel⟩
abbrev s_unread_frames : Stmt := topS 89
theorem sc_unread_frames : FnScope ["index", "lost", "ascending", "unread", "passed", "latest", "frame", "entry", "record", "origin"] ["index", "lost"] (defScope s_unread_frames) := ⟨rfl, rfl, rfl, by decide +kernel, rfl, by decide +kernel, by decide +kernel⟩
abbrev s_check_lost : Stmt := topS 90
theorem sc_check_lost : FnScope ["lost", "record"] ["lost"] (defScope s_check_lost) := ⟨rfl, rfl, rfl, by decide +kernel, rfl, by decide +kernel, by decide +kernel⟩
abbrev s_touched : Stmt := topS 91
theorem sc_touched : FnScope ["index", "lost", "stretches", "frame", "first", "last"] ["index", "lost"] (defScope s_touched) := ⟨rfl, rfl, rfl, by decide +kernel, rfl, by decide +kernel, by decide +kernel⟩
abbrev s_concealed : Stmt := topS 92
theorem sc_concealed : FnScope ["index", "fetch", "lost", "unread", "missing", "frame", "entries", "entry"] ["index", "fetch", "lost"] (defScope s_concealed) := ⟨rfl, rfl, rfl, by decide +kernel, rfl, by decide +kernel, by decide +kernel⟩
abbrev s_salvaged : Stmt := topS 93
theorem sc_salvaged : FnScope ["index", "records", "by_record", "numbers", "lost", "tables", "at", "value", "entry", "found"] ["index", "records"] (defScope s_salvaged) := ⟨rfl, rfl, rfl, by decide +kernel, rfl, by decide +kernel, by decide +kernel⟩
abbrev s_encode : Stmt := topS 96
theorem sc_encode : FnScope ["sound", "plan", "states"] ["sound", "plan", "states"] (defScope s_encode) := ⟨rfl, rfl, rfl, by decide +kernel, rfl, by decide +kernel, by decide +kernel⟩
abbrev s_check_plan : Stmt := topS 97
theorem sc_check_plan : FnScope ["plan", "length", "left", "total", "index", "item"] ["plan", "length"] (defScope s_check_plan) := ⟨rfl, rfl, rfl, by decide +kernel, rfl, by decide +kernel, by decide +kernel⟩
abbrev s_coded_records : Stmt := topS 98
theorem sc_coded_records : FnScope ["sound", "plan", "states", "lengths", "item", "values", "records", "tables", "start", "frame", "layout", "end", "record"] ["sound", "plan", "states"] (defScope s_coded_records) := ⟨rfl, rfl, rfl, by decide +kernel, rfl, by decide +kernel, by decide +kernel⟩
abbrev s_coded_frame : Stmt := topS 99
theorem sc_coded_frame : FnScope ["values", "layout", "tables", "length", "joint", "levels", "step", "numbers", "value", "bits", "behind"] ["values", "layout", "tables"] (defScope s_coded_frame) := ⟨rfl, rfl, rfl, by decide +kernel, rfl, by decide +kernel, by decide +kernel⟩
abbrev s_pool : Stmt := topS 101
theorem sc_pool : FnScope ["_law_script", "_law_k", "_law_cell", "_law_great", "_law_seed"] ["_law_script", "_law_k"] (defScope s_pool) := ⟨rfl, rfl, rfl, by decide +kernel, rfl, by decide +kernel, by decide +kernel⟩
abbrev s_take : Stmt := topS 102
theorem sc_take : FnScope ["_law_pool_here", "_law_many", "_law_found"] ["_law_pool_here", "_law_many"] (defScope s_take) := ⟨rfl, rfl, rfl, by decide +kernel, rfl, by decide +kernel, by decide +kernel⟩
abbrev s_same : Stmt := topS 103
theorem sc_same : FnScope ["_law_actual", "_law_due", "_law_one", "_law_other"] ["_law_actual", "_law_due"] (defScope s_same) := ⟨rfl, rfl, rfl, by decide +kernel, rfl, by decide +kernel, by decide +kernel⟩
abbrev s_law : Stmt := topS 104
theorem sc_law : FnScope ["_law_script", "_law_shares", "_law_k", "_law_pool_here", "_law_some", "_law_at", "_law_made", "_law_rows", "_law_given", "_law_first", "_law_last", "_law_gone", "_law_part", "_law_silent"] ["_law_script"] (defScope s_law) := ⟨rfl, rfl, rfl, by decide +kernel, rfl, by decide +kernel, by decide +kernel⟩
abbrev s_Stream___init__ : Stmt := inClass (topS 75) 0
theorem sc_Stream___init__ : FnScope ["self", "records"] ["self", "records"] (defScope s_Stream___init__) := ⟨rfl, rfl, rfl, by decide +kernel, rfl, by decide +kernel, by decide +kernel⟩
abbrev s_Stream_records : Stmt := inClass (topS 75) 4
theorem sc_Stream_records : FnScope ["self"] ["self"] (defScope s_Stream_records) := ⟨rfl, rfl, rfl, by decide +kernel, rfl, by decide +kernel, by decide +kernel⟩
abbrev s_Stream_sound : Stmt := inClass (topS 75) 7
theorem sc_Stream_sound : FnScope ["self", "blocks", "frame", "block", "numbers", "before", "behind"] ["self"] (defScope s_Stream_sound) := ⟨rfl, rfl, rfl, by decide +kernel, rfl, by decide +kernel, by decide +kernel⟩
abbrev s_Stream_block : Stmt := inClass (topS 75) 8
theorem sc_Stream_block : FnScope ["self", "frame"] ["self", "frame"] (defScope s_Stream_block) := ⟨rfl, rfl, rfl, by decide +kernel, rfl, by decide +kernel, by decide +kernel⟩
abbrev s_Stream_contents : Stmt := inClass (topS 75) 10
theorem sc_Stream_contents : FnScope ["self", "frame", "numbers", "levels", "step"] ["self", "frame"] (defScope s_Stream_contents) := ⟨rfl, rfl, rfl, by decide +kernel, rfl, by decide +kernel, by decide +kernel⟩
abbrev s_Stream_part_of : Stmt := inClass (topS 75) 13
theorem sc_Stream_part_of : FnScope ["self", "frame", "part"] ["self", "frame", "part"] (defScope s_Stream_part_of) := ⟨rfl, rfl, rfl, by decide +kernel, rfl, by decide +kernel, by decide +kernel⟩
def qLam : Str := (envOfC "law" (defScope s_law) 0 0 .none).qual ++ "<lambda>"
section
variable {P : Program} {w : World} {K : PySem.W.Frag} {mg : Str → Option Value} {base : Heap}
theorem ok_is_integer {f : Addr} {fd : FuncData}     (D : Dn K mg "is_integer" s_is_integer ["value"] f fd) (bi : Bi mg)     : FnOk P w K mg base CX0 1 f fd ["value"] spIsI := by
  refine lt_out ?_
  simp (disch := with_unfolding_all
    refine D.F.ok sc_is_integer (fun vs H Q E h => ?_) (fun cdv A outer s H vs Q E hr h => ?_)
    · obtain ⟨x, rfl, _⟩ := h
      rfl
    · obtain ⟨x, rfl, t, q⟩ := h
      refine ⟨_, (pss_one (ps_ret (pe_and (pe_callB call_isi (by rfl) bi.isinstance_ (by decide +kernel) (pa_cons (pv 0) (pa_cons (pe_bltn (v := .ty "int") (by rfl) bi.int_ (by decide +kernel) rfl) pa_nil))) (pe_one (pe_not (pe_callB call_isi (by rfl) bi.isinstance_ (by decide +kernel) (pa_cons (pv 0) (pa_cons (pe_bltn (v := .ty "bool") (by rfl) bi.bool_ (by decide +kernel) rfl) pa_nil)))))))), ?_⟩
      refine rd_start (σ := [some x]) rfl ?_
      cases x with
      | non => walk_at "rd"; exact q
      | bl _ => walk_at "rd"; exact q
      | int _ => walk_at "rd"; exact q
      | str _ => walk_at "rd"; exact q
      | ref a =>
        rcases t with ⟨xs, t⟩ | ⟨xs, t⟩
        · walk_at "rd"; exact q
        · walk_at "rd"; exact q
      | byt _ => exact t.elim
      | flt _ => exact t.elim
      | ty _ => exact t.elim
    ) only [↓lt_eq]
theorem ok_is_within {f : Addr} {fd : FuncData} {f_is_integer : Addr} {fd_is_integer : FuncData}    (D : Dn K mg "is_within" s_is_within ["value", "low", "high"] f fd) (bi : Bi mg) (G_is_integer : FnOk P w K mg base CX0 1 f_is_integer fd_is_integer ["value"] spIsI) (D_is_integer : Dn K mg "is_integer" s_is_integer ["value"] f_is_integer fd_is_integer)    : FnOk P w K mg base CX0 2 f fd ["value", "low", "high"] spWithin := by
  refine lt_out ?_
  simp (disch := with_unfolding_all
    refine D.F.ok sc_is_within (fun vs H Q E h => ?_) (fun cdv A outer s H vs Q E hr h => ?_)
    · obtain ⟨x, lo, hi, rfl, _⟩ := h
      rfl
    · obtain ⟨x, lo, hi, rfl, t, q⟩ := h
      refine ⟨_, (pss_one (ps_ret (pe_and (pe_call G_is_integer (hr.mono (by first | decide | exact Nat.le_refl _)) (by rfl) D_is_integer.g D_is_integer.F.kp D_is_integer.b .nil pass0 (pa_cons (pv 0) pa_nil)) (pe_one (pe_chain op_le op_le (pv 1) (pv 0) (pv 2)))))), ?_⟩
      refine rd_start (σ := [some x, some (.int lo), some (.int hi)]) rfl ?_
      walk_at "rd"
      refine use_isi t (rd_bl ?_)
      cases x with
      | int i =>
        refine if_yes (c := isI (V.int i)) rfl ?_
        walk_at "rd"
        refine rd_iteD (p := lo ≤ i) (fun c => ?_) (fun c => ?_)
        · walk_at "rd"
          have e : inI (.int i) lo hi = decide (i ≤ hi) := by simp [inI, c]
          rw [e] at q
          exact q
        · have e : inI (.int i) lo hi = false := by simp [inI, c]
          rw [e] at q
          exact q
      | non => exact iteF q
      | bl _ => exact iteF q
      | str _ => exact iteF q
      | ref _ => exact iteF q
      | byt _ => exact iteF q
      | flt _ => exact iteF q
      | ty _ => exact iteF q
    ) only [↓lt_eq]
theorem ok_is_joint {f : Addr} {fd : FuncData} {f_is_within : Addr} {fd_is_within : FuncData}    (D : Dn K mg "is_joint" s_is_joint ["value"] f fd) (bi : Bi mg) (G_is_within : FnOk P w K mg base CX0 2 f_is_within fd_is_within ["value", "low", "high"] spWithin) (D_is_within : Dn K mg "is_within" s_is_within ["value", "low", "high"] f_is_within fd_is_within)   (g_WIDTH_LIMIT : ∃ t, mg "WIDTH_LIMIT" = some (.int 8 t)) (g_SHAPE_LIMIT : ∃ t, mg "SHAPE_LIMIT" = some (.int 3 t)) : FnOk P w K mg base CX0 3 f fd ["value"] spJ := by
  refine lt_out ?_
  simp (disch := with_unfolding_all
    refine D.F.ok sc_is_joint (fun vs H Q E h => ?_) (fun cdv A outer s H vs Q E hr h => ?_)
    · obtain ⟨x, b, rfl, _⟩ := h
      rfl
    · obtain ⟨x, b, rfl, hj, q⟩ := h
      obtain ⟨t1, g_WIDTH_LIMIT⟩ := g_WIDTH_LIMIT
      obtain ⟨t2, g_SHAPE_LIMIT⟩ := g_SHAPE_LIMIT
      refine ⟨_, (pss_cons (ps_if (PW.pt (pw_or (pt_not (pt_val (pe_callB call_isi (by rfl) bi.isinstance_ (by decide +kernel) (pa_cons (pv 0) (pa_cons (pe_bltn (v := .ty "tuple") (by rfl) bi.tuple_ (by decide +kernel) rfl) pa_nil))))) (pw_or1 (pt_cmpR op_ne (pe_callB cLen (by rfl) bi.len_ (by decide +kernel) (pa_cons (pv 0) pa_nil)) pe_int (nomark _)))))
   (pss_one (ps_ret pe_bl))
   pss_nil)
   (pss_cons (ps_asg (pv 0) (pg_tup rfl (pgs_cons (pg_name (i := 1) sc_is_joint.nd rfl (Or.inl rfl)) (pgs_cons (pg_name (i := 2) sc_is_joint.nd rfl (Or.inl rfl)) pgs_nil))))
   (pss_cons (ps_if (PW.pt (pw_or (pt_not (pt_val (pe_call G_is_within (hr.mono (by first | decide | exact Nat.le_refl _)) (by rfl) D_is_within.g D_is_within.F.kp D_is_within.b .nil pass0 (pa_cons (pv 1) (pa_cons pe_int (pa_cons (pe_glob (v := .int 8) (by rfl) g_WIDTH_LIMIT ⟨_, rfl⟩) pa_nil)))))) (pw_or1 (pt_not (pt_val (pe_call G_is_within (hr.mono (by first | decide | exact Nat.le_refl _)) (by rfl) D_is_within.g D_is_within.F.kp D_is_within.b .nil pass0 (pa_cons (pv 2) (pa_cons pe_int (pa_cons (pe_glob (v := .int 3) (by rfl) g_SHAPE_LIMIT ⟨_, rfl⟩) pa_nil)))))))))
   (pss_one (ps_ret pe_bl))
   pss_nil)
   (pss_one (ps_ret (pe_or (pe_cmpR op_gt (pv 1) pe_int (nomark _)) (pe_one (pe_cmpR op_eq (pv 2) pe_int (nomark _))))))))), ?_⟩
      refine rd_start (σ := [some x, none, none]) rfl ?_
      cases hj with
      | @flat _ h =>
        cases x with
        | non => walk_at "rd"; exact q
        | bl _ => walk_at "rd"; exact q
        | int _ => walk_at "rd"; exact q
        | str _ => walk_at "rd"; exact q
        | ref _ => exact Bool.noConfusion h
        | byt _ => exact Bool.noConfusion h
        | flt _ => exact Bool.noConfusion h
        | ty _ => exact Bool.noConfusion h
      | @lst a xs h => walk_at "rd"; exact q
      | @tupn a xs h n =>
        walk_at "rd"
        refine if_yesN (fun z => n (Int.ofNat.inj (V.int.inj z))) ?_
        walk_at "rd"
        exact q
      | @tup2 a u v h hu hv =>
        walk_at "rd"
        refine if_noN rfl ?_
        walk_at "rd"
        refine use_within hu ?_
        walk_at "rd"
        cases cu : inI u 0 8 with
        | false =>
          rw [jt_no1 cu] at q
          walk_at "rd"
          exact q
        | true =>
          walk_at "rd"
          refine use_within hv ?_
          walk_at "rd"
          cases cv : inI v 0 3 with
          | false =>
            rw [jt_no2 cv] at q
            walk_at "rd"
            exact q
          | true =>
            obtain ⟨w1, rfl⟩ := isI_yes (inI_isI cu)
            obtain ⟨w2, rfl⟩ := isI_yes (inI_isI cv)
            have e : jt (.int w1) (.int w2) = (decide (0 < w1) || decide (w2 = 0)) := by unfold jt; rw [cu, cv]; rfl
            rw [e] at q
            walk_at "rd"
            refine rd_iteD (fun c => ?_) (fun c => ?_)
            · rw [decide_eq_true c] at q
              exact q
            · walk_at "rd"
              rw [decide_eq_false c, ← dec_i0] at q
              exact q
    ) only [↓lt_eq]
theorem ok_is_table {f : Addr} {fd : FuncData} {f_is_integer : Addr} {fd_is_integer : FuncData} {f_is_within : Addr} {fd_is_within : FuncData}    (D : Dn K mg "is_table" s_is_table ["value"] f fd) (bi : Bi mg) (G_is_integer : FnOk P w K mg base CX0 1 f_is_integer fd_is_integer ["value"] spIsI) (D_is_integer : Dn K mg "is_integer" s_is_integer ["value"] f_is_integer fd_is_integer) (G_is_within : FnOk P w K mg base CX0 2 f_is_within fd_is_within ["value", "low", "high"] spWithin) (D_is_within : Dn K mg "is_within" s_is_within ["value", "low", "high"] f_is_within fd_is_within)   (g_COUNT_LIMIT : ∃ t, mg "COUNT_LIMIT" = some (.int 15 t)) : FnOk P w K mg base CX0 3 f fd ["value"] (spTblG K) := by
  refine lt_out ?_
  simp (disch := with_unfolding_all
    refine D.F.ok sc_is_table (fun vs H Q E h => ?_) (fun cdv A outer s H vs Q E hr h => ?_)
    · obtain ⟨a, t, m, rfl, _⟩ := h
      rfl
    · obtain ⟨a, t, m, rfl, h1, ok, q⟩ := h
      obtain ⟨t1, g_COUNT_LIMIT⟩ := g_COUNT_LIMIT
      have L1 := h1.1
      obtain ⟨o1, o2, o3, o4⟩ := ok
      refine ⟨_, (pss_cons (ps_if (PW.pt (pw_or (pt_not (pt_val (pe_callB call_isi (by rfl) bi.isinstance_ (by decide +kernel) (pa_cons (pv 0) (pa_cons (pe_bltn (v := .ty "tuple") (by rfl) bi.tuple_ (by decide +kernel) rfl) pa_nil))))) (pw_or1 (pt_cmpR op_ne (pe_callB cLen (by rfl) bi.len_ (by decide +kernel) (pa_cons (pv 0) pa_nil)) pe_int (nomark _)))))
   (pss_one (ps_ret pe_bl))
   pss_nil)
   (pss_cons (ps_asg (pv 0) (pg_tup rfl (pgs_cons (pg_name (i := 1) sc_is_table.nd rfl (Or.inl rfl)) (pgs_cons (pg_name (i := 2) sc_is_table.nd rfl (Or.inl rfl)) pgs_nil))))
   (pss_one (ps_ret (pe_and (pe_call G_is_integer (hr.mono (by first | decide | exact Nat.le_refl _)) (by rfl) D_is_integer.g D_is_integer.F.kp D_is_integer.b .nil pass0 (pa_cons (pv 1) pa_nil)) (pe_and (pe_cmpR op_ge (pv 1) pe_int (nomark _)) (pe_one (pe_call G_is_within (hr.mono (by first | decide | exact Nat.le_refl _)) (by rfl) D_is_within.g D_is_within.F.kp D_is_within.b .nil pass0 (pa_cons (pv 2) (pa_cons pe_int (pa_cons (pe_glob (v := .int 15) (by rfl) g_COUNT_LIMIT ⟨_, rfl⟩) pa_nil))))))))))), ?_⟩
      refine rd_start (σ := [some (.ref a), none, none]) rfl ?_
      walk_at "rd"
      refine isi_ty h1.2 (d := true) (by decide +kernel) ?_
      walk_at "rd"
      refine if_noN rfl ?_
      walk_at "rd"
      rw [decide_eq_true (show t.1 ≥ 0 from o1)]
      walk_at "rd"
      rw [decide_eq_true (show 1 ≤ t.2 ∧ t.2 ≤ 15 from ⟨o3, o4⟩)]
      exact q
    ) only [↓lt_eq]
theorem ok_is_tables {f : Addr} {fd : FuncData} {f_is_table : Addr} {fd_is_table : FuncData}    (D : Dn K mg "is_tables" s_is_tables ["value"] f fd) (bi : Bi mg) (G_is_table : FnOk P w K mg base CX0 3 f_is_table fd_is_table ["value"] (spTblG K)) (D_is_table : Dn K mg "is_table" s_is_table ["value"] f_is_table fd_is_table)    : FnOk P w K mg base CX0 4 f fd ["value"] (spTblsG K) := by
  refine lt_out ?_
  simp (disch := with_unfolding_all
    refine D.F.ok sc_is_tables (fun vs H Q E h => ?_) (fun cdv A outer s H vs Q E hr h => ?_)
    · obtain ⟨a, T, m, rfl, _⟩ := h
      rfl
    · obtain ⟨a, T, m, rfl, ⟨r0, r1, h0, h1, h2⟩, o1, o2, q⟩ := h
      have L1 := h0.1
      refine ⟨_, (pss_one (ps_ret (pe_and (pe_callB call_isi (by rfl) bi.isinstance_ (by decide +kernel) (pa_cons (pv 0) (pa_cons (pe_bltn (v := .ty "tuple") (by rfl) bi.tuple_ (by decide +kernel) rfl) pa_nil))) (pe_and (pe_cmpR op_eq (pe_callB cLen (by rfl) bi.len_ (by decide +kernel) (pa_cons (pv 0) pa_nil)) pe_int (nomark _)) (pe_and (pe_call G_is_table (hr.mono (by first | decide | exact Nat.le_refl _)) (by rfl) D_is_table.g D_is_table.F.kp D_is_table.b .nil pass0 (pa_cons (pe_ix ix_tup (pv 0) pe_int (fun _ _ => rfl)) pa_nil)) (pe_one (pe_call G_is_table (hr.mono (by first | decide | exact Nat.le_refl _)) (by rfl) D_is_table.g D_is_table.F.kp D_is_table.b .nil pass0 (pa_cons (pe_ix ix_tup (pv 0) pe_int (fun _ _ => rfl)) pa_nil)))))))), ?_⟩
      refine rd_start (σ := [some (.ref a)]) rfl ?_
      walk_at "rd"
      refine isi_ty h0.2 (d := true) (by decide +kernel) ?_
      walk_at "rd"
      refine if_yesD rfl ?_
      walk_at "rd"
      refine use_tblG h1 o1 ?_
      walk_at "rd"
      refine use_tblG h2 o2 ?_
      exact q
    ) only [↓lt_eq]
theorem ok_is_bits {f : Addr} {fd : FuncData}     (D : Dn K mg "is_bits" s_is_bits ["value"] f fd) (bi : Bi mg)     : FnOk P w K mg base CX0 1 f fd ["value"] spIsB := by
  refine lt_out ?_
  simp (disch := with_unfolding_all
    refine D.F.ok sc_is_bits (fun vs H Q E h => ?_) (fun cdv A outer s H vs Q E hr h => ?_)
    · obtain ⟨l, rfl, _⟩ := h
      rfl
    · obtain ⟨l, rfl, hb, hl, q⟩ := h
      have hl2 : l.length ≤ 16777216 := by omega
      refine ⟨_, (pss_one (ps_ret (pe_and (pe_callB call_isi (by rfl) bi.isinstance_ (by decide +kernel) (pa_cons (pv 0) (pa_cons (pe_bltn (v := .ty "str") (by rfl) bi.str_ (by decide +kernel) rfl) pa_nil))) (pe_one (pe_cmpR op_eq (pe_bm PySem.F.plainAttrs_str PySem.F.slot_str_strip PySem.F.type_str_strip mt_stripK (pv 0) (pa_cons pe_str pa_nil)) pe_str (nomark _)))))), ?_⟩
      refine rd_start (σ := [some (.str (SX.S l))]) rfl ?_
      walk_at "rd"
      exact rd_decT (congrArg V.str e_empty.symm) q
    ) only [↓lt_eq]
theorem ok_is_layout {f : Addr} {fd : FuncData} {f_is_within : Addr} {fd_is_within : FuncData} {f_is_joint : Addr} {fd_is_joint : FuncData}    (D : Dn K mg "is_layout" s_is_layout ["value"] f fd) (bi : Bi mg) (G_is_within : FnOk P w K mg base CX0 2 f_is_within fd_is_within ["value", "low", "high"] spWithin) (D_is_within : Dn K mg "is_within" s_is_within ["value", "low", "high"] f_is_within fd_is_within) (G_is_joint : FnOk P w K mg base CX0 3 f_is_joint fd_is_joint ["value"] spJ) (D_is_joint : Dn K mg "is_joint" s_is_joint ["value"] f_is_joint fd_is_joint)   (g_BLOCK_LIMIT : ∃ t, mg "BLOCK_LIMIT" = some (.int 64 t)) (g_LEVEL_LIMIT : ∃ t, mg "LEVEL_LIMIT" = some (.int 5 t)) (g_STEP_LIMIT : ∃ t, mg "STEP_LIMIT" = some (.int 64 t)) : FnOk P w K mg base CX0 4 f fd ["value"] spIsLay := by
  refine lt_out ?_
  simp (disch := with_unfolding_all
    refine D.F.ok sc_is_layout (fun vs H Q E h => ?_) (fun cdv A outer s H vs Q E hr h => ?_)
    · obtain ⟨a, j, d, rfl, _⟩ := h
      rfl
    · obtain ⟨a, j, d, rfl, ⟨h, hj⟩, hok, q⟩ := h
      obtain ⟨ln, w, sh, lv, st⟩ := d
      obtain ⟨k1, k2, k3, k4, k5, k6, k7, k8⟩ := hok
      dsimp only at k1 k2 k3 k4 k5 k6 k7 k8 h hj
      obtain ⟨t1, g_BLOCK_LIMIT⟩ := g_BLOCK_LIMIT
      obtain ⟨t2, g_LEVEL_LIMIT⟩ := g_LEVEL_LIMIT
      obtain ⟨t3, g_STEP_LIMIT⟩ := g_STEP_LIMIT
      refine ⟨_, (pss_cons (ps_if (PW.pt (pw_or (pt_not (pt_val (pe_callB call_isi (by rfl) bi.isinstance_ (by decide +kernel) (pa_cons (pv 0) (pa_cons (pe_bltn (v := .ty "tuple") (by rfl) bi.tuple_ (by decide +kernel) rfl) pa_nil))))) (pw_or1 (pt_cmpR op_ne (pe_callB cLen (by rfl) bi.len_ (by decide +kernel) (pa_cons (pv 0) pa_nil)) pe_int (nomark _)))))
   (pss_one (ps_ret pe_bl))
   pss_nil)
   (pss_cons (ps_asg (pv 0) (pg_tup rfl (pgs_cons (pg_name (i := 1) sc_is_layout.nd rfl (Or.inl rfl)) (pgs_cons (pg_name (i := 2) sc_is_layout.nd rfl (Or.inl rfl)) (pgs_cons (pg_name (i := 3) sc_is_layout.nd rfl (Or.inl rfl)) (pgs_cons (pg_name (i := 4) sc_is_layout.nd rfl (Or.inl rfl)) pgs_nil))))))
   (pss_cons (ps_if (PW.pt (pw_or (pt_not (pt_val (pe_call G_is_within (hr.mono (by first | decide | exact Nat.le_refl _)) (by rfl) D_is_within.g D_is_within.F.kp D_is_within.b .nil pass0 (pa_cons (pv 1) (pa_cons pe_int (pa_cons (pe_glob (v := .int 64) (by rfl) g_BLOCK_LIMIT ⟨_, rfl⟩) pa_nil)))))) (pw_or1 (pt_not (pt_val (pe_call G_is_joint (hr.mono (by first | decide | exact Nat.le_refl _)) (by rfl) D_is_joint.g D_is_joint.F.kp D_is_joint.b .nil pass0 (pa_cons (pv 2) pa_nil)))))))
   (pss_one (ps_ret pe_bl))
   pss_nil)
   (pss_one (ps_ret (pe_and (pe_call G_is_within (hr.mono (by first | decide | exact Nat.le_refl _)) (by rfl) D_is_within.g D_is_within.F.kp D_is_within.b .nil pass0 (pa_cons (pv 3) (pa_cons pe_int (pa_cons (pe_glob (v := .int 5) (by rfl) g_LEVEL_LIMIT ⟨_, rfl⟩) pa_nil)))) (pe_one (pe_call G_is_within (hr.mono (by first | decide | exact Nat.le_refl _)) (by rfl) D_is_within.g D_is_within.F.kp D_is_within.b .nil pass0 (pa_cons (pv 4) (pa_cons pe_int (pa_cons (pe_glob (v := .int 64) (by rfl) g_STEP_LIMIT ⟨_, rfl⟩) pa_nil))))))))))), ?_⟩
      refine rd_start (σ := [some (.ref a), none, none, none, none]) rfl ?_
      walk_at "rd"
      refine if_noN rfl ?_
      walk_at "rd"
      rw [decide_eq_true (show (1 : Int) ≤ (ln : Int) ∧ (ln : Int) ≤ 64 by omega)]
      walk_at "rd"
      have jr := JR.tup2 hj trivial trivial
      rw [jt_ok (j := (0, w, sh)) k3 k4 k5] at jr
      refine use_j jr (rd_bl ?_)
      walk_at "rd"
      rw [decide_eq_true (show (0 : Int) ≤ (lv : Int) ∧ (lv : Int) ≤ 5 by omega)]
      walk_at "rd"
      exact rd_decT (by omega) q
    ) only [↓lt_eq]
theorem ok_is_frame {f : Addr} {fd : FuncData} {f_is_layout : Addr} {fd_is_layout : FuncData} {f_is_within : Addr} {fd_is_within : FuncData} {f_is_bits : Addr} {fd_is_bits : FuncData}    (D : Dn K mg "is_frame" s_is_frame ["value"] f fd) (bi : Bi mg) (G_is_layout : FnOk P w K mg base CX0 4 f_is_layout fd_is_layout ["value"] spIsLay) (D_is_layout : Dn K mg "is_layout" s_is_layout ["value"] f_is_layout fd_is_layout) (G_is_within : FnOk P w K mg base CX0 2 f_is_within fd_is_within ["value", "low", "high"] spWithin) (D_is_within : Dn K mg "is_within" s_is_within ["value", "low", "high"] f_is_within fd_is_within) (G_is_bits : FnOk P w K mg base CX0 1 f_is_bits fd_is_bits ["value"] spIsB) (D_is_bits : Dn K mg "is_bits" s_is_bits ["value"] f_is_bits fd_is_bits)   (g_FRAME_ITEMS : ∃ t, mg "FRAME_ITEMS" = some (.int 7 t)) (g_MARK_MODULUS : ∃ t, mg "MARK_MODULUS" = some (.int 9973 t)) : FnOk P w K mg base CX0 5 f fd ["value"] (spIsFr K) := by
  refine lt_out ?_
  simp (disch := with_unfolding_all
    refine D.F.ok sc_is_frame (fun vs H Q E h => ?_) (fun cdv A outer s H vs Q E hr h => ?_)
    · obtain ⟨v, d, ns, T, rfl, _⟩ := h
      rfl
    · obtain ⟨v, d, ns, T, rfl, ⟨a, j, rfl, h, hj⟩, ok, q⟩ := h
      obtain ⟨bl, bb⟩ := bitsF_len ok
      obtain ⟨m0, m1⟩ := markF_bound ns
      unfold FrAt at h
      obtain ⟨t1, g_FRAME_ITEMS⟩ := g_FRAME_ITEMS
      obtain ⟨t2, g_MARK_MODULUS⟩ := g_MARK_MODULUS
      refine ⟨_, (pss_cons (ps_if (PW.pt (pw_or (pt_not (pt_val (pe_callB call_isi (by rfl) bi.isinstance_ (by decide +kernel) (pa_cons (pv 0) (pa_cons (pe_bltn (v := .ty "tuple") (by rfl) bi.tuple_ (by decide +kernel) rfl) pa_nil))))) (pw_or (pt_cmpR op_ne (pe_callB cLen (by rfl) bi.len_ (by decide +kernel) (pa_cons (pv 0) pa_nil)) (pe_glob (v := .int 7) (by rfl) g_FRAME_ITEMS ⟨_, rfl⟩) (nomark _)) (pw_or1 (pt_cmpR op_ne (pe_ix ix_tup (pv 0) pe_int (fun _ _ => rfl)) pe_str (nomark _))))))
   (pss_one (ps_ret pe_bl))
   pss_nil)
   (pss_cons (ps_asg (pe_slice sl_tup (pv 0) (po_some pe_int) po_none) (pg_tup rfl (pgs_cons (pg_name (i := 1) sc_is_frame.nd rfl (Or.inl rfl)) (pgs_cons (pg_name (i := 2) sc_is_frame.nd rfl (Or.inl rfl)) pgs_nil))))
   (pss_one (ps_ret (pe_and (pe_call G_is_layout (hr.mono (by first | decide | exact Nat.le_refl _)) (by rfl) D_is_layout.g D_is_layout.F.kp D_is_layout.b .nil pass0 (pa_cons (pe_slice sl_tup (pv 0) (po_some pe_int) (po_some pe_int)) pa_nil)) (pe_and (pe_call G_is_within (hr.mono (by first | decide | exact Nat.le_refl _)) (by rfl) D_is_within.g D_is_within.F.kp D_is_within.b .nil pass0 (pa_cons (pv 1) (pa_cons pe_int (pa_cons (pe_op op_sub (pe_glob (v := .int 9973) (by rfl) g_MARK_MODULUS ⟨_, rfl⟩) pe_int) pa_nil)))) (pe_one (pe_call G_is_bits (hr.mono (by first | decide | exact Nat.le_refl _)) (by rfl) D_is_bits.g D_is_bits.F.kp D_is_bits.b .nil pass0 (pa_cons (pv 2) pa_nil))))))))), ?_⟩
      refine rd_start (σ := [some (.ref a), none, none]) rfl ?_
      walk_at "rd"
      refine if_noN rfl ?_
      walk_at "rd"
      refine if_noN rfl ?_
      walk_at "rd"
      refine rd_slTp (SqT.of h) (ys := [.int (markF ns), .str (SX.S (bitsF d ns T))]) rfl (show ¬ (HT.sIx 7 0 (some 5) = 0 ∧ HT.sIx 7 7 none = 7) by decide) fun p1 hp1 => ?_
      walk_at "rd"
      refine rd_slTp (SqT.of (look_new hp1 h)) (ys := [.int (d.1 : Nat), .ref j, .int (d.2.2.2.1 : Nat), .int (d.2.2.2.2 : Nat)]) rfl (show ¬ (HT.sIx 7 0 (some 1) = 0 ∧ HT.sIx 7 7 (some 5) = 7) by decide) fun p2 hp2 => ?_
      have s2 : Same H (upd (upd H p1 (.tup [.int (markF ns), .str (SX.S (bitsF d ns T))])) p2 (.tup [.int (d.1 : Nat), .ref j, .int (d.2.2.2.1 : Nat), .int (d.2.2.2.2 : Nat)])) := (same_new hp1).trans (same_new hp2)
      walk_at "rd"
      refine use_islay (d := d) ⟨upd_same, s2 _ _ hj⟩ ok.1 ?_
      walk_at "rd"
      rw [decide_eq_true (show (0 : Int) ≤ markF ns ∧ markF ns ≤ 9973 - 1 by omega)]
      walk_at "rd"
      exact use_isb bb bl (q _ s2)
    ) only [↓lt_eq]
theorem ok_is_state {f : Addr} {fd : FuncData} {f_is_tables : Addr} {fd_is_tables : FuncData}    (D : Dn K mg "is_state" s_is_state ["value"] f fd) (bi : Bi mg) (G_is_tables : FnOk P w K mg base CX0 4 f_is_tables fd_is_tables ["value"] (spTblsG K)) (D_is_tables : Dn K mg "is_tables" s_is_tables ["value"] f_is_tables fd_is_tables)    : FnOk P w K mg base CX0 5 f fd ["value"] (spIsSt K) := by
  refine lt_out ?_
  simp (disch := with_unfolding_all
    refine D.F.ok sc_is_state (fun vs H Q E h => ?_) (fun cdv A outer s H vs Q E hr h => ?_)
    · obtain ⟨v, r, rfl, _⟩ := h
      rfl
    · obtain ⟨v, r, rfl, hr1, ok, q⟩ := h
      cases r with
      | st T =>
        obtain ⟨a, t, rfl, h, hT⟩ := hr1
        refine ⟨_, (pss_one (ps_ret (pe_and (pe_callB call_isi (by rfl) bi.isinstance_ (by decide +kernel) (pa_cons (pv 0) (pa_cons (pe_bltn (v := .ty "tuple") (by rfl) bi.tuple_ (by decide +kernel) rfl) pa_nil))) (pe_and (pe_cmpR op_eq (pe_callB cLen (by rfl) bi.len_ (by decide +kernel) (pa_cons (pv 0) pa_nil)) pe_int (nomark _)) (pe_and (pe_cmpR op_eq (pe_ix ix_tup (pv 0) pe_int (fun _ _ => rfl)) pe_str (nomark _)) (pe_one (pe_call G_is_tables (hr.mono (by first | decide | exact Nat.le_refl _)) (by rfl) D_is_tables.g D_is_tables.F.kp D_is_tables.b .nil pass0 (pa_cons (pe_ix ix_tup (pv 0) pe_int (fun _ _ => rfl)) pa_nil)))))))), ?_⟩
        refine rd_start (σ := [some (.ref a)]) rfl ?_
        walk_at "rd"
        refine if_yesD rfl ?_
        walk_at "rd"
        refine if_yesD rfl ?_
        walk_at "rd"
        exact use_tblsG hT ok.1 ok.2 q
      | fr d ns T =>
        obtain ⟨a, j, rfl, h, hj⟩ := hr1
        unfold FrAt at h
        refine ⟨_, (pss_one (ps_ret (pe_and (pe_callB call_isi (by rfl) bi.isinstance_ (by decide +kernel) (pa_cons (pv 0) (pa_cons (pe_bltn (v := .ty "tuple") (by rfl) bi.tuple_ (by decide +kernel) rfl) pa_nil))) (pe_and (pe_cmpR op_eq (pe_callB cLen (by rfl) bi.len_ (by decide +kernel) (pa_cons (pv 0) pa_nil)) pe_int (nomark _)) (pe_and (pe_cmpR op_eq (pe_ix ix_tup (pv 0) pe_int (fun _ _ => rfl)) pe_str (nomark _)) (pe_one (pe_call G_is_tables (hr.mono (by first | decide | exact Nat.le_refl _)) (by rfl) D_is_tables.g D_is_tables.F.kp D_is_tables.b .nil pass0 (pa_cons (pe_ix ix_tup (pv 0) pe_int (fun _ _ => rfl)) pa_nil)))))))), ?_⟩
        refine rd_start (σ := [some (.ref a)]) rfl ?_
        walk_at "rd"
        refine if_noD (fun z => absurd (show (7 : Int) = 2 from V.int.inj z) (by decide)) ?_
        exact q
    ) only [↓lt_eq]
theorem ok_is_record {f : Addr} {fd : FuncData} {f_is_state : Addr} {fd_is_state : FuncData} {f_is_frame : Addr} {fd_is_frame : FuncData}    (D : Dn K mg "is_record" s_is_record ["value"] f fd) (bi : Bi mg) (G_is_state : FnOk P w K mg base CX0 5 f_is_state fd_is_state ["value"] (spIsSt K)) (D_is_state : Dn K mg "is_state" s_is_state ["value"] f_is_state fd_is_state) (G_is_frame : FnOk P w K mg base CX0 5 f_is_frame fd_is_frame ["value"] (spIsFr K)) (D_is_frame : Dn K mg "is_frame" s_is_frame ["value"] f_is_frame fd_is_frame)    : FnOk P w K mg base CX0 6 f fd ["value"] (spIsRc K) := by
  refine lt_out ?_
  simp (disch := with_unfolding_all
    refine D.F.ok sc_is_record (fun vs H Q E h => ?_) (fun cdv A outer s H vs Q E hr h => ?_)
    · obtain ⟨v, r, rfl, _⟩ := h
      rfl
    · obtain ⟨v, r, rfl, hr1, ok, q⟩ := h
      refine ⟨_, (pss_one (ps_ret (pe_or (pe_call G_is_state (hr.mono (by first | decide | exact Nat.le_refl _)) (by rfl) D_is_state.g D_is_state.F.kp D_is_state.b .nil pass0 (pa_cons (pv 0) pa_nil)) (pe_one (pe_call G_is_frame (hr.mono (by first | decide | exact Nat.le_refl _)) (by rfl) D_is_frame.g D_is_frame.F.kp D_is_frame.b .nil pass0 (pa_cons (pv 0) pa_nil)))))), ?_⟩
      refine rd_start (σ := [some v]) rfl ?_
      walk_at "rd"
      refine use_isst hr1 ok ?_
      cases r with
      | st T =>
        walk_at "rd"
        exact q _ (Same.refl _)
      | fr d ns T =>
        refine rd_bl (if_no rfl ?_)
        walk_at "rd"
        exact use_isfr hr1 ok q
    ) only [↓lt_eq]
theorem ok_check_records {f : Addr} {fd : FuncData} {f_is_record : Addr} {fd_is_record : FuncData}    (D : Dn K mg "check_records" s_check_records ["records"] f fd) (bi : Bi mg) (G_is_record : FnOk P w K mg base CX0 6 f_is_record fd_is_record ["value"] (spIsRc K)) (D_is_record : Dn K mg "is_record" s_is_record ["value"] f_is_record fd_is_record)    : FnOk P w K mg base CX0 7 f fd ["records"] (spCkRc K) := by
  refine lt_out ?_
  simp (disch := with_unfolding_all
    refine D.F.ok sc_check_records (fun vs H Q E h => ?_) (fun cdv A outer s H vs Q E hr h => ?_)
    · obtain ⟨a, refs, rs, rfl, _⟩ := h
      rfl
    · obtain ⟨a, refs, rs, rfl, hS, hR, ok, q⟩ := h
      refine ⟨_, (pss_cons (ps_if (pt_not (pt_val (pe_callB call_isiT (by rfl) bi.isinstance_ (by decide +kernel) (pa_cons (pv 0) (pa_cons (pe_tup (pa_cons (pe_bltn (v := .ty "list") (by rfl) bi.list_ (by decide +kernel) rfl) (pa_cons (pe_bltn (v := .ty "tuple") (by rfl) bi.tuple_ (by decide +kernel) rfl) pa_nil))) pa_nil)))))
   (pss_one ps_never)
   pss_nil)
   (pss_one (ps_for PassesOwn.never rfl (pi_enum (by rfl) bi.enumerate_ (pa_cons (pv 0) pa_nil)) (pg_tup rfl (pgs_cons (pg_name (i := 1) sc_check_records.nd rfl (Or.inl rfl)) (pgs_cons (pg_name (i := 2) sc_check_records.nd rfl (Or.inl rfl)) pgs_nil)))
   (pss_one (ps_if (pt_not (pt_val (pe_call G_is_record (hr.mono (by first | decide | exact Nat.le_refl _)) (by rfl) D_is_record.g D_is_record.F.kp D_is_record.b .nil pass0 (pa_cons (pv 2) pa_nil))))
   (pss_one ps_never)
   pss_nil))))), ?_⟩
      refine rd_start (σ := [some (.ref a), none, none]) rfl ?_
      walk_at "rd"
      rename_i t ht
      refine isiT_lst (look_new ht hS) upd_same ?_
      walk_at "rd"
      refine rd_lpE (SqL.of (look_new ht hS)) ?_
      refine for_enum (xs := refs) (fun i σ H' => ∃ t u, σ = [some (.ref a), t, u] ∧ Same H H') ⟨none, none, rfl, same_new ht⟩ (fun i σ H1 _ hI => ?_) (fun i v σ H1 T hv hI hT => ?_) (fun σ H1 hI => ?_)
      · obtain ⟨t, u, rfl, hs⟩ := hI
        exact SqL.of (hs _ _ hS)
      · obtain ⟨t, u, rfl, hs⟩ := hI
        obtain ⟨r, rr, hv2, hdr, _⟩ := hR.get _ _ hv
        have hmem : r ∈ rs := List.mem_of_mem_drop (i := i) (by rw [hdr]; exact List.mem_cons_self)
        have hs2 := hs.trans (same_new (o := .tup [.int (i : Int), v]) hT)
        walk_at "rd"
        refine use_isrc (hv2.lk (.of hs2)) (ok _ hmem) fun H2 hs3 => ?_
        walk_at "rd"
        exact ⟨_, _, rfl, hs2.trans hs3⟩
      · obtain ⟨t, u, rfl, hs⟩ := hI
        walk_at "rd"
        exact q _ hs
    ) only [↓lt_eq]
theorem ok_check_within {f : Addr} {fd : FuncData} {f_is_within : Addr} {fd_is_within : FuncData}    (D : Dn K mg "check_within" s_check_within ["value", "low", "high"] f fd) (bi : Bi mg) (G_is_within : FnOk P w K mg base CX0 2 f_is_within fd_is_within ["value", "low", "high"] spWithin) (D_is_within : Dn K mg "is_within" s_is_within ["value", "low", "high"] f_is_within fd_is_within)    : FnOk P w K mg base CX0 3 f fd ["value", "low", "high"] spCkW := by
  refine lt_out ?_
  simp (disch := with_unfolding_all
    refine D.F.ok sc_check_within (fun vs H Q E h => ?_) (fun cdv A outer s H vs Q E hr h => ?_)
    · obtain ⟨i, lo, hi, rfl, _⟩ := h
      rfl
    · obtain ⟨i, lo, hi, rfl, h1, h2, q⟩ := h
      refine ⟨_, (pss_one (ps_if (pt_not (pt_val (pe_call G_is_within (hr.mono (by first | decide | exact Nat.le_refl _)) (by rfl) D_is_within.g D_is_within.F.kp D_is_within.b .nil pass0 (pa_cons (pv 0) (pa_cons (pv 1) (pa_cons (pv 2) pa_nil))))))
   (pss_one ps_never)
   pss_nil)), ?_⟩
      refine rd_start (σ := [some (.int i), some (.int lo), some (.int hi)]) rfl ?_
      walk_at "rd"
      refine rd_iteN (p := lo ≤ i ∧ i ≤ hi) (fun c => (c ⟨h1, h2⟩).elim) (fun c => ?_)
      exact q
    ) only [↓lt_eq]
theorem ok_check_integer {f : Addr} {fd : FuncData} {f_is_integer : Addr} {fd_is_integer : FuncData}    (D : Dn K mg "check_integer" s_check_integer ["value"] f fd) (bi : Bi mg) (G_is_integer : FnOk P w K mg base CX0 1 f_is_integer fd_is_integer ["value"] spIsI) (D_is_integer : Dn K mg "is_integer" s_is_integer ["value"] f_is_integer fd_is_integer)    : FnOk P w K mg base CX0 2 f fd ["value"] spCkI := by
  refine lt_out ?_
  simp (disch := with_unfolding_all
    refine D.F.ok sc_check_integer (fun vs H Q E h => ?_) (fun cdv A outer s H vs Q E hr h => ?_)
    · obtain ⟨i, rfl, _⟩ := h
      rfl
    · obtain ⟨i, rfl, q⟩ := h
      refine ⟨_, (pss_one (ps_if (pt_not (pt_val (pe_call G_is_integer (hr.mono (by first | decide | exact Nat.le_refl _)) (by rfl) D_is_integer.g D_is_integer.F.kp D_is_integer.b .nil pass0 (pa_cons (pv 0) pa_nil))))
   (pss_one ps_never)
   pss_nil)), ?_⟩
      refine rd_start (σ := [some (.int i)]) rfl ?_
      walk_at "rd"
      exact q
    ) only [↓lt_eq]
theorem ok_check_items {f : Addr} {fd : FuncData} {f_is_integer : Addr} {fd_is_integer : FuncData}    (D : Dn K mg "check_items" s_check_items ["values"] f fd) (bi : Bi mg) (G_is_integer : FnOk P w K mg base CX0 1 f_is_integer fd_is_integer ["value"] spIsI) (D_is_integer : Dn K mg "is_integer" s_is_integer ["value"] f_is_integer fd_is_integer)    : FnOk P w K mg base CX0 2 f fd ["values"] (spItems K) := by
  refine lt_out ?_
  simp (disch := with_unfolding_all
    refine D.F.ok sc_check_items (fun vs H Q E h => ?_) (fun cdv A outer s H vs Q E hr h => ?_)
    · obtain ⟨a, ns, rfl, _⟩ := h
      rfl
    · obtain ⟨a, ns, rfl, hS, q⟩ := h
      refine ⟨_, (pss_one (ps_for PassesOwn.never rfl (pi_enum (by rfl) bi.enumerate_ (pa_cons (pv 0) pa_nil)) (pg_tup rfl (pgs_cons (pg_name (i := 1) sc_check_items.nd rfl (Or.inl rfl)) (pgs_cons (pg_name (i := 2) sc_check_items.nd rfl (Or.inl rfl)) pgs_nil)))
   (pss_one (ps_if (pt_not (pt_val (pe_call G_is_integer (hr.mono (by first | decide | exact Nat.le_refl _)) (by rfl) D_is_integer.g D_is_integer.F.kp D_is_integer.b .nil pass0 (pa_cons (pv 2) pa_nil))))
   (pss_one ps_never)
   pss_nil)))), ?_⟩
      refine rd_start (σ := [some (.ref a), none, none]) rfl ?_
      walk_at "rd"
      refine rd_lpE hS ?_
      refine for_enum (xs := ns.map V.int) (fun i σ H' => ∃ t u, σ = [some (.ref a), t, u] ∧ Same H H') ⟨none, none, rfl, Same.refl _⟩ (fun i σ H1 _ hI => ?_) (fun i v σ H1 T hv hI hT => ?_) (fun σ H1 hI => ?_)
      · obtain ⟨t, u, rfl, hs⟩ := hI
        exact hs.seq hS
      · obtain ⟨t, u, rfl, hs⟩ := hI
        obtain ⟨z, rfl⟩ : ∃ z, v = .int z := by
          rw [List.getElem?_map] at hv
          cases g : ns[i]? with
          | none => rw [g] at hv; cases hv
          | some z => rw [g] at hv; exact ⟨z, (Option.some.inj hv).symm⟩
        walk_at "rd"
        exact ⟨_, _, rfl, hs.trans (same_new hT)⟩
      · obtain ⟨t, u, rfl, hs⟩ := hI
        walk_at "rd"
        exact q _ hs
    ) only [↓lt_eq]
theorem ok_check_block {f : Addr} {fd : FuncData} {f_check_items : Addr} {fd_check_items : FuncData}    (D : Dn K mg "check_block" s_check_block ["values", "least"] f fd) (bi : Bi mg) (G_check_items : FnOk P w K mg base CX0 2 f_check_items fd_check_items ["values"] (spItems K)) (D_check_items : Dn K mg "check_items" s_check_items ["values"] f_check_items fd_check_items)   (g_BLOCK_LIMIT : ∃ t, mg "BLOCK_LIMIT" = some (.int 64 t)) : FnOk P w K mg base CX0 3 f fd ["values", "least"] spBlock := by
  refine lt_out ?_
  simp (disch := with_unfolding_all
    refine D.F.ok sc_check_block (fun vs H Q E h => ?_) (fun cdv A outer s H vs Q E hr h => ?_)
    · obtain ⟨a, ns, least, rfl, _⟩ := h
      rfl
    · obtain ⟨a, ns, least, rfl, hS, h1, h2, q⟩ := h
      obtain ⟨t64, g_BLOCK_LIMIT⟩ := g_BLOCK_LIMIT
      refine ⟨_, (pss_cons (ps_if (PW.pt (pw_or (pt_not (pt_val (pe_callB call_isi (by rfl) bi.isinstance_ (by decide +kernel) (pa_cons (pv 0) (pa_cons (pe_bltn (v := .ty "list") (by rfl) bi.list_ (by decide +kernel) rfl) pa_nil))))) (pw_or1 (pt_not (pt_chain op_le op_le (pv 1) (pe_callB cLen (by rfl) bi.len_ (by decide +kernel) (pa_cons (pv 0) pa_nil)) (pe_glob (v := .int 64) (by rfl) g_BLOCK_LIMIT ⟨_, rfl⟩))))))
   (pss_one ps_never)
   pss_nil)
   (pss_one (ps_expr (pe_call G_check_items (hr.mono (by first | decide | exact Nat.le_refl _)) (by rfl) D_check_items.g D_check_items.F.kp D_check_items.b .nil pass0 (pa_cons (pv 0) pa_nil))))), ?_⟩
      refine rd_start (σ := [some (.ref a), some (.int least)]) rfl ?_
      walk_at "rd"
      refine if_yesD (by rw [List.length_map]; exact h1) ?_
      walk_at "rd"
      refine if_noN (by rw [List.length_map]; omega) ?_
      walk_at "rd"
      exact q _ (by assumption)
    ) only [↓lt_eq]
theorem ok_coarse_count {f : Addr} {fd : FuncData} {f_check_within : Addr} {fd_check_within : FuncData}    (D : Dn K mg "coarse_count" s_coarse_count ["length", "levels"] f fd) (bi : Bi mg) (G_check_within : FnOk P w K mg base CX0 3 f_check_within fd_check_within ["value", "low", "high"] spCkW) (D_check_within : Dn K mg "check_within" s_check_within ["value", "low", "high"] f_check_within fd_check_within)   (g_BLOCK_LIMIT : ∃ t, mg "BLOCK_LIMIT" = some (.int 64 t)) (g_LEVEL_LIMIT : ∃ t, mg "LEVEL_LIMIT" = some (.int 5 t)) : FnOk P w K mg base CX0 4 f fd ["length", "levels"] spCoarse := by
  refine lt_out ?_
  simp (disch := with_unfolding_all
    refine D.F.ok sc_coarse_count (fun vs H Q E h => ?_) (fun cdv A outer s H vs Q E hr h => ?_)
    · obtain ⟨n, k, rfl, _⟩ := h
      rfl
    · obtain ⟨n, k, rfl, h1, h2, h3, q⟩ := h
      obtain ⟨t1, g_BLOCK_LIMIT⟩ := g_BLOCK_LIMIT
      obtain ⟨t2, g_LEVEL_LIMIT⟩ := g_LEVEL_LIMIT
      refine ⟨_, (pss_cons (ps_expr (pe_call G_check_within (hr.mono (by first | decide | exact Nat.le_refl _)) (by rfl) D_check_within.g D_check_within.F.kp D_check_within.b .nil pass0 (pa_cons (pv 0) (pa_cons pe_int (pa_cons (pe_glob (v := .int 64) (by rfl) g_BLOCK_LIMIT ⟨_, rfl⟩) pa_nil)))))
   (pss_cons (ps_expr (pe_call G_check_within (hr.mono (by first | decide | exact Nat.le_refl _)) (by rfl) D_check_within.g D_check_within.F.kp D_check_within.b .nil pass0 (pa_cons (pv 1) (pa_cons pe_int (pa_cons (pe_glob (v := .int 5) (by rfl) g_LEVEL_LIMIT ⟨_, rfl⟩) pa_nil)))))
   (pss_cons (ps_set (i := 2) sc_coarse_count.nd rfl (Or.inl rfl) (pv 0))
   (pss_cons (ps_for PassesOwn.never rfl (pi_range1 (by rfl) bi.range_ (pa_cons (pv 1) pa_nil)) (pg_name (i := 3) sc_coarse_count.nd rfl (Or.inl rfl))
   (pss_one (ps_set (i := 2) sc_coarse_count.nd rfl (Or.inl rfl) (pe_op op_fdiv (pe_op op_add (pv 2) pe_int) pe_int))))
   (pss_one (ps_ret (pv 2))))))), ?_⟩
      refine rd_start (σ := [some (.int (n : Int)), some (.int (k : Int)), none, none]) rfl ?_
      walk_at "rd"
      refine for_range (lo := 0) (n := ((k : Nat) : Int).toNat) (fun i σ H' => ∃ t, σ = [some (.int (n : Int)), some (.int (k : Int)), some (.int (cc n i : Nat)), t] ∧ H' = H) ⟨none, rfl, rfl⟩ (fun i σ H1 hi hI => ?_) (fun σ H1 hI => ?_)
      · obtain ⟨t, rfl, rfl⟩ := hI
        walk_at "rd"
        refine ⟨some (.int (0 + (i : Int))), ?_, rfl⟩
        rw [show ((cc n (i + 1) : Nat) : Int) = ((cc n i : Nat) + 1) / 2 by show (((cc n i + 1) / 2 : Nat) : Int) = _; omega]
        rfl
      · obtain ⟨t, rfl, rfl⟩ := hI
        walk_at "rd"
        exact q
    ) only [↓lt_eq]
theorem ok_parameter {f : Addr} {fd : FuncData} {f_is_table : Addr} {fd_is_table : FuncData}    (D : Dn K mg "parameter" s_parameter ["table"] f fd) (bi : Bi mg) (G_is_table : FnOk P w K mg base CX0 3 f_is_table fd_is_table ["value"] (spTblG K)) (D_is_table : Dn K mg "is_table" s_is_table ["value"] f_is_table fd_is_table)    : FnOk P w K mg base CX0 4 f fd ["table"] (spParG K) := by
  refine lt_out ?_
  simp (disch := with_unfolding_all
    refine D.F.ok sc_parameter (fun vs H Q E h => ?_) (fun cdv A outer s H vs Q E hr h => ?_)
    · obtain ⟨a, t, m, rfl, _⟩ := h
      rfl
    · obtain ⟨a, t, m, rfl, h1, ok, q⟩ := h
      have L1 := h1.1
      refine ⟨_, (pss_cons (ps_if (pt_not (pt_val (pe_call G_is_table (hr.mono (by first | decide | exact Nat.le_refl _)) (by rfl) D_is_table.g D_is_table.F.kp D_is_table.b .nil pass0 (pa_cons (pv 0) pa_nil))))
   (pss_one ps_never)
   pss_nil)
   (pss_cons (ps_asg (pv 0) (pg_tup rfl (pgs_cons (pg_name (i := 1) sc_parameter.nd rfl (Or.inl rfl)) (pgs_cons (pg_name (i := 2) sc_parameter.nd rfl (Or.inl rfl)) pgs_nil))))
   (pss_cons (ps_set (i := 3) sc_parameter.nd rfl (Or.inl rfl) (pe_op op_fdiv (pe_op op_sub (pe_op op_add (pv 1) (pv 2)) pe_int) (pv 2)))
   (pss_one (ps_ret (pe_bits (pe_op op_sub (pe_callB (cMax rfl) (by rfl) bi.max_ (by decide +kernel) (pa_cons (pv 3) (pa_cons pe_int pa_nil))) pe_int))))))), ?_⟩
      refine rd_start (σ := [some (.ref a), none, none, none]) rfl ?_
      walk_at "rd"
      refine use_tblG h1 ok ?_
      obtain ⟨o1, o2, o3, o4⟩ := ok
      walk_at "rd"
      exact q
    ) only [↓lt_eq]
theorem ok_table_behind {f : Addr} {fd : FuncData}     (D : Dn K mg "table_behind" s_table_behind ["table", "code"] f fd) (bi : Bi mg)    (g_COUNT_LIMIT : ∃ t, mg "COUNT_LIMIT" = some (.int 15 t)) (g_HALVED_COUNT : ∃ t, mg "HALVED_COUNT" = some (.int 8 t)) : FnOk P w K mg base CX0 1 f fd ["table", "code"] (spBehind K) := by
  refine lt_out ?_
  simp (disch := with_unfolding_all
    refine D.F.ok sc_table_behind (fun vs H Q E h => ?_) (fun cdv A outer s H vs Q E hr h => ?_)
    · obtain ⟨a, t, m, u, rfl, _⟩ := h
      rfl
    · obtain ⟨a, t, m, u, rfl, h1, ok, q⟩ := h
      obtain ⟨t1, g_COUNT_LIMIT⟩ := g_COUNT_LIMIT
      obtain ⟨t2, g_HALVED_COUNT⟩ := g_HALVED_COUNT
      have L1 := h1.1
      refine ⟨_, (pss_cons (ps_par (i := 2) (j := 3) rfl sc_table_behind.nd rfl rfl (by decide) rfl rfl (pa_cons (pe_op op_add (pe_ix ix_tup (pv 0) pe_int (fun _ _ => rfl)) (pv 1)) (pa_cons (pe_op op_add (pe_ix ix_tup (pv 0) pe_int (fun _ _ => rfl)) pe_int) pa_nil)) rfl)
   (pss_cons (ps_if (pt_cmpR op_gt (pv 3) (pe_glob (v := .int 15) (by rfl) g_COUNT_LIMIT ⟨_, rfl⟩) (nomark _))
   (pss_one (ps_ret (pe_tup (pa_cons (pe_op op_fdiv (pv 2) pe_int) (pa_cons (pe_glob (v := .int 8) (by rfl) g_HALVED_COUNT ⟨_, rfl⟩) pa_nil)))))
   pss_nil)
   (pss_one (ps_ret (pe_tup (pa_cons (pv 2) (pa_cons (pv 3) pa_nil))))))), ?_⟩
      refine rd_start (σ := [some (.ref a), some (.int (u : Int)), none, none]) rfl ?_
      walk_at "rd"
      refine rd_iteD (fun c => ?_) (fun c => ?_)
      · walk_at "rd"
        rename_i p hp
        have e : tbB t u = ((t.1 + (u : Int)) / 2, 8) := if_pos c
        rw [e] at q
        exact q p hp
      · walk_at "rd"
        rename_i p hp
        have e : tbB t u = (t.1 + (u : Int), t.2 + 1) := if_neg c
        rw [e] at q
        exact q p hp
    ) only [↓lt_eq]
theorem ok_code_number {f : Addr} {fd : FuncData}     (D : Dn K mg "code_number" s_code_number ["number"] f fd) (bi : Bi mg)     : FnOk P w K mg base CX0 1 f fd ["number"] spCode := by
  refine lt_out ?_
  simp (disch := with_unfolding_all
    refine D.F.ok sc_code_number (fun vs H Q E h => ?_) (fun cdv A outer s H vs Q E hr h => ?_)
    · obtain ⟨n, rfl, _⟩ := h
      rfl
    · obtain ⟨n, rfl, q⟩ := h
      refine ⟨_, (pss_one (ps_ret (pe_ifExp (pt_cmpR op_ge (pv 0) pe_int (nomark _)) (pe_op op_mul pe_int (pv 0)) (pe_op op_sub (pe_op op_mul (pe_un un_neg pe_int) (pv 0)) pe_int)))), ?_⟩
      refine rd_start (σ := [some (.int n)]) rfl ?_
      walk_at "rd"
      refine rd_iteD (fun c => ?_) (fun c => ?_)
      · walk_at "rd"
        have e : codeU n = 2 * n := if_pos c
        rw [e] at q
        exact q
      · walk_at "rd"
        have e : codeU n = -2 * n - 1 := if_neg c
        rw [e] at q
        exact q
    ) only [↓lt_eq]
theorem ok_number_with {f : Addr} {fd : FuncData}     (D : Dn K mg "number_with" s_number_with ["code"] f fd) (bi : Bi mg)     : FnOk P w K mg base CX0 1 f fd ["code"] spNumW := by
  refine lt_out ?_
  simp (disch := with_unfolding_all
    refine D.F.ok sc_number_with (fun vs H Q E h => ?_) (fun cdv A outer s H vs Q E hr h => ?_)
    · obtain ⟨u, rfl, _⟩ := h
      rfl
    · obtain ⟨u, rfl, q⟩ := h
      refine ⟨_, (pss_one (ps_ret (pe_ifExp (pt_cmpR op_eq (pe_op op_mod (pv 0) pe_int) pe_int (nomark _)) (pe_op op_fdiv (pv 0) pe_int) (pe_op op_sub (pe_un un_neg (pe_op op_fdiv (pv 0) pe_int)) pe_int)))), ?_⟩
      refine rd_start (σ := [some (.int (u : Int))]) rfl ?_
      walk_at "rd"
      refine rd_iteD (fun c => ?_) (fun c => ?_)
      · have e : unU u = ((u / 2 : Nat) : Int) := if_pos (by have := V.int.inj c; omega)
        rw [e, ← half_nat] at q
        walk_at "rd"
        exact q
      · have e : unU u = -((u / 2 : Nat) : Int) - 1 := if_neg (fun z => c (congrArg V.int (by omega)))
        rw [e, ← half_nat] at q
        walk_at "rd"
        exact q
    ) only [↓lt_eq]
theorem ok_read_code {f : Addr} {fd : FuncData}     (D : Dn K mg "read_code" s_read_code ["bits", "place", "k"] f fd) (bi : Bi mg)    (g_LONG_FORM : ∃ t, mg "LONG_FORM" = some (.int 20 t)) : FnOk P w K mg base CX0 1 f fd ["bits", "place", "k"] spRdC := by
  refine lt_out ?_
  simp (disch := with_unfolding_all
    refine D.F.ok sc_read_code (fun vs H Q E h => ?_) (fun cdv A outer s H vs Q E hr h => ?_)
    · obtain ⟨l, pl, k, rfl, _⟩ := h
      rfl
    · obtain ⟨l, pl, k, rfl, hb, hl, hpl, hk, ho, q1, q2⟩ := h
      obtain ⟨t1, g_LONG_FORM⟩ := g_LONG_FORM
      refine ⟨_, (pss_cons (ps_set (i := 3) sc_read_code.nd rfl (Or.inl rfl) (pe_bm PySem.F.plainAttrs_str PySem.F.slot_str_find PySem.F.type_str_find mt_find3K (pv 0) (pa_cons pe_str (pa_cons (pv 1) pa_nil))))
   (pss_cons (ps_if (pt_cmpR op_lt (pv 3) pe_int (nomark _))
   (pss_one (ps_ret pe_non))
   pss_nil)
   (pss_cons (ps_set (i := 4) sc_read_code.nd rfl (Or.inl rfl) (pe_op op_sub (pv 3) (pv 1)))
   (pss_cons (ps_set (i := 5) sc_read_code.nd rfl (Or.inl rfl) (pe_ifExp (pt_cmpR op_lt (pv 4) (pe_glob (v := .int 20) (by rfl) g_LONG_FORM ⟨_, rfl⟩) (nomark _)) (pv 2) (pe_op op_add (pe_op op_sub (pv 4) (pe_glob (v := .int 20) (by rfl) g_LONG_FORM ⟨_, rfl⟩)) pe_int)))
   (pss_cons (ps_set (i := 6) sc_read_code.nd rfl (Or.inl rfl) (pe_op op_add (pe_op op_add (pv 3) pe_int) (pv 5)))
   (pss_cons (ps_if (pt_cmpR op_gt (pv 6) (pe_callB cLen (by rfl) bi.len_ (by decide +kernel) (pa_cons (pv 0) pa_nil)) (nomark _))
   (pss_one (ps_ret pe_non))
   pss_nil)
   (pss_cons (ps_set (i := 7) sc_read_code.nd rfl (Or.inl rfl) (pe_slice C8.sl_txt (pv 0) (po_some (pe_op op_add (pv 3) pe_int)) (po_some (pv 6))))
   (pss_cons (ps_set (i := 8) sc_read_code.nd rfl (Or.inl rfl) (pe_callTy call_intB (by rfl) bi.int_ (by decide +kernel) (pa_cons (pe_op op_addT pe_str (pv 7)) (pa_cons pe_int pa_nil))))
   (pss_cons (ps_if (pt_cmpR op_lt (pv 4) (pe_glob (v := .int 20) (by rfl) g_LONG_FORM ⟨_, rfl⟩) (nomark _))
   (pss_one (ps_ret (pe_tup (pa_cons (pe_op op_add (pe_op op_shl (pv 4) (pv 2)) (pv 8)) (pa_cons (pv 6) pa_nil)))))
   pss_nil)
   (pss_cons (ps_if (PW.pt (pw_or (pt_cmpR op_eq (pe_ix ix_str (pv 7) pe_int (fun _ _ => rfl)) pe_str (nomark _)) (pw_or1 (pt_cmpR op_lt (pe_op op_shr (pv 8) (pv 2)) (pe_glob (v := .int 20) (by rfl) g_LONG_FORM ⟨_, rfl⟩) (nomark _)))))
   (pss_one (ps_ret pe_non))
   pss_nil)
   (pss_one (ps_ret (pe_tup (pa_cons (pv 8) (pa_cons (pv 6) pa_nil))))))))))))))), ?_⟩
      refine rd_start (σ := [some (.str (SX.S l)), some (.int (pl : Int)), some (.int (k : Int)), none, none, none, none, none, none]) rfl ?_
      walk_at "rd"
      unfold rdC at q1 q2
      unfold fzI
      generalize onesL (l.drop pl) = o at ho q1 q2 ⊢
      by_cases hz : pl + o < l.length
      · rw [if_pos hz] at q1 q2 ⊢
        walk_at "rd"
        refine if_noD (by omega) ?_
        walk_at "rd"
        have eo : ((pl + o : Nat) : Int) - (pl : Int) = ((o : Nat) : Int) := by omega
        rw [eo]
        by_cases c : o < 20
        · rw [if_pos c] at q1 q2
          refine if_yesD (by omega) ?_
          walk_at "rd"
          rw [show ((pl + o : Nat) : Int) + 1 + (k : Int) = ((pl + o + 1 + k : Nat) : Int) by omega]
          by_cases d : l.length < pl + o + 1 + k
          · refine if_yesD (by omega) ?_
            walk_at "rd"
            exact q1 (by rw [if_pos d])
          · rw [if_neg d, if_pos c] at q2
            refine if_noD (by omega) ?_
            walk_at "rd"
            rw [show ((pl + o : Nat) : Int) + 1 = ((pl + o + 1 : Nat) : Int) by omega]
            refine rd_slSM (by omega) (by omega) (by omega) ?_
            rw [show pl + o + 1 + k - (pl + o + 1) = k by omega]
            have hdb : ∀ x ∈ (l.drop (pl + o + 1)).take k, IsB x := fun x hx => hb x (List.mem_of_mem_drop (List.mem_of_mem_take hx))
            have hdl : ((l.drop (pl + o + 1)).take k).length ≤ 600 := by rw [List.length_take]; omega
            generalize (l.drop (pl + o + 1)).take k = dg at q2 hdb hdl ⊢
            walk_at "rd"
            refine rd_intB (l := [48] ++ dg) (by simp) (by simp; omega) (fun x hx => ?_) ?_
            · rcases List.mem_append.mp hx with hx | hx
              · exact .inl (List.mem_singleton.mp hx)
              · exact hdb x hx
            rw [show valB ([48] ++ dg) = valB dg from valB_zero dg]
            walk_at "rd"
            refine if_yesD (by omega) ?_
            walk_at "rd"
            rename_i p hp
            rw [Int.toNat_natCast, show (o : Int) * 2 ^ k + (valB dg : Nat) = ((o * 2 ^ k + valB dg : Nat) : Int) by norm_cast]
            exact q2 _ _ rfl p hp
        · rw [if_neg c] at q1 q2
          refine if_noD (by omega) ?_
          walk_at "rd"
          rw [show ((pl + o : Nat) : Int) + 1 + ((o : Nat) - 20 + 1) = ((pl + o + 1 + (o - 19) : Nat) : Int) by omega]
          by_cases d : l.length < pl + o + 1 + (o - 19)
          · refine if_yesD (by omega) ?_
            walk_at "rd"
            exact q1 (by rw [if_pos d])
          · rw [if_neg d, if_neg c] at q1 q2
            refine if_noD (by omega) ?_
            walk_at "rd"
            rw [show ((pl + o : Nat) : Int) + 1 = ((pl + o + 1 : Nat) : Int) by omega]
            refine rd_slSM (by omega) (by omega) (by omega) ?_
            rw [show pl + o + 1 + (o - 19) - (pl + o + 1) = o - 19 by omega]
            have hdb : ∀ x ∈ (l.drop (pl + o + 1)).take (o - 19), IsB x := fun x hx => hb x (List.mem_of_mem_drop (List.mem_of_mem_take hx))
            have hdl : ((l.drop (pl + o + 1)).take (o - 19)).length ≤ 600 := by rw [List.length_take]; omega
            have hln : 0 < (l.drop (pl + o + 1)).length := by rw [List.length_drop]; omega
            have h0 : ((l.drop (pl + o + 1)).take (o - 19))[0]? = (l.drop (pl + o + 1))[0]? := by rw [List.getElem?_take, if_pos (by omega)]
            obtain ⟨ch, hch⟩ : ∃ ch, (l.drop (pl + o + 1))[0]? = some ch := ⟨_, List.getElem?_eq_getElem hln⟩
            rw [hch] at h0 q1 q2
            generalize (l.drop (pl + o + 1)).take (o - 19) = dg at q1 q2 hdb hdl h0 ⊢
            walk_at "rd"
            refine rd_intB (l := [48] ++ dg) (by simp) (by simp; omega) (fun x hx => ?_) ?_
            · rcases List.mem_append.mp hx with hx | hx
              · exact .inl (List.mem_singleton.mp hx)
              · exact hdb x hx
            rw [show valB ([48] ++ dg) = valB dg from valB_zero dg]
            walk_at "rd"
            refine if_noD (by omega) ?_
            walk_at "rd"
            refine rd_ixS (i := 0) rfl (by omega) h0 ?_
            walk_at "rd"
            by_cases z : ch = 48
            · subst z
              refine if_yesD (congrArg V.str e_0.symm) ?_
              walk_at "rd"
              exact q1 (by rw [if_pos (.inl rfl)])
            · have z2 : ¬ V.str (SX.S [ch]) = V.str (Str.ofString "0") := fun e => z (by
                rw [e_0] at e
                exact (List.cons.inj (SX.S_inj (V.str.inj e))).1)
              refine if_noD z2 ?_
              walk_at "rd"
              by_cases y : valB dg / 2 ^ k < 20
              · refine if_yesD (by omega) ?_
                walk_at "rd"
                exact q1 (by rw [if_pos (.inr y)])
              · refine if_noD (by omega) ?_
                walk_at "rd"
                rename_i p hp
                rw [if_neg (by rintro (e | e); exact z (Option.some.inj e); exact y e)] at q2
                exact q2 _ _ rfl p hp
      · rw [if_neg hz] at q1 ⊢
        walk_at "rd"
        refine if_yesD (by decide) ?_
        walk_at "rd"
        exact q1 rfl
    ) only [↓lt_eq]
theorem ok_check_coding {f : Addr} {fd : FuncData} {f_check_within : Addr} {fd_check_within : FuncData} {f_is_tables : Addr} {fd_is_tables : FuncData}    (D : Dn K mg "check_coding" s_check_coding ["length", "coarse", "tables"] f fd) (bi : Bi mg) (G_check_within : FnOk P w K mg base CX0 3 f_check_within fd_check_within ["value", "low", "high"] spCkW) (D_check_within : Dn K mg "check_within" s_check_within ["value", "low", "high"] f_check_within fd_check_within) (G_is_tables : FnOk P w K mg base CX0 4 f_is_tables fd_is_tables ["value"] (spTblsG K)) (D_is_tables : Dn K mg "is_tables" s_is_tables ["value"] f_is_tables fd_is_tables)    : FnOk P w K mg base CX0 5 f fd ["length", "coarse", "tables"] (spCoding K) := by
  refine lt_out ?_
  simp (disch := with_unfolding_all
    refine D.F.ok sc_check_coding (fun vs H Q E h => ?_) (fun cdv A outer s H vs Q E hr h => ?_)
    · obtain ⟨n, first, a, T, m, rfl, _⟩ := h
      rfl
    · obtain ⟨n, first, a, T, m, rfl, h1, h2, o1, o2, q⟩ := h
      refine ⟨_, (pss_cons (ps_expr (pe_call G_check_within (hr.mono (by first | decide | exact Nat.le_refl _)) (by rfl) D_check_within.g D_check_within.F.kp D_check_within.b .nil pass0 (pa_cons (pv 1) (pa_cons pe_int (pa_cons (pv 0) pa_nil)))))
   (pss_one (ps_if (pt_not (pt_val (pe_call G_is_tables (hr.mono (by first | decide | exact Nat.le_refl _)) (by rfl) D_is_tables.g D_is_tables.F.kp D_is_tables.b .nil pass0 (pa_cons (pv 2) pa_nil))))
   (pss_one ps_never)
   pss_nil))), ?_⟩
      refine rd_start (σ := [some (.int (n : Int)), some (.int (first : Int)), some (.ref a)]) rfl ?_
      walk_at "rd"
      refine use_tblsG h2 o1 o2 ?_
      walk_at "rd"
      exact q
    ) only [↓lt_eq]
theorem ok_read_numbers {f : Addr} {fd : FuncData} {f_check_within : Addr} {fd_check_within : FuncData} {f_check_coding : Addr} {fd_check_coding : FuncData} {f_parameter : Addr} {fd_parameter : FuncData} {f_read_code : Addr} {fd_read_code : FuncData} {f_number_with : Addr} {fd_number_with : FuncData} {f_table_behind : Addr} {fd_table_behind : FuncData}    (D : Dn K mg "read_numbers" s_read_numbers ["bits", "length", "coarse", "tables"] f fd) (bi : Bi mg) (G_check_within : FnOk P w K mg base CX0 3 f_check_within fd_check_within ["value", "low", "high"] spCkW) (D_check_within : Dn K mg "check_within" s_check_within ["value", "low", "high"] f_check_within fd_check_within) (G_check_coding : FnOk P w K mg base CX0 5 f_check_coding fd_check_coding ["length", "coarse", "tables"] (spCoding K)) (D_check_coding : Dn K mg "check_coding" s_check_coding ["length", "coarse", "tables"] f_check_coding fd_check_coding) (G_parameter : FnOk P w K mg base CX0 4 f_parameter fd_parameter ["table"] (spParG K)) (D_parameter : Dn K mg "parameter" s_parameter ["table"] f_parameter fd_parameter) (G_read_code : FnOk P w K mg base CX0 1 f_read_code fd_read_code ["bits", "place", "k"] spRdC) (D_read_code : Dn K mg "read_code" s_read_code ["bits", "place", "k"] f_read_code fd_read_code) (G_number_with : FnOk P w K mg base CX0 1 f_number_with fd_number_with ["code"] spNumW) (D_number_with : Dn K mg "number_with" s_number_with ["code"] f_number_with fd_number_with) (G_table_behind : FnOk P w K mg base CX0 1 f_table_behind fd_table_behind ["table", "code"] (spBehind K)) (D_table_behind : Dn K mg "table_behind" s_table_behind ["table", "code"] f_table_behind fd_table_behind)   (g_BLOCK_LIMIT : ∃ t, mg "BLOCK_LIMIT" = some (.int 64 t)) : FnOk P w K mg base CX0 6 f fd ["bits", "length", "coarse", "tables"] (spRdM K) := by
  refine lt_out ?_
  simp (disch := with_unfolding_all
    refine D.F.ok sc_read_numbers (fun vs H Q E h => ?_) (fun cdv A outer s H vs Q E hr h => ?_)
    · obtain ⟨ns, first, b, T, rfl, _⟩ := h
      rfl
    · obtain ⟨ns, first, b, T, rfl, hl, hf, hn, hT, o1, o2, q⟩ := h
      obtain ⟨t64, g_BLOCK_LIMIT⟩ := g_BLOCK_LIMIT
      have hbin : ∀ c ∈ (wst ns first T ns.length).1.flatten, IsB c := wst_bin ns first T ns.length
      have hfl := wst_flat (first := first) hn o1 o2 ns.length hl
      have hfl2 : (wst ns first T ns.length).1.flatten.length ≤ 1000000 := by omega
      refine ⟨_, (pss_cons (ps_expr (pe_call G_check_within (hr.mono (by first | decide | exact Nat.le_refl _)) (by rfl) D_check_within.g D_check_within.F.kp D_check_within.b .nil pass0 (pa_cons (pv 1) (pa_cons pe_int (pa_cons (pe_glob (v := .int 64) (by rfl) g_BLOCK_LIMIT ⟨_, rfl⟩) pa_nil)))))
   (pss_cons (ps_expr (pe_call G_check_coding (hr.mono (by first | decide | exact Nat.le_refl _)) (by rfl) D_check_coding.g D_check_coding.F.kp D_check_coding.b .nil pass0 (pa_cons (pv 1) (pa_cons (pv 2) (pa_cons (pv 3) pa_nil)))))
   (pss_cons (ps_if (PW.pt (pw_or (pt_not (pt_val (pe_callB call_isi (by rfl) bi.isinstance_ (by decide +kernel) (pa_cons (pv 0) (pa_cons (pe_bltn (v := .ty "str") (by rfl) bi.str_ (by decide +kernel) rfl) pa_nil))))) (pw_or1 (pt_cmpR op_ne (pe_bm PySem.F.plainAttrs_str PySem.F.slot_str_strip PySem.F.type_str_strip mt_stripK (pv 0) (pa_cons pe_str pa_nil)) pe_str (nomark _)))))
   (pss_one (ps_ret pe_non))
   pss_nil)
   (pss_cons (ps_set (i := 4) sc_read_numbers.nd rfl (Or.inl rfl) (pe_callTy cList (by rfl) bi.list_ (by decide +kernel) (pa_cons (pv 3) pa_nil)))
   (pss_cons (ps_set (i := 5) sc_read_numbers.nd rfl (Or.inl rfl) (pe_lst pa_nil))
   (pss_cons (ps_set (i := 6) sc_read_numbers.nd rfl (Or.inl rfl) pe_int)
   (pss_cons (ps_for PassesOwn.never rfl (pi_range1 (by rfl) bi.range_ (pa_cons (pv 1) pa_nil)) (pg_name (i := 7) sc_read_numbers.nd rfl (Or.inl rfl))
   (pss_cons (ps_set (i := 8) sc_read_numbers.nd rfl (Or.inl rfl) (pe_ifExp (pt_cmpR op_lt (pv 7) (pv 2) (nomark _)) pe_int pe_int))
   (pss_cons (ps_set (i := 9) sc_read_numbers.nd rfl (Or.inl rfl) (pe_call G_read_code (hr.mono (by first | decide | exact Nat.le_refl _)) (by rfl) D_read_code.g D_read_code.F.kp D_read_code.b .nil pass0 (pa_cons (pv 0) (pa_cons (pv 6) (pa_cons (pe_call G_parameter (hr.mono (by first | decide | exact Nat.le_refl _)) (by rfl) D_parameter.g D_parameter.F.kp D_parameter.b .nil pass0 (pa_cons (pe_ix ix_list (pv 4) (pv 8) (fun _ _ => rfl)) pa_nil)) pa_nil)))))
   (pss_cons (ps_if (pt_cmpR cIsN (pv 9) pe_non (nomark _))
   (pss_one (ps_ret pe_non))
   pss_nil)
   (pss_cons (ps_asg (pv 9) (pg_tup rfl (pgs_cons (pg_name (i := 10) sc_read_numbers.nd rfl (Or.inl rfl)) (pgs_cons (pg_name (i := 6) sc_read_numbers.nd rfl (Or.inl rfl)) pgs_nil))))
   (pss_cons (ps_expr (pe_bm PySem.F.plainAttrs_list PySem.F.slot_list_append PySem.F.type_list_append mt_append (pv 5) (pa_cons (pe_call G_number_with (hr.mono (by first | decide | exact Nat.le_refl _)) (by rfl) D_number_with.g D_number_with.F.kp D_number_with.b .nil pass0 (pa_cons (pv 10) pa_nil)) pa_nil)))
   (pss_one (ps_asg (pe_call G_table_behind (hr.mono (by first | decide | exact Nat.le_refl _)) (by rfl) D_table_behind.g D_table_behind.F.kp D_table_behind.b .nil pass0 (pa_cons (pe_ix ix_list (pv 4) (pv 8) (fun _ _ => rfl)) (pa_cons (pv 10) pa_nil))) (pg_sub (pv 4) (pv 8) set_list)))))))))
   (pss_cons (ps_if (pt_cmpR op_ne (pv 6) (pe_callB cLen (by rfl) bi.len_ (by decide +kernel) (pa_cons (pv 0) pa_nil)) (nomark _))
   (pss_one (ps_ret pe_non))
   pss_nil)
   (pss_one (ps_ret (pe_tup (pa_cons (pv 5) (pa_cons (pe_callTy cTuple (by rfl) bi.tuple_ (by decide +kernel) (pa_cons (pv 4) pa_nil)) pa_nil))))))))))))), ?_⟩
      refine rd_start (σ := [some (.str (SX.S (wst ns first T ns.length).1.flatten)), some (.int (ns.length : Nat)), some (.int (first : Int)), some (.ref b), none, none, none, none, none, none, none]) rfl ?_
      walk_at "rd"
      refine use_coding hf hT o1 o2 ?_
      obtain ⟨r0, r1, h0, h1, h2⟩ := hT
      walk_at "rd"
      refine if_noN (congrArg V.str e_empty.symm) ?_
      walk_at "rd"
      refine rd_listQ h0.1 fun p hp => ?_
      walk_at "rd"
      rename_i w hw
      have hs2 : Same H (upd (upd H p (.lst [.ref r0, .ref r1])) w (.lst [])) := (same_new hp).trans (same_new hw)
      have hwn : H w = none := (same_new hp).free hw
      have hpw : p ≠ w := ne_of_none upd_same hw
      have hwp := hpw.symm
      refine for_range (lo := 0) (n := ((ns.length : Nat) : Int).toNat) (fun i σ H' => ∃ r0 r1 x7 x8 x9 x10, σ = [some (.str (SX.S (wst ns first T ns.length).1.flatten)), some (.int (ns.length : Nat)), some (.int (first : Int)), some (.ref b), some (.ref p), some (.ref w), some (.int (((wst ns first T i).1.flatten.length : Nat) : Int)), x7, x8, x9, x10] ∧ H' p = some (.lst [.ref r0, .ref r1]) ∧ H' w = some (.lst ((ns.take i).map V.int)) ∧ TbV K H' r0 (wst ns first T i).2.1 ∧ TbV K H' r1 (wst ns first T i).2.2 ∧ Same H H') ⟨r0, r1, none, none, none, none, rfl, look_new hw upd_same, upd_same, (h1.lk (.new hp)).lk (.new hw), (h2.lk (.new hp)).lk (.new hw), hs2⟩ (fun i σ H' hi hI => ?_) (fun σ H' hI => ?_)
      · obtain ⟨r0, r1, x7, x8, x9, x10, rfl, h3, h3w, h4, h5, hs⟩ := hI
        rw [Int.toNat_natCast] at hi
        obtain ⟨k1, k2⟩ := wst_ok (first := first) hn o1 o2 i (by omega)
        have bnd : (10 ^ 58 + (i : Int) * 10 ^ 56) < 10 ^ 60 := by omega
        have hz := getD_some (List.getElem?_eq_getElem hi)
        have htk : ns.take (i + 1) = ns.take i ++ [ns.getD i 0] := by rw [hz, List.take_add_one, List.getElem?_eq_getElem hi]; rfl
        obtain ⟨post, hpost⟩ := wst_split ns first T (i + 1) ns.length hi
        have hpl : (wst ns first T i).1.flatten.length ≤ (wst ns first T ns.length).1.flatten.length := by
          obtain ⟨post2, e⟩ := wst_split ns first T i ns.length (by omega)
          rw [e, List.length_append]
          omega
        rw [show (0 : Int) + (i : Int) = ((i : Nat) : Int) by omega]
        walk_at "rd"
        refine rd_iteD (fun c => ?_) (fun c => ?_)
        · have c := Int.ofNat_lt.mp c
          walk_at "rd"
          refine use_parG h4 k1 ?_
          walk_at "rd"
          have hpp := par_leG k1 bnd
          have hw1 : (wst ns first T ns.length).1.flatten = (wst ns first T i).1.flatten ++ (encB (uOf (ns.getD i 0)) (par (wst ns first T i).2.1.1 (wst ns first T i).2.1.2) ++ post) := by
            rw [hpost, wst_lo c, List.flatten_append, List.append_assoc]
            simp
          have hrd := rdC_good (wst ns first T i).1.flatten post (uOf (ns.getD i 0)) (par (wst ns first T i).2.1.1 (wst ns first T i).2.1.2)
          rw [← hw1] at hrd
          have hon : onesL ((wst ns first T ns.length).1.flatten.drop (wst ns first T i).1.flatten.length) ≤ 600 := by
            rw [hw1, List.drop_left]
            exact ones_enc _ _ _ (nb_small (uOf_getD hn i))
          refine use_rdC hbin hfl2 hpl (by omega) hon hrd fun p1 hp1 => ?_
          walk_at "rd"
          refine if_noD (fun z => V.noConfusion z) ?_
          have hlt : (ns.take i).length ≤ 1000 := by rw [List.length_take]; omega
          have hl1 : (wst ns first T (i + 1)).1.flatten.length = (wst ns first T i).1.flatten.length + (encB (uOf (ns.getD i 0)) (par (wst ns first T i).2.1.1 (wst ns first T i).2.1.2)).length := by
            rw [wst_lo c, List.flatten_append, List.length_append]
            simp
          walk_at "rd"
          rw [unU_uOf]
          walk_at "rd"
          have u3 := look_new (o := .tup [.int ((uOf (ns.getD i 0) : Nat) : Int), .int (((wst ns first T i).1.flatten.length + (encB (uOf (ns.getD i 0)) (par (wst ns first T i).2.1.1 (wst ns first T i).2.1.2)).length : Nat) : Int)]) hp1 h3
          have u3w := look_new (o := .tup [.int ((uOf (ns.getD i 0) : Nat) : Int), .int (((wst ns first T i).1.flatten.length + (encB (uOf (ns.getD i 0)) (par (wst ns first T i).2.1.1 (wst ns first T i).2.1.2)).length : Nat) : Int)]) hp1 h3w
          have v3 := look_upd (o := .lst ((ns.take i ++ [ns.getD i 0]).map V.int)) hpw u3
          have v4 : TbV K _ r0 (wst ns first T i).2.1 := TbV.lk (LK.at (o := .lst ((ns.take i ++ [ns.getD i 0]).map V.int)) u3w) (h4.lk (.new hp1))
          have v5 : TbV K _ r1 (wst ns first T i).2.2 := TbV.lk (LK.at (o := .lst ((ns.take i ++ [ns.getD i 0]).map V.int)) u3w) (h5.lk (.new hp1))
          refine use_behind v4 k1 fun p2 hp2 => ?_
          walk_at "rd"
          rw [hl1, wst_lo c, htk]
          refine ⟨p2, r1, _, _, _, _, rfl, upd_same, ?_, ?_, ?_, ?_⟩
          · rw [upd_ne hwp, upd_ne (ne_of_none upd_same hp2), upd_same]
          · exact TbV.lk (LK.at (look_new hp2 v3)) (TbV.of upd_same)
          · exact TbV.lk (LK.at (look_new hp2 v3)) (TbV.lk (LK.new hp2) v5)
          · intro b2 x e
            rw [upd_ne (ne_of_none e hp)]
            refine look_new hp2 ?_
            rw [upd_ne (ne_of_none e hwn)]
            exact look_new hp1 (hs _ _ e)
        · have c : ¬ i < first := fun z => c (Int.ofNat_lt.mpr z)
          walk_at "rd"
          refine use_parG h5 k2 ?_
          walk_at "rd"
          have hpp := par_leG k2 bnd
          have hw1 : (wst ns first T ns.length).1.flatten = (wst ns first T i).1.flatten ++ (encB (uOf (ns.getD i 0)) (par (wst ns first T i).2.2.1 (wst ns first T i).2.2.2) ++ post) := by
            rw [hpost, wst_hi c, List.flatten_append, List.append_assoc]
            simp
          have hrd := rdC_good (wst ns first T i).1.flatten post (uOf (ns.getD i 0)) (par (wst ns first T i).2.2.1 (wst ns first T i).2.2.2)
          rw [← hw1] at hrd
          have hon : onesL ((wst ns first T ns.length).1.flatten.drop (wst ns first T i).1.flatten.length) ≤ 600 := by
            rw [hw1, List.drop_left]
            exact ones_enc _ _ _ (nb_small (uOf_getD hn i))
          refine use_rdC hbin hfl2 hpl (by omega) hon hrd fun p1 hp1 => ?_
          walk_at "rd"
          refine if_noD (fun z => V.noConfusion z) ?_
          have hlt : (ns.take i).length ≤ 1000 := by rw [List.length_take]; omega
          have hl1 : (wst ns first T (i + 1)).1.flatten.length = (wst ns first T i).1.flatten.length + (encB (uOf (ns.getD i 0)) (par (wst ns first T i).2.2.1 (wst ns first T i).2.2.2)).length := by
            rw [wst_hi c, List.flatten_append, List.length_append]
            simp
          walk_at "rd"
          rw [unU_uOf]
          walk_at "rd"
          have u3 := look_new (o := .tup [.int ((uOf (ns.getD i 0) : Nat) : Int), .int (((wst ns first T i).1.flatten.length + (encB (uOf (ns.getD i 0)) (par (wst ns first T i).2.2.1 (wst ns first T i).2.2.2)).length : Nat) : Int)]) hp1 h3
          have u3w := look_new (o := .tup [.int ((uOf (ns.getD i 0) : Nat) : Int), .int (((wst ns first T i).1.flatten.length + (encB (uOf (ns.getD i 0)) (par (wst ns first T i).2.2.1 (wst ns first T i).2.2.2)).length : Nat) : Int)]) hp1 h3w
          have v3 := look_upd (o := .lst ((ns.take i ++ [ns.getD i 0]).map V.int)) hpw u3
          have v4 : TbV K _ r0 (wst ns first T i).2.1 := TbV.lk (LK.at (o := .lst ((ns.take i ++ [ns.getD i 0]).map V.int)) u3w) (h4.lk (.new hp1))
          have v5 : TbV K _ r1 (wst ns first T i).2.2 := TbV.lk (LK.at (o := .lst ((ns.take i ++ [ns.getD i 0]).map V.int)) u3w) (h5.lk (.new hp1))
          refine use_behind v5 k2 fun p2 hp2 => ?_
          walk_at "rd"
          rw [hl1, wst_hi c, htk]
          refine ⟨r0, p2, _, _, _, _, rfl, upd_same, ?_, ?_, ?_, ?_⟩
          · rw [upd_ne hwp, upd_ne (ne_of_none upd_same hp2), upd_same]
          · exact TbV.lk (LK.at (look_new hp2 v3)) (TbV.lk (LK.new hp2) v4)
          · exact TbV.lk (LK.at (look_new hp2 v3)) (TbV.of upd_same)
          · intro b2 x e
            rw [upd_ne (ne_of_none e hp)]
            refine look_new hp2 ?_
            rw [upd_ne (ne_of_none e hwn)]
            exact look_new hp1 (hs _ _ e)
      · obtain ⟨r0, r1, x7, x8, x9, x10, rfl, h3, h3w, h4, h5, hs⟩ := hI
        rw [Int.toNat_natCast] at *
        rw [List.take_length] at h3w
        walk_at "rd"
        refine if_noN rfl ?_
        walk_at "rd"
        rename_i q1 hq1 p1 hp1
        refine q p1 w q1 _ hwn ((hs.trans (same_new hq1)).trans (same_new hp1)) ((hs.trans (same_new hq1)).free hp1) upd_same (look_new hp1 (look_new hq1 h3w)) ⟨r0, r1, .of (look_new hp1 upd_same), (h4.lk (.new hq1)).lk (.new hp1), (h5.lk (.new hq1)).lk (.new hp1)⟩
    ) only [↓lt_eq]
theorem ok_mark_of {f : Addr} {fd : FuncData} {f_check_block : Addr} {fd_check_block : FuncData} {f_code_number : Addr} {fd_code_number : FuncData}    (D : Dn K mg "mark_of" s_mark_of ["numbers"] f fd) (bi : Bi mg) (G_check_block : FnOk P w K mg base CX0 3 f_check_block fd_check_block ["values", "least"] spBlock) (D_check_block : Dn K mg "check_block" s_check_block ["values", "least"] f_check_block fd_check_block) (G_code_number : FnOk P w K mg base CX0 1 f_code_number fd_code_number ["number"] spCode) (D_code_number : Dn K mg "code_number" s_code_number ["number"] f_code_number fd_code_number)   (g_MARK_FACTOR : ∃ t, mg "MARK_FACTOR" = some (.int 31 t)) (g_MARK_MODULUS : ∃ t, mg "MARK_MODULUS" = some (.int 9973 t)) : FnOk P w K mg base CX0 4 f fd ["numbers"] spMark := by
  refine lt_out ?_
  simp (disch := with_unfolding_all
    refine D.F.ok sc_mark_of (fun vs H Q E h => ?_) (fun cdv A outer s H vs Q E hr h => ?_)
    · obtain ⟨a, ns, rfl, _⟩ := h
      rfl
    · obtain ⟨a, ns, rfl, hS, hl, q⟩ := h
      obtain ⟨tf, g_MARK_FACTOR⟩ := g_MARK_FACTOR
      obtain ⟨tm, g_MARK_MODULUS⟩ := g_MARK_MODULUS
      refine ⟨_, (pss_cons (ps_expr (pe_call G_check_block (hr.mono (by first | decide | exact Nat.le_refl _)) (by rfl) D_check_block.g D_check_block.F.kp D_check_block.b .nil pass0 (pa_cons (pv 0) (pa_cons pe_int pa_nil))))
   (pss_cons (ps_set (i := 1) sc_mark_of.nd rfl (Or.inl rfl) pe_int)
   (pss_cons (ps_for PassesOwn.never rfl (pi_list (pv 0)) (pg_name (i := 2) sc_mark_of.nd rfl (Or.inl rfl))
   (pss_one (ps_set (i := 1) sc_mark_of.nd rfl (Or.inl rfl) (pe_op op_mod (pe_op op_add (pe_op op_mul (pv 1) (pe_glob (v := .int 31) (by rfl) g_MARK_FACTOR ⟨_, rfl⟩)) (pe_call G_code_number (hr.mono (by first | decide | exact Nat.le_refl _)) (by rfl) D_code_number.g D_code_number.F.kp D_code_number.b .nil pass0 (pa_cons (pv 2) pa_nil))) (pe_glob (v := .int 9973) (by rfl) g_MARK_MODULUS ⟨_, rfl⟩)))))
   (pss_one (ps_ret (pv 1)))))), ?_⟩
      refine rd_start (σ := [some (.ref a), none, none]) rfl ?_
      walk_at "rd"
      refine' rd_lpL (xs := ns.map V.int) ?k1 ?_
      (case k1 => exact SqL.of (by walk_at "hg"))
      refine for_list (xs := ns.map V.int) (fun i σ H' => ∃ t, σ = [some (.ref a), some (.int (markF (ns.take i))), t] ∧ Same H H') ⟨none, rfl, by walk_at "sm"⟩ (fun i σ H1 _ hI => ?_) (fun i v σ H1 hv hI => ?_) (fun σ H1 hI => ?_)
      · obtain ⟨t, rfl, hs⟩ := hI
        exact hs.seq (SqL.of hS)
      · obtain ⟨t, rfl, hs⟩ := hI
        obtain ⟨z, rfl, hz⟩ : ∃ z, v = .int z ∧ ns[i]? = some z := by
          rw [List.getElem?_map] at hv
          cases g : ns[i]? with
          | none => rw [g] at hv; cases hv
          | some z => rw [g] at hv; exact ⟨z, (Option.some.inj hv).symm, rfl⟩
        have hb := markF_bound (ns.take i)
        walk_at "rd"
        refine ⟨some (.int z), ?_, hs⟩
        rw [show ns.take (i + 1) = ns.take i ++ [z] by rw [List.take_add_one, hz]; rfl, markF_snoc]
        rfl
      · obtain ⟨t, rfl, hs⟩ := hI
        walk_at "rd"
        rw [List.take_of_length_le (by rw [List.length_map]; exact Nat.le_refl _)]
        exact q _ hs
    ) only [↓lt_eq]
theorem ok_read_frame {f : Addr} {fd : FuncData} {f_read_numbers : Addr} {fd_read_numbers : FuncData} {f_coarse_count : Addr} {fd_coarse_count : FuncData} {f_mark_of : Addr} {fd_mark_of : FuncData}    (D : Dn K mg "read_frame" s_read_frame ["record", "tables"] f fd) (bi : Bi mg) (G_read_numbers : FnOk P w K mg base CX0 6 f_read_numbers fd_read_numbers ["bits", "length", "coarse", "tables"] (spRdM K)) (D_read_numbers : Dn K mg "read_numbers" s_read_numbers ["bits", "length", "coarse", "tables"] f_read_numbers fd_read_numbers) (G_coarse_count : FnOk P w K mg base CX0 4 f_coarse_count fd_coarse_count ["length", "levels"] spCoarse) (D_coarse_count : Dn K mg "coarse_count" s_coarse_count ["length", "levels"] f_coarse_count fd_coarse_count) (G_mark_of : FnOk P w K mg base CX0 4 f_mark_of fd_mark_of ["numbers"] spMark) (D_mark_of : Dn K mg "mark_of" s_mark_of ["numbers"] f_mark_of fd_mark_of)    : FnOk P w K mg base CX0 7 f fd ["record", "tables"] (spRfM K) := by
  refine lt_out ?_
  simp (disch := with_unfolding_all
    refine D.F.ok sc_read_frame (fun vs H Q E h => ?_) (fun cdv A outer s H vs Q E hr h => ?_)
    · obtain ⟨v, d, ns, T, t, rfl, _⟩ := h
      rfl
    · obtain ⟨v, d, ns, T, t, rfl, ⟨a, j, rfl, h, hj⟩, ok, hT, q⟩ := h
      unfold FrAt at h
      obtain ⟨hok, hl, hn, o1, o2⟩ := ok
      obtain ⟨k1, k2, k3, k4, k5, k6, k7, k8⟩ := hok
      refine ⟨_, (pss_cons (ps_asg (pe_slice sl_tup (pv 0) (po_some pe_int) po_none) (pg_tup rfl (pgs_cons (pg_name (i := 2) sc_read_frame.nd rfl (Or.inl rfl)) (pgs_cons (pg_name (i := 3) sc_read_frame.nd rfl (Or.inl rfl)) (pgs_cons (pg_name (i := 4) sc_read_frame.nd rfl (Or.inl rfl)) (pgs_cons (pg_name (i := 5) sc_read_frame.nd rfl (Or.inl rfl)) (pgs_cons (pg_name (i := 6) sc_read_frame.nd rfl (Or.inl rfl)) (pgs_cons (pg_name (i := 7) sc_read_frame.nd rfl (Or.inl rfl)) pgs_nil))))))))
   (pss_cons (ps_set (i := 8) sc_read_frame.nd rfl (Or.inl rfl) (pe_call G_read_numbers (hr.mono (by first | decide | exact Nat.le_refl _)) (by rfl) D_read_numbers.g D_read_numbers.F.kp D_read_numbers.b .nil pass0 (pa_cons (pv 7) (pa_cons (pv 2) (pa_cons (pe_call G_coarse_count (hr.mono (by first | decide | exact Nat.le_refl _)) (by rfl) D_coarse_count.g D_coarse_count.F.kp D_coarse_count.b .nil pass0 (pa_cons (pv 2) (pa_cons (pv 4) pa_nil))) (pa_cons (pv 1) pa_nil))))))
   (pss_cons (ps_if (PW.pt (pw_or (pt_cmpR cIsN (pv 8) pe_non (nomark _)) (pw_or1 (pt_cmpR op_ne (pe_call G_mark_of (hr.mono (by first | decide | exact Nat.le_refl _)) (by rfl) D_mark_of.g D_mark_of.F.kp D_mark_of.b .nil pass0 (pa_cons (pe_ix ix_tup (pv 8) pe_int (fun _ _ => rfl)) pa_nil)) (pv 6) (nomark _)))))
   (pss_one (ps_ret pe_non))
   pss_nil)
   (pss_one (ps_ret (pv 8)))))), ?_⟩
      refine rd_start (σ := [some (.ref a), some (.ref t), none, none, none, none, none, none, none]) rfl ?_
      walk_at "rd"
      refine rd_slTp (SqT.of h) (ys := [.int (d.1 : Nat), .ref j, .int (d.2.2.2.1 : Nat), .int (d.2.2.2.2 : Nat), .int (markF ns), .str (SX.S (bitsF d ns T))]) rfl (show ¬ (HT.sIx 7 0 (some 1) = 0 ∧ HT.sIx 7 7 none = 7) by decide) fun p1 hp1 => ?_
      walk_at "rd"
      refine use_coarse k1 k2 k6 ?_
      have hcc := cc_n d.1 d.2.2.2.1
      walk_at "rd"
      refine use_rdM (ns := ns) (T := T) rfl hl.symm (by omega) (by omega) (fun z hz => Nat.lt_of_le_of_lt (hn z hz) (by decide)) (hT.lk (.new hp1)) (o1.up (by decide)) (o2.up (by decide)) fun p m q2 H2 hm0 hs2 hn2 hp2 hm2 hq2 => ?_
      walk_at "rd"
      refine if_noD (fun z => V.noConfusion z) ?_
      walk_at "rd"
      rename_i H3 hs3
      refine if_noN rfl ?_
      walk_at "rd"
      exact q p m q2 _ ((same_new hp1).free hm0) (((same_new hp1).trans hs2).trans hs3) ((same_new hp1).free hn2) (hs3 _ _ hp2) (hs3 _ _ hm2) (hq2.lk (.of hs3))
    ) only [↓lt_eq]
theorem ok_read_frames {f : Addr} {fd : FuncData} {f_read_frame : Addr} {fd_read_frame : FuncData}    (D : Dn K mg "read_frames" s_read_frames ["records"] f fd) (bi : Bi mg) (G_read_frame : FnOk P w K mg base CX0 7 f_read_frame fd_read_frame ["record", "tables"] (spRfM K)) (D_read_frame : Dn K mg "read_frame" s_read_frame ["record", "tables"] f_read_frame fd_read_frame)   {a_START t0 t1 a_HARD : Addr} (g_START : mg "START" = some (.ref a_START)) (hSt : ∀ H, TupV K H a_START [.ref t0, .ref t1]) (hS0 : ∀ H, TupV K H t0 [.int 2, .int 1]) (hS1 : ∀ H, TupV K H t1 [.int 2, .int 1]) (g_HARD : mg "HARD" = some (.ref a_HARD)) (hHd : ∀ H, TupV K H a_HARD [.int 0, .int 0]) : FnOk P w K mg base CX0 8 f fd ["records"] (spFrsN K) := by
  refine lt_out ?_
  simp (disch := with_unfolding_all
    refine D.F.ok sc_read_frames (fun vs H Q E h => ?_) (fun cdv A outer s H vs Q E hr h => ?_)
    · obtain ⟨a, refs, rs, T, rfl, _⟩ := h
      rfl
    · obtain ⟨a, refs, rs, Te, rfl, hS, hlen, hR, hV, q⟩ := h
      refine ⟨_, (pss_cons (ps_set (i := 1) sc_read_frames.nd rfl (Or.inl rfl) (pe_lst pa_nil))
   (pss_cons (ps_par3 (i := 2) (j := 3) (l := 4) rfl sc_read_frames.nd rfl rfl rfl (by decide) (by decide) (by decide) rfl rfl rfl (pa_cons (pe_glob (v := .ref a_START) (by rfl) g_START rfl) (pa_cons pe_int (pa_cons (pe_glob (v := .ref a_HARD) (by rfl) g_HARD rfl) pa_nil))) rfl)
   (pss_cons (ps_for PassesOwn.never rfl (pi_enum (by rfl) bi.enumerate_ (pa_cons (pv 0) pa_nil)) (pg_tup rfl (pgs_cons (pg_name (i := 5) sc_read_frames.nd rfl (Or.inl rfl)) (pgs_cons (pg_name (i := 6) sc_read_frames.nd rfl (Or.inl rfl)) pgs_nil)))
   (pss_one (ps_if (pt_cmpR op_eq (pe_ix ix_tup (pv 6) pe_int (fun _ _ => rfl)) pe_str (nomark _))
   (pss_one (ps_set (i := 2) sc_read_frames.nd rfl (Or.inl rfl) (pe_ix ix_tup (pv 6) pe_int (fun _ _ => rfl))))
   (pss_cons (ps_asg (pe_slice sl_tup (pv 6) (po_some pe_int) (po_some pe_int)) (pg_tup rfl (pgs_cons (pg_name (i := 7) sc_read_frames.nd rfl (Or.inl rfl)) (pgs_cons (pg_name (i := 8) sc_read_frames.nd rfl (Or.inl rfl)) pgs_nil))))
   (pss_cons (ps_set (i := 9) sc_read_frames.nd rfl (Or.inl rfl) (pe_call G_read_frame (hr.mono (by first | decide | exact Nat.le_refl _)) (by rfl) D_read_frame.g D_read_frame.F.kp D_read_frame.b .nil pass0 (pa_cons (pv 6) (pa_cons (pv 2) pa_nil))))
   (pss_cons (ps_if (PW.pt (pw_or (pt_cmpR op_gt (pe_op op_add (pe_ix ix_tup (pv 4) pe_int (fun _ _ => rfl)) (pe_ix ix_tup (pv 8) pe_int (fun _ _ => rfl))) (pv 7) (nomark _)) (pw_or1 (pt_cmpR cIsN (pv 9) pe_non (nomark _)))))
   (pss_one ps_never)
   pss_nil)
   (pss_cons (ps_asg (pv 9) (pg_tup rfl (pgs_cons (pg_name (i := 10) sc_read_frames.nd rfl (Or.inl rfl)) (pgs_cons (pg_name (i := 11) sc_read_frames.nd rfl (Or.inl rfl)) pgs_nil))))
   (pss_cons (ps_expr (pe_bm PySem.F.plainAttrs_list PySem.F.slot_list_append PySem.F.type_list_append mt_append (pv 1) (pa_cons (pe_tup (pa_cons (pe_tup (pa_cons (pv 5) (pa_cons (pv 3) (pa_cons (pv 7) (pa_cons (pv 4) (pa_cons (pv 8) pa_nil)))))) (pa_cons (pv 10) (pa_cons (pv 2) (pa_cons (pv 11) pa_nil))))) pa_nil)))
   (pss_one (ps_par3 (i := 2) (j := 3) (l := 4) rfl sc_read_frames.nd rfl rfl rfl (by decide) (by decide) (by decide) rfl rfl rfl (pa_cons (pv 11) (pa_cons (pe_op op_add (pv 3) (pv 7)) (pa_cons (pv 8) pa_nil))) rfl))))))))))
   (pss_cons (ps_if (pt_cmpR (op_neD hr.units) (pv 4) (pe_glob (v := .ref a_HARD) (by rfl) g_HARD rfl) (nomark _))
   (pss_one ps_never)
   pss_nil)
   (pss_one (ps_ret (pv 1))))))), ?_⟩
      refine rd_start (σ := [some (.ref a), none, none, none, none, none, none, none, none, none, none, none]) rfl ?_
      walk_at "rd"
      rename_i F hF
      refine rd_lpE (SqL.of (look_new hF hS)) ?_
      refine for_enum (xs := refs) (fun i σ H' => ∃ fms dn t T pl jl lj x5 x6 x7 x8 x9 x10 x11, σ = [some (.ref a), some (.ref F), some (.ref t), some (.int (pl : Nat)), some (.ref jl), x5, x6, x7, x8, x9, x10, x11] ∧ FI K F H H' rs Te i fms dn t T pl jl lj ∧ ∀ v ∈ fms, MF H H' v) ⟨[], [], a_START, T0, 0, a_HARD, (0, 0), none, none, none, none, none, none, none, rfl, ⟨upd_same, hF, .nil, rfl, hV, hHd _, fun _ => rfl, ⟨t0, t1, hSt _, hS0 _, hS1 _⟩, same_new hF, Nat.le_refl _⟩, fun _ z => absurd z List.not_mem_nil⟩ (fun i σ H1 _ hI => ?_) (fun i v σ H1 W hv hI hW => ?_) (fun σ H1 hI => ?_)
      · obtain ⟨fms, dn, t, T, pl, jl, lj, x5, x6, x7, x8, x9, x10, x11, rfl, hI, hmf⟩ := hI
        exact SqL.of (hI.sm _ _ hS)
      · obtain ⟨fms, dn, t, T, pl, jl, lj, x5, x6, x7, x8, x9, x10, x11, rfl, hI, hmf⟩ := hI
        obtain ⟨r, rr, hv2, hd1, hd2, hmem⟩ := hR.drop_head hv
        have hil := (List.getElem?_eq_some_iff.mp hv).1
        have sW := same_new (o := .tup [.int (i : Nat), v]) hW
        have hI := hI.same sW
        have hv2 := hv2.lk (.of hI.sm)
        have hok := hV.ok r hmem
        cases r with
        | st T' =>
          obtain ⟨b, t', rfl, hb, hT'⟩ := hv2
          walk_at "rd"
          refine if_yesD rfl ?_
          walk_at "rd"
          exact ⟨fms, dn, t', T', pl, jl, lj, _, _, _, _, _, _, _, rfl, hI.st hd1 hd2 hT', fun v hv => (hmf v hv).lk (.of sW)⟩
        | fr d ns T' =>
          obtain ⟨b, j, rfl, hb, hj⟩ := hv2
          have vd := hI.vd
          rw [hd1] at vd
          obtain ⟨rfl, v2, v3, v4, v5, v6, v7⟩ := vd
          have hrc : RcAt K _ (.ref b) (.fr d ns T') := ⟨b, j, rfl, hb, hj⟩
          unfold FrAt at hb
          walk_at "rd"
          refine if_noD st_ne_fr ?_
          walk_at "rd"
          refine rd_slTp (SqT.of hb) (ys := [.int (d.1 : Nat), .ref j]) rfl (show ¬ (HT.sIx 7 0 (some 1) = 0 ∧ HT.sIx 7 7 (some 3) = 7) by decide) fun p1 hp1 => ?_
          have lk1 := LK.new (o := .tup [.int (d.1 : Nat), .ref j]) hp1
          have hI := hI.same (same_new (o := .tup [.int (d.1 : Nat), .ref j]) hp1)
          have hrc := hrc.lk lk1
          walk_at "rd"
          refine use_rfM hrc hok hI.tb fun p2 m2 q2 H2 hm0 hs2 hn2 hp2 hm2 hq2 => ?_
          have hmH := hI.sm.free hm0
          have hI := hI.same hs2
          have hj2 := (LK.of hs2) _ _ (lk1 _ _ hj fun _ z => nomatch z) fun _ z => nomatch z
          have L1 := hI.jt.1
          walk_at "rd"
          refine if_noD (by omega) ?_
          walk_at "rd"
          refine if_noD (fun z => V.noConfusion z) ?_
          have eF := hI.eF
          have hlf := hI.len
          have nmF : m2 ≠ F := ne_fms eF hm2 (by have := v2.1; omega) (fms_ref hI.fm)
          walk_at "rd"
          rename_i b5 hb5 w6 hw6
          have s5 := same_new (o := .tup [.int (i : Nat), .int (pl : Nat), .int (d.1 : Nat), .ref jl, .ref j]) hb5
          have s6 := same_new (o := .tup [.ref b5, .ref m2, .ref t, .ref q2]) hw6
          have hI := hI.same (s5.trans s6)
          have eF9 := hI.eF
          refine rd_appG hI.eF (by omega) ?_
          walk_at "rd"
          have lk5 := LK.of (s5.trans s6)
          have fm : FmAt K [F] _ (.ref w6) (i, pl, d, lj, ns, T') := ⟨w6, b5, jl, j, m2, t, q2, rfl, upd_same, s6 _ _ upd_same, hI.jt, lk5 _ _ hj2 (fun _ z => nomatch z), fun z => nmF (List.mem_singleton.mp z), s6 _ _ (s5 _ _ hm2), hI.tb, hq2.lk lk5⟩
          have hI := hI.fr hd1 hd2 fm (lk5 _ _ hj2 fun _ z => nomatch z) (hq2.lk lk5)
          have lkE := ((LK.of sW).trans (lk1.trans ((LK.of hs2).trans lk5))).trans (LK.at (o := .lst (fms ++ [.ref w6])) eF9)
          refine ⟨_, _, q2, _, pl + d.1, j, _, some (.int (i : Nat)), some (.ref b), some (.int (d.1 : Nat)), some (.ref j), some (.ref p2), some (.ref m2), some (.ref q2), ?_, hI, fun v hv => ?_⟩
          rotate_left
          · rcases List.mem_append.mp hv with hv | hv
            · exact (hmf v hv).lk lkE
            · rw [List.mem_singleton.mp hv]
              exact ⟨w6, b5, m2, t, q2, rfl, LK.at (o := .lst (fms ++ [.ref w6])) eF9 _ _ upd_same (fun _ z => nomatch z), hmH⟩
          rw [show ((pl + d.1 : Nat) : Int) = (pl : Int) + (d.1 : Int) by omega]
          rfl
      · obtain ⟨fms, dn, t, T, pl, jl, lj, x5, x6, x7, x8, x9, x10, x11, rfl, hI, hmf⟩ := hI
        rw [hR.len] at hI
        have vd := hI.vd
        rw [List.drop_length] at vd
        have l0 : lj.1 = 0 := vd.2
        have l1 := hI.j0 l0
        walk_at "rd"
        refine rd_neT2 hI.jt.1 (hHd _).1 (by omega) (by omega) ?_
        walk_at "rd"
        have sp := hI.sp
        rw [List.drop_length, show frR rs.length pl lj [] = [] from rfl, List.append_nil] at sp
        refine q F fms _ hF hI.eF ?_ hI.sm ?_
        rw [sp]
        · exact hI.fm.imp fun _ _ z => z.out
        · exact hmf
    ) only [↓lt_eq]
theorem ok_Stream___init__ {f : Addr} {fd : FuncData} {f_check_records : Addr} {fd_check_records : FuncData} {f_read_frames : Addr} {fd_read_frames : FuncData} {C_Stream : Addr}   (D : Mn K C_Stream "__init__" "Stream.__init__" s_Stream___init__ ["self", "records"] f fd) (bi : Bi mg) (G_check_records : FnOk P w K mg base CX0 7 f_check_records fd_check_records ["records"] (spCkRc K)) (D_check_records : Dn K mg "check_records" s_check_records ["records"] f_check_records fd_check_records) (G_read_frames : FnOk P w K mg base CX0 8 f_read_frames fd_read_frames ["records"] (spFrsN K)) (D_read_frames : Dn K mg "read_frames" s_read_frames ["records"] f_read_frames fd_read_frames) (TC_Stream : StmC K mg C_Stream)   : FnOk P w K mg base CX0 9 f fd ["self", "records"] (spInitN K C_Stream) := by
  refine lt_out ?_
  simp (disch := with_unfolding_all
    refine D.F.ok sc_Stream___init__ (fun vs H Q E h => ?_) (fun cdv A outer s H vs Q E hr h => ?_)
    · obtain ⟨x, a, dx, refs, rs, Te, rfl, _⟩ := h
      rfl
    · obtain ⟨x, a, dx, refs, rs, Te, rfl, hx, hS, hl, hR, hV, q⟩ := h
      refine ⟨_, (pss_cons (ps_expr (pe_call G_check_records (hr.mono (by first | decide | exact Nat.le_refl _)) (by rfl) D_check_records.g D_check_records.F.kp D_check_records.b .nil pass0 (pa_cons (pv 1) pa_nil)))
   (pss_cons (ps_fld (pv 0) (pe_callTy cList (by rfl) bi.list_ (by decide +kernel) (pa_cons (pv 1) pa_nil)) rfl)
   (pss_one (ps_fld (pv 0) (pe_call G_read_frames (hr.mono (by first | decide | exact Nat.le_refl _)) (by rfl) D_read_frames.g D_read_frames.F.kp D_read_frames.b .nil pass0 (pa_cons (pe_fld (pv 0) rfl) pa_nil)) rfl)))), ?_⟩
      refine rd_start (σ := [some (.ref x), some (.ref a)]) rfl ?_
      walk_at "rd"
      refine use_ckrc hS hR hV.ok fun H1 hs1 => ?_
      have hS1 := hs1 _ _ hS
      have hx1 := hs1 _ _ hx
      walk_at "rd"
      refine rd_setF ?_
      walk_at "rd"
      rename_i L hL
      have nxL : x ≠ L := ne_of_none hx1 hL
      refine ⟨x, C_Stream, dx, _, rfl, look_new hL hx1, TC_Stream.cl, TC_Stream.nh, by decide, ?_⟩
      walk_at "rd"
      refine rd_setF ?_
      walk_at "rd"
      have k1 : Kp x H (upd (upd H1 L (.lst refs)) x (.ins C_Stream dx (putF "held" (.ref L) []))) := fun b o nb e => by rw [upd_ne nb]; exact look_new hL (hs1 _ _ e)
      have eL1 : (upd (upd H1 L (.lst refs)) x (.ins C_Stream dx (putF "held" (.ref L) []))) L = some (.lst refs) := by rw [upd_ne nxL.symm]; exact upd_same
      refine ⟨.ref x, rfl, x, C_Stream, dx, _, _, rfl, upd_same, TC_Stream.cl, TC_Stream.nh, held_ L, ?_⟩
      walk_at "rd"
      have hR1 := hR.lki (.ofK hx k1)
      refine use_frsN eL1 hl hR1 hV fun F fms H2 hF eF hfm hs2 hmf => ?_
      have hx2 := hs2 _ _ upd_same
      have k2 := k1.trans (Kp.of hs2)
      have k3 : Kp x H2 (upd H2 x (.ins C_Stream dx (sf L F))) := fun b o nb e => by rw [upd_ne nb]; exact e
      refine ⟨x, C_Stream, dx, _, rfl, hx2, TC_Stream.cl, TC_Stream.nr, by show 1 < 1000; decide, ?_⟩
      walk_at "rd"
      have n2 : ∀ {b : Addr}, (upd (upd H1 L (.lst refs)) x (.ins C_Stream dx (putF "held" (.ref L) []))) b = none → H b = none := fun {b} e => by
        have nb : b ≠ x := fun z => by rw [z, upd_same] at e; cases e
        rw [upd_ne nb] at e
        exact (hs1.trans (same_new hL)).free e
      refine q _ ⟨dx, L, F, fms, Te, upd_same, k3 _ _ nxL.symm (hs2 _ _ eL1), hl, hR.lki (.ofK hx (k2.trans k3)), hV, lst_kp hx2 k3 _ _ eF, hfm.fld hx2 k3, hs1.free hL, n2 hF, fun v hv => ?_⟩ (k2.trans k3)
      obtain ⟨ma, mb, mm, mt, mq, e1, e2, e3⟩ := hmf v hv
      exact ⟨ma, mb, mm, mt, mq, e1, LKI.ofK hx2 k3 _ _ e2 (fun _ z => nomatch z) (fun _ _ _ z => nomatch z), n2 e3⟩
    ) only [↓lt_eq]
theorem ok_Stream_part_of {f : Addr} {fd : FuncData} {f_is_within : Addr} {fd_is_within : FuncData} {C_Stream : Addr}   (D : Mn K C_Stream "part_of" "Stream.part_of" s_Stream_part_of ["self", "frame", "part"] f fd) (bi : Bi mg) (G_is_within : FnOk P w K mg base CX0 2 f_is_within fd_is_within ["value", "low", "high"] spWithin) (D_is_within : Dn K mg "is_within" s_is_within ["value", "low", "high"] f_is_within fd_is_within) (TC_Stream : StmC K mg C_Stream)   : FnOk P w K mg base CX0 3 f fd ["self", "frame", "part"] (spPart K C_Stream) := by
  refine lt_out ?_
  simp (disch := with_unfolding_all
    refine D.F.ok sc_Stream_part_of (fun vs H Q E h => ?_) (fun cdv A outer s H vs Q E hr h => ?_)
    · obtain ⟨x, refs, rs, n, k, f, rfl, _⟩ := h
      rfl
    · obtain ⟨x, refs, rs, n, k, f, rfl, hS, hf, hk, q⟩ := h
      obtain ⟨dx, L, F, fms, Te, h1, h2, h3, h4, h5, h6, h7⟩ := hS
      refine ⟨_, (pss_cons (ps_if (pt_not (pt_val (pe_call G_is_within (hr.mono (by first | decide | exact Nat.le_refl _)) (by rfl) D_is_within.g D_is_within.F.kp D_is_within.b .nil pass0 (pa_cons (pv 1) (pa_cons pe_int (pa_cons (pe_op op_sub (pe_callB cLen (by rfl) bi.len_ (by decide +kernel) (pa_cons (pe_fld (pv 0) rfl) pa_nil)) pe_int) pa_nil))))))
   (pss_one ps_never)
   pss_nil)
   (pss_one (ps_ret (pe_ix ix_tup (pe_ix ix_list (pe_fld (pv 0) rfl) (pv 1) (fun _ _ => rfl)) (pv 2) (fun _ _ => rfl))))), ?_⟩
      refine rd_start (σ := [some (.ref x), some (.int (n : Nat)), some (.int (k : Nat))]) rfl ?_
      walk_at "rd"
      refine rd_readV TC_Stream h1 rfl ?_
      have hn := (List.getElem?_eq_some_iff.mp hf).1
      have hln := h7.len
      walk_at "rd"
      rw [decide_eq_true (show (0 : Int) ≤ (n : Int) ∧ (n : Int) ≤ (fms.length : Nat) - 1 by omega)]
      walk_at "rd"
      refine rd_readV TC_Stream h1 rfl ?_
      obtain ⟨v, hv⟩ : ∃ v, fms[n]? = some v := ⟨fms[n]'(by omega), List.getElem?_eq_getElem (by omega)⟩
      obtain ⟨f', rr, hv2, hd1, _, _⟩ := h7.drop_head hv
      have ef : f' = f := by
        have z : (frR 0 0 (0, 0) rs)[n]? = some f' := by
          have y := congrArg (fun l => l[0]?) hd1
          simpa using y
        rw [hf] at z
        exact (Option.some.inj z).symm
      subst ef
      walk_at "rd"
      refine rd_ixL (SqL.of h6) (atI_nat hv) ?_
      obtain ⟨a, b, jl, j, m, t, q2, rfl, g1, g2, g3, g4, g5, g6, g7, g8⟩ := hv2
      walk_at "rd"
      obtain ⟨v, hv⟩ : ∃ v, ([.ref b, .ref m, .ref t, .ref q2] : List V)[k]? = some v := ⟨_, List.getElem?_eq_getElem hk⟩
      refine rd_ixT (SqT.of g1) (atI_nat hv) ?_
      exact q b m t q2 v ⟨jl, j, g2, g3, g4⟩ g6 g7 g8 hv
    ) only [↓lt_eq]
theorem ok_join_once {f : Addr} {fd : FuncData}     (D : Dn K mg "join_once" s_join_once ["sums", "differences"] f fd) (bi : Bi mg)     : FnOk P w K mg base CX0 1 f fd ["sums", "differences"] spJoin1 := by
  refine lt_out ?_
  simp (disch := with_unfolding_all
    refine D.F.ok sc_join_once (fun vs H Q E h => ?_) (fun cdv A outer s H vs Q E hr h => ?_)
    · obtain ⟨s, d, S, D, rfl, _⟩ := h
      rfl
    · obtain ⟨s, d, S, D, rfl, e1, e2, h1, h2, q⟩ := h
      refine ⟨_, (pss_cons (ps_set (i := 2) sc_join_once.nd rfl (Or.inl rfl) (pe_lst pa_nil))
   (pss_cons (ps_for PassesOwn.never rfl (pi_enum (by rfl) bi.enumerate_ (pa_cons (pv 1) pa_nil)) (pg_tup rfl (pgs_cons (pg_name (i := 3) sc_join_once.nd rfl (Or.inl rfl)) (pgs_cons (pg_name (i := 4) sc_join_once.nd rfl (Or.inl rfl)) pgs_nil)))
   (pss_cons (ps_set (i := 5) sc_join_once.nd rfl (Or.inl rfl) (pe_op op_sub (pe_ix ix_list (pv 0) (pv 3) (fun _ _ => rfl)) (pe_op op_fdiv (pv 4) pe_int)))
   (pss_cons (ps_expr (pe_bm PySem.F.plainAttrs_list PySem.F.slot_list_append PySem.F.type_list_append mt_append (pv 2) (pa_cons (pe_op op_add (pv 5) (pv 4)) pa_nil)))
   (pss_one (ps_expr (pe_bm PySem.F.plainAttrs_list PySem.F.slot_list_append PySem.F.type_list_append mt_append (pv 2) (pa_cons (pv 5) pa_nil)))))))
   (pss_one (ps_ret (pe_op op_cat (pv 2) (pe_slice sl_list (pv 0) (po_some (pe_callB cLen (by rfl) bi.len_ (by decide +kernel) (pa_cons (pv 1) pa_nil))) po_none)))))), ?_⟩
      refine rd_start (σ := [some (.ref s), some (.ref d), none, none, none, none]) rfl ?_
      have hml : (D.map V.int).length = D.length := List.length_map ..
      have hjl := jp_length S D h1
      walk_at "rd"
      rename_i v1 hv1
      refine rd_lpE (xs := D.map V.int) (SqL.of (look_new hv1 e2)) ?_
      refine for_enum (xs := D.map V.int) (fun i σ H' => ∃ t1 t2 t3, σ = [some (.ref s), some (.ref d), some (.ref v1), t1, t2, t3] ∧ H' v1 = some (.lst (((jp S D).take (2 * i)).map V.int)) ∧ Same H H') ⟨none, none, none, rfl, upd_same, same_new hv1⟩ (fun i σ H1 _ hI => ?_) (fun i v σ H1 T hv hI hT => ?_) (fun σ H1 hI => ?_)
      · obtain ⟨t1, t2, t3, rfl, h3, hs⟩ := hI
        exact SqL.of (hs _ _ e2)
      · obtain ⟨t1, t2, t3, rfl, h3, hs⟩ := hI
        obtain ⟨z, rfl, hz⟩ : ∃ z, v = .int z ∧ D[i]? = some z := by
          rw [List.getElem?_map] at hv
          cases g : D[i]? with
          | none => rw [g] at hv; cases hv
          | some z => rw [g] at hv; exact ⟨z, (Option.some.inj hv).symm, rfl⟩
        have hiD := (List.getElem?_eq_some_iff.mp hz).1
        have hiS : i < S.length := by omega
        have hat := at_ints (List.getElem?_eq_getElem hiS)
        have hst := jp_step S D i _ _ (List.getElem?_eq_getElem hiS) hz
        have k1 : ((jp S D).take (2 * i)).length ≤ 500 := by rw [List.length_take]; omega
        have e1' := hs _ _ e1
        have k2 : ∀ z : Int, ((jp S D).take (2 * i) ++ [z]).length ≤ 1000 := fun z => by rw [List.length_append]; simp only [List.length_cons, List.length_nil]; omega
        walk_at "rd"
        refine' rd_appI ?k1 (k2 _) ?_
        (case k1 => exact upd_same)
        walk_at "rd"
        refine ⟨_, _, _, rfl, ?_, fun b x e => ?_⟩
        · rw [upd_same, hst, List.append_assoc]
          rfl
        · have nb : b ≠ v1 := ne_of_none e hv1
          rw [upd_ne nb, upd_ne nb]
          exact look_new hT (hs _ _ e)
      · obtain ⟨t1, t2, t3, rfl, h3, hs⟩ := hI
        rw [hml, List.take_of_length_le (by omega)] at h3
        have e1' := hs _ _ e1
        have e2' := hs _ _ e2
        walk_at "rd"
        rw [hml]
        refine rd_slF (ns := S) (k := D.length) (SqL.of e1') h1 fun p6 hp6 => ?_
        have hl6 : (S.drop D.length).length ≤ 64 := by rw [List.length_drop]; omega
        walk_at "rd"
        rename_i p7 hp7
        rw [← jn_jp S D h1]
        exact q p7 _ (hs.trans ((same_new hp6).trans (same_new hp7))) (hs.free ((same_new hp6).free hp7)) upd_same
    ) only [↓lt_eq]
theorem ok_join_levels {f : Addr} {fd : FuncData} {f_check_block : Addr} {fd_check_block : FuncData} {f_check_within : Addr} {fd_check_within : FuncData} {f_coarse_count : Addr} {fd_coarse_count : FuncData} {f_join_once : Addr} {fd_join_once : FuncData}    (D : Dn K mg "join_levels" s_join_levels ["numbers", "levels"] f fd) (bi : Bi mg) (G_check_block : FnOk P w K mg base CX0 3 f_check_block fd_check_block ["values", "least"] spBlock) (D_check_block : Dn K mg "check_block" s_check_block ["values", "least"] f_check_block fd_check_block) (G_check_within : FnOk P w K mg base CX0 3 f_check_within fd_check_within ["value", "low", "high"] spCkW) (D_check_within : Dn K mg "check_within" s_check_within ["value", "low", "high"] f_check_within fd_check_within) (G_coarse_count : FnOk P w K mg base CX0 4 f_coarse_count fd_coarse_count ["length", "levels"] spCoarse) (D_coarse_count : Dn K mg "coarse_count" s_coarse_count ["length", "levels"] f_coarse_count fd_coarse_count) (G_join_once : FnOk P w K mg base CX0 1 f_join_once fd_join_once ["sums", "differences"] spJoin1) (D_join_once : Dn K mg "join_once" s_join_once ["sums", "differences"] f_join_once fd_join_once)   (g_LEVEL_LIMIT : ∃ t, mg "LEVEL_LIMIT" = some (.int 5 t)) : FnOk P w K mg base CX0 5 f fd ["numbers", "levels"] spJoin := by
  refine lt_out ?_
  simp (disch := with_unfolding_all
    refine D.F.ok sc_join_levels (fun vs H Q E h => ?_) (fun cdv A outer s H vs Q E hr h => ?_)
    · obtain ⟨a, ns, k, rfl, _⟩ := h
      rfl
    · obtain ⟨a, ns, k, rfl, hS, h1, h2, h3, h4, q⟩ := h
      obtain ⟨t64, g_LEVEL_LIMIT⟩ := g_LEVEL_LIMIT
      obtain ⟨m, rfl⟩ : ∃ m : Nat, k = (m : Int) := ⟨k.toNat, by omega⟩
      have hml : (ns.map V.int).length = ns.length := List.length_map ..
      refine ⟨_, (pss_cons (ps_expr (pe_call G_check_block (hr.mono (by first | decide | exact Nat.le_refl _)) (by rfl) D_check_block.g D_check_block.F.kp D_check_block.b .nil pass0 (pa_cons (pv 0) (pa_cons pe_int pa_nil))))
   (pss_cons (ps_expr (pe_call G_check_within (hr.mono (by first | decide | exact Nat.le_refl _)) (by rfl) D_check_within.g D_check_within.F.kp D_check_within.b .nil pass0 (pa_cons (pv 1) (pa_cons pe_int (pa_cons (pe_glob (v := .int 5) (by rfl) g_LEVEL_LIMIT ⟨_, rfl⟩) pa_nil)))))
   (pss_cons (ps_set (i := 2) sc_join_levels.nd rfl (Or.inl rfl) (pe_slice sl_list (pv 0) po_none (po_some (pe_call G_coarse_count (hr.mono (by first | decide | exact Nat.le_refl _)) (by rfl) D_coarse_count.g D_coarse_count.F.kp D_coarse_count.b .nil pass0 (pa_cons (pe_callB cLen (by rfl) bi.len_ (by decide +kernel) (pa_cons (pv 0) pa_nil)) (pa_cons (pv 1) pa_nil))))))
   (pss_cons (ps_for PassesOwn.never rfl (pi_revR (by rfl) bi.reversed_ (prg_1 (by rfl) bi.range_ (pv 1))) (pg_name (i := 3) sc_join_levels.nd rfl (Or.inl rfl))
   (pss_cons (ps_set (i := 4) sc_join_levels.nd rfl (Or.inl rfl) (pe_call G_coarse_count (hr.mono (by first | decide | exact Nat.le_refl _)) (by rfl) D_coarse_count.g D_coarse_count.F.kp D_coarse_count.b .nil pass0 (pa_cons (pe_callB cLen (by rfl) bi.len_ (by decide +kernel) (pa_cons (pv 0) pa_nil)) (pa_cons (pv 3) pa_nil))))
   (pss_one (ps_set (i := 2) sc_join_levels.nd rfl (Or.inl rfl) (pe_call G_join_once (hr.mono (by first | decide | exact Nat.le_refl _)) (by rfl) D_join_once.g D_join_once.F.kp D_join_once.b .nil pass0 (pa_cons (pv 2) (pa_cons (pe_slice sl_list (pv 0) (po_some (pe_callB cLen (by rfl) bi.len_ (by decide +kernel) (pa_cons (pv 2) pa_nil))) (po_some (pv 4))) pa_nil)))))))
   (pss_one (ps_ret (pv 2))))))), ?_⟩
      refine rd_start (σ := [some (.ref a), some (.int (m : Int)), none, none, none]) rfl ?_
      walk_at "rd"
      rename_i H1 hs1
      rw [hml]
      refine use_coarse h1 h2 (by omega) ?_
      walk_at "rd"
      refine rd_slT (ns := ns) (SqL.of (hs1 _ _ hS)) fun p2 hp2 => ?_
      walk_at "rd"
      refine for_rangeC (lo := _) (c := -1) (n := _) (fun i σ H' => ∃ t1 t2 v2, σ = [some (.ref a), some (.int (m : Int)), some (.ref v2), t1, t2] ∧ H' v2 = some (.lst ((wv ns m i).map V.int)) ∧ Same H H' ∧ H v2 = none) ⟨none, none, p2, rfl, upd_same, hs1.trans (same_new hp2), hs1.free hp2⟩ (fun i σ H2 hi hI => ?_) (fun σ H2 hI => ?_)
      · obtain ⟨t1, t2, v2, rfl, e2, hs, hn2⟩ := hI
        have hi' : i + 1 ≤ m := by omega
        have hlev : ((0 : Int) + ((((m : Int) - 0).toNat : Nat) : Int) - 1 + (i : Nat) * -1) = ((m - (i + 1) : Nat) : Int) := by omega
        rw [hlev]
        have eS := hs _ _ hS
        have hwl := wv_length ns m i (by omega)
        have hst := wv_step hi' hwl
        have hcn := cc_n ns.length (m - i)
        have hcn2 := cc_n ns.length (m - (i + 1))
        have hwm : ((wv ns m i).map V.int).length = (wv ns m i).length := List.length_map ..
        walk_at "rd"
        rw [hml]
        refine use_coarse h1 h2 (by omega) ?_
        walk_at "rd"
        rw [hwm, hwl]
        refine rd_slM (ns := ns) (j := cc ns.length (m - i)) (k := cc ns.length (m - (i + 1))) (SqL.of eS) hcn hcn2 fun p3 hp3 => ?_
        walk_at "rd"
        rename_i p4 H4 hs4 hn4 e4
        exact ⟨_, _, p4, rfl, e4, hs.trans ((same_new hp3).trans hs4), hs.free ((same_new hp3).free hn4)⟩
      · obtain ⟨t1, t2, v2, rfl, e2, hs, hn2⟩ := hI
        rw [show (((m : Nat) : Int) - 0).toNat = m by omega] at e2
        walk_at "rd"
        exact q v2 _ hn2 hs e2
    ) only [↓lt_eq]
theorem ok_check_pair {f : Addr} {fd : FuncData} {f_check_within : Addr} {fd_check_within : FuncData} {f_check_integer : Addr} {fd_check_integer : FuncData}    (D : Dn K mg "check_pair" s_check_pair ["shape", "a", "b"] f fd) (bi : Bi mg) (G_check_within : FnOk P w K mg base CX0 3 f_check_within fd_check_within ["value", "low", "high"] spCkW) (D_check_within : Dn K mg "check_within" s_check_within ["value", "low", "high"] f_check_within fd_check_within) (G_check_integer : FnOk P w K mg base CX0 2 f_check_integer fd_check_integer ["value"] spCkI) (D_check_integer : Dn K mg "check_integer" s_check_integer ["value"] f_check_integer fd_check_integer)   (g_SHAPE_LIMIT : ∃ t, mg "SHAPE_LIMIT" = some (.int 3 t)) : FnOk P w K mg base CX0 4 f fd ["shape", "a", "b"] spCkP := by
  refine lt_out ?_
  simp (disch := with_unfolding_all
    refine D.F.ok sc_check_pair (fun vs H Q E h => ?_) (fun cdv A outer s H vs Q E hr h => ?_)
    · obtain ⟨s, a, b, rfl, _⟩ := h
      rfl
    · obtain ⟨s, a, b, rfl, h1, h2, q⟩ := h
      obtain ⟨t64, g_SHAPE_LIMIT⟩ := g_SHAPE_LIMIT
      refine ⟨_, (pss_cons (ps_expr (pe_call G_check_within (hr.mono (by first | decide | exact Nat.le_refl _)) (by rfl) D_check_within.g D_check_within.F.kp D_check_within.b .nil pass0 (pa_cons (pv 0) (pa_cons pe_int (pa_cons (pe_glob (v := .int 3) (by rfl) g_SHAPE_LIMIT ⟨_, rfl⟩) pa_nil)))))
   (pss_cons (ps_expr (pe_call G_check_integer (hr.mono (by first | decide | exact Nat.le_refl _)) (by rfl) D_check_integer.g D_check_integer.F.kp D_check_integer.b .nil pass0 (pa_cons (pv 1) pa_nil)))
   (pss_one (ps_expr (pe_call G_check_integer (hr.mono (by first | decide | exact Nat.le_refl _)) (by rfl) D_check_integer.g D_check_integer.F.kp D_check_integer.b .nil pass0 (pa_cons (pv 2) pa_nil)))))), ?_⟩
      refine rd_start (σ := [some (.int s), some (.int a), some (.int b)]) rfl ?_
      walk_at "rd"
      exact q
    ) only [↓lt_eq]
theorem ok_fold_pair {f : Addr} {fd : FuncData} {f_check_pair : Addr} {fd_check_pair : FuncData}    (D : Dn K mg "fold_pair" s_fold_pair ["shape", "a", "b"] f fd) (bi : Bi mg) (G_check_pair : FnOk P w K mg base CX0 4 f_check_pair fd_check_pair ["shape", "a", "b"] spCkP) (D_check_pair : Dn K mg "check_pair" s_check_pair ["shape", "a", "b"] f_check_pair fd_check_pair)   {a_COEFFICIENTS t0 t1 t2 t3 : Addr} (g_COEFFICIENTS : mg "COEFFICIENTS" = some (.ref a_COEFFICIENTS)) (hC : ∀ H, SqT K H a_COEFFICIENTS [.ref t0, .ref t1, .ref t2, .ref t3]) (h0 : ∀ H, SqT K H t0 [.int (-1), .int 2]) (h1 : ∀ H, SqT K H t1 [.int (-2), .int 3]) (h2 : ∀ H, SqT K H t2 [.int 1, .int (-2)]) (h3 : ∀ H, SqT K H t3 [.int 2, .int (-3)]) : FnOk P w K mg base CX0 5 f fd ["shape", "a", "b"] (spPair foldP) := by
  refine lt_out ?_
  simp (disch := with_unfolding_all
    refine D.F.ok sc_fold_pair (fun vs H Q E h => ?_) (fun cdv A outer s H vs Q E hr h => ?_)
    · obtain ⟨s, a, b, rfl, _⟩ := h
      rfl
    · obtain ⟨s, a, b, rfl, hs0, hs1, q⟩ := h
      refine ⟨_, (pss_cons (ps_expr (pe_call G_check_pair (hr.mono (by first | decide | exact Nat.le_refl _)) (by rfl) D_check_pair.g D_check_pair.F.kp D_check_pair.b .nil pass0 (pa_cons (pv 0) (pa_cons (pv 1) (pa_cons (pv 2) pa_nil)))))
   (pss_cons (ps_asg (pe_ix ix_tup (pe_glob (v := .ref a_COEFFICIENTS) (by rfl) g_COEFFICIENTS rfl) (pv 0) (fun _ _ => rfl)) (pg_tup rfl (pgs_cons (pg_name (i := 3) sc_fold_pair.nd rfl (Or.inl rfl)) (pgs_cons (pg_name (i := 4) sc_fold_pair.nd rfl (Or.inl rfl)) pgs_nil))))
   (pss_cons (ps_set (i := 1) sc_fold_pair.nd rfl (Or.inl rfl) (pe_op op_add (pv 1) (pe_op op_fdiv (pe_op op_add (pe_op op_mul (pv 3) (pv 2)) pe_int) pe_int)))
   (pss_cons (ps_set (i := 2) sc_fold_pair.nd rfl (Or.inl rfl) (pe_op op_add (pv 2) (pe_op op_fdiv (pe_op op_add (pe_op op_mul (pv 4) (pv 1)) pe_int) pe_int)))
   (pss_cons (ps_set (i := 1) sc_fold_pair.nd rfl (Or.inl rfl) (pe_op op_add (pv 1) (pe_op op_fdiv (pe_op op_add (pe_op op_mul (pv 3) (pv 2)) pe_int) pe_int)))
   (pss_one (ps_ret (pe_tup (pa_cons (pv 1) (pa_cons (pv 2) pa_nil)))))))))), ?_⟩
      refine rd_start (σ := [some (.int s), some (.int a), some (.int b), none, none]) rfl ?_
      rcases four hs0 hs1 with rfl | rfl | rfl | rfl
      all_goals
        walk_at "rd"
        rename_i p hp
        exact q p hp
    ) only [↓lt_eq]
theorem ok_unfold_pair {f : Addr} {fd : FuncData} {f_check_pair : Addr} {fd_check_pair : FuncData}    (D : Dn K mg "unfold_pair" s_unfold_pair ["shape", "a", "b"] f fd) (bi : Bi mg) (G_check_pair : FnOk P w K mg base CX0 4 f_check_pair fd_check_pair ["shape", "a", "b"] spCkP) (D_check_pair : Dn K mg "check_pair" s_check_pair ["shape", "a", "b"] f_check_pair fd_check_pair)   {a_COEFFICIENTS t0 t1 t2 t3 : Addr} (g_COEFFICIENTS : mg "COEFFICIENTS" = some (.ref a_COEFFICIENTS)) (hC : ∀ H, SqT K H a_COEFFICIENTS [.ref t0, .ref t1, .ref t2, .ref t3]) (h0 : ∀ H, SqT K H t0 [.int (-1), .int 2]) (h1 : ∀ H, SqT K H t1 [.int (-2), .int 3]) (h2 : ∀ H, SqT K H t2 [.int 1, .int (-2)]) (h3 : ∀ H, SqT K H t3 [.int 2, .int (-3)]) : FnOk P w K mg base CX0 5 f fd ["shape", "a", "b"] (spPair unfoldP) := by
  refine lt_out ?_
  simp (disch := with_unfolding_all
    refine D.F.ok sc_unfold_pair (fun vs H Q E h => ?_) (fun cdv A outer s H vs Q E hr h => ?_)
    · obtain ⟨s, a, b, rfl, _⟩ := h
      rfl
    · obtain ⟨s, a, b, rfl, hs0, hs1, q⟩ := h
      refine ⟨_, (pss_cons (ps_expr (pe_call G_check_pair (hr.mono (by first | decide | exact Nat.le_refl _)) (by rfl) D_check_pair.g D_check_pair.F.kp D_check_pair.b .nil pass0 (pa_cons (pv 0) (pa_cons (pv 1) (pa_cons (pv 2) pa_nil)))))
   (pss_cons (ps_asg (pe_ix ix_tup (pe_glob (v := .ref a_COEFFICIENTS) (by rfl) g_COEFFICIENTS rfl) (pv 0) (fun _ _ => rfl)) (pg_tup rfl (pgs_cons (pg_name (i := 3) sc_unfold_pair.nd rfl (Or.inl rfl)) (pgs_cons (pg_name (i := 4) sc_unfold_pair.nd rfl (Or.inl rfl)) pgs_nil))))
   (pss_cons (ps_set (i := 1) sc_unfold_pair.nd rfl (Or.inl rfl) (pe_op op_sub (pv 1) (pe_op op_fdiv (pe_op op_add (pe_op op_mul (pv 3) (pv 2)) pe_int) pe_int)))
   (pss_cons (ps_set (i := 2) sc_unfold_pair.nd rfl (Or.inl rfl) (pe_op op_sub (pv 2) (pe_op op_fdiv (pe_op op_add (pe_op op_mul (pv 4) (pv 1)) pe_int) pe_int)))
   (pss_cons (ps_set (i := 1) sc_unfold_pair.nd rfl (Or.inl rfl) (pe_op op_sub (pv 1) (pe_op op_fdiv (pe_op op_add (pe_op op_mul (pv 3) (pv 2)) pe_int) pe_int)))
   (pss_one (ps_ret (pe_tup (pa_cons (pv 1) (pa_cons (pv 2) pa_nil)))))))))), ?_⟩
      refine rd_start (σ := [some (.int s), some (.int a), some (.int b), none, none]) rfl ?_
      rcases four hs0 hs1 with rfl | rfl | rfl | rfl
      all_goals
        walk_at "rd"
        rename_i p hp
        exact q p hp
    ) only [↓lt_eq]
theorem ok_check_sound {f : Addr} {fd : FuncData} {f_check_items : Addr} {fd_check_items : FuncData}    (D : Dn K mg "check_sound" s_check_sound ["values"] f fd) (bi : Bi mg) (G_check_items : FnOk P w K mg base CX0 2 f_check_items fd_check_items ["values"] (spItems K)) (D_check_items : Dn K mg "check_items" s_check_items ["values"] f_check_items fd_check_items)    : FnOk P w K mg base CX0 3 f fd ["values"] spSound := by
  refine lt_out ?_
  simp (disch := with_unfolding_all
    refine D.F.ok sc_check_sound (fun vs H Q E h => ?_) (fun cdv A outer s H vs Q E hr h => ?_)
    · obtain ⟨a, ns, rfl, _⟩ := h
      rfl
    · obtain ⟨a, ns, rfl, e1, q⟩ := h
      refine ⟨_, (pss_cons (ps_if (pt_not (pt_val (pe_callB call_isiT (by rfl) bi.isinstance_ (by decide +kernel) (pa_cons (pv 0) (pa_cons (pe_tup (pa_cons (pe_bltn (v := .ty "list") (by rfl) bi.list_ (by decide +kernel) rfl) (pa_cons (pe_bltn (v := .ty "tuple") (by rfl) bi.tuple_ (by decide +kernel) rfl) pa_nil))) pa_nil)))))
   (pss_one ps_never)
   pss_nil)
   (pss_one (ps_expr (pe_call G_check_items (hr.mono (by first | decide | exact Nat.le_refl _)) (by rfl) D_check_items.g D_check_items.F.kp D_check_items.b .nil pass0 (pa_cons (pv 0) pa_nil))))), ?_⟩
      refine rd_start (σ := [some (.ref a)]) rfl ?_
      walk_at "rd"
      rename_i t ht
      refine isiT_lst (look_new ht e1) upd_same ?_
      walk_at "rd"
      rename_i H1 hs1
      exact q _ ((same_new ht).trans hs1)
    ) only [↓lt_eq]
theorem ok_is_placed_joint {f : Addr} {fd : FuncData} {f_is_integer : Addr} {fd_is_integer : FuncData} {f_is_joint : Addr} {fd_is_joint : FuncData}    (D : Dn K mg "is_placed_joint" s_is_placed_joint ["value"] f fd) (bi : Bi mg) (G_is_integer : FnOk P w K mg base CX0 1 f_is_integer fd_is_integer ["value"] spIsI) (D_is_integer : Dn K mg "is_integer" s_is_integer ["value"] f_is_integer fd_is_integer) (G_is_joint : FnOk P w K mg base CX0 3 f_is_joint fd_is_joint ["value"] spJ) (D_is_joint : Dn K mg "is_joint" s_is_joint ["value"] f_is_joint fd_is_joint)    : FnOk P w K mg base CX0 4 f fd ["value"] spPlaced := by
  refine lt_out ?_
  simp (disch := with_unfolding_all
    refine D.F.ok sc_is_placed_joint (fun vs H Q E h => ?_) (fun cdv A outer s H vs Q E hr h => ?_)
    · obtain ⟨a, q, j, rfl, _⟩ := h
      rfl
    · obtain ⟨a, q1, j, rfl, e1, e2, h1, h2, h3, q⟩ := h
      refine ⟨_, (pss_one (ps_ret (pe_and (pe_callB call_isi (by rfl) bi.isinstance_ (by decide +kernel) (pa_cons (pv 0) (pa_cons (pe_bltn (v := .ty "tuple") (by rfl) bi.tuple_ (by decide +kernel) rfl) pa_nil))) (pe_and (pe_cmpR op_eq (pe_callB cLen (by rfl) bi.len_ (by decide +kernel) (pa_cons (pv 0) pa_nil)) pe_int (nomark _)) (pe_and (pe_call G_is_integer (hr.mono (by first | decide | exact Nat.le_refl _)) (by rfl) D_is_integer.g D_is_integer.F.kp D_is_integer.b .nil pass0 (pa_cons (pe_ix ix_tup (pv 0) pe_int (fun _ _ => rfl)) pa_nil)) (pe_one (pe_call G_is_joint (hr.mono (by first | decide | exact Nat.le_refl _)) (by rfl) D_is_joint.g D_is_joint.F.kp D_is_joint.b .nil pass0 (pa_cons (pe_ix ix_tup (pv 0) pe_int (fun _ _ => rfl)) pa_nil)))))))), ?_⟩
      refine rd_start (σ := [some (.ref a)]) rfl ?_
      walk_at "rd"
      refine if_yesD rfl ?_
      walk_at "rd"
      refine use_j (JR.tup2 e2 trivial trivial) ?_
      rw [jt_ok h1 h2 h3]
      exact q
    ) only [↓lt_eq]
theorem ok_has_room {f : Addr} {fd : FuncData}     (D : Dn K mg "has_room" s_has_room ["item", "before", "width_before", "length"] f fd) (bi : Bi mg)     : FnOk P w K mg base CX0 1 f fd ["item", "before", "width_before", "length"] spRoom := by
  refine lt_out ?_
  simp (disch := with_unfolding_all
    refine D.F.ok sc_has_room (fun vs H Q E h => ?_) (fun cdv A outer s H vs Q E hr h => ?_)
    · obtain ⟨a, q, j, b, wb, n, rfl, _⟩ := h
      rfl
    · obtain ⟨a, q1, j, b, wb, n, rfl, e1, e2, h1, h2, h3, h4, q⟩ := h
      refine ⟨_, (pss_cons (ps_par (i := 4) (j := 5) rfl sc_has_room.nd rfl rfl (by decide) rfl rfl (pa_cons (pe_ix ix_tup (pv 0) pe_int (fun _ _ => rfl)) (pa_cons (pe_ix ix_tup (pe_ix ix_tup (pv 0) pe_int (fun _ _ => rfl)) pe_int (fun _ _ => rfl)) pa_nil)) rfl)
   (pss_cons (ps_if (pt_not (pt_chain op_lt op_lt (pv 1) (pv 4) (pv 3)))
   (pss_one (ps_ret pe_bl))
   pss_nil)
   (pss_one (ps_ret (pe_and (pe_cmpR op_ge (pe_op op_sub (pv 4) (pv 1)) (pe_op op_add (pv 2) (pv 5)) (nomark _)) (pe_one (pe_cmpR op_ge (pe_op op_sub (pv 3) (pv 4)) (pv 5) (nomark _)))))))), ?_⟩
      refine rd_start (σ := [some (.ref a), some (.int (b : Nat)), some (.int (wb : Nat)), some (.int (n : Nat)), none, none]) rfl ?_
      walk_at "rd"
      refine if_yesD (by omega) ?_
      walk_at "rd"
      rw [decide_eq_true (show ((j.1 : Nat) : Int) < (n : Nat) by omega)]
      walk_at "rd"
      refine if_yesD (by omega) ?_
      walk_at "rd"
      rw [decide_eq_true (by omega)]
      exact q
    ) only [↓lt_eq]
theorem ok_check_joints {f : Addr} {fd : FuncData} {f_is_placed_joint : Addr} {fd_is_placed_joint : FuncData} {f_has_room : Addr} {fd_has_room : FuncData}    (D : Dn K mg "check_joints" s_check_joints ["joints", "length"] f fd) (bi : Bi mg) (G_is_placed_joint : FnOk P w K mg base CX0 4 f_is_placed_joint fd_is_placed_joint ["value"] spPlaced) (D_is_placed_joint : Dn K mg "is_placed_joint" s_is_placed_joint ["value"] f_is_placed_joint fd_is_placed_joint) (G_has_room : FnOk P w K mg base CX0 1 f_has_room fd_has_room ["item", "before", "width_before", "length"] spRoom) (D_has_room : Dn K mg "has_room" s_has_room ["item", "before", "width_before", "length"] f_has_room fd_has_room)    : FnOk P w K mg base CX0 5 f fd ["joints", "length"] spJoints := by
  refine lt_out ?_
  simp (disch := with_unfolding_all
    refine D.F.ok sc_check_joints (fun vs H Q E h => ?_) (fun cdv A outer s H vs Q E hr h => ?_)
    · obtain ⟨a, refs, js, n, rfl, _⟩ := h
      rfl
    · obtain ⟨a, refs, js, n, rfl, e1, hj, hr1, q⟩ := h
      refine ⟨_, (pss_cons (ps_if (pt_not (pt_val (pe_callB call_isiT (by rfl) bi.isinstance_ (by decide +kernel) (pa_cons (pv 0) (pa_cons (pe_tup (pa_cons (pe_bltn (v := .ty "list") (by rfl) bi.list_ (by decide +kernel) rfl) (pa_cons (pe_bltn (v := .ty "tuple") (by rfl) bi.tuple_ (by decide +kernel) rfl) pa_nil))) pa_nil)))))
   (pss_one ps_never)
   pss_nil)
   (pss_cons (ps_asg (pe_tup (pa_cons pe_int (pa_cons pe_int pa_nil))) (pg_tup rfl (pgs_cons (pg_name (i := 2) sc_check_joints.nd rfl (Or.inl rfl)) (pgs_cons (pg_name (i := 3) sc_check_joints.nd rfl (Or.inl rfl)) pgs_nil))))
   (pss_one (ps_for PassesOwn.never rfl (pi_enum (by rfl) bi.enumerate_ (pa_cons (pv 0) pa_nil)) (pg_tup rfl (pgs_cons (pg_name (i := 4) sc_check_joints.nd rfl (Or.inl rfl)) (pgs_cons (pg_name (i := 5) sc_check_joints.nd rfl (Or.inl rfl)) pgs_nil)))
   (pss_cons (ps_if (PW.pt (pw_or (pt_not (pt_val (pe_call G_is_placed_joint (hr.mono (by first | decide | exact Nat.le_refl _)) (by rfl) D_is_placed_joint.g D_is_placed_joint.F.kp D_is_placed_joint.b .nil pass0 (pa_cons (pv 5) pa_nil)))) (pw_or1 (pt_not (pt_val (pe_call G_has_room (hr.mono (by first | decide | exact Nat.le_refl _)) (by rfl) D_has_room.g D_has_room.F.kp D_has_room.b .nil pass0 (pa_cons (pv 5) (pa_cons (pv 2) (pa_cons (pv 3) (pa_cons (pv 1) pa_nil))))))))))
   (pss_one ps_never)
   pss_nil)
   (pss_one (ps_par (i := 2) (j := 3) rfl sc_check_joints.nd rfl rfl (by decide) rfl rfl (pa_cons (pe_ix ix_tup (pv 5) pe_int (fun _ _ => rfl)) (pa_cons (pe_ix ix_tup (pe_ix ix_tup (pv 5) pe_int (fun _ _ => rfl)) pe_int (fun _ _ => rfl)) pa_nil)) rfl))))))), ?_⟩
      refine rd_start (σ := [some (.ref a), some (.int (n : Nat)), none, none, none, none]) rfl ?_
      walk_at "rd"
      rename_i t ht
      refine isiT_lst (look_new ht e1) upd_same ?_
      walk_at "rd"
      rename_i t2 ht2
      refine rd_lpE (SqL.of (look_new ht2 (look_new ht e1))) ?_
      refine for_enum (xs := refs) (fun i σ H' => ∃ x y, σ = [some (.ref a), some (.int (n : Nat)), some (.int ((bef 0 0 js i).1 : Nat)), some (.int ((bef 0 0 js i).2 : Nat)), x, y] ∧ Same H H') ⟨none, none, rfl, (same_new ht).trans (same_new ht2)⟩ (fun i σ H1 _ hI => ?_) (fun i v σ H1 T hv hI hT => ?_) (fun σ H1 hI => ?_)
      · obtain ⟨x, y, rfl, hs⟩ := hI
        exact SqL.of (hs _ _ e1)
      · obtain ⟨x, y, rfl, hs⟩ := hI
        obtain ⟨j, b, q1, ej, rfl, eb, eq⟩ := hj.2 i v hv
        obtain ⟨c1, c2, c3, c4, c5, c6, c7⟩ := rm_at js 0 0 hr1 i j ej
        have eb' := look_new (o := .tup [.int (i : Nat), .ref b]) hT (hs _ _ eb)
        have eq' := look_new (o := .tup [.int (i : Nat), .ref b]) hT (hs _ _ eq)
        walk_at "rd"
        refine ⟨b, q1, j, rfl, eb', eq', c5, c6, c7, ?_⟩
        walk_at "rd"
        refine ⟨b, q1, j, _, _, n, rfl, eb', eq', c1, c2, c3, c4, ?_⟩
        walk_at "rd"
        rw [bef_succ js 0 0 i j ej]
        exact ⟨_, _, rfl, hs.trans (same_new hT)⟩
      · obtain ⟨x, y, rfl, hs⟩ := hI
        walk_at "rd"
        exact q _ hs
    ) only [↓lt_eq]
theorem ok_turned {f g f_check_sound f_check_joints : Addr} {fd fd_turn fd_check_sound fd_check_joints : FuncData} {fn : Int → Int → Int → Int × Int} (D : Dn K mg "turned" s_turned ["values", "joints", "turn"] f fd) (bi : Bi mg)
    (G_check_sound : FnOk P w K mg base CX0 3 f_check_sound fd_check_sound ["values"] spSound) (D_check_sound : Dn K mg "check_sound" s_check_sound ["values"] f_check_sound fd_check_sound)
    (G_check_joints : FnOk P w K mg base CX0 5 f_check_joints fd_check_joints ["joints", "length"] spJoints) (D_check_joints : Dn K mg "check_joints" s_check_joints ["joints", "length"] f_check_joints fd_check_joints)
    (G_turn : FnOk P w K mg base CX0 5 g fd_turn ["shape", "a", "b"] (spPair fn)) (kp_turn : PySem.W.keepIn K (.ref g) = true) (b_turn : Binds K fd_turn ["shape", "a", "b"] []) : FnOk P w K mg base CX0 6 f fd ["values", "joints", "turn"] (spTurned fn g) := by
  refine lt_out ?_
  simp (disch := with_unfolding_all
    refine D.F.ok sc_turned (fun vs H Q E h => ?_) (fun cdv A outer s H vs Q E hr h => ?_)
    · obtain ⟨a, b, xs, refs, js, rfl, _⟩ := h
      rfl
    · obtain ⟨a, b, xs, refs, js, rfl, e1, e2, hj, hr1, hl, q⟩ := h
      refine ⟨_, (pss_cons (ps_expr (pe_call G_check_sound (hr.mono (by first | decide | exact Nat.le_refl _)) (by rfl) D_check_sound.g D_check_sound.F.kp D_check_sound.b .nil pass0 (pa_cons (pv 0) pa_nil)))
   (pss_cons (ps_expr (pe_call G_check_joints (hr.mono (by first | decide | exact Nat.le_refl _)) (by rfl) D_check_joints.g D_check_joints.F.kp D_check_joints.b .nil pass0 (pa_cons (pv 1) (pa_cons (pe_callB cLen (by rfl) bi.len_ (by decide +kernel) (pa_cons (pv 0) pa_nil)) pa_nil))))
   (pss_cons (ps_set (i := 3) sc_turned.nd rfl (Or.inl rfl) (pe_callTy cList (by rfl) bi.list_ (by decide +kernel) (pa_cons (pv 0) pa_nil)))
   (pss_cons (ps_for PassesOwn.never rfl (pi_list (pv 1)) (pg_tup rfl (pgs_cons (pg_name (i := 4) sc_turned.nd rfl (Or.inl rfl)) (pgs_cons (pg_tup rfl (pgs_cons (pg_name (i := 5) sc_turned.nd rfl (Or.inl rfl)) (pgs_cons (pg_name (i := 6) sc_turned.nd rfl (Or.inl rfl)) pgs_nil))) pgs_nil)))
   (pss_one (ps_for PassesOwn.never rfl (pi_range1 (by rfl) bi.range_ (pa_cons (pv 5) pa_nil)) (pg_name (i := 7) sc_turned.nd rfl (Or.inl rfl))
   (pss_cons (ps_par (i := 8) (j := 9) rfl sc_turned.nd rfl rfl (by decide) rfl rfl (pa_cons (pe_op op_sub (pe_op op_sub (pv 4) pe_int) (pv 7)) (pa_cons (pe_op op_add (pv 4) (pv 7)) pa_nil)) rfl)
   (pss_one (ps_asg (pe_callL (i := 2) G_turn (hr.mono (by first | decide | exact Nat.le_refl _)) rfl (Or.inl rfl) kp_turn b_turn .nil pass0 (pa_cons (pv 6) (pa_cons (pe_ix ix_list (pv 3) (pv 8) (fun _ _ => rfl)) (pa_cons (pe_ix ix_list (pv 3) (pv 9) (fun _ _ => rfl)) pa_nil)))) (pg_tup rfl (pgs_cons (pg_sub (pv 3) (pv 8) set_list) (pgs_cons (pg_sub (pv 3) (pv 9) set_list) pgs_nil)))))))))
   (pss_one (ps_ret (pv 3))))))), ?_⟩
      refine rd_start (σ := [some (.ref a), some (.ref b), some (.ref g), none, none, none, none, none, none, none]) rfl ?_
      walk_at "rd"
      rename_i H1 hs1
      rw [List.length_map]
      refine use_joints (hs1 _ _ e2) (hj.same hs1) hr1 fun H2 hs2 => ?_
      walk_at "rd"
      rename_i p hp
      have hs3 : Same H (upd H2 p (.lst (xs.map V.int))) := (hs1.trans hs2).trans (same_new hp)
      refine rd_lpL (SqL.of (hs3 _ _ e2)) ?_
      refine for_list (xs := refs) (fun i σ H' => ∃ x4 x5 x6 x7 x8 x9, σ = [some (.ref a), some (.ref b), some (.ref g), some (.ref p), x4, x5, x6, x7, x8, x9] ∧ H' p = some (.lst ((turnL fn xs (js.take i)).map V.int)) ∧ Same H H') ⟨none, none, none, none, none, none, rfl, upd_same, hs3⟩ (fun i σ H3 _ hI => ?_) (fun i v σ H3 hv hI => ?_) (fun σ H3 hI => ?_)
      · obtain ⟨x4, x5, x6, x7, x8, x9, rfl, h3, hs⟩ := hI
        exact SqL.of (hs _ _ e2)
      · obtain ⟨x4, x5, x6, x7, x8, x9, rfl, h3, hs⟩ := hI
        obtain ⟨j, aj, qj, ej, rfl, ea, eq⟩ := hj.2 i v hv
        obtain ⟨c1, c2, c3, c4, c5, c6, c7⟩ := rm_at js 0 0 hr1 i j ej
        have ea' := hs _ _ ea
        have eq' := hs _ _ eq
        have hpn : H p = none := (hs1.trans hs2).free hp
        walk_at "rd"
        refine for_range (lo := 0) (n := ((j.2.1 : Nat) : Int).toNat) (fun k σ H' => ∃ y7 y8 y9, σ = [some (.ref a), some (.ref b), some (.ref g), some (.ref p), some (.int (j.1 : Nat)), some (.int (j.2.1 : Nat)), some (.int (j.2.2 : Nat)), y7, y8, y9] ∧ H' p = some (.lst (((prs1 j k).foldl (stp fn) (turnL fn xs (js.take i))).map V.int)) ∧ Same H H') ⟨x7, x8, x9, rfl, h3, hs⟩ (fun k σ H4 hk hI => ?_) (fun σ H4 hI => ?_)
        · obtain ⟨y7, y8, y9, rfl, h4, hs4⟩ := hI
          generalize hys : (prs1 j k).foldl (stp fn) (turnL fn xs (js.take i)) = ys at h4
          have hyl : ys.length = xs.length := by rw [← hys, foldl_length, turnL_length]
          have hml : (ys.map V.int).length = ys.length := List.length_map ..
          have hatL := at_getD (ys := ys) (l := j.1 - 1 - k) (z := ((j.1 : Nat) : Int) - 1 - (0 + (k : Int))) (by omega) (by omega)
          have hatR := at_getD (ys := ys) (l := j.1 + k) (z := ((j.1 : Nat) : Int) + (0 + (k : Int))) (by omega) (by omega)
          have hixL : ixN (ys.map V.int).length (((j.1 : Nat) : Int) - 1 - (0 + (k : Int))) = some (j.1 - 1 - k) := ix_of (by omega) (by omega)
          have hixR : ∀ z : V, ixN ((ys.map V.int).set (j.1 - 1 - k) z).length (((j.1 : Nat) : Int) + (0 + (k : Int))) = some (j.1 + k) := fun z => ix_of (by rw [List.length_set]; omega) (by omega)
          walk_at "rd"
          rename_i t ht
          refine' rd_setL ?k1 (hixR _) ?_
          (case k1 => exact upd_same)
          walk_at "rd"
          have hpt : p ≠ t := ne_of_none h4 ht
          refine ⟨_, _, _, rfl, ?_, fun b x e => ?_⟩
          · rw [upd_same, prs1_succ, List.foldl_append, hys]
            exact congrArg (fun l => some (HO.lst l)) (map_stp (f := fn) (ys := ys) (t := (j.2.2, j.1 - 1 - k, j.1 + k)))
          · have nb : b ≠ p := ne_of_none e hpn
            rw [upd_ne nb, upd_ne nb]
            exact look_new ht (hs4 _ _ e)
        · obtain ⟨y7, y8, y9, rfl, h4, hs4⟩ := hI
          refine ⟨_, _, _, _, _, _, rfl, ?_, hs4⟩
          rw [Int.toNat_natCast] at h4
          rw [h4, show js.take (i + 1) = js.take i ++ [j] by rw [List.take_add_one, ej]; rfl]
          unfold turnL
          rw [prs_snoc, List.foldl_append]
      · obtain ⟨x4, x5, x6, x7, x8, x9, rfl, h3, hs⟩ := hI
        rw [hj.1, List.take_length] at h3
        walk_at "rd"
        exact q p _ ((hs1.trans hs2).free hp) hs h3
    ) only [↓lt_eq]
theorem ok_unfolded {f f_turned f_unfold_pair : Addr} {fd fd_turned fd_unfold_pair : FuncData} (D : Dn K mg "unfolded" s_unfolded ["values", "joints"] f fd) (bi : Bi mg) (G_turned : FnOk P w K mg base CX0 6 f_turned fd_turned ["values", "joints", "turn"] (spTurned unfoldP f_unfold_pair)) (D_turned : Dn K mg "turned" s_turned ["values", "joints", "turn"] f_turned fd_turned) (D_unfold_pair : Dn K mg "unfold_pair" s_unfold_pair ["shape", "a", "b"] f_unfold_pair fd_unfold_pair) : FnOk P w K mg base CX0 7 f fd ["values", "joints"] (spFolds unfoldP) := by
  refine lt_out ?_
  simp (disch := with_unfolding_all
    refine D.F.ok sc_unfolded (fun vs H Q E h => ?_) (fun cdv A outer s H vs Q E hr h => ?_)
    · obtain ⟨a, b, xs, refs, js, rfl, _⟩ := h
      rfl
    · obtain ⟨a, b, xs, refs, js, rfl, e1, e2, hj, hr1, hl, q⟩ := h
      refine ⟨_, (pss_one (ps_ret (pe_call G_turned (hr.mono (by first | decide | exact Nat.le_refl _)) (by rfl) D_turned.g D_turned.F.kp D_turned.b .nil pass0 (pa_cons (pv 0) (pa_cons (pv 1) (pa_cons (pe_glob (v := .ref f_unfold_pair) (by rfl) D_unfold_pair.g rfl) pa_nil)))))), ?_⟩
      refine rd_start (σ := [some (.ref a), some (.ref b)]) rfl ?_
      walk_at "rd"
      exact ⟨a, b, xs, refs, js, rfl, e1, e2, hj, hr1, hl, q⟩
    ) only [↓lt_eq]
theorem ok_block_values {f : Addr} {fd : FuncData} {f_join_levels : Addr} {fd_join_levels : FuncData}    (D : Dn K mg "block_values" s_block_values ["numbers", "levels", "step"] f fd) (bi : Bi mg) (G_join_levels : FnOk P w K mg base CX0 5 f_join_levels fd_join_levels ["numbers", "levels"] spJoin) (D_join_levels : Dn K mg "join_levels" s_join_levels ["numbers", "levels"] f_join_levels fd_join_levels)    : FnOk P w K mg base CX0 6 f fd ["numbers", "levels", "step"] spBlkV := by
  refine lt_out ?_
  simp (disch := with_unfolding_all
    refine D.F.ok sc_block_values (fun vs H Q E h => ?_) (fun cdv A outer s H vs Q E hr h => ?_)
    · obtain ⟨a, ns, k, st, rfl, _⟩ := h
      rfl
    · obtain ⟨a, ns, k, st, rfl, e1, h1, h2, h3, h4, q⟩ := h
      refine ⟨_, (pss_one (ps_ret (pe_call G_join_levels (hr.mono (by first | decide | exact Nat.le_refl _)) (by rfl) D_join_levels.g D_join_levels.F.kp D_join_levels.b .nil pass0 (pa_cons (pe_lc (own := [("number", 3)]) (g := gName 3) (tt := tYes) rfl sc_block_values.nd (pi_list (pv 0)) (blkOk_by (N := ["numbers", "levels", "step", "number"]) (sc := defScope s_block_values) (by decide +kernel)) (fun _ _ _ _ _ => pg_name (i := 3) sc_block_values.nd rfl (Or.inl rfl)) (fun _ _ _ _ _ => pts_nil) (fun _ _ _ _ _ => (pe_op op_mul (pv 3) (pv 2)))) (pa_cons (pv 1) pa_nil))))), ?_⟩
      refine rd_start (σ := [some (.ref a), some (.int (k : Nat)), some (.int (st : Nat)), none]) rfl ?_
      walk_at "rd"
      refine rd_lcP (SqL.of e1) fun D hD => ?_
      refine lc_mapM (fun z => z * (st : Int)) (SqL.of e1) (by omega) (fun _ => rfl) hD (fun z hz H2 Q' hs hq => ?_) fun H2 hs2 eD => ?_
      · walk_at "rd"
        exact hq
      · walk_at "rd"
        refine ⟨D, ns.map fun z => z * (st : Int), k, rfl, eD, by rw [List.length_map]; exact h1, by rw [List.length_map]; exact h2, by omega, by omega, fun p H' hp hs eP => ?_⟩
        exact q p H' (hs2.free hp) (hs2.trans hs) eP
    ) only [↓lt_eq]
theorem ok_placed_joints {f : Addr} {fd : FuncData}     (D : Dn K mg "placed_joints" s_placed_joints ["lengths", "joints"] f fd) (bi : Bi mg)     : FnOk P w K mg base CX0 1 f fd ["lengths", "joints"] spPlcd := by
  refine lt_out ?_
  simp (disch := with_unfolding_all
    refine D.F.ok sc_placed_joints (fun vs H Q E h => ?_) (fun cdv A outer s H vs Q E hr h => ?_)
    · obtain ⟨a, b, fs, js, rfl, _⟩ := h
      rfl
    · obtain ⟨a, b, fs, js, rfl, e1, e2, hj, hl, q⟩ := h
      refine ⟨_, (pss_cons (ps_set (i := 2) sc_placed_joints.nd rfl (Or.inl rfl) (pe_lst pa_nil))
   (pss_cons (ps_set (i := 3) sc_placed_joints.nd rfl (Or.inl rfl) pe_int)
   (pss_cons (ps_for PassesOwn.never rfl (RZ.pi_zipA (by rfl) bi.zip_ (pa_cons (pv 0) (pa_cons (pv 1) pa_nil))) (pg_tup rfl (pgs_cons (pg_name (i := 4) sc_placed_joints.nd rfl (Or.inl rfl)) (pgs_cons (pg_name (i := 5) sc_placed_joints.nd rfl (Or.inl rfl)) pgs_nil)))
   (pss_cons (ps_aug (i := 3) sc_placed_joints.nd rfl (Or.inl rfl) (pv 4) ip_add)
   (pss_one (ps_expr (pe_bm PySem.F.plainAttrs_list PySem.F.slot_list_append PySem.F.type_list_append mt_append (pv 2) (pa_cons (pe_tup (pa_cons (pv 3) (pa_cons (pv 5) pa_nil))) pa_nil))))))
   (pss_one (ps_ret (pe_slice sl_list (pv 2) po_none (po_some (pe_un un_neg pe_int)))))))), ?_⟩
      refine rd_start (σ := [some (.ref a), some (.ref b), none, none, none, none]) rfl ?_
      walk_at "rd"
      rename_i D hD
      have s0 := same_new (o := .lst []) hD
      have hjl := hj.len
      refine ⟨a, b, _, _, rfl, .inl ⟨SqL.of (s0 _ _ e1), SqL.of (s0 _ _ e2), ?_⟩⟩
      refine for_zip (xs := fs.map fun f => V.int (f.1 : Nat)) (ys := js) (by rw [List.length_map]; exact hjl.symm) (fun i σ H' => ∃ ps x4 x5, σ = [some (.ref a), some (.ref b), some (.ref D), some (.int (totW (fs.take i) : Nat)), x4, x5] ∧ H' D = some (.lst ps) ∧ JsAt H' ps (plJ 0 (fs.take i)) ∧ ps.length = i ∧ Same H H') ⟨[], none, none, rfl, upd_same, ⟨rfl, fun i v e => by simp at e⟩, rfl, s0⟩ (fun i σ H1 _ hI => ?_) (fun i u v σ H1 T hu hv hI hT => ?_) (fun σ H1 hI => ?_)
      · obtain ⟨ps, x4, x5, rfl, eD, hps, hpl, sm⟩ := hI
        exact ⟨SqL.of (sm _ _ e1), SqL.of (sm _ _ e2)⟩
      · obtain ⟨ps, x4, x5, rfl, eD, hps, hpl, sm⟩ := hI
        obtain ⟨f', ef, rfl⟩ : ∃ f', fs[i]? = some f' ∧ u = .int (f'.1 : Nat) := by
          rw [List.getElem?_map] at hu
          cases e : fs[i]? with
          | none => rw [e] at hu; cases hu
          | some f' => rw [e] at hu; exact ⟨f', rfl, (Option.some.inj hu).symm⟩
        have hil := (List.getElem?_eq_some_iff.mp ef).1
        obtain ⟨f2, ef2, j, rfl, hjt⟩ := hj.at2 hv
        rw [ef] at ef2
        cases ef2
        have et : fs.take (i + 1) = fs.take i ++ [f'] := by rw [List.take_add_one, ef]; rfl
        have eD := look_new (o := .tup [.int (f'.1 : Nat), .ref j]) hT eD
        have hps := hps.same (same_new (o := .tup [.int (f'.1 : Nat), .ref j]) hT)
        have sm := sm.trans (same_new (o := .tup [.int (f'.1 : Nat), .ref j]) hT)
        have hjt := sm _ _ hjt
        walk_at "rd"
        rename_i t ht
        have nDt : t ≠ D := (ne_of_none eD ht).symm
        have eD := look_new (o := .tup [.int (((totW (fs.take i) : Nat) : Int) + (f'.1 : Nat)), .ref j]) ht eD
        have s2 := same_new (o := .tup [.int (((totW (fs.take i) : Nat) : Int) + (f'.1 : Nat)), .ref j]) ht
        refine rd_appG eD (by omega) ?_
        walk_at "rd"
        have hps := (hps.same s2).kp (p := D) (Kp.at (o := .lst (ps ++ [.ref t]))) ⟨_, eD⟩
        refine ⟨_, some (.int (f'.1 : Nat)), some (.ref j), ?_, upd_same, ?_, by rw [List.length_append, hpl]; rfl, fun c o e => by rw [upd_ne (ne_of_none e hD)]; exact s2 _ _ (sm _ _ e)⟩
        · rw [et, totW_snoc, show ((totW (fs.take i) + f'.1 : Nat) : Int) = ((totW (fs.take i) : Nat) : Int) + (f'.1 : Nat) by omega]
          rfl
        · rw [et, plJ_snoc]
          refine hps.snoc (j := (0 + totW (fs.take i) + f'.1, f'.2.1, f'.2.2)) ?_ (q := j) ?_
          · rw [upd_ne nDt, upd_same, show ((0 + totW (fs.take i) + f'.1 : Nat) : Int) = ((totW (fs.take i) : Nat) : Int) + (f'.1 : Nat) by omega]
          · have ejt := s2 _ _ hjt
            unfold JtAt at ejt
            have nj : j ≠ D := fun z => by
              subst z
              exact absurd (eD.symm.trans ejt) (fun z => nomatch z)
            rw [upd_ne nj]
            exact ejt
      · obtain ⟨ps, x4, x5, rfl, eD, hps, hpl, sm⟩ := hI
        rw [List.length_map, List.take_length] at hps
        walk_at "rd"
        refine rd_slD (SqL.of eD) fun p hp => ?_
        exact q p _ _ (sm.free hp) (sm.trans (same_new hp)) upd_same (hps.drop.same (same_new hp))
    ) only [↓lt_eq]
theorem ok_unfolded_blocks {f : Addr} {fd : FuncData} {f_unfolded : Addr} {fd_unfolded : FuncData} {f_placed_joints : Addr} {fd_placed_joints : FuncData}    (D : Dn K mg "unfolded_blocks" s_unfolded_blocks ["blocks", "joints"] f fd) (bi : Bi mg) (G_unfolded : FnOk P w K mg base CX0 7 f_unfolded fd_unfolded ["values", "joints"] (spFolds unfoldP)) (D_unfolded : Dn K mg "unfolded" s_unfolded ["values", "joints"] f_unfolded fd_unfolded) (G_placed_joints : FnOk P w K mg base CX0 1 f_placed_joints fd_placed_joints ["lengths", "joints"] spPlcd) (D_placed_joints : Dn K mg "placed_joints" s_placed_joints ["lengths", "joints"] f_placed_joints fd_placed_joints)    : FnOk P w K mg base CX0 8 f fd ["blocks", "joints"] spUnB := by
  refine lt_out ?_
  simp (disch := with_unfolding_all
    refine D.F.ok sc_unfolded_blocks (fun vs H Q E h => ?_) (fun cdv A outer s H vs Q E hr h => ?_)
    · obtain ⟨a, b, fs, bs, bks, js, wb, rfl, _⟩ := h
      rfl
    · obtain ⟨a, b, fs, bs, bks, js, wb, rfl, e1, hb, hlen, e2, hj, hc, hl, ht, q⟩ := h
      refine ⟨_, (pss_cons (ps_setLc2 (i := 2) (own := [("block", 3), ("value", 4)]) (vs1 := [4]) (g := gName 3) (g1 := gName 4) (tt := tYes) (tt1 := tYes) rfl sc_unfolded_blocks.nd rfl rfl (sw_true rfl rfl rfl (by decide +kernel)) (pi_list (pv 0)) (blkOk_by (N := ["blocks", "joints", "values", "block", "value"]) (sc := defScope s_unfolded_blocks) (by decide +kernel)) (by decide) (fun _ _ _ _ _ => pg_name (i := 3) sc_unfolded_blocks.nd rfl (Or.inl rfl)) (fun _ _ _ _ _ => pts_nil) (fun _ _ _ _ _ => (pi_listK (K := K) (pv 3))) (fun _ _ _ _ _ => pg_name (i := 4) sc_unfolded_blocks.nd rfl (Or.inl rfl)) (fun _ _ _ _ _ => pts_nil) (fun _ _ _ _ _ => (pv 4)))
   (pss_one (ps_ret (pe_call G_unfolded (hr.mono (by first | decide | exact Nat.le_refl _)) (by rfl) D_unfolded.g D_unfolded.F.kp D_unfolded.b .nil pass0 (pa_cons (pv 2) (pa_cons (pe_call G_placed_joints (hr.mono (by first | decide | exact Nat.le_refl _)) (by rfl) D_placed_joints.g D_placed_joints.F.kp D_placed_joints.b .nil pass0 (pa_cons (pe_lc (own := [("block", 3)]) (g := gName 3) (tt := tYes) rfl sc_unfolded_blocks.nd (pi_list (pv 0)) (blkOk_by (N := ["blocks", "joints", "values", "block", "value"]) (sc := defScope s_unfolded_blocks) (by decide +kernel)) (fun _ _ _ _ _ => pg_name (i := 3) sc_unfolded_blocks.nd rfl (Or.inl rfl)) (fun _ _ _ _ _ => pts_nil) (fun _ _ _ _ _ => (pe_callB (show CallR _ (.builtin "len") (rLen K) from cLen) (by rfl) bi.len_ (by decide +kernel) (pa_cons (pv 3) pa_nil)))) (pa_cons (pv 1) pa_nil))) pa_nil)))))), ?_⟩
      refine rd_start (σ := [some (.ref a), some (.ref b), none, none, none]) rfl ?_
      walk_at "rd"
      refine rd_lcc ?_
      walk_at "rd"
      refine ⟨a, rfl, ⟨_, SqL.of e1⟩, fun D hD => ?_⟩
      have hfl : bs.flatten.length = totW fs := by rw [flat_len, hlen]; rfl
      refine lc_flat e1 hb (by omega) hD (fun _ => rfl) (fun _ => rfl) (fun _ _ => rfl) (fun _ _ => rfl) fun H1 hs1 eD => ?_
      walk_at "rd"
      have hbl := hb.len
      have hbf : bs.length = fs.length := by
        have z := congrArg List.length hlen
        rwa [List.length_map, List.length_map] at z
      refine ⟨a, rfl, ⟨_, SqL.of (hs1 _ _ e1)⟩, fun L hL => ?_⟩
      refine lc_ofG (fun (v : V) (b : List Int) => ∃ q, v = .ref q ∧ H q = some (.lst (b.map V.int))) (fun b => V.int (b.length : Nat)) hb (SqL.of (hs1 _ _ e1)) (by omega) hL (fun v b H2 Q' hm hv hs2 hq => ?_) fun H2 hs2 eL => ?_
      · obtain ⟨q', rfl, hq'⟩ := hv
        have eq2 := hs2 _ _ (hs1 _ _ hq')
        refine rd_gname ⟨rfl, ?_⟩
        walk_at "rd"
        rw [List.length_map]
        exact hq _ (Same.refl _)
      · have s2 := hs1.trans hs2
        walk_at "rd"
        have el : (bs.map fun b => V.int (b.length : Nat)) = fs.map fun f => V.int (f.1 : Nat) := by
          have z := congrArg (fun l => l.map fun n : Nat => V.int (n : Nat)) hlen
          rw [List.map_map, List.map_map] at z
          exact z
        rw [el] at eL
        refine use_plcd eL (s2 _ _ e2) (hj.same s2) hl fun P ps H3 hP hs3 eP hps => ?_
        walk_at "rd"
        refine use_folds ((hs2.trans hs3) _ _ eD) eP hps (plJ_rm fs 0 0 _ hc.low (by rw [hfl, Nat.zero_add])) (by omega) fun R H4 hR hs4 eR => ?_
        exact q R H4 (s2.free (hs3.free hR)) (s2.trans (hs3.trans hs4)) eR
    ) only [↓lt_eq]
theorem ok_folded {f f_turned f_fold_pair : Addr} {fd fd_turned fd_fold_pair : FuncData} (D : Dn K mg "folded" s_folded ["values", "joints"] f fd) (bi : Bi mg) (G_turned : FnOk P w K mg base CX0 6 f_turned fd_turned ["values", "joints", "turn"] (spTurned foldP f_fold_pair)) (D_turned : Dn K mg "turned" s_turned ["values", "joints", "turn"] f_turned fd_turned) (D_fold_pair : Dn K mg "fold_pair" s_fold_pair ["shape", "a", "b"] f_fold_pair fd_fold_pair) : FnOk P w K mg base CX0 7 f fd ["values", "joints"] (spFolds foldP) := by
  refine lt_out ?_
  simp (disch := with_unfolding_all
    refine D.F.ok sc_folded (fun vs H Q E h => ?_) (fun cdv A outer s H vs Q E hr h => ?_)
    · obtain ⟨a, b, xs, refs, js, rfl, _⟩ := h
      rfl
    · obtain ⟨a, b, xs, refs, js, rfl, e1, e2, hj, hr1, hl, q⟩ := h
      refine ⟨_, (pss_one (ps_ret (pe_call G_turned (hr.mono (by first | decide | exact Nat.le_refl _)) (by rfl) D_turned.g D_turned.F.kp D_turned.b .nil pass0 (pa_cons (pv 0) (pa_cons (pv 1) (pa_cons (pe_glob (v := .ref f_fold_pair) (by rfl) D_fold_pair.g rfl) pa_nil)))))), ?_⟩
      refine rd_start (σ := [some (.ref a), some (.ref b)]) rfl ?_
      walk_at "rd"
      exact ⟨a, b, xs, refs, js, rfl, e1, e2, hj, hr1, hl, q⟩
    ) only [↓lt_eq]
theorem ok_split_once {f : Addr} {fd : FuncData}     (D : Dn K mg "split_once" s_split_once ["values"] f fd) (bi : Bi mg)     : FnOk P w K mg base CX0 1 f fd ["values"] (spOnce K) := by
  refine lt_out ?_
  simp (disch := with_unfolding_all
    refine D.F.ok sc_split_once (fun vs H Q E h => ?_) (fun cdv A outer s H vs Q E hr h => ?_)
    · obtain ⟨a, ns, rfl, _⟩ := h
      rfl
    · obtain ⟨a, ns, rfl, hS, hl, q⟩ := h
      refine ⟨_, (pss_cons (ps_set (i := 1) sc_split_once.nd rfl (Or.inl rfl) (pe_lst pa_nil))
   (pss_cons (ps_set (i := 2) sc_split_once.nd rfl (Or.inl rfl) (pe_lst pa_nil))
   (pss_cons (ps_for PassesOwn.never rfl (pi_range3 (by rfl) bi.range_ (pa_cons pe_int (pa_cons (pe_op op_sub (pe_callB cLen (by rfl) bi.len_ (by decide +kernel) (pa_cons (pv 0) pa_nil)) pe_int) (pa_cons pe_int pa_nil)))) (pg_name (i := 3) sc_split_once.nd rfl (Or.inl rfl))
   (pss_cons (ps_par (i := 4) (j := 5) rfl sc_split_once.nd rfl rfl (by decide) rfl rfl (pa_cons (pe_ix ix_list (pv 0) (pv 3) (fun _ _ => rfl)) (pa_cons (pe_ix ix_list (pv 0) (pe_op op_add (pv 3) pe_int) (fun _ _ => rfl)) pa_nil)) rfl)
   (pss_cons (ps_expr (pe_bm PySem.F.plainAttrs_list PySem.F.slot_list_append PySem.F.type_list_append mt_append (pv 1) (pa_cons (pe_op op_fdiv (pe_op op_add (pv 4) (pv 5)) pe_int) pa_nil)))
   (pss_one (ps_expr (pe_bm PySem.F.plainAttrs_list PySem.F.slot_list_append PySem.F.type_list_append mt_append (pv 2) (pa_cons (pe_op op_sub (pv 4) (pv 5)) pa_nil)))))))
   (pss_cons (ps_if (pt_cmpR op_eq (pe_op op_mod (pe_callB cLen (by rfl) bi.len_ (by decide +kernel) (pa_cons (pv 0) pa_nil)) pe_int) pe_int (nomark _))
   (pss_one (ps_expr (pe_bm PySem.F.plainAttrs_list PySem.F.slot_list_append PySem.F.type_list_append mt_append (pv 1) (pa_cons (pe_ix ix_list (pv 0) (pe_un un_neg pe_int) (fun _ _ => rfl)) pa_nil))))
   pss_nil)
   (pss_one (ps_ret (pe_tup (pa_cons (pv 1) (pa_cons (pv 2) pa_nil))))))))), ?_⟩
      refine rd_start (σ := [some (.ref a), none, none, none, none, none]) rfl ?_
      have hml : (ns.map V.int).length = ns.length := List.length_map ..
      walk_at "rd"
      rename_i s1 hs1 d1 hd1
      have hsd : s1 ≠ d1 := ne_of_none upd_same hd1
      have hd0 : H d1 = none := by rw [upd_ne hsd.symm] at hd1; exact hd1
      refine for_rangeC (lo := 0) (c := 2) (n := _) (fun i σ H' => ∃ t1 t2 t3, σ = [some (.ref a), some (.ref s1), some (.ref d1), t1, t2, t3] ∧ H' s1 = some (.lst (((spS ns).take i).map V.int)) ∧ H' d1 = some (.lst (((spD ns).take i).map V.int)) ∧ Same H H') ⟨none, none, none, rfl, look_new hd1 upd_same, upd_same, (same_new hs1).trans (same_new hd1)⟩ (fun i σ H1 hi hI => ?_) (fun σ H1 hI => ?_)
      · obtain ⟨t1, t2, t3, rfl, h1, h2, hs⟩ := hI
        have hS1 := hs.seq hS
        have l1 : 2 * i < ns.length := by omega
        have l2 : 2 * i + 1 < ns.length := by omega
        have g1 := List.getElem?_eq_getElem l1
        have g2 := List.getElem?_eq_getElem l2
        have hat1 : atI (ns.map V.int) (0 + (i : Nat) * 2) = some (.int ns[2 * i]) := by
          rw [show ((0 : Int) + (i : Nat) * 2) = ((2 * i : Nat) : Int) by omega]
          exact at_ints g1
        have hat2 : atI (ns.map V.int) (0 + (i : Nat) * 2 + 1) = some (.int ns[2 * i + 1]) := by
          rw [show ((0 : Int) + (i : Nat) * 2 + 1) = ((2 * i + 1 : Nat) : Int) by omega]
          exact at_ints g2
        have k1 : ((spS ns).take i).length ≤ 1000 := by rw [List.length_take]; omega
        have k2 : ((spD ns).take i).length ≤ 1000 := by rw [List.length_take]; omega
        have eS : (spS ns).take (i + 1) = (spS ns).take i ++ [(ns[2 * i] + ns[2 * i + 1]) / 2] := by rw [List.take_add_one, spS_get ns i _ _ g1 g2]; rfl
        have eD : (spD ns).take (i + 1) = (spD ns).take i ++ [ns[2 * i] - ns[2 * i + 1]] := by rw [List.take_add_one, spD_get ns i _ _ g1 g2]; rfl
        have hsd' := hsd.symm
        walk_at "rd"
        refine ⟨_, _, _, rfl, ?_, ?_, fun b x e => ?_⟩
        · rw [eS, upd_ne hsd, upd_same]
        · rw [eD, upd_same]
        · rw [upd_ne (ne_of_none e hd0), upd_ne (ne_of_none e hs1)]
          exact hs _ _ e
      · obtain ⟨t1, t2, t3, rfl, h1, h2, hs⟩ := hI
        have hS1 := hs.seq hS
        rw [hml] at h1 h2
        have eD : (spD ns).take (ns.length / 2) = spD ns := List.take_of_length_le (by rw [spD_length]; exact Nat.le_refl _)
        rw [eD] at h2
        have k1 : ((spS ns).take (ns.length / 2)).length ≤ 1000 := by rw [List.length_take]; omega
        have hsd' := hsd.symm
        walk_at "rd"
        refine rd_iteD (fun c => ?_) (fun c => ?_)
        · have c' : ns.length % 2 = 1 := by have := V.int.inj c; omega
          obtain ⟨z, hz, hdz, hat⟩ := last_odd c'
          walk_at "rd"
          rename_i p hp
          refine q p s1 d1 _ (fun b x e => ?_) upd_same ?_ ?_ hs1
          · refine look_new hp ?_
            rw [upd_ne (ne_of_none e hs1)]
            exact hs _ _ e
          · refine look_new hp ?_
            rw [upd_same, ← hdz, ← spS_parts]
          · refine look_new hp ?_
            rw [upd_ne hsd.symm]
            exact h2
        · have c' : ¬ ns.length % 2 = 1 := fun z => c (congrArg V.int (by omega))
          walk_at "rd"
          rename_i p hp
          have e := spS_parts ns
          rw [drop_even c', List.append_nil] at e
          rw [← e] at h1
          exact q p s1 d1 _ (hs.trans (same_new hp)) upd_same (look_new hp h1) (look_new hp h2) hs1
    ) only [↓lt_eq]
theorem ok_split_levels {f : Addr} {fd : FuncData} {f_check_block : Addr} {fd_check_block : FuncData} {f_check_within : Addr} {fd_check_within : FuncData} {f_split_once : Addr} {fd_split_once : FuncData}    (D : Dn K mg "split_levels" s_split_levels ["values", "levels"] f fd) (bi : Bi mg) (G_check_block : FnOk P w K mg base CX0 3 f_check_block fd_check_block ["values", "least"] spBlock) (D_check_block : Dn K mg "check_block" s_check_block ["values", "least"] f_check_block fd_check_block) (G_check_within : FnOk P w K mg base CX0 3 f_check_within fd_check_within ["value", "low", "high"] spCkW) (D_check_within : Dn K mg "check_within" s_check_within ["value", "low", "high"] f_check_within fd_check_within) (G_split_once : FnOk P w K mg base CX0 1 f_split_once fd_split_once ["values"] (spOnce K)) (D_split_once : Dn K mg "split_once" s_split_once ["values"] f_split_once fd_split_once)   (g_LEVEL_LIMIT : ∃ t, mg "LEVEL_LIMIT" = some (.int 5 t)) : FnOk P w K mg base CX0 4 f fd ["values", "levels"] spSplit := by
  refine lt_out ?_
  simp (disch := with_unfolding_all
    refine D.F.ok sc_split_levels (fun vs H Q E h => ?_) (fun cdv A outer s H vs Q E hr h => ?_)
    · obtain ⟨a, ns, k, rfl, _⟩ := h
      rfl
    · obtain ⟨a, ns, k, rfl, hS, h1, h2, h3, h4, q⟩ := h
      obtain ⟨t64, g_LEVEL_LIMIT⟩ := g_LEVEL_LIMIT
      refine ⟨_, (pss_cons (ps_expr (pe_call G_check_block (hr.mono (by first | decide | exact Nat.le_refl _)) (by rfl) D_check_block.g D_check_block.F.kp D_check_block.b .nil pass0 (pa_cons (pv 0) (pa_cons pe_int pa_nil))))
   (pss_cons (ps_expr (pe_call G_check_within (hr.mono (by first | decide | exact Nat.le_refl _)) (by rfl) D_check_within.g D_check_within.F.kp D_check_within.b .nil pass0 (pa_cons (pv 1) (pa_cons pe_int (pa_cons (pe_glob (v := .int 5) (by rfl) g_LEVEL_LIMIT ⟨_, rfl⟩) pa_nil)))))
   (pss_cons (ps_set (i := 2) sc_split_levels.nd rfl (Or.inl rfl) (pe_callTy cList (by rfl) bi.list_ (by decide +kernel) (pa_cons (pv 0) pa_nil)))
   (pss_cons (ps_set (i := 3) sc_split_levels.nd rfl (Or.inl rfl) (pe_lst pa_nil))
   (pss_cons (ps_for PassesOwn.never rfl (pi_range1 (by rfl) bi.range_ (pa_cons (pv 1) pa_nil)) (pg_name (i := 4) sc_split_levels.nd rfl (Or.inl rfl))
   (pss_cons (ps_asg (pe_call G_split_once (hr.mono (by first | decide | exact Nat.le_refl _)) (by rfl) D_split_once.g D_split_once.F.kp D_split_once.b .nil pass0 (pa_cons (pv 2) pa_nil)) (pg_tup rfl (pgs_cons (pg_name (i := 2) sc_split_levels.nd rfl (Or.inl rfl)) (pgs_cons (pg_name (i := 5) sc_split_levels.nd rfl (Or.inl rfl)) pgs_nil))))
   (pss_one (ps_set (i := 3) sc_split_levels.nd rfl (Or.inl rfl) (pe_op op_cat (pv 5) (pv 3))))))
   (pss_one (ps_ret (pe_op op_cat (pv 2) (pv 3))))))))), ?_⟩
      refine rd_start (σ := [some (.ref a), some (.int k), none, none, none, none]) rfl ?_
      walk_at "rd"
      rename_i H1 hs1 s1 hs2 r1 hr1
      refine for_range (lo := 0) (n := k.toNat) (fun i σ H' => ∃ t1 t2 s2 r2, σ = [some (.ref a), some (.int k), some (.ref s2), some (.ref r2), t1, t2] ∧ H' s2 = some (.lst ((lvS ns i).map V.int)) ∧ H' r2 = some (.lst ((lvR ns i).map V.int)) ∧ Same H H') ⟨none, none, s1, r1, rfl, look_new hr1 upd_same, upd_same, hs1.trans ((same_new hs2).trans (same_new hr1))⟩ (fun i σ H2 hi hI => ?_) (fun σ H2 hI => ?_)
      · obtain ⟨t1, t2, s2, r2, rfl, e1, e2, hs⟩ := hI
        have hle := lvS_le ns i
        have hlv := lv_length ns i
        have hD := spD_length (lvS ns i)
        walk_at "rd"
        rename_i p s3 d3 H3 hs3 hp3 es3 ed3 hn3 r3 hr3
        exact ⟨_, _, s3, r3, rfl, look_new hr3 es3, upd_same, hs.trans (hs3.trans (same_new hr3))⟩
      · obtain ⟨t1, t2, s2, r2, rfl, e1, e2, hs⟩ := hI
        have hlv := lv_length ns k.toNat
        walk_at "rd"
        rename_i p hp
        exact q p _ (hs.free hp) (hs.trans (same_new hp)) upd_same
    ) only [↓lt_eq]
theorem ok_quantized {f : Addr} {fd : FuncData} {f_check_integer : Addr} {fd_check_integer : FuncData} {f_check_within : Addr} {fd_check_within : FuncData}    (D : Dn K mg "quantized" s_quantized ["value", "step"] f fd) (bi : Bi mg) (G_check_integer : FnOk P w K mg base CX0 2 f_check_integer fd_check_integer ["value"] spCkI) (D_check_integer : Dn K mg "check_integer" s_check_integer ["value"] f_check_integer fd_check_integer) (G_check_within : FnOk P w K mg base CX0 3 f_check_within fd_check_within ["value", "low", "high"] spCkW) (D_check_within : Dn K mg "check_within" s_check_within ["value", "low", "high"] f_check_within fd_check_within)   (g_STEP_LIMIT : ∃ t, mg "STEP_LIMIT" = some (.int 64 t)) : FnOk P w K mg base CX0 4 f fd ["value", "step"] spQuant := by
  refine lt_out ?_
  simp (disch := with_unfolding_all
    refine D.F.ok sc_quantized (fun vs H Q E h => ?_) (fun cdv A outer s H vs Q E hr h => ?_)
    · obtain ⟨v, s, rfl, _⟩ := h
      rfl
    · obtain ⟨v, s, rfl, h1, h2, q⟩ := h
      obtain ⟨t64, g_STEP_LIMIT⟩ := g_STEP_LIMIT
      refine ⟨_, (pss_cons (ps_expr (pe_call G_check_integer (hr.mono (by first | decide | exact Nat.le_refl _)) (by rfl) D_check_integer.g D_check_integer.F.kp D_check_integer.b .nil pass0 (pa_cons (pv 0) pa_nil)))
   (pss_cons (ps_expr (pe_call G_check_within (hr.mono (by first | decide | exact Nat.le_refl _)) (by rfl) D_check_within.g D_check_within.F.kp D_check_within.b .nil pass0 (pa_cons (pv 1) (pa_cons pe_int (pa_cons (pe_glob (v := .int 64) (by rfl) g_STEP_LIMIT ⟨_, rfl⟩) pa_nil)))))
   (pss_one (ps_ret (pe_op op_fdiv (pe_op op_add (pe_op op_mul pe_int (pv 0)) (pv 1)) (pe_op op_mul pe_int (pv 1))))))), ?_⟩
      refine rd_start (σ := [some (.int v), some (.int s)]) rfl ?_
      walk_at "rd"
      exact q
    ) only [↓lt_eq]
theorem ok_code_bits {f : Addr} {fd : FuncData}     (D : Dn K mg "code_bits" s_code_bits ["code", "k"] f fd) (bi : Bi mg)    (g_LONG_FORM : ∃ t, mg "LONG_FORM" = some (.int 20 t)) : FnOk P w K mg base CX0 1 f fd ["code", "k"] spBits := by
  refine lt_out ?_
  simp (disch := with_unfolding_all
    refine D.F.ok sc_code_bits (fun vs H Q E h => ?_) (fun cdv A outer s H vs Q E hr h => ?_)
    · obtain ⟨u, k, rfl, _⟩ := h
      rfl
    · obtain ⟨u, k, rfl, hk, hu, q⟩ := h
      obtain ⟨t1, g_LONG_FORM⟩ := g_LONG_FORM
      refine ⟨_, (pss_cons (ps_set (i := 2) sc_code_bits.nd rfl (Or.inl rfl) (pe_joined1 (pe_fmtb (pv 0) (pe_joined1 pe_str))))
   (pss_cons (ps_set (i := 3) sc_code_bits.nd rfl (Or.inl rfl) (pe_op op_shr (pv 0) (pv 1)))
   (pss_cons (ps_if (pt_cmpR op_lt (pv 3) (pe_glob (v := .int 20) (by rfl) g_LONG_FORM ⟨_, rfl⟩) (nomark _))
   (pss_cons (ps_set (i := 4) sc_code_bits.nd rfl (Or.inl rfl) (pe_bm PySem.F.plainAttrs_str PySem.F.slot_str_zfill PySem.F.type_str_zfill mt_zf (pv 2) (pa_cons (pv 1) pa_nil)))
   (pss_one (ps_ret (pe_op op_addT (pe_op op_addT (pe_op op_mulT pe_str (pv 3)) pe_str) (pe_slice C8.sl_txt (pv 4) (po_some (pe_op op_sub (pe_callB cLen (by rfl) bi.len_ (by decide +kernel) (pa_cons (pv 4) pa_nil)) (pv 1))) po_none)))))
   pss_nil)
   (pss_one (ps_ret (pe_op op_addT (pe_op op_addT (pe_op op_mulT pe_str (pe_op op_sub (pe_op op_add (pe_glob (v := .int 20) (by rfl) g_LONG_FORM ⟨_, rfl⟩) (pe_callB cLen (by rfl) bi.len_ (by decide +kernel) (pa_cons (pv 2) pa_nil))) pe_int)) pe_str) (pv 2))))))), ?_⟩
      refine rd_start (σ := [some (.int (u : Int)), some (.int (k : Int)), none, none, none]) rfl ?_
      walk_at "rd"
      refine rd_iteD (fun c => ?_) (fun c => ?_)
      · have c2 : u / 2 ^ k < 20 := Int.ofNat_lt.mp c
        have e : encB u k = List.replicate (u / 2 ^ k) 49 ++ [48] ++ lowB u k := if_pos c2
        rw [e] at q
        clear c e
        generalize u / 2 ^ k = g at c2 q ⊢
        walk_at "rd"
        refine rd_zf (by omega) (lowB_bin _ _) ?_
        rw [binB_length]
        have hd := low_fill u k
        have hk2 : k ≤ (if k ≤ nb u then binB u else List.replicate (k - nb u) 48 ++ binB u).length := by
          split
          · rw [binB_length]; omega
          · rw [List.length_append, List.length_replicate, binB_length]; omega
        have hl2 : (if k ≤ nb u then binB u else List.replicate (k - nb u) 48 ++ binB u).length ≤ 200000 := by
          split
          · rw [binB_length]; omega
          · rw [List.length_append, List.length_replicate, binB_length]; omega
        generalize (if k ≤ nb u then binB u else List.replicate (k - nb u) 48 ++ binB u) = P at hd hk2 hl2 ⊢
        walk_at "rd"
        rw [show ((P.length : Nat) : Int) - (k : Int) = ((P.length - k : Nat) : Int) by omega]
        walk_at "rd"
        rw [hd]
        exact q
      · have c2 : ¬ u / 2 ^ k < 20 := fun z => c (Int.ofNat_lt.mpr z)
        have e : encB u k = List.replicate (19 + nb u) 49 ++ [48] ++ binB u := if_neg c2
        rw [e] at q
        have hbl := binB_length u
        walk_at "rd"
        rw [hbl, show (20 : Int) + (nb u : Nat) - 1 = ((19 + nb u : Nat) : Int) by omega]
        walk_at "rd"
        exact q
    ) only [↓lt_eq]
theorem ok_write_numbers {f : Addr} {fd : FuncData} {f_check_block : Addr} {fd_check_block : FuncData} {f_check_coding : Addr} {fd_check_coding : FuncData} {f_code_number : Addr} {fd_code_number : FuncData} {f_code_bits : Addr} {fd_code_bits : FuncData} {f_parameter : Addr} {fd_parameter : FuncData} {f_table_behind : Addr} {fd_table_behind : FuncData}    (D : Dn K mg "write_numbers" s_write_numbers ["numbers", "coarse", "tables"] f fd) (bi : Bi mg) (G_check_block : FnOk P w K mg base CX0 3 f_check_block fd_check_block ["values", "least"] spBlock) (D_check_block : Dn K mg "check_block" s_check_block ["values", "least"] f_check_block fd_check_block) (G_check_coding : FnOk P w K mg base CX0 5 f_check_coding fd_check_coding ["length", "coarse", "tables"] (spCoding K)) (D_check_coding : Dn K mg "check_coding" s_check_coding ["length", "coarse", "tables"] f_check_coding fd_check_coding) (G_code_number : FnOk P w K mg base CX0 1 f_code_number fd_code_number ["number"] spCode) (D_code_number : Dn K mg "code_number" s_code_number ["number"] f_code_number fd_code_number) (G_code_bits : FnOk P w K mg base CX0 1 f_code_bits fd_code_bits ["code", "k"] spBits) (D_code_bits : Dn K mg "code_bits" s_code_bits ["code", "k"] f_code_bits fd_code_bits) (G_parameter : FnOk P w K mg base CX0 4 f_parameter fd_parameter ["table"] (spParG K)) (D_parameter : Dn K mg "parameter" s_parameter ["table"] f_parameter fd_parameter) (G_table_behind : FnOk P w K mg base CX0 1 f_table_behind fd_table_behind ["table", "code"] (spBehind K)) (D_table_behind : Dn K mg "table_behind" s_table_behind ["table", "code"] f_table_behind fd_table_behind)    : FnOk P w K mg base CX0 6 f fd ["numbers", "coarse", "tables"] (spWr K) := by
  refine lt_out ?_
  simp (disch := with_unfolding_all
    refine D.F.ok sc_write_numbers (fun vs H Q E h => ?_) (fun cdv A outer s H vs Q E hr h => ?_)
    · obtain ⟨a, ns, first, b, T, rfl, _⟩ := h
      rfl
    · obtain ⟨a, ns, first, b, T, rfl, e1, hl, hf, hn, hT, o1, o2, q⟩ := h
      refine ⟨_, (pss_cons (ps_expr (pe_call G_check_block (hr.mono (by first | decide | exact Nat.le_refl _)) (by rfl) D_check_block.g D_check_block.F.kp D_check_block.b .nil pass0 (pa_cons (pv 0) (pa_cons pe_int pa_nil))))
   (pss_cons (ps_expr (pe_call G_check_coding (hr.mono (by first | decide | exact Nat.le_refl _)) (by rfl) D_check_coding.g D_check_coding.F.kp D_check_coding.b .nil pass0 (pa_cons (pe_callB cLen (by rfl) bi.len_ (by decide +kernel) (pa_cons (pv 0) pa_nil)) (pa_cons (pv 1) (pa_cons (pv 2) pa_nil)))))
   (pss_cons (ps_set (i := 3) sc_write_numbers.nd rfl (Or.inl rfl) (pe_callTy cList (by rfl) bi.list_ (by decide +kernel) (pa_cons (pv 2) pa_nil)))
   (pss_cons (ps_set (i := 4) sc_write_numbers.nd rfl (Or.inl rfl) (pe_lst pa_nil))
   (pss_cons (ps_for PassesOwn.never rfl (pi_enum (by rfl) bi.enumerate_ (pa_cons (pv 0) pa_nil)) (pg_tup rfl (pgs_cons (pg_name (i := 5) sc_write_numbers.nd rfl (Or.inl rfl)) (pgs_cons (pg_name (i := 6) sc_write_numbers.nd rfl (Or.inl rfl)) pgs_nil)))
   (pss_cons (ps_set (i := 7) sc_write_numbers.nd rfl (Or.inl rfl) (pe_ifExp (pt_cmpR op_lt (pv 5) (pv 1) (nomark _)) pe_int pe_int))
   (pss_cons (ps_set (i := 8) sc_write_numbers.nd rfl (Or.inl rfl) (pe_call G_code_number (hr.mono (by first | decide | exact Nat.le_refl _)) (by rfl) D_code_number.g D_code_number.F.kp D_code_number.b .nil pass0 (pa_cons (pv 6) pa_nil)))
   (pss_cons (ps_expr (pe_bm PySem.F.plainAttrs_list PySem.F.slot_list_append PySem.F.type_list_append mt_append (pv 4) (pa_cons (pe_call G_code_bits (hr.mono (by first | decide | exact Nat.le_refl _)) (by rfl) D_code_bits.g D_code_bits.F.kp D_code_bits.b .nil pass0 (pa_cons (pv 8) (pa_cons (pe_call G_parameter (hr.mono (by first | decide | exact Nat.le_refl _)) (by rfl) D_parameter.g D_parameter.F.kp D_parameter.b .nil pass0 (pa_cons (pe_ix ix_list (pv 3) (pv 7) (fun _ _ => rfl)) pa_nil)) pa_nil))) pa_nil)))
   (pss_one (ps_asg (pe_call G_table_behind (hr.mono (by first | decide | exact Nat.le_refl _)) (by rfl) D_table_behind.g D_table_behind.F.kp D_table_behind.b .nil pass0 (pa_cons (pe_ix ix_list (pv 3) (pv 7) (fun _ _ => rfl)) (pa_cons (pv 8) pa_nil))) (pg_sub (pv 3) (pv 7) set_list)))))))
   (pss_one (ps_ret (pe_tup (pa_cons (pe_bm PySem.F.plainAttrs_str PySem.F.slot_str_join PySem.F.type_str_join mt_joinK pe_str (pa_cons (pv 4) pa_nil)) (pa_cons (pe_callTy cTuple (by rfl) bi.tuple_ (by decide +kernel) (pa_cons (pv 3) pa_nil)) pa_nil)))))))))), ?_⟩
      refine rd_start (σ := [some (.ref a), some (.int (first : Int)), some (.ref b), none, none, none, none, none, none]) rfl ?_
      walk_at "rd"
      rename_i H1 hs1
      rw [List.length_map]
      refine use_coding hf (hT.lk (.of hs1)) o1 o2 ?_
      obtain ⟨r0, r1, h0, h1, h2⟩ := hT.lk (.of hs1)
      walk_at "rd"
      refine rd_listQ h0.1 fun p hp => ?_
      walk_at "rd"
      rename_i w hw
      have hs2 : Same H (upd (upd H1 p (.lst [.ref r0, .ref r1])) w (.lst [])) := (hs1.trans (same_new hp)).trans (same_new hw)
      have hpn : H p = none := hs1.free hp
      have hwn : H w = none := (hs1.trans (same_new hp)).free hw
      have hpw : p ≠ w := ne_of_none upd_same hw
      have hwp := hpw.symm
      refine rd_lpE (SqL.of (hs2 _ _ e1)) ?_
      refine for_enum (xs := ns.map V.int) (fun i σ H' => ∃ r0 r1 x5 x6 x7 x8, σ = [some (.ref a), some (.int (first : Int)), some (.ref b), some (.ref p), some (.ref w), x5, x6, x7, x8] ∧ H' p = some (.lst [.ref r0, .ref r1]) ∧ H' w = some (.lst ((wst ns first T i).1.map fun l => V.str (SX.S l))) ∧ TbV K H' r0 (wst ns first T i).2.1 ∧ TbV K H' r1 (wst ns first T i).2.2 ∧ Same H H') ⟨r0, r1, none, none, none, none, rfl, look_new hw upd_same, upd_same, (h1.lk (.new hp)).lk (.new hw), (h2.lk (.new hp)).lk (.new hw), hs2⟩ (fun i σ H' _ hI => ?_) (fun i v σ H' t hv hI ht => ?_) (fun σ H' hI => ?_)
      · obtain ⟨r0, r1, x5, x6, x7, x8, rfl, h3, h3w, h4, h5, hs⟩ := hI
        exact SqL.of (hs _ _ e1)
      · obtain ⟨r0, r1, x5, x6, x7, x8, rfl, h3, h3w, h4, h5, hs⟩ := hI
        have hil : i < ns.length := by
          have z := (List.getElem?_eq_some_iff.mp hv).1
          rw [List.length_map] at z
          exact z
        obtain ⟨z, rfl, hz⟩ : ∃ z, v = .int z ∧ ns.getD i 0 = z := by
          rw [List.getElem?_map] at hv
          cases g : ns[i]? with
          | none => rw [g] at hv; cases hv
          | some z => rw [g] at hv; exact ⟨z, (Option.some.inj hv).symm, getD_some g⟩
        obtain ⟨k1, k2⟩ := wst_ok (first := first) hn o1 o2 i (by omega)
        have bnd : (10 ^ 58 + (i : Int) * 10 ^ 56) < 10 ^ 60 := by omega
        have hu := nb_small (uOf_getD hn i)
        rw [hz] at hu
        have hwl := wst_len ns first T i
        have t4 : TbV K (upd H' t (.tup [.int (i : Nat), .int z])) r0 (wst ns first T i).2.1 := h4.lk (.new ht)
        have t5 : TbV K (upd H' t (.tup [.int (i : Nat), .int z])) r1 (wst ns first T i).2.2 := h5.lk (.new ht)
        have u3 := look_new (o := .tup [.int (i : Nat), .int z]) ht h3
        have u3w := look_new (o := .tup [.int (i : Nat), .int z]) ht h3w
        have hst : Same H (upd H' t (.tup [.int (i : Nat), .int z])) := hs.trans (same_new ht)
        have utt : upd H' t (.tup [.int (i : Nat), .int z]) t = some (.tup [.int (i : Nat), .int z]) := upd_same
        generalize upd H' t (.tup [.int (i : Nat), .int z]) = Ht at t4 t5 u3 u3w hst utt ⊢
        walk_at "rd"
        refine rd_iteD (fun c => ?_) (fun c => ?_)
        · have c := Int.ofNat_lt.mp c
          walk_at "rd"
          rw [← uOf_eq]
          refine use_parG t4 k1 ?_
          walk_at "rd"
          refine use_bits (by have := par_leG k1 bnd; omega) (by omega) ?_
          walk_at "rd"
          refine rd_appG u3w (by rw [List.length_map]; omega) ?_
          have v3 := look_upd (o := .lst ((wst ns first T i).1.map (fun l => V.str (SX.S l)) ++ [.str (SX.S (encB (uOf z) (par (wst ns first T i).2.1.1 (wst ns first T i).2.1.2)))])) hpw u3
          have v4 := TbV.lk (LK.at (o := .lst ((wst ns first T i).1.map (fun l => V.str (SX.S l)) ++ [.str (SX.S (encB (uOf z) (par (wst ns first T i).2.1.1 (wst ns first T i).2.1.2)))])) u3w) t4
          have v5 := TbV.lk (LK.at (o := .lst ((wst ns first T i).1.map (fun l => V.str (SX.S l)) ++ [.str (SX.S (encB (uOf z) (par (wst ns first T i).2.1.1 (wst ns first T i).2.1.2)))])) u3w) t5
          walk_at "rd"
          skip
          refine use_behind v4 k1 fun p2 hp2 => ?_
          walk_at "rd"
          have n2p : p2 ≠ p := (ne_of_none v3 hp2).symm
          rw [wst_lo c]
          refine ⟨p2, r1, _, _, _, _, rfl, upd_same, ?_, ?_, ?_, ?_⟩
          · rw [upd_ne hwp, upd_ne (ne_of_none upd_same hp2), upd_same, List.map_append, hz]
            rfl
          · exact TbV.lk (LK.at (look_new hp2 v3)) (by rw [hz]; exact TbV.of upd_same)
          · exact TbV.lk (LK.at (look_new hp2 v3)) (TbV.lk (LK.new hp2) v5)
          · intro b2 x e
            rw [upd_ne (ne_of_none e hpn)]
            refine look_new hp2 ?_
            rw [upd_ne (ne_of_none e hwn)]
            exact hst _ _ e

        · have c : ¬ i < first := fun z => c (Int.ofNat_lt.mpr z)
          walk_at "rd"
          rw [← uOf_eq]
          refine use_parG t5 k2 ?_
          walk_at "rd"
          refine use_bits (by have := par_leG k2 bnd; omega) (by omega) ?_
          walk_at "rd"
          refine rd_appG u3w (by rw [List.length_map]; omega) ?_
          have v3 := look_upd (o := .lst ((wst ns first T i).1.map (fun l => V.str (SX.S l)) ++ [.str (SX.S (encB (uOf z) (par (wst ns first T i).2.2.1 (wst ns first T i).2.2.2)))])) hpw u3
          have v4 := TbV.lk (LK.at (o := .lst ((wst ns first T i).1.map (fun l => V.str (SX.S l)) ++ [.str (SX.S (encB (uOf z) (par (wst ns first T i).2.2.1 (wst ns first T i).2.2.2)))])) u3w) t4
          have v5 := TbV.lk (LK.at (o := .lst ((wst ns first T i).1.map (fun l => V.str (SX.S l)) ++ [.str (SX.S (encB (uOf z) (par (wst ns first T i).2.2.1 (wst ns first T i).2.2.2)))])) u3w) t5
          walk_at "rd"
          skip
          refine use_behind v5 k2 fun p2 hp2 => ?_
          walk_at "rd"
          have n2p : p2 ≠ p := (ne_of_none v3 hp2).symm
          rw [wst_hi c]
          refine ⟨r0, p2, _, _, _, _, rfl, upd_same, ?_, ?_, ?_, ?_⟩
          · rw [upd_ne hwp, upd_ne (ne_of_none upd_same hp2), upd_same, List.map_append, hz]
            rfl
          · exact TbV.lk (LK.at (look_new hp2 v3)) (TbV.lk (LK.new hp2) v4)
          · exact TbV.lk (LK.at (look_new hp2 v3)) (by rw [hz]; exact TbV.of upd_same)
          · intro b2 x e
            rw [upd_ne (ne_of_none e hpn)]
            refine look_new hp2 ?_
            rw [upd_ne (ne_of_none e hwn)]
            exact hst _ _ e

      · obtain ⟨r0, r1, x5, x6, x7, x8, rfl, h3, h3w, h4, h5, hs⟩ := hI
        rw [List.length_map] at h3w h4 h5
        have hfl := wst_flat (first := first) hn o1 o2 ns.length hl
        have hfl2 : (wst ns first T ns.length).1.flatten.length ≤ 16777216 := by omega
        walk_at "rd"
        rename_i q1 hq1 p1 hp1
        refine q p1 q1 _ ((hs.trans (same_new hq1)).trans (same_new hp1)) ((hs.trans (same_new hq1)).free hp1) upd_same ⟨r0, r1, .of (look_new hp1 upd_same), (h4.lk (.new hq1)).lk (.new hp1), (h5.lk (.new hq1)).lk (.new hp1)⟩
    ) only [↓lt_eq]
theorem ok_check_plan {f : Addr} {fd : FuncData} {f_is_layout : Addr} {fd_is_layout : FuncData}    (D : Dn K mg "check_plan" s_check_plan ["plan", "length"] f fd) (bi : Bi mg) (G_is_layout : FnOk P w K mg base CX0 4 f_is_layout fd_is_layout ["value"] spIsLay) (D_is_layout : Dn K mg "is_layout" s_is_layout ["value"] f_is_layout fd_is_layout)   {a_START t0 t1 a_HARD : Addr} (g_START : mg "START" = some (.ref a_START)) (hSt : ∀ H, TupV K H a_START [.ref t0, .ref t1]) (hS0 : ∀ H, TupV K H t0 [.int 2, .int 1]) (hS1 : ∀ H, TupV K H t1 [.int 2, .int 1]) (g_HARD : mg "HARD" = some (.ref a_HARD)) (hHd : ∀ H, TupV K H a_HARD [.int 0, .int 0]) : FnOk P w K mg base CX0 5 f fd ["plan", "length"] (spCkPl K) := by
  refine lt_out ?_
  simp (disch := with_unfolding_all
    refine D.F.ok sc_check_plan (fun vs H Q E h => ?_) (fun cdv A outer s H vs Q E hr h => ?_)
    · obtain ⟨a, refs, hs, n, rfl, _⟩ := h
      rfl
    · obtain ⟨a, refs, hs, n, rfl, e1, hh, hc, ht2, q⟩ := h
      refine ⟨_, (pss_cons (ps_if (pt_not (pt_val (pe_callB call_isiT (by rfl) bi.isinstance_ (by decide +kernel) (pa_cons (pv 0) (pa_cons (pe_tup (pa_cons (pe_bltn (v := .ty "list") (by rfl) bi.list_ (by decide +kernel) rfl) (pa_cons (pe_bltn (v := .ty "tuple") (by rfl) bi.tuple_ (by decide +kernel) rfl) pa_nil))) pa_nil)))))
   (pss_one ps_never)
   pss_nil)
   (pss_cons (ps_set (i := 2) sc_check_plan.nd rfl (Or.inl rfl) (pe_glob (v := .ref a_HARD) (by rfl) g_HARD rfl))
   (pss_cons (ps_set (i := 3) sc_check_plan.nd rfl (Or.inl rfl) pe_int)
   (pss_cons (ps_for PassesOwn.never rfl (pi_enum (by rfl) bi.enumerate_ (pa_cons (pv 0) pa_nil)) (pg_tup rfl (pgs_cons (pg_name (i := 4) sc_check_plan.nd rfl (Or.inl rfl)) (pgs_cons (pg_name (i := 5) sc_check_plan.nd rfl (Or.inl rfl)) pgs_nil)))
   (pss_cons (ps_if (PW.pt (pw_or (pt_not (pt_val (pe_call G_is_layout (hr.mono (by first | decide | exact Nat.le_refl _)) (by rfl) D_is_layout.g D_is_layout.F.kp D_is_layout.b .nil pass0 (pa_cons (pv 5) pa_nil)))) (pw_or1 (pt_cmpR op_gt (pe_op op_add (pe_ix ix_tup (pv 2) pe_int (fun _ _ => rfl)) (pe_ix ix_tup (pe_ix ix_tup (pv 5) pe_int (fun _ _ => rfl)) pe_int (fun _ _ => rfl))) (pe_ix ix_tup (pv 5) pe_int (fun _ _ => rfl)) (nomark _)))))
   (pss_one ps_never)
   pss_nil)
   (pss_cons (ps_if (PW.pt (pw_and (pt_cmpR op_eq (pv 4) (pe_op op_sub (pe_callB cLen (by rfl) bi.len_ (by decide +kernel) (pa_cons (pv 0) pa_nil)) pe_int) (nomark _)) (pw_and1 (pt_cmpR (op_neD hr.units) (pe_ix ix_tup (pv 5) pe_int (fun _ _ => rfl)) (pe_glob (v := .ref a_HARD) (by rfl) g_HARD rfl) (nomark _)))))
   (pss_one ps_never)
   pss_nil)
   (pss_cons (ps_set (i := 2) sc_check_plan.nd rfl (Or.inl rfl) (pe_ix ix_tup (pv 5) pe_int (fun _ _ => rfl)))
   (pss_one (ps_aug (i := 3) sc_check_plan.nd rfl (Or.inl rfl) (pe_ix ix_tup (pv 5) pe_int (fun _ _ => rfl)) ip_add))))))
   (pss_one (ps_if (pt_cmpR op_ne (pv 3) (pv 1) (nomark _))
   (pss_one ps_never)
   pss_nil)))))), ?_⟩
      refine rd_start (σ := [some (.ref a), some (.int (n : Nat)), none, none, none, none]) rfl ?_
      walk_at "rd"
      rename_i t ht
      refine isiT_lst (look_new ht e1) upd_same ?_
      walk_at "rd"
      have s0 := same_new (o := .tup [.ty "list", .ty "tuple"]) ht
      have hln := hh.len
      refine rd_lpE (SqL.of (s0 _ _ e1)) ?_
      refine for_enum (xs := refs) (fun i σ H' => ∃ jl lj x4 x5, σ = [some (.ref a), some (.int (n : Nat)), some (.ref jl), some (.int (totH (hs.take i) : Nat)), x4, x5] ∧ JtV K H' jl lj ∧ Ch lj.1 (hs.drop i) 0 ∧ Same H H') ⟨a_HARD, (0, 0), none, none, rfl, hHd _, hc, s0⟩ (fun i σ H1 _ hI => ?_) (fun i v σ H1 T hv hI hT => ?_) (fun σ H1 hI => ?_)
      · obtain ⟨jl, lj, x4, x5, rfl, hJ, hC, sm⟩ := hI
        exact SqL.of (sm _ _ e1)
      · obtain ⟨jl, lj, x4, x5, rfl, hJ, hC, sm⟩ := hI
        have hil := (List.getElem?_eq_some_iff.mp hv).1
        obtain ⟨d, ed, h, j, rfl, hd⟩ := hh.at2 hv
        have hil2 := (List.getElem?_eq_some_iff.mp ed).1
        have edr : hs.drop i = d :: hs.drop (i + 1) := by rw [List.drop_eq_getElem_cons hil2, (List.getElem?_eq_some_iff.mp ed).2]
        rw [edr] at hC
        obtain ⟨ok, hw, hC2⟩ := hC
        have et := totH_take ed
        have sm := sm.trans (same_new (o := .tup [.int (i : Nat), .ref h]) hT)
        have hJ := hJ.lk (.of (same_new (o := .tup [.int (i : Nat), .ref h]) hT))
        have hd := hd.lk (.of sm)
        obtain ⟨hd1, hd2⟩ := id hd
        have L1 := hJ.1
        have e1' := sm _ _ e1
        walk_at "rd"
        refine use_islay hd ok ?_
        walk_at "rd"
        refine if_noD (by omega) ?_
        walk_at "rd"
        have et2 : ((totH (hs.take (i + 1)) : Nat) : Int) = ((totH (hs.take i) : Nat) : Int) + (d.1 : Nat) := by omega
        refine rd_iteD (p := V.int (i : Nat) = V.int ((refs.length : Nat) - 1)) (fun c => ?_) (fun c => ?_)
        · have ci := V.int.inj c
          have en : hs.drop (i + 1) = [] := List.drop_of_length_le (by omega)
          have w0 : d.2.1 = 0 := by rw [en] at hC2; exact hC2
          have s0 : d.2.2.1 = 0 := ok.2.2.2.2.1 w0
          walk_at "rd"
          refine rd_neT2 (SqT.of hd2) (hHd _).1 (by omega) (by omega) ?_
          walk_at "rd"
          exact ⟨j, (d.2.1, d.2.2.1), _, _, by rw [et2]; rfl, JtAt.v hd2, hC2, sm⟩
        · walk_at "rd"
          exact ⟨j, (d.2.1, d.2.2.1), _, _, by rw [et2]; rfl, JtAt.v hd2, hC2, sm⟩
      · obtain ⟨jl, lj, x4, x5, rfl, hJ, hC, sm⟩ := hI
        rw [hln, List.take_length, ht2]
        walk_at "rd"
        refine if_no (by rw [decide_eq_true rfl]; rfl) ?_
        walk_at "rd"
        exact q _ sm
    ) only [↓lt_eq]
theorem ok_coded_frame {f : Addr} {fd : FuncData} {f_split_levels : Addr} {fd_split_levels : FuncData} {f_quantized : Addr} {fd_quantized : FuncData} {f_write_numbers : Addr} {fd_write_numbers : FuncData} {f_coarse_count : Addr} {fd_coarse_count : FuncData} {f_mark_of : Addr} {fd_mark_of : FuncData}    (D : Dn K mg "coded_frame" s_coded_frame ["values", "layout", "tables"] f fd) (bi : Bi mg) (G_split_levels : FnOk P w K mg base CX0 4 f_split_levels fd_split_levels ["values", "levels"] spSplit) (D_split_levels : Dn K mg "split_levels" s_split_levels ["values", "levels"] f_split_levels fd_split_levels) (G_quantized : FnOk P w K mg base CX0 4 f_quantized fd_quantized ["value", "step"] spQuant) (D_quantized : Dn K mg "quantized" s_quantized ["value", "step"] f_quantized fd_quantized) (G_write_numbers : FnOk P w K mg base CX0 6 f_write_numbers fd_write_numbers ["numbers", "coarse", "tables"] (spWr K)) (D_write_numbers : Dn K mg "write_numbers" s_write_numbers ["numbers", "coarse", "tables"] f_write_numbers fd_write_numbers) (G_coarse_count : FnOk P w K mg base CX0 4 f_coarse_count fd_coarse_count ["length", "levels"] spCoarse) (D_coarse_count : Dn K mg "coarse_count" s_coarse_count ["length", "levels"] f_coarse_count fd_coarse_count) (G_mark_of : FnOk P w K mg base CX0 4 f_mark_of fd_mark_of ["numbers"] spMark) (D_mark_of : Dn K mg "mark_of" s_mark_of ["numbers"] f_mark_of fd_mark_of)    : FnOk P w K mg base CX0 7 f fd ["values", "layout", "tables"] (spCdF K) := by
  refine lt_out ?_
  simp (disch := with_unfolding_all
    refine D.F.ok sc_coded_frame (fun vs H Q E h => ?_) (fun cdv A outer s H vs Q E hr h => ?_)
    · obtain ⟨a, h, j, b, xs, d, T, rfl, _⟩ := h
      rfl
    · obtain ⟨a, h, j, b, xs, d, T, rfl, e1, hh, ok, hl, hn, hT, tk, q⟩ := h
      refine ⟨_, (pss_cons (ps_asg (pv 1) (pg_tup rfl (pgs_cons (pg_name (i := 3) sc_coded_frame.nd rfl (Or.inl rfl)) (pgs_cons (pg_name (i := 4) sc_coded_frame.nd rfl (Or.inl rfl)) (pgs_cons (pg_name (i := 5) sc_coded_frame.nd rfl (Or.inl rfl)) (pgs_cons (pg_name (i := 6) sc_coded_frame.nd rfl (Or.inr rfl)) pgs_nil))))))
   (pss_cons (ps_setLc (i := 7) (own := [("value", 8)]) (g := gName 8) (tt := tYes) rfl sc_coded_frame.nd rfl rfl (sw_true rfl rfl rfl (by decide +kernel)) (pi_list (pe_call G_split_levels (hr.mono (by first | decide | exact Nat.le_refl _)) (by rfl) D_split_levels.g D_split_levels.F.kp D_split_levels.b .nil pass0 (pa_cons (pv 0) (pa_cons (pv 5) pa_nil)))) (blkOk_by (N := ["values", "layout", "tables", "length", "joint", "levels", "step", "numbers", "value", "bits", "behind"]) (sc := defScope s_coded_frame) (by decide +kernel)) (fun _ _ _ _ _ => pg_name (i := 8) sc_coded_frame.nd rfl (Or.inl rfl)) (fun _ _ _ _ _ => pts_nil) (fun _ _ _ _ _ => (pe_call G_quantized (hr.mono (by first | decide | exact Nat.le_refl _)) (by rfl) D_quantized.g D_quantized.F.kp D_quantized.b .nil pass0 (pa_cons (pv 8) (pa_cons (pv 6) pa_nil)))))
   (pss_cons (ps_asg (pe_call G_write_numbers (hr.mono (by first | decide | exact Nat.le_refl _)) (by rfl) D_write_numbers.g D_write_numbers.F.kp D_write_numbers.b .nil pass0 (pa_cons (pv 7) (pa_cons (pe_call G_coarse_count (hr.mono (by first | decide | exact Nat.le_refl _)) (by rfl) D_coarse_count.g D_coarse_count.F.kp D_coarse_count.b .nil pass0 (pa_cons (pv 3) (pa_cons (pv 5) pa_nil))) (pa_cons (pv 2) pa_nil)))) (pg_tup rfl (pgs_cons (pg_name (i := 9) sc_coded_frame.nd rfl (Or.inl rfl)) (pgs_cons (pg_name (i := 10) sc_coded_frame.nd rfl (Or.inl rfl)) pgs_nil))))
   (pss_one (ps_ret (pe_tup (pa_cons (pe_tup (pa_cons pe_str (pa_cons (pv 3) (pa_cons (pv 4) (pa_cons (pv 5) (pa_cons (pv 6) (pa_cons (pe_call G_mark_of (hr.mono (by first | decide | exact Nat.le_refl _)) (by rfl) D_mark_of.g D_mark_of.F.kp D_mark_of.b .nil pass0 (pa_cons (pv 7) pa_nil)) (pa_cons (pv 9) pa_nil)))))))) (pa_cons (pv 10) pa_nil)))))))), ?_⟩
      refine rd_start (σ := [some (.ref a), some (.ref h), some (.ref b), none, none, none, none, none, none, none, none]) rfl ?_
      obtain ⟨h1, hj⟩ := hh
      walk_at "rd"
      obtain ⟨o1, o2, o3, o4, o5, o6, o7, o8⟩ := ok
      walk_at "rd"
      rename_i S H1 hS s1 eS
      rw [Int.toNat_natCast] at eS
      refine ⟨S, rfl, ⟨_, SqL.of eS⟩, fun D hD => ?_⟩
      have sl := splitL_length xs d.2.2.2.1
      refine lc_mapM (fun v => (2 * v + (d.2.2.2.2 : Int)) / (2 * (d.2.2.2.2 : Int))) (SqL.of eS) (by omega) (fun _ => rfl) hD (fun z hz H2 Q' hs hq => ?_) fun H2 s2 eD => ?_
      · walk_at "rd"
        exact hq
      have eD : H2 D = some (.lst ((nsQ d xs).map V.int)) := eD
      have nl := nsQ_len d xs
      have s12 := s1.trans s2
      have c1 := cc_n d.1 d.2.2.2.1
      walk_at "rd"
      refine use_coarse (n := d.1) (k := d.2.2.2.1) o1 o2 o6 ?_
      walk_at "rd"
      refine use_wr (first := cc d.1 d.2.2.2.1) eD (by omega) (by omega) (fun z hz => Nat.lt_of_le_of_lt (hn z hz) (by decide)) (hT.lk (.of s12)) (tk.1.up (by decide)) (tk.2.up (by decide)) fun p q' H3 s3 hp3 ep3 hq3 => ?_
      have eD3 := s3 _ _ eD
      have hln : (nsQ d xs).length ≤ 64 := by omega
      walk_at "rd"
      rename_i H4 s4 r5 hr5 p6 hp6
      have s14 := s12.trans (s3.trans s4)
      have s5 := same_new (o := .tup [.str (Str.ofString "frame"), .int (d.1 : Nat), .ref j, .int (d.2.2.2.1 : Nat), .int (d.2.2.2.2 : Nat), .int (markF (nsQ d xs)), .str (SX.S (wst (nsQ d xs) (cc d.1 d.2.2.2.1) T (nsQ d xs).length).1.flatten)]) hr5
      have s6 := s14.trans s5
      refine q p6 r5 q' _ (s6.trans (same_new hp6)) (s6.free hp6) upd_same (look_new hp6 upd_same) ?_
      exact hq3.lk (.of ((s4.trans s5).trans (same_new hp6)))
    ) only [↓lt_eq]
theorem ok_coded_records {f : Addr} {fd : FuncData} {f_folded : Addr} {fd_folded : FuncData} {f_placed_joints : Addr} {fd_placed_joints : FuncData} {f_coded_frame : Addr} {fd_coded_frame : FuncData}    (D : Dn K mg "coded_records" s_coded_records ["sound", "plan", "states"] f fd) (bi : Bi mg) (G_folded : FnOk P w K mg base CX0 7 f_folded fd_folded ["values", "joints"] (spFolds foldP)) (D_folded : Dn K mg "folded" s_folded ["values", "joints"] f_folded fd_folded) (G_placed_joints : FnOk P w K mg base CX0 1 f_placed_joints fd_placed_joints ["lengths", "joints"] spPlcd) (D_placed_joints : Dn K mg "placed_joints" s_placed_joints ["lengths", "joints"] f_placed_joints fd_placed_joints) (G_coded_frame : FnOk P w K mg base CX0 7 f_coded_frame fd_coded_frame ["values", "layout", "tables"] (spCdF K)) (D_coded_frame : Dn K mg "coded_frame" s_coded_frame ["values", "layout", "tables"] f_coded_frame fd_coded_frame)   {a_START t0 t1 a_HARD : Addr} (g_START : mg "START" = some (.ref a_START)) (hSt : ∀ H, TupV K H a_START [.ref t0, .ref t1]) (hS0 : ∀ H, TupV K H t0 [.int 2, .int 1]) (hS1 : ∀ H, TupV K H t1 [.int 2, .int 1]) (g_HARD : mg "HARD" = some (.ref a_HARD)) (hHd : ∀ H, TupV K H a_HARD [.int 0, .int 0]) : FnOk P w K mg base CX0 8 f fd ["sound", "plan", "states"] (spCdR K) := by
  refine lt_out ?_
  simp (disch := with_unfolding_all
    refine D.F.ok sc_coded_records (fun vs H Q E h => ?_) (fun cdv A outer s H vs Q E hr h => ?_)
    · obtain ⟨a, b, xs, refs, hs, g, Te, rfl, _⟩ := h
      rfl
    · obtain ⟨a, b, xs, refs, hs, g, Te, rfl, e1, e2, hh, hc, hl, ht, hr2, hv, q⟩ := h
      refine ⟨_, (pss_cons (ps_setLc (i := 3) (own := [("item", 4)]) (g := gName 4) (tt := tYes) rfl sc_coded_records.nd rfl rfl (sw_true rfl rfl rfl (by decide +kernel)) (pi_list (pv 1)) (blkOk_by (N := ["sound", "plan", "states", "lengths", "item", "values", "records", "tables", "start", "frame", "layout", "end", "record"]) (sc := defScope s_coded_records) (by decide +kernel)) (fun _ _ _ _ _ => pg_name (i := 4) sc_coded_records.nd rfl (Or.inl rfl)) (fun _ _ _ _ _ => pts_nil) (fun _ _ _ _ _ => (pe_ix (show IxR _ (rIxT K) from ix_tup) (pv 4) pe_int (fun _ _ => rfl))))
   (pss_cons (ps_set (i := 5) sc_coded_records.nd rfl (Or.inl rfl) (pe_call G_folded (hr.mono (by first | decide | exact Nat.le_refl _)) (by rfl) D_folded.g D_folded.F.kp D_folded.b .nil pass0 (pa_cons (pv 0) (pa_cons (pe_call G_placed_joints (hr.mono (by first | decide | exact Nat.le_refl _)) (by rfl) D_placed_joints.g D_placed_joints.F.kp D_placed_joints.b .nil pass0 (pa_cons (pv 3) (pa_cons (pe_lc (own := [("item", 4)]) (g := gName 4) (tt := tYes) rfl sc_coded_records.nd (pi_list (pv 1)) (blkOk_by (N := ["sound", "plan", "states", "lengths", "item", "values", "records", "tables", "start", "frame", "layout", "end", "record"]) (sc := defScope s_coded_records) (by decide +kernel)) (fun _ _ _ _ _ => pg_name (i := 4) sc_coded_records.nd rfl (Or.inl rfl)) (fun _ _ _ _ _ => pts_nil) (fun _ _ _ _ _ => (pe_ix (show IxR _ (rIxT K) from ix_tup) (pv 4) pe_int (fun _ _ => rfl)))) pa_nil))) pa_nil))))
   (pss_cons (ps_set (i := 6) sc_coded_records.nd rfl (Or.inl rfl) (pe_lst pa_nil))
   (pss_cons (ps_par (i := 7) (j := 8) rfl sc_coded_records.nd rfl rfl (by decide) rfl rfl (pa_cons (pe_glob (v := .ref a_START) (by rfl) g_START rfl) (pa_cons pe_int pa_nil)) rfl)
   (pss_cons (ps_for PassesOwn.never rfl (pi_enum (by rfl) bi.enumerate_ (pa_cons (pv 1) pa_nil)) (pg_tup rfl (pgs_cons (pg_name (i := 9) sc_coded_records.nd rfl (Or.inl rfl)) (pgs_cons (pg_name (i := 10) sc_coded_records.nd rfl (Or.inl rfl)) pgs_nil)))
   (C8.pss_cut (ps_if (PW.pt (pw_and (pt_cmpR op_gt (pv 2) pe_int (nomark _)) (pw_and (pt_cmpR op_gt (pv 9) pe_int (nomark _)) (pw_and1 (pt_cmpR op_eq (pe_op op_mod (pv 9) (pv 2)) pe_int (nomark _))))))
   (pss_one (ps_expr (pe_bm PySem.F.plainAttrs_list PySem.F.slot_list_append PySem.F.type_list_append mt_append (pv 6) (pa_cons (pe_tup (pa_cons pe_str (pa_cons (pv 7) pa_nil))) pa_nil))))
   pss_nil)
   (pss_cons (ps_set (i := 11) sc_coded_records.nd rfl (Or.inl rfl) (pe_op op_add (pv 8) (pe_ix ix_tup (pv 10) pe_int (fun _ _ => rfl))))
   (pss_cons (ps_asg (pe_call G_coded_frame (hr.mono (by first | decide | exact Nat.le_refl _)) (by rfl) D_coded_frame.g D_coded_frame.F.kp D_coded_frame.b .nil pass0 (pa_cons (pe_slice sl_list (pv 5) (po_some (pv 8)) (po_some (pv 11))) (pa_cons (pv 10) (pa_cons (pv 7) pa_nil)))) (pg_tup rfl (pgs_cons (pg_name (i := 12) sc_coded_records.nd rfl (Or.inl rfl)) (pgs_cons (pg_name (i := 7) sc_coded_records.nd rfl (Or.inl rfl)) pgs_nil))))
   (pss_cons (ps_expr (pe_bm PySem.F.plainAttrs_list PySem.F.slot_list_append PySem.F.type_list_append mt_append (pv 6) (pa_cons (pv 12) pa_nil)))
   (pss_one (ps_set (i := 8) sc_coded_records.nd rfl (Or.inl rfl) (pv 11))))))))
   (pss_one (ps_ret (pv 6)))))))), ?_⟩
      refine rd_start (σ := [some (.ref a), some (.ref b), some (.int (g : Nat)), none, none, none, none, none, none, none, none, none, none]) rfl ?_
      walk_at "rd"
      refine ⟨b, rfl, ⟨_, SqL.of e2⟩, fun D hD => ?_⟩
      have hln := hh.len
      refine lc_ofG (fun v d => ∃ h j, v = .ref h ∧ HdAt H h j d) (fun d => V.int (d.1 : Nat)) hh (SqL.of e2) (by omega) hD (fun v d H2 Q' hm hv2 hs2 hq => ?_) fun H1 s1 eD => ?_
      · obtain ⟨h, j, rfl, h1, h2⟩ := hv2
        have h1 := hs2 _ _ h1
        refine rd_gname ⟨rfl, ?_⟩
        walk_at "rd"
        exact hq _ (Same.refl _)
      walk_at "rd"
      refine ⟨b, rfl, ⟨_, SqL.of (s1 _ _ e2)⟩, fun D2 hD2 => ?_⟩
      obtain ⟨js, hj1, hj2⟩ := hds_js hh
      refine lc_ofG (fun v u => ∃ a j l x y, v = .ref a ∧ H a = some (.tup [l, .ref j, x, y]) ∧ u = V.ref j) id hj1 (SqL.of (s1 _ _ e2)) (by omega) hD2 (fun v u H2 Q' hm hv2 hs2 hq => ?_) fun H2 s2 eD2 => ?_
      · obtain ⟨h, j, l', x', y', rfl, h1, rfl⟩ := hv2
        have h1 := hs2 _ _ (s1 _ _ h1)
        refine rd_gname ⟨rfl, ?_⟩
        walk_at "rd"
        exact hq _ (Same.refl _)
      rw [List.map_id] at eD2
      have s12 := s1.trans s2
      walk_at "rd"
      refine use_plcd (fs := hs.map hdW) (by rw [List.map_map]; exact s2 _ _ eD) eD2 (hj2.same s12) (by rw [List.length_map]; omega) fun PJ ps H3 hP s3 eP hps => ?_
      have s13 := s12.trans s3
      walk_at "rd"
      refine use_folds (s13 _ _ e1) eP hps (plH_rm hc hl) (by omega) fun F H4 hF s4 eF => ?_
      have s14 := s13.trans s4
      have fl : (turnL foldP xs (plH hs)).length = totH hs := by rw [turnL_length, hl]
      have eF : H4 F = some (.lst ((turnL foldP xs (plH hs)).map V.int)) := eF
      walk_at "rd"
      rename_i R hR
      have s15 := s14.trans (same_new (o := .lst []) hR)
      have nFR : F ≠ R := ne_of_none eF hR
      have hHR : H R = none := s14.free hR
      refine rd_lpE (SqL.of (s15 _ _ e2)) ?_
      refine for_enum (xs := refs) (fun i σ H' => ∃ ws dn t T x9 x10 x11 x12, σ = [some (.ref a), some (.ref b), some (.int (g : Nat)), some (.ref D), none, some (.ref F), some (.ref R), some (.ref t), some (.int (totH (hs.take i) : Nat)), x9, x10, x11, x12] ∧ H' F = some (.lst ((turnL foldP xs (plH hs)).map V.int)) ∧ EI K R H H' g hs xs Te i ws dn t T) ⟨[], [], a_START, T0, none, none, none, none, rfl, look_new hR eF, upd_same, .nil, ⟨t0, t1, hSt _, hS0 _, hS1 _⟩, Nat.zero_le _, rfl, ⟨0, hv⟩, s15⟩ (fun i σ H5 _ hI => ?_) (fun i v σ H5 W hv2 hI hW => ?_) (fun σ H5 hI => ?_)
      · obtain ⟨ws, dn, t, T, x9, x10, x11, x12, rfl, eF, hI⟩ := hI
        exact SqL.of (hI.sm _ _ e2)
      · obtain ⟨ws, dn, t, T, x9, x10, x11, x12, rfl, eF, hI⟩ := hI
        have hil := (List.getElem?_eq_some_iff.mp hv2).1
        obtain ⟨d, ed, h, j, rfl, hd⟩ := hh.at2 hv2
        have hil2 := (List.getElem?_eq_some_iff.mp ed).1
        have edr : hs.drop i = d :: hs.drop (i + 1) := by rw [List.drop_eq_getElem_cons hil2, (List.getElem?_eq_some_iff.mp ed).2]
        have et := totH_take ed
        have tle := totH_le hs (i + 1)
        have eF := look_new (o := .tup [.int (i : Nat), .ref h]) hW eF
        have hI := hI.same (same_new (o := .tup [.int (i : Nat), .ref h]) hW)
        generalize hV : turnL foldP xs (plH hs) = VV at eF fl hI
        obtain ⟨eR, rc, tb, le, sp, ⟨l, vd⟩, sm⟩ := hI
        rw [hV, edr] at sp vd
        have hd0 := hd
        have hd := hd.lk (.of sm)
        walk_at "rd"
        refine rd_cut (fun σ H' => σ = [some (.ref a), some (.ref b), some (.int (g : Nat)), some (.ref D), none, some (.ref F), some (.ref R), some (.ref t), some (.int (totH (hs.take i) : Nat)), some (.int (i : Nat)), some (.ref h), x11, x12] ∧ H' F = some (.lst (VV.map V.int)) ∧ ∃ ws', H' R = some (.lst ws') ∧ RcsAt K H' ws' (dn ++ if stB g i = true then [.st T] else []) ∧ TbsV K H' t T ∧ ws'.length ≤ 2 * i + 1 ∧ Same H H') ?_ fun σ' H6 hM => ?_
        · walk_at "rd"
          refine rd_iteD (fun c1 => ?_) (fun c1 => ?_)
          · walk_at "rd"
            refine rd_iteD (fun c2 => ?_) (fun c2 => ?_)
            · walk_at "rd"
              refine rd_iteD (fun c3 => ?_) (fun c3 => ?_)
              · have c3 := V.int.inj c3
                walk_at "rd"
                rename_i q5 hq5
                have eR5 := look_new (o := .tup [.str (Str.ofString "state"), .ref t]) hq5 eR
                refine rd_appG eR5 (by omega) ?_
                walk_at "rd"
                have es := stB_yes (g := g) (i := i) (by omega) (by omega) c3
                have lk5 := (LK.new (o := .tup [.str (Str.ofString "state"), .ref t]) hq5).trans (LK.at (o := .lst (ws ++ [.ref q5])) eR5)
                refine ⟨rfl, ?_, ws ++ [.ref q5], upd_same, ?_, tb.lk lk5, by rw [List.length_append]; exact Nat.succ_le_succ le, fun c o e => by rw [upd_ne (ne_of_none e hHR)]; exact look_new hq5 (sm _ _ e)⟩
                · rw [upd_ne nFR]
                  exact look_new hq5 eF
                · rw [es, if_pos rfl]
                  exact All2.app (rc.lk lk5) ⟨q5, t, rfl, by rw [upd_ne (ne_of_none eR hq5).symm]; exact upd_same, tb.lk lk5⟩
              · have c3 : ¬ ((i : Int) % (g : Int) = 0) := fun z => c3 (by rw [z])
                walk_at "rd"
                have es := stB_no (g := g) (i := i) (fun z => c3 z.2.2)
                refine ⟨rfl, eF, ws, eR, ?_, tb, by omega, sm⟩
                rw [es, if_neg Bool.false_ne_true, List.append_nil]
                exact rc
            · -- the first frame
              walk_at "rd"
              have es := stB_no (g := g) (i := i) (fun z => c2 (by omega))
              refine ⟨rfl, eF, ws, eR, ?_, tb, by omega, sm⟩
              rw [es, if_neg Bool.false_ne_true, List.append_nil]
              exact rc
          · -- no states
            walk_at "rd"
            have es := stB_no (g := g) (i := i) (fun z => c1 (by omega))
            refine ⟨rfl, eF, ws, eR, ?_, tb, by omega, sm⟩
            rw [es, if_neg Bool.false_ne_true, List.append_nil]
            exact rc
        obtain ⟨rfl, eF, ws', eR, rc, tb, le, sm⟩ := hM
        have hd := hd0.lk (.of sm)
        obtain ⟨hd1, hd2⟩ := id hd
        have en : encR g i T (d :: hs.drop (i + 1)) (VV.drop (totH (hs.take i))) = (if stB g i = true then [Rc.st T] else []) ++ .fr d (nsQ d ((VV.drop (totH (hs.take i))).take d.1)) T :: encR g (i + 1) (nextF d (nsQ d ((VV.drop (totH (hs.take i))).take d.1)) T) (hs.drop (i + 1)) (VV.drop (totH (hs.take (i + 1)))) := by
          rw [show VV.drop (totH (hs.take (i + 1))) = (VV.drop (totH (hs.take i))).drop d.1 by rw [et, List.drop_drop]]
          rfl
        rw [en] at sp vd
        generalize hvs : (VV.drop (totH (hs.take i))).take d.1 = vs at sp vd
        have hvl : vs.length = d.1 := by rw [← hvs, List.length_take, List.length_drop]; omega
        obtain ⟨l2, vd2⟩ : ∃ l2, Vd T l2 (.fr d (nsQ d vs) T :: encR g (i + 1) (nextF d (nsQ d vs) T) (hs.drop (i + 1)) (VV.drop (totH (hs.take (i + 1))))) Te 0 := by
          cases c : stB g i with
          | true => rw [c, if_pos rfl] at vd; exact ⟨l, vd.2⟩
          | false => rw [c, if_neg Bool.false_ne_true] at vd; exact ⟨l, vd⟩
        obtain ⟨_, ok, hw2, hnl, hnb, tk, vd3⟩ := vd2
        walk_at "rd"
        refine rd_slM (j := totH (hs.take i)) (k := totH (hs.take i) + d.1) (SqL.of eF) (by omega) (by omega) fun S hS => ?_
        rw [show totH (hs.take i) + d.1 - totH (hs.take i) = d.1 by omega, hvs]
        have s7 := same_new (o := .lst (vs.map V.int)) hS
        walk_at "rd"
        refine use_cdF upd_same (hd.lk (.of s7)) ok hvl hnb (tb.lk (.of s7)) tk fun p r q' H7 s8 hp7 ep7 fr7 hq7 => ?_
        have s78 := s7.trans s8
        walk_at "rd"
        have eR7 := s78 _ _ eR
        refine rd_appG eR7 (by omega) ?_
        walk_at "rd"
        have lk9 := LK.at (o := .lst (ws' ++ [.ref r])) eR7
        refine ⟨ws' ++ [.ref r], (dn ++ if stB g i = true then [.st T] else []) ++ [.fr d (nsQ d vs) T], q', nextF d (nsQ d vs) T, some (.int (i : Nat)), some (.ref h), some (.int (((totH (hs.take i) : Nat) : Int) + (d.1 : Nat))), some (.ref r), ?_, ?_, ?_⟩
        · rw [et, show ((totH (hs.take i) + d.1 : Nat) : Int) = ((totH (hs.take i) : Nat) : Int) + (d.1 : Nat) by omega]
          rfl
        · rw [upd_ne nFR]
          exact s78 _ _ eF
        · exact { eR := upd_same, rc := (rc.lk ((LK.of s78).trans lk9)).app ⟨r, j, rfl, lk9 _ _ fr7 (fun _ z => nomatch z), lk9 _ _ (s78 _ _ hd2) (fun _ z => nomatch z)⟩
                  tb := hq7.lk lk9, le := by rw [List.length_append]; simp; omega
                  sp := by rw [sp, hV, List.append_assoc (dn ++ _), List.append_assoc]; rfl
                  vd := by rw [hV]; exact ⟨_, vd3⟩
                  sm := fun c o e => by rw [upd_ne (ne_of_none e hHR)]; exact s78 _ _ (sm _ _ e) }
      · obtain ⟨ws, dn, t, T, x9, x10, x11, x12, rfl, eF, hI⟩ := hI
        walk_at "rd"
        have sp := hI.sp
        rw [hln, List.drop_length] at sp
        have sp : encA g hs xs = dn ++ [] := sp
        rw [List.append_nil] at sp
        exact q R ws _ hHR hI.sm hI.eR (by rw [sp]; exact hI.rc)
    ) only [↓lt_eq]
theorem ok_encode {f : Addr} {fd : FuncData} {f_check_sound : Addr} {fd_check_sound : FuncData} {f_check_plan : Addr} {fd_check_plan : FuncData} {f_check_within : Addr} {fd_check_within : FuncData} {f_coded_records : Addr} {fd_coded_records : FuncData} {f_Stream___init__ : Addr} {fd_Stream___init__ : FuncData} {C_Stream : Addr}   (D : Kn K mg "encode" s_encode ["sound", "plan", "states"] 2 ["states"] [.int 0] f fd) (bi : Bi mg) (G_check_sound : FnOk P w K mg base CX0 3 f_check_sound fd_check_sound ["values"] spSound) (D_check_sound : Dn K mg "check_sound" s_check_sound ["values"] f_check_sound fd_check_sound) (G_check_plan : FnOk P w K mg base CX0 5 f_check_plan fd_check_plan ["plan", "length"] (spCkPl K)) (D_check_plan : Dn K mg "check_plan" s_check_plan ["plan", "length"] f_check_plan fd_check_plan) (G_check_within : FnOk P w K mg base CX0 3 f_check_within fd_check_within ["value", "low", "high"] spCkW) (D_check_within : Dn K mg "check_within" s_check_within ["value", "low", "high"] f_check_within fd_check_within) (G_coded_records : FnOk P w K mg base CX0 8 f_coded_records fd_coded_records ["sound", "plan", "states"] (spCdR K)) (D_coded_records : Dn K mg "coded_records" s_coded_records ["sound", "plan", "states"] f_coded_records fd_coded_records) (G_Stream___init__ : FnOk P w K mg base CX0 9 f_Stream___init__ fd_Stream___init__ ["self", "records"] (spInitN K C_Stream)) (D_Stream___init__ : Mn K C_Stream "__init__" "Stream.__init__" s_Stream___init__ ["self", "records"] f_Stream___init__ fd_Stream___init__) (TC_Stream : StmC K mg C_Stream)  (g_STATES_LIMIT : ∃ t, mg "STATES_LIMIT" = some (.int 1000 t)) : FnOk P w K mg base CX0 11 f fd ["sound", "plan", "states"] (spEncN K C_Stream) := by
  refine lt_out ?_
  simp (disch := with_unfolding_all
    refine D.F.ok sc_encode (fun vs H Q E h => ?_) (fun cdv A outer s H vs Q E hr h => ?_)
    · obtain ⟨a, b, xs, refs, hs, g, Te, rfl, _⟩ := h
      rfl
    · obtain ⟨a, b, xs, refs, hs, g, Te, rfl, e1, e2, hh, hc, hl, ht, hr2, hg, hv, q⟩ := h
      obtain ⟨t64, g_STATES_LIMIT⟩ := g_STATES_LIMIT
      refine ⟨_, (pss_cons (ps_expr (pe_call G_check_sound (hr.mono (by first | decide | exact Nat.le_refl _)) (by rfl) D_check_sound.g D_check_sound.F.kp D_check_sound.b .nil pass0 (pa_cons (pv 0) pa_nil)))
   (pss_cons (ps_expr (pe_call G_check_plan (hr.mono (by first | decide | exact Nat.le_refl _)) (by rfl) D_check_plan.g D_check_plan.F.kp D_check_plan.b .nil pass0 (pa_cons (pv 1) (pa_cons (pe_callB cLen (by rfl) bi.len_ (by decide +kernel) (pa_cons (pv 0) pa_nil)) pa_nil))))
   (pss_cons (ps_expr (pe_call G_check_within (hr.mono (by first | decide | exact Nat.le_refl _)) (by rfl) D_check_within.g D_check_within.F.kp D_check_within.b .nil pass0 (pa_cons (pv 2) (pa_cons pe_int (pa_cons (pe_glob (v := .int 1000) (by rfl) g_STATES_LIMIT ⟨_, rfl⟩) pa_nil)))))
   (pss_one (ps_ret (pe_make ⟨TC_Stream.mks, D_Stream___init__.m.at_, D_Stream___init__.m.fn, TC_Stream.kc⟩ G_Stream___init__ (hr.mono (by first | decide | exact Nat.le_refl _)) (by rfl) TC_Stream.g D_Stream___init__.b .nil pass0 (pa_cons (pe_call G_coded_records (hr.mono (by first | decide | exact Nat.le_refl _)) (by rfl) D_coded_records.g D_coded_records.F.kp D_coded_records.b .nil pass0 (pa_cons (pv 0) (pa_cons (pv 1) (pa_cons (pv 2) pa_nil)))) pa_nil))))))), ?_⟩
      refine rd_start (σ := [some (.ref a), some (.ref b), some (.int (g : Nat))]) rfl ?_
      walk_at "rd"
      rename_i H1 s1
      have e1' := s1 _ _ e1
      walk_at "rd"
      rw [List.length_map]
      refine use_ckpl (s1 _ _ e2) (hh.lk (.of s1)) hc hl.symm fun H2 s2 => ?_
      have s12 := s1.trans s2
      walk_at "rd"
      refine rd_mk ?_
      walk_at "rd"
      refine use_cdR (s12 _ _ e1) (s12 _ _ e2) (hh.lk (.of s12)) hc hl ht hr2 hv fun D ws H3 hD s3 eD hR => ?_
      refine rd_nil ?_
      intro x dx hx hdx hne
      have s13 := s12.trans s3
      have sx : Same H3 (upd (upd H3 dx (.own x)) x (.ins C_Stream dx [])) := fun b u e => by
        rw [upd_ne (ne_of_none e hx), upd_ne (ne_of_none e hdx)]
        exact e
      have l1 := hR.len
      have l2 : (encA g hs xs).length ≤ 2 * hs.length := encR_len g hs 0 T0 _
      have l3 := hh.len
      refine use_initN upd_same (sx _ _ eD) (by omega) (hR.lk (.of sx)) hv fun H4 hS4 hK4 => ⟨rfl, ?_⟩
      exact q x ws H4 (s13.free hx) (fun b o e => hK4 b o (ne_of_none (s13 _ _ e) hx) (sx _ _ (s13 _ _ e))) (hS4.back (s13.trans sx))
    ) only [↓lt_eq]
theorem ok_Stream_contents {f : Addr} {fd : FuncData} {f_Stream_part_of : Addr} {fd_Stream_part_of : FuncData} {f_block_values : Addr} {fd_block_values : FuncData} {C_Stream : Addr}   (D : Mn K C_Stream "contents" "Stream.contents" s_Stream_contents ["self", "frame"] f fd) (bi : Bi mg) (G_Stream_part_of : FnOk P w K mg base CX0 3 f_Stream_part_of fd_Stream_part_of ["self", "frame", "part"] (spPart K C_Stream)) (D_Stream_part_of : Mn K C_Stream "part_of" "Stream.part_of" s_Stream_part_of ["self", "frame", "part"] f_Stream_part_of fd_Stream_part_of) (G_block_values : FnOk P w K mg base CX0 6 f_block_values fd_block_values ["numbers", "levels", "step"] spBlkV) (D_block_values : Dn K mg "block_values" s_block_values ["numbers", "levels", "step"] f_block_values fd_block_values) (TC_Stream : StmC K mg C_Stream)   : FnOk P w K mg base CX0 7 f fd ["self", "frame"] (spCont K C_Stream) := by
  refine lt_out ?_
  simp (disch := with_unfolding_all
    refine D.F.ok sc_Stream_contents (fun vs H Q E h => ?_) (fun cdv A outer s H vs Q E hr h => ?_)
    · obtain ⟨x, refs, rs, n, f, rfl, _⟩ := h
      rfl
    · obtain ⟨x, refs, rs, n, f, rfl, hS, hf, q⟩ := h
      refine ⟨_, (pss_cons (ps_set (i := 2) sc_Stream_contents.nd rfl (Or.inl rfl) (pe_meth (pv 0) TC_Stream.cl D_Stream_part_of.m G_Stream_part_of (hr.mono (by first | decide | exact Nat.le_refl _)) D_Stream_part_of.b .nil pass0 (pa_cons (pv 1) (pa_cons pe_int pa_nil))))
   (pss_cons (ps_asg (pe_slice sl_tup (pe_ix ix_list (pe_fld (pv 0) rfl) (pe_ix ix_tup (pe_ix ix_tup (pe_ix ix_list (pe_fld (pv 0) rfl) (pv 1) (fun _ _ => rfl)) pe_int (fun _ _ => rfl)) pe_int (fun _ _ => rfl)) (fun _ _ => rfl)) (po_some pe_int) (po_some pe_int)) (pg_tup rfl (pgs_cons (pg_name (i := 3) sc_Stream_contents.nd rfl (Or.inl rfl)) (pgs_cons (pg_name (i := 4) sc_Stream_contents.nd rfl (Or.inl rfl)) pgs_nil))))
   (pss_one (ps_ret (pe_call G_block_values (hr.mono (by first | decide | exact Nat.le_refl _)) (by rfl) D_block_values.g D_block_values.F.kp D_block_values.b .nil pass0 (pa_cons (pv 2) (pa_cons (pv 3) (pa_cons (pv 4) pa_nil)))))))), ?_⟩
      refine rd_start (σ := [some (.ref x), some (.int (n : Nat)), none, none, none]) rfl ?_
      walk_at "rd"
      refine rd_methS hS rfl (by decide +kernel) (by decide +kernel) ?_
      walk_at "rd"
      refine use_part 1 rfl hS hf (by decide) fun b m t q2 v h1 h2 h3 h4 h5 => ?_
      cases h5
      obtain ⟨dx, L, F, fms, Te, g1, g2, g3, g4, g5, g6, g7⟩ := id hS
      walk_at "rd"
      refine rd_heldV TC_Stream g1 rfl ?_
      walk_at "rd"
      refine rd_readV TC_Stream g1 rfl ?_
      have hn := (List.getElem?_eq_some_iff.mp hf).1
      have hln := g7.len
      obtain ⟨v, hv⟩ : ∃ v, fms[n]? = some v := ⟨fms[n]'(by omega), List.getElem?_eq_getElem (by omega)⟩
      obtain ⟨f', ef', a', b', jl', j', m', t', q', rfl, k1, k2, k3, k4, k5, k6, k7, k8⟩ := g7.at2 hv
      rw [hf] at ef'
      cases ef'
      obtain ⟨k, hk1, hk2⟩ := frR_at rs 0 0 (0, 0) f (List.mem_of_getElem? hf)
      have hrl := g4.len
      obtain ⟨u, hu⟩ : ∃ u, refs[k]? = some u := ⟨refs[k]'(by have := (List.getElem?_eq_some_iff.mp hk2).1; omega), List.getElem?_eq_getElem _⟩
      obtain ⟨r', er', hr'⟩ := g4.at2 hu
      rw [hk2] at er'
      cases er'
      obtain ⟨ra, rj, rfl, fr, frj⟩ := hr'
      unfold FrAt at fr
      have ok := g5.ok _ (List.mem_of_getElem? hk2)
      obtain ⟨ok1, ok2, ok3, ok4⟩ := ok
      walk_at "rd"
      refine rd_ixL (SqL.of g6) (atI_nat hv) ?_
      walk_at "rd"
      refine rd_ixL (SqL.of g2) (atI_nat (by rw [hk1, Nat.zero_add]; exact hu)) ?_
      walk_at "rd"
      refine rd_slTp (SqT.of fr) (ys := [.int (f.2.2.1.2.2.2.1 : Nat), .int (f.2.2.1.2.2.2.2 : Nat)]) rfl (show ¬ (HT.sIx 7 0 (some 3) = 0 ∧ HT.sIx 7 7 (some 5) = 7) by decide) fun p1 hp1 => ?_
      have s1 := same_new (o := .tup [.int (f.2.2.1.2.2.2.1 : Nat), .int (f.2.2.1.2.2.2.2 : Nat)]) hp1
      walk_at "rd"
      obtain ⟨o1, o2, o3, o4, o5, o6, o7, o8⟩ := ok1
      refine use_blkV (s1 _ _ h2) (by omega) (by omega) o6 o8 fun D H' hD hs eD => ?_
      exact q D H' (s1.free hD) (s1.trans hs) eD
    ) only [↓lt_eq]
theorem ok_Stream_sound {f : Addr} {fd : FuncData} {f_Stream_contents : Addr} {fd_Stream_contents : FuncData} {f_unfolded_blocks : Addr} {fd_unfolded_blocks : FuncData} {C_Stream : Addr}   (D : Mn K C_Stream "sound" "Stream.sound" s_Stream_sound ["self"] f fd) (bi : Bi mg) (G_Stream_contents : FnOk P w K mg base CX0 7 f_Stream_contents fd_Stream_contents ["self", "frame"] (spCont K C_Stream)) (D_Stream_contents : Mn K C_Stream "contents" "Stream.contents" s_Stream_contents ["self", "frame"] f_Stream_contents fd_Stream_contents) (G_unfolded_blocks : FnOk P w K mg base CX0 8 f_unfolded_blocks fd_unfolded_blocks ["blocks", "joints"] spUnB) (D_unfolded_blocks : Dn K mg "unfolded_blocks" s_unfolded_blocks ["blocks", "joints"] f_unfolded_blocks fd_unfolded_blocks) (TC_Stream : StmC K mg C_Stream)   : FnOk P w K mg base CX0 9 f fd ["self"] (spSndS K C_Stream) := by
  refine lt_out ?_
  simp (disch := with_unfolding_all
    refine D.F.ok sc_Stream_sound (fun vs H Q E h => ?_) (fun cdv A outer s H vs Q E hr h => ?_)
    · obtain ⟨x, refs, rs, rfl, _⟩ := h
      rfl
    · obtain ⟨x, refs, rs, rfl, hS, hl, q⟩ := h
      refine ⟨_, (pss_cons (ps_setLc (i := 1) (own := [("frame", 2)]) (g := gName 2) (tt := tYes) rfl sc_Stream_sound.nd rfl rfl (sw_true rfl rfl rfl (by decide +kernel)) (pi_range1 (by rfl) bi.range_ (pa_cons (pe_callB cLen (by rfl) bi.len_ (by decide +kernel) (pa_cons (pe_fld (pv 0) rfl) pa_nil)) pa_nil)) (blkOk_by (N := ["self", "blocks", "frame", "block", "numbers", "before", "behind"]) (sc := defScope s_Stream_sound) (by decide +kernel)) (fun _ _ _ _ _ => pg_name (i := 2) sc_Stream_sound.nd rfl (Or.inl rfl)) (fun _ _ _ _ _ => pts_nil) (fun _ _ _ _ _ => (pe_meth (pv 0) TC_Stream.cl D_Stream_contents.m G_Stream_contents (hr.mono (by first | decide | exact Nat.le_refl _)) D_Stream_contents.b .nil pass0 (pa_cons (pv 2) pa_nil))))
   (pss_one (ps_ret (pe_call G_unfolded_blocks (hr.mono (by first | decide | exact Nat.le_refl _)) (by rfl) D_unfolded_blocks.g D_unfolded_blocks.F.kp D_unfolded_blocks.b .nil pass0 (pa_cons (pv 1) (pa_cons (pe_lc (own := [("block", 3), ("numbers", 4), ("before", 5), ("behind", 6)]) (g := gTup K 4 (gCons (gName 3) (gCons (gName 4) (gCons (gName 5) (gCons (gName 6) gNil))))) (tt := tYes) rfl sc_Stream_sound.nd (pi_list (pe_fld (pv 0) rfl)) (blkOk_by (N := ["self", "blocks", "frame", "block", "numbers", "before", "behind"]) (sc := defScope s_Stream_sound) (by decide +kernel)) (fun _ _ _ _ _ => (by exact pg_tup rfl (pgs_cons (pg_name (i := 3) sc_Stream_sound.nd rfl (Or.inl rfl)) (pgs_cons (pg_name (i := 4) sc_Stream_sound.nd rfl (Or.inl rfl)) (pgs_cons (pg_name (i := 5) sc_Stream_sound.nd rfl (Or.inl rfl)) (pgs_cons (pg_name (i := 6) sc_Stream_sound.nd rfl (Or.inl rfl)) pgs_nil)))))) (fun _ _ _ _ _ => pts_nil) (fun _ _ _ _ _ => (pe_ix (show IxR _ (rIxT K) from ix_tup) (pv 3) pe_int (fun _ _ => rfl)))) pa_nil)))))), ?_⟩
      refine rd_start (σ := [some (.ref x), none, none, none, none, none, none]) rfl ?_
      walk_at "rd"
      obtain ⟨dx, L, F, fms, Te, g1, g2, g3, g4, g5, g6, g7⟩ := id hS
      have hrl := g4.len
      have hln := g7.len
      have hfl := frR_le rs 0 0 (0, 0)
      refine rd_readV TC_Stream g1 rfl ?_
      walk_at "rd"
      rename_i D hD
      refine lc_rangeR (bs := frR 0 0 (0, 0) rs) (fun H v f => ∃ q, v = .ref q ∧ H q = some (.lst ((bkF f).map V.int)) ∧ q ≠ D) (fun H H' v f s ⟨q, e, h, n⟩ => ⟨q, e, s _ _ h, n⟩) (fun H o v f ⟨q, e, h, n⟩ => ⟨q, e, by rw [upd_ne n]; exact h, n⟩) (by omega) (by omega) (fun _ => rfl) hD (fun i f H1 Q' hf hs1 hd hq => ?_) fun ws H1 hs1 eD hws => ?_
      · have hS1 := hS.same hs1
        walk_at "rd"
        refine rd_methS hS1 rfl (by decide +kernel) (by decide +kernel) ?_
        rw [Int.zero_add]
        walk_at "rd"
        refine use_cont hS1 hf fun D' H' hD' hs' eD' => hq _ H' hs' ⟨D', rfl, eD', fun z => hd (by rw [← z]; exact hD')⟩
      · have bks : BsAt H1 ws (blkR rs) := by
          rw [← frR_bk rs 0 0 (0, 0)]
          exact bs_of hws
        obtain ⟨js, hj1, hj2⟩ := fms_js (g7.imp fun _ _ z => z.same hs1)
        rw [frR_fw] at hj2
        walk_at "rd"
        refine rd_readV TC_Stream (hs1 _ _ g1) rfl ?_
        refine ⟨F, rfl, ⟨_, SqL.of (hs1 _ _ g6)⟩, fun L2 hL2 => ?_⟩
        refine lc_ofG (fun v u => ∃ a b m t q jl j n p c, v = .ref a ∧ H1 a = some (.tup [.ref b, .ref m, .ref t, .ref q]) ∧ H1 b = some (.tup [n, p, c, .ref jl, .ref j]) ∧ u = V.ref j) id hj1 (SqL.of (hs1 _ _ g6)) (by omega) hL2 (fun v u H2 Q' hm hv hs2 hq => ?_) fun H2 hs2 eL => ?_
        · obtain ⟨a, b, m, t, q', jl, j, n, p, c, rfl, k1, k2, rfl⟩ := hv
          have k1 := hs2 _ _ k1
          have k2 := hs2 _ _ k2
          walk_at "rd"
          refine ⟨rfl, ?_⟩
          walk_at "rd"
          exact hq _ (Same.refl _)
        · rw [List.map_id] at eL
          walk_at "rd"
          refine use_unB (hs2 _ _ eD) (bks.same hs2) g5.blen eL (hj2.same hs2) g5.chn (by have := congrArg List.length (frR_fw rs 0 0 (0, 0)); rw [List.length_map] at this; omega) hl fun R H3 hR hs3 eR => ?_
          exact q R H3 (hs1.free (hs2.free hR)) ((hs1.trans hs2).trans hs3) eR
    ) only [↓lt_eq]
theorem ok_Stream_records {f : Addr} {fd : FuncData}  {C_Stream : Addr}  {p_Stream_records : Addr}  (D : Pn K C_Stream "records" "Stream.records" s_Stream_records ["self"] p_Stream_records f fd) (bi : Bi mg)  (TC_Stream : StmC K mg C_Stream)   : FnOk P w K mg base CX0 1 f fd ["self"] (spRecs K C_Stream) := by
  refine lt_out ?_
  simp (disch := with_unfolding_all
    refine D.F.ok sc_Stream_records (fun vs H Q E h => ?_) (fun cdv A outer s H vs Q E hr h => ?_)
    · obtain ⟨x, refs, rs, rfl, _⟩ := h
      rfl
    · obtain ⟨x, refs, rs, rfl, hS, q⟩ := h
      obtain ⟨dx, L, F, fms, Te, h1, h2, h3, h4, h5, h6, h7⟩ := hS
      refine ⟨_, (pss_one (ps_ret (pe_callTy cList (by rfl) bi.list_ (by decide +kernel) (pa_cons (pe_fld (pv 0) rfl) pa_nil)))), ?_⟩
      refine rd_start (σ := [some (.ref x)]) rfl ?_
      walk_at "rd"
      refine rd_heldV TC_Stream h1 rfl ?_
      walk_at "rd"
      exact q _ (by assumption)
    ) only [↓lt_eq]
theorem ok_Stream_block {f : Addr} {fd : FuncData} {f_Stream_part_of : Addr} {fd_Stream_part_of : FuncData} {C_Stream : Addr}   (D : Mn K C_Stream "block" "Stream.block" s_Stream_block ["self", "frame"] f fd) (bi : Bi mg) (G_Stream_part_of : FnOk P w K mg base CX0 3 f_Stream_part_of fd_Stream_part_of ["self", "frame", "part"] (spPart K C_Stream)) (D_Stream_part_of : Mn K C_Stream "part_of" "Stream.part_of" s_Stream_part_of ["self", "frame", "part"] f_Stream_part_of fd_Stream_part_of) (TC_Stream : StmC K mg C_Stream)   : FnOk P w K mg base CX0 4 f fd ["self", "frame"] (spBlk K C_Stream) := by
  refine lt_out ?_
  simp (disch := with_unfolding_all
    refine D.F.ok sc_Stream_block (fun vs H Q E h => ?_) (fun cdv A outer s H vs Q E hr h => ?_)
    · obtain ⟨x, refs, rs, n, f, rfl, _⟩ := h
      rfl
    · obtain ⟨x, refs, rs, n, f, rfl, hS, hf, q⟩ := h
      refine ⟨_, (pss_one (ps_ret (pe_meth (pv 0) TC_Stream.cl D_Stream_part_of.m G_Stream_part_of (hr.mono (by first | decide | exact Nat.le_refl _)) D_Stream_part_of.b .nil pass0 (pa_cons (pv 1) (pa_cons pe_int pa_nil))))), ?_⟩
      refine rd_start (σ := [some (.ref x), some (.int (n : Nat))]) rfl ?_
      walk_at "rd"
      refine rd_methS hS rfl (by decide +kernel) (by decide +kernel) ?_
      walk_at "rd"
      refine use_part 0 rfl hS hf (by decide) fun b m t q2 v h1 h2 h3 h4 h5 => ?_
      cases h5
      exact q b h1
    ) only [↓lt_eq]
theorem ok_index_of {f : Addr} {fd : FuncData} {f_Stream_records : Addr} {fd_Stream_records : FuncData} {f_Stream_block : Addr} {fd_Stream_block : FuncData} {C_Stream : Addr} {p_Stream_records : Addr}  (D : Dn K mg "index_of" s_index_of ["stream"] f fd) (bi : Bi mg) (G_Stream_records : FnOk P w K mg base CX0 1 f_Stream_records fd_Stream_records ["self"] (spRecs K C_Stream)) (D_Stream_records : Pn K C_Stream "records" "Stream.records" s_Stream_records ["self"] p_Stream_records f_Stream_records fd_Stream_records) (G_Stream_block : FnOk P w K mg base CX0 4 f_Stream_block fd_Stream_block ["self", "frame"] (spBlk K C_Stream)) (D_Stream_block : Mn K C_Stream "block" "Stream.block" s_Stream_block ["self", "frame"] f_Stream_block fd_Stream_block) (TC_Stream : StmC K mg C_Stream)   : FnOk P w K mg base CX0 5 f fd ["stream"] (spIdx K C_Stream) := by
  refine lt_out ?_
  simp (disch := with_unfolding_all
    refine D.F.ok sc_index_of (fun vs H Q E h => ?_) (fun cdv A outer s H vs Q E hr h => ?_)
    · obtain ⟨x, refs, rs, rfl, _⟩ := h
      rfl
    · obtain ⟨x, refs, rs, rfl, hS, q⟩ := h
      refine ⟨_, (pss_cons (ps_set (i := 1) sc_index_of.nd rfl (Or.inl rfl) (pe_lst pa_nil))
   (pss_cons (ps_set (i := 2) sc_index_of.nd rfl (Or.inl rfl) pe_int)
   (pss_cons (ps_for PassesOwn.never rfl (pi_enum (by rfl) bi.enumerate_ (pa_cons (pe_prop (pv 0) TC_Stream.cl D_Stream_records.p G_Stream_records (hr.mono (by first | decide | exact Nat.le_refl _)) D_Stream_records.b .nil pass0 rfl) pa_nil)) (pg_tup rfl (pgs_cons (pg_name (i := 3) sc_index_of.nd rfl (Or.inl rfl)) (pgs_cons (pg_name (i := 4) sc_index_of.nd rfl (Or.inl rfl)) pgs_nil)))
   (pss_one (ps_if (pt_cmpR op_eq (pe_ix ix_tup (pv 4) pe_int (fun _ _ => rfl)) pe_str (nomark _))
   (pss_one (ps_set (i := 2) sc_index_of.nd rfl (Or.inl rfl) (pv 3)))
   (pss_one (ps_expr (pe_bm PySem.F.plainAttrs_list PySem.F.slot_list_append PySem.F.type_list_append mt_append (pv 1) (pa_cons (pe_op op_catT (pe_meth (pv 0) TC_Stream.cl D_Stream_block.m G_Stream_block (hr.mono (by first | decide | exact Nat.le_refl _)) D_Stream_block.b .nil pass0 (pa_cons (pe_callB cLen (by rfl) bi.len_ (by decide +kernel) (pa_cons (pv 1) pa_nil)) pa_nil)) (pe_tup (pa_cons (pe_ix ix_tup (pv 4) pe_int (fun _ _ => rfl)) (pa_cons (pe_ix ix_tup (pv 4) pe_int (fun _ _ => rfl)) (pa_cons (pv 2) pa_nil))))) pa_nil)))))))
   (pss_one (ps_ret (pv 1)))))), ?_⟩
      refine rd_start (σ := [some (.ref x), none, none, none, none]) rfl ?_
      walk_at "rd"
      rename_i D hD
      have hS1 := hS.same (same_new (o := .lst []) hD)
      refine rd_propS hS1 rfl ?_
      refine ⟨x, refs, rs, rfl, hS1, fun N hN => ?_⟩
      obtain ⟨dx, L, F, fms, Te, h1, h2, hl40, hR, hV, h6, h7⟩ := id hS
      have s0 : Same H (upd (upd H D (.lst [])) N (.lst refs)) := (same_new hD).trans (same_new hN)
      have nND : D ≠ N := ne_of_none upd_same hN
      walk_at "rd"
      refine rd_lpE (SqL.of upd_same) ?_
      refine for_enum (xs := refs) (fun i σ H' => ∃ idx dn fd pl lj o x3 x4, σ = [some (.ref x), some (.ref D), some (.int ((o : Nat) : Int)), x3, x4] ∧ H' N = some (.lst refs) ∧ II K D H H' rs i idx dn fd pl lj o) ⟨[], [], [], 0, (0, 0), 0, none, none, rfl, upd_same, ⟨look_new hN upd_same, hD, .nil, rfl, rfl, rfl, s0, Nat.le_refl _⟩⟩ (fun i σ H1 _ hI => ?_) (fun i v σ H1 W hv hI hW => ?_) (fun σ H1 hI => ?_)
      · obtain ⟨idx, dn, fd, pl, lj, o, x3, x4, rfl, eN, hI⟩ := hI
        exact SqL.of eN
      · obtain ⟨idx, dn, fd, pl, lj, o, x3, x4, rfl, eN, hI⟩ := hI
        obtain ⟨r, rr, hv2, hd1, hd2, hmem⟩ := hR.drop_head hv
        have hil := (List.getElem?_eq_some_iff.mp hv).1
        have eN := look_new (o := .tup [.int (i : Nat), v]) hW eN
        have hI := hI.same (same_new (o := .tup [.int (i : Nat), v]) hW)
        have hv2 := hv2.lk (.of hI.sm)
        cases r with
        | st T' =>
          obtain ⟨b, t', rfl, hb, hT'⟩ := hv2
          walk_at "rd"
          refine if_yesD rfl ?_
          walk_at "rd"
          exact ⟨_, _, _, _, _, i, _, _, rfl, eN, hI.st hd1 hd2⟩
        | fr d ns T' =>
          obtain ⟨b, j, rfl, hb, hj⟩ := hv2
          unfold FrAt at hb
          walk_at "rd"
          refine if_noD st_ne_fr ?_
          have eD := hI.eD
          have hlf := hI.len
          walk_at "rd"
          have hS2 := hS.same hI.sm
          refine rd_methS hS2 rfl (by decide +kernel) (by decide +kernel) ?_
          walk_at "rd"
          refine use_blk hS2 (hI.at hd1) fun b5 hb5 => ?_
          obtain ⟨jl, j5, e5, e6, e7⟩ := hb5
          walk_at "rd"
          rename_i p6 hp6
          have s6 := same_new (o := .tup [.int (d.2.2.2.1 : Nat), .int (d.2.2.2.2 : Nat), .int (o : Nat)]) hp6
          have hI := hI.same s6
          refine rd_catT2 (SqT.of (s6 _ _ e5)) (SqT.of upd_same) (fun z => nomatch z) (fun z => nomatch z) (by show 5 + 3 ≤ 1000; decide) (show _ = [.int (i : Nat), .int (pl : Nat), .int (d.1 : Nat), .ref jl, .ref j5, .int (d.2.2.2.1 : Nat), .int (d.2.2.2.2 : Nat), .int (o : Nat)] from rfl) fun p7 hp7 => ?_
          have s7 := same_new (o := .tup [.int (i : Nat), .int (pl : Nat), .int (d.1 : Nat), .ref jl, .ref j5, .int (d.2.2.2.1 : Nat), .int (d.2.2.2.2 : Nat), .int (o : Nat)]) hp7
          have hI := hI.same s7
          have s67 := s6.trans s7
          have rw : RwV K _ (.ref p7) (i, pl, d, lj, o) := ⟨p7, jl, j5, rfl, upd_same, e6.lk (.of s67), e7.lk (.of s67)⟩
          refine rd_nil ?_
          refine rd_appG hI.eD (by omega) ?_
          walk_at "rd"
          have nDN : D ≠ N := nND
          refine ⟨_, _, _, _, _, o, some (.int (i : Nat)), some (.ref b), rfl, ?_, hI.fr hd1 hd2 rw⟩
          rw [upd_ne nDN.symm]
          exact s67 _ _ eN
      · obtain ⟨idx, dn, fd, pl, lj, o, x3, x4, rfl, eN, hI⟩ := hI
        walk_at "rd"
        have s1 := hI.s1
        rw [hR.len, List.drop_length, show rowsF rs.length pl lj o [] = [] from rfl, List.append_nil, ← runR_rows] at s1
        refine q D idx _ hD hI.eD ?_ hI.sm
        rw [s1]
        exact hI.ix
    ) only [↓lt_eq]
theorem ok_check_stretch {f : Addr} {fd : FuncData} {f_is_within : Addr} {fd_is_within : FuncData}    (D : Dn K mg "check_stretch" s_check_stretch ["start", "end", "length"] f fd) (bi : Bi mg) (G_is_within : FnOk P w K mg base CX0 2 f_is_within fd_is_within ["value", "low", "high"] spWithin) (D_is_within : Dn K mg "is_within" s_is_within ["value", "low", "high"] f_is_within fd_is_within)    : FnOk P w K mg base CX0 3 f fd ["start", "end", "length"] spStretch := by
  refine lt_out ?_
  simp (disch := with_unfolding_all
    refine D.F.ok sc_check_stretch (fun vs H Q E h => ?_) (fun cdv A outer s H vs Q E hr h => ?_)
    · obtain ⟨s, e, n, rfl, _⟩ := h
      rfl
    · obtain ⟨s, e, n, rfl, h0, h1, h2, q⟩ := h
      refine ⟨_, (pss_cons (ps_for PassesOwn.never rfl (pi_tup (pe_tup (pa_cons (pv 0) (pa_cons (pv 1) pa_nil)))) (pg_name (i := 3) sc_check_stretch.nd rfl (Or.inl rfl))
   (pss_one (ps_if (pt_not (pt_val (pe_call G_is_within (hr.mono (by first | decide | exact Nat.le_refl _)) (by rfl) D_is_within.g D_is_within.F.kp D_is_within.b .nil pass0 (pa_cons (pv 3) (pa_cons pe_int (pa_cons (pv 2) pa_nil))))))
   (pss_one ps_never)
   pss_nil)))
   (pss_one (ps_if (pt_cmpR op_lt (pv 1) (pv 0) (nomark _))
   (pss_one ps_never)
   pss_nil))), ?_⟩
      refine rd_start (σ := [some (.int s), some (.int e), some (.int n), none]) rfl ?_
      walk_at "rd"
      rename_i p hp
      refine rd_lpT (SqT.of upd_same) ?_
      refine for_tup (xs := [.int s, .int e]) (fun i σ H' => ∃ t, σ = [some (.int s), some (.int e), some (.int n), t] ∧ H' = upd H p (.tup [.int s, .int e])) ⟨none, rfl, rfl⟩ (fun i σ H1 _ hI => ?_) (fun i v σ H1 hv hI => ?_) (fun σ H1 hI => ?_)
      · obtain ⟨t, rfl, rfl⟩ := hI
        exact SqT.of upd_same
      · obtain ⟨t, rfl, rfl⟩ := hI
        obtain ⟨z, rfl, hz⟩ : ∃ z, v = .int z ∧ 0 ≤ z ∧ z ≤ n := by
          rcases i with _ | _ | i
          · exact ⟨s, (Option.some.inj hv).symm, h0, by omega⟩
          · exact ⟨e, (Option.some.inj hv).symm, by omega, h2⟩
          · exact absurd hv (by simp)
        walk_at "rd"
        refine if_noN hz ?_
        walk_at "rd"
        exact ⟨_, rfl, rfl⟩
      · obtain ⟨t, rfl, rfl⟩ := hI
        walk_at "rd"
        refine if_noD (by omega) ?_
        walk_at "rd"
        exact q _ (same_new hp)
    ) only [↓lt_eq]
theorem ok_sound_length {f : Addr} {fd : FuncData}     (D : Dn K mg "sound_length" s_sound_length ["index"] f fd) (bi : Bi mg)     : FnOk P w K mg base CX0 1 f fd ["index"] (spSndLen K) := by
  refine lt_out ?_
  simp (disch := with_unfolding_all
    refine D.F.ok sc_sound_length (fun vs H Q E h => ?_) (fun cdv A outer s H vs Q E hr h => ?_)
    · obtain ⟨a, idx, rows, rfl, _⟩ := h
      rfl
    · obtain ⟨a, idx, rows, rfl, h, r, q⟩ := h
      refine ⟨_, (pss_cons (ps_if (pt_not (pt_truth (pv 0) (by intro _; rfl)))
   (pss_one (ps_ret pe_int))
   pss_nil)
   (pss_one (ps_ret (pe_op op_add (pe_ix ix_tup (pe_ix ix_list (pv 0) (pe_un un_neg pe_int) (fun _ _ => rfl)) pe_int (fun _ _ => rfl)) (pe_ix ix_tup (pe_ix ix_list (pv 0) (pe_un un_neg pe_int) (fun _ _ => rfl)) pe_int (fun _ _ => rfl)))))), ?_⟩
      refine rd_start (σ := [some (.ref a)]) rfl ?_
      walk_at "rd"
      refine ⟨_, .inl ⟨_, SqL.of h, rfl⟩, ?_⟩
      rcases r.lastE with ⟨rfl, rfl⟩ | ⟨xs, v, rs, r', rfl, rfl, hv⟩
      · walk_at "rd"
        exact q
      · rw [lenW_snoc] at q
        obtain ⟨b, jl, j, rfl, hb, _⟩ := hv
        refine if_no (by cases xs <;> rfl) ?_
        walk_at "rd"
        refine rd_ixL (SqL.of h) (atI_last _ _) ?_
        walk_at "rd"
        refine rd_ixL (SqL.of h) (atI_last _ _) ?_
        walk_at "rd"
        exact q
    ) only [↓lt_eq]
theorem ok_reach {f : Addr} {fd : FuncData}     (D : Dn K mg "reach" s_reach ["entry"] f fd) (bi : Bi mg)     : FnOk P w K mg base CX0 1 f fd ["entry"] (spReach K) := by
  refine lt_out ?_
  simp (disch := with_unfolding_all
    refine D.F.ok sc_reach (fun vs H Q E h => ?_) (fun cdv A outer s H vs Q E hr h => ?_)
    · obtain ⟨v, r, rfl, _⟩ := h
      rfl
    · obtain ⟨v, r, rfl, h, q⟩ := h
      refine ⟨_, (pss_cons (ps_asg (pe_slice sl_tup (pv 0) po_none (po_some pe_int)) (pg_tup rfl (pgs_cons (pg_name (i := 1) sc_reach.nd rfl (Or.inl rfl)) (pgs_cons (pg_name (i := 2) sc_reach.nd rfl (Or.inl rfl)) (pgs_cons (pg_name (i := 3) sc_reach.nd rfl (Or.inl rfl)) (pgs_cons (pg_name (i := 4) sc_reach.nd rfl (Or.inl rfl)) (pgs_cons (pg_name (i := 5) sc_reach.nd rfl (Or.inl rfl)) pgs_nil)))))))
   (pss_one (ps_ret (pe_tup (pa_cons (pe_op op_sub (pv 2) (pe_ix ix_tup (pv 4) pe_int (fun _ _ => rfl))) (pa_cons (pe_op op_add (pe_op op_add (pv 2) (pv 3)) (pe_ix ix_tup (pv 5) pe_int (fun _ _ => rfl))) pa_nil)))))), ?_⟩
      obtain ⟨a, jl, j, rfl, ha, hl, hj⟩ := h
      refine rd_start (σ := [some (.ref a), none, none, none, none, none]) rfl ?_
      walk_at "rd"
      refine rd_slTp (SqT.of ha) (ys := [.int (r.1 : Nat), .int (r.2.1 : Nat), .int (r.2.2.1.1 : Nat), .ref jl, .ref j]) rfl (show ¬ (HT.sIx 8 0 none = 0 ∧ HT.sIx 8 8 (some 5) = 8) by decide) fun p1 hp1 => ?_
      have hl2 := hl.lk (.new (o := .tup [.int (r.1 : Nat), .int (r.2.1 : Nat), .int (r.2.2.1.1 : Nat), .ref jl, .ref j]) hp1)
      have hj2 := look_new (o := .tup [.int (r.1 : Nat), .int (r.2.1 : Nat), .int (r.2.2.1.1 : Nat), .ref jl, .ref j]) hp1 hj
      walk_at "rd"
      refine rd_ixT hl2.1 (v := .int (r.2.2.2.1.1 : Nat)) rfl ?_
      walk_at "rd"
      rename_i p2 hp2
      exact q _ _ ((same_new hp1).free hp2) ((same_new hp1).trans (same_new hp2)) upd_same
    ) only [↓lt_eq]
theorem ok_needed_entries {f : Addr} {fd : FuncData} {f_reach : Addr} {fd_reach : FuncData}    (D : Dn K mg "needed_entries" s_needed_entries ["index", "start", "end"] f fd) (bi : Bi mg) (G_reach : FnOk P w K mg base CX0 1 f_reach fd_reach ["entry"] (spReach K)) (D_reach : Dn K mg "reach" s_reach ["entry"] f_reach fd_reach)    : FnOk P w K mg base CX0 2 f fd ["index", "start", "end"] (spNdE K) := by
  refine lt_out ?_
  simp (disch := with_unfolding_all
    refine D.F.ok sc_needed_entries (fun vs H Q E h => ?_) (fun cdv A outer s H vs Q E hr h => ?_)
    · obtain ⟨a, s, e, idx, rows, rfl, _⟩ := h
      rfl
    · obtain ⟨a, s, e, idx, rows, rfl, h, r, l, q⟩ := h
      refine ⟨_, (pss_cons (ps_if (pt_cmpR op_eq (pv 1) (pv 2) (nomark _))
   (pss_one (ps_ret (pe_lst pa_nil)))
   pss_nil)
   (pss_cons (ps_set (i := 3) sc_needed_entries.nd rfl (Or.inl rfl) (pe_lst pa_nil))
   (pss_cons (ps_for PassesOwn.never rfl (pi_list (pv 0)) (pg_name (i := 4) sc_needed_entries.nd rfl (Or.inl rfl))
   (pss_cons (ps_asg (pe_call G_reach (hr.mono (by first | decide | exact Nat.le_refl _)) (by rfl) D_reach.g D_reach.F.kp D_reach.b .nil pass0 (pa_cons (pv 4) pa_nil)) (pg_tup rfl (pgs_cons (pg_name (i := 5) sc_needed_entries.nd rfl (Or.inl rfl)) (pgs_cons (pg_name (i := 6) sc_needed_entries.nd rfl (Or.inl rfl)) pgs_nil))))
   (pss_one (ps_if (PW.pt (pw_and (pt_cmpR op_lt (pv 5) (pv 2) (nomark _)) (pw_and1 (pt_cmpR op_lt (pv 1) (pv 6) (nomark _)))))
   (pss_one (ps_expr (pe_bm PySem.F.plainAttrs_list PySem.F.slot_list_append PySem.F.type_list_append mt_append (pv 3) (pa_cons (pv 4) pa_nil))))
   pss_nil))))
   (pss_one (ps_ret (pv 3)))))), ?_⟩
      refine rd_start (σ := [some (.ref a), some (.int s), some (.int e), none, none, none, none]) rfl ?_
      walk_at "rd"
      refine rd_iteD (p := V.int s = V.int e) (fun c => ?_) (fun c => ?_)
      · walk_at "rd"
        rename_i D hD
        have en : ndW s e rows = [] := if_pos (V.int.inj c)
        exact q D [] _ hD upd_same (by rw [en]; exact .nil) (same_new hD)
      · walk_at "rd"
        rename_i D hD
        have en : ndW s e rows = rows.filter (selW s e) := if_neg fun z => c (by rw [z])
        rw [en] at q
        have hln := r.len
        refine rd_lpL (SqL.of (look_new hD h)) ?_
        refine for_list (xs := idx) (fun i σ H' => ∃ sel t1 t2 t3, σ = [some (.ref a), some (.int s), some (.int e), some (.ref D), t1, t2, t3] ∧ H' D = some (.lst sel) ∧ RwsV K H' sel ((rows.take i).filter (selW s e)) ∧ Same H H' ∧ sel.length ≤ i) ⟨[], none, none, none, rfl, upd_same, .nil, same_new hD, Nat.le_refl _⟩ (fun i σ H1 _ hI => ?_) (fun i v σ H1 hv hI => ?_) (fun σ H1 hI => ?_)
        · obtain ⟨sel, t1, t2, t3, rfl, eD, hsel, sm, hl⟩ := hI
          exact SqL.of (sm _ _ h)
        · obtain ⟨sel, t1, t2, t3, rfl, eD, hsel, sm, hl⟩ := hI
          have hil := (List.getElem?_eq_some_iff.mp hv).1
          obtain ⟨r', hv2, hm, _, ht⟩ := r.takeS hv
          have hv3 := hv2.same sm
          walk_at "rd"
          refine use_reach hv3 fun p H2 hp hs2 ep => ?_
          have hs3 := hs2 _ _ eD
          have no : ¬ selW s e r' = true → ((rows.take i).filter (selW s e) ++ [r'].filter (selW s e)) = (rows.take i).filter (selW s e) := fun z => by simp [z]
          have yes : selW s e r' = true → ((rows.take i).filter (selW s e) ++ [r'].filter (selW s e)) = (rows.take i).filter (selW s e) ++ [r'] := fun z => by simp [z]
          walk_at "rd"
          refine rd_iteD (p := rnear r' < e) (fun c1 => ?_) (fun c1 => ?_)
          · walk_at "rd"
            refine rd_iteD (p := s < rfar r') (fun c2 => ?_) (fun c2 => ?_)
            · walk_at "rd"
              refine rd_appG hs3 (by omega) ?_
              walk_at "rd"
              have lk := (LK.of hs2).trans (LK.at (o := .lst (sel ++ [v])) hs3)
              refine ⟨_, _, _, _, rfl, upd_same, ?_, same_put (sm.trans hs2) hD, by rw [List.length_append]; exact Nat.succ_le_succ hl⟩
              rw [ht, List.filter_append, yes (by unfold selW; rw [decide_eq_true c1, decide_eq_true c2]; rfl)]
              exact (hsel.lk lk).app (hv3.lk lk)
            · walk_at "rd"
              refine ⟨_, _, _, _, rfl, hs3, ?_, sm.trans hs2, Nat.le_succ_of_le hl⟩
              rw [ht, List.filter_append, no (by unfold selW; rw [decide_eq_false c2]; simp)]
              exact hsel.same hs2
          · walk_at "rd"
            refine ⟨_, _, _, _, rfl, hs3, ?_, sm.trans hs2, Nat.le_succ_of_le hl⟩
            rw [ht, List.filter_append, no (by unfold selW; rw [decide_eq_false c1]; simp)]
            exact hsel.same hs2
        · obtain ⟨sel, t1, t2, t3, rfl, eD, hsel, sm, hl⟩ := hI
          rw [hln, List.take_length] at hsel
          walk_at "rd"
          exact q D sel _ hD eD hsel sm
    ) only [↓lt_eq]
theorem ok_records_up_to {f : Addr} {fd : FuncData}     (D : Dn K mg "records_up_to" s_records_up_to ["entries"] f fd) (bi : Bi mg)     : FnOk P w K mg base CX0 1 f fd ["entries"] (spRcU K) := by
  refine lt_out ?_
  simp (disch := with_unfolding_all
    refine D.F.ok sc_records_up_to (fun vs H Q E h => ?_) (fun cdv A outer s H vs Q E hr h => ?_)
    · obtain ⟨a, sel, rows, rfl, _⟩ := h
      rfl
    · obtain ⟨a, sel, rows, rfl, h, r, o, q⟩ := h
      refine ⟨_, (pss_cons (ps_set (i := 1) sc_records_up_to.nd rfl (Or.inl rfl) (pe_lst pa_nil))
   (pss_cons (ps_set (i := 2) sc_records_up_to.nd rfl (Or.inl rfl) pe_int)
   (pss_cons (ps_for PassesOwn.never rfl (pi_list (pv 0)) (pg_name (i := 3) sc_records_up_to.nd rfl (Or.inl rfl))
   (pss_cons (ps_par (i := 4) (j := 5) rfl sc_records_up_to.nd rfl rfl (by decide) rfl rfl (pa_cons (pe_ix ix_tup (pv 3) pe_int (fun _ _ => rfl)) (pa_cons (pe_ix ix_tup (pv 3) pe_int (fun _ _ => rfl)) pa_nil)) rfl)
   (pss_cons (ps_expr (pe_bm PySem.F.plainAttrs_list PySem.F.slot_list_extend PySem.F.type_list_extend mt_extend (pv 1) (pa_cons (pe_listRg rfl (by rfl) bi.list_ (prg_2 (by rfl) bi.range_ (pe_callB (cMax rfl) (by rfl) bi.max_ (by decide +kernel) (pa_cons (pv 5) (pa_cons (pv 2) pa_nil))) (pe_op op_add (pv 4) pe_int))) pa_nil)))
   (pss_one (ps_set (i := 2) sc_records_up_to.nd rfl (Or.inl rfl) (pe_op op_add (pv 4) pe_int))))))
   (pss_one (ps_ret (pv 1)))))), ?_⟩
      refine rd_start (σ := [some (.ref a), none, none, none, none, none]) rfl ?_
      walk_at "rd"
      rename_i D hD
      have hln := r.len
      refine rd_lpL (SqL.of (look_new hD h)) ?_
      refine for_list (xs := sel) (fun i σ H' => ∃ t1 t2 t3, σ = [some (.ref a), some (.ref D), some (.int (behW (rows.take i))), t1, t2, t3] ∧ H' D = some (.lst ((rcU (rows.take i) 0).map V.int)) ∧ Same H H') ⟨none, none, none, rfl, upd_same, same_new hD⟩ (fun i σ H1 _ hI => ?_) (fun i v σ H1 hv hI => ?_) (fun σ H1 hI => ?_)
      · obtain ⟨t1, t2, t3, rfl, eD, sm⟩ := hI
        exact SqL.of (sm _ _ h)
      · obtain ⟨t1, t2, t3, rfl, eD, sm⟩ := hI
        obtain ⟨r', hv2, hm, he, ht⟩ := r.takeS hv
        obtain ⟨b, jl, j, rfl, hb, _⟩ := hv2.same sm
        obtain ⟨g1, g2⟩ := o.rg (i := i) hm
        have g3 := (o.sub (List.take_sublist i rows)).lenU
        walk_at "rd"
        refine rd_lstRg (rd_rg2 ?_)
        walk_at "rd"
        refine rd_ij ⟨g1, fun p hp => ?_⟩
        have eD2 := look_new (o := .lst (rgV (lowW r' (behW (rows.take i))) ((r'.1 : Int) + 1))) hp eD
        walk_at "rd"
        refine rd_extG (xs := (rcU (rows.take i) 0).map V.int) (zs := rgV (lowW r' (behW (rows.take i))) ((r'.1 : Int) + 1)) eD2 upd_same ?_ ?_
        · rw [rngV_eq, List.length_map, List.length_map]
          omega
        walk_at "rd"
        refine ⟨_, _, _, by rw [ht, behW_snoc]; rfl, ?_, same_put (sm.trans (same_new hp)) hD⟩
        rw [ht, rcU_put, List.map_append, ← rngV_eq]
        exact upd_same
      · obtain ⟨t1, t2, t3, rfl, eD, sm⟩ := hI
        rw [hln, List.take_length] at eD
        walk_at "rd"
        exact q D _ hD eD sm
    ) only [↓lt_eq]
theorem ok_needed_records {f : Addr} {fd : FuncData} {f_check_stretch : Addr} {fd_check_stretch : FuncData} {f_sound_length : Addr} {fd_sound_length : FuncData} {f_records_up_to : Addr} {fd_records_up_to : FuncData} {f_needed_entries : Addr} {fd_needed_entries : FuncData}    (D : Dn K mg "needed_records" s_needed_records ["index", "start", "end"] f fd) (bi : Bi mg) (G_check_stretch : FnOk P w K mg base CX0 3 f_check_stretch fd_check_stretch ["start", "end", "length"] spStretch) (D_check_stretch : Dn K mg "check_stretch" s_check_stretch ["start", "end", "length"] f_check_stretch fd_check_stretch) (G_sound_length : FnOk P w K mg base CX0 1 f_sound_length fd_sound_length ["index"] (spSndLen K)) (D_sound_length : Dn K mg "sound_length" s_sound_length ["index"] f_sound_length fd_sound_length) (G_records_up_to : FnOk P w K mg base CX0 1 f_records_up_to fd_records_up_to ["entries"] (spRcU K)) (D_records_up_to : Dn K mg "records_up_to" s_records_up_to ["entries"] f_records_up_to fd_records_up_to) (G_needed_entries : FnOk P w K mg base CX0 2 f_needed_entries fd_needed_entries ["index", "start", "end"] (spNdE K)) (D_needed_entries : Dn K mg "needed_entries" s_needed_entries ["index", "start", "end"] f_needed_entries fd_needed_entries)    : FnOk P w K mg base CX0 4 f fd ["index", "start", "end"] (spNdd K) := by
  refine lt_out ?_
  simp (disch := with_unfolding_all
    refine D.F.ok sc_needed_records (fun vs H Q E h => ?_) (fun cdv A outer s H vs Q E hr h => ?_)
    · obtain ⟨a, s, e, idx, rows, rfl, _⟩ := h
      rfl
    · obtain ⟨a, s, e, idx, rows, rfl, h, r, l, o, h0, h1, h2, q⟩ := h
      refine ⟨_, (pss_cons (ps_expr (pe_call G_check_stretch (hr.mono (by first | decide | exact Nat.le_refl _)) (by rfl) D_check_stretch.g D_check_stretch.F.kp D_check_stretch.b .nil pass0 (pa_cons (pv 1) (pa_cons (pv 2) (pa_cons (pe_call G_sound_length (hr.mono (by first | decide | exact Nat.le_refl _)) (by rfl) D_sound_length.g D_sound_length.F.kp D_sound_length.b .nil pass0 (pa_cons (pv 0) pa_nil)) pa_nil)))))
   (pss_one (ps_ret (pe_call G_records_up_to (hr.mono (by first | decide | exact Nat.le_refl _)) (by rfl) D_records_up_to.g D_records_up_to.F.kp D_records_up_to.b .nil pass0 (pa_cons (pe_call G_needed_entries (hr.mono (by first | decide | exact Nat.le_refl _)) (by rfl) D_needed_entries.g D_needed_entries.F.kp D_needed_entries.b .nil pass0 (pa_cons (pv 0) (pa_cons (pv 1) (pa_cons (pv 2) pa_nil)))) pa_nil))))), ?_⟩
      refine rd_start (σ := [some (.ref a), some (.int s), some (.int e)]) rfl ?_
      walk_at "rd"
      refine use_sndlen h r ?_
      walk_at "rd"
      refine use_stretch h0 h1 h2 fun H1 hs1 => ?_
      have e1 := hs1 _ _ h
      have r1 := r.same hs1
      walk_at "rd"
      refine use_ndE e1 r1 l fun D sel H2 hD eD hsel hs2 => ?_
      walk_at "rd"
      refine use_rcU eD hsel (o.sub nd_sub) fun D2 H3 hD2 eD2 hs3 => ?_
      exact q D2 H3 (hs1.free (hs2.free hD2)) eD2 ((hs1.trans hs2).trans hs3)
    ) only [↓lt_eq]
theorem ok_check_lost {f : Addr} {fd : FuncData} {f_is_integer : Addr} {fd_is_integer : FuncData}    (D : Dn K mg "check_lost" s_check_lost ["lost"] f fd) (bi : Bi mg) (G_is_integer : FnOk P w K mg base CX0 1 f_is_integer fd_is_integer ["value"] spIsI) (D_is_integer : Dn K mg "is_integer" s_is_integer ["value"] f_is_integer fd_is_integer)    : FnOk P w K mg base CX0 2 f fd ["lost"] spCkLost := by
  refine lt_out ?_
  simp (disch := with_unfolding_all
    refine D.F.ok sc_check_lost (fun vs H Q E h => ?_) (fun cdv A outer s H vs Q E hr h => ?_)
    · obtain ⟨a, ns, rfl, _⟩ := h
      rfl
    · obtain ⟨a, ns, rfl, hS, h0, q⟩ := h
      refine ⟨_, (pss_cons (ps_if (pt_not (pt_val (pe_callB call_isiT (by rfl) bi.isinstance_ (by decide +kernel) (pa_cons (pv 0) (pa_cons (pe_tup (pa_cons (pe_bltn (v := .ty "list") (by rfl) bi.list_ (by decide +kernel) rfl) (pa_cons (pe_bltn (v := .ty "tuple") (by rfl) bi.tuple_ (by decide +kernel) rfl) pa_nil))) pa_nil)))))
   (pss_one ps_never)
   pss_nil)
   (pss_one (ps_for PassesOwn.never rfl (pi_seq (pv 0)) (pg_name (i := 1) sc_check_lost.nd rfl (Or.inl rfl))
   (pss_one (ps_if (PW.pt (pw_or (pt_not (pt_val (pe_call G_is_integer (hr.mono (by first | decide | exact Nat.le_refl _)) (by rfl) D_is_integer.g D_is_integer.F.kp D_is_integer.b .nil pass0 (pa_cons (pv 1) pa_nil)))) (pw_or1 (pt_cmpR op_lt (pv 1) pe_int (nomark _)))))
   (pss_one ps_never)
   pss_nil))))), ?_⟩
      refine rd_start (σ := [some (.ref a), none]) rfl ?_
      walk_at "rd"
      rename_i t ht
      refine isiT_lt (LT.new' ht hS) upd_same ?_
      walk_at "rd"
      have hs0 : Same H (upd H t (.tup [.ty "list", .ty "tuple"])) := same_new ht
      first | (refine rd_forS ?_; walk_at "rd") | skip
      refine for_seqA (hS.same hs0) (fun i σ H' => ∃ x, σ = [some (.ref a), x] ∧ Same H H') ⟨none, rfl, hs0⟩ (fun i σ H1 _ hI => ?_) (fun i v σ H1 hv hI => ?_) (fun σ H1 hI => ?_)
      · obtain ⟨x, rfl, hs⟩ := hI
        exact fun o e => by
          rcases hS with e' | e' <;> rw [hs0 _ _ e'] at e <;> cases e <;> exact hs _ _ e'
      · obtain ⟨x, rfl, hs⟩ := hI
        obtain ⟨z, ez, rfl⟩ : ∃ z, ns[i]? = some z ∧ v = .int z := by
          rw [List.getElem?_map] at hv
          cases e : ns[i]? with
          | none => rw [e] at hv; cases hv
          | some z => rw [e] at hv; exact ⟨z, rfl, (Option.some.inj hv).symm⟩
        have hz := h0 z (List.mem_of_getElem? ez)
        walk_at "rd"
        refine if_noD (by omega) ?_
        walk_at "rd"
        exact ⟨_, rfl, hs⟩
      · obtain ⟨x, rfl, hs⟩ := hI
        walk_at "rd"
        exact q _ hs
    ) only [↓lt_eq]
theorem ok_unread_frames {f : Addr} {fd : FuncData} {f_check_lost : Addr} {fd_check_lost : FuncData}    (D : Dn K mg "unread_frames" s_unread_frames ["index", "lost"] f fd) (bi : Bi mg) (G_check_lost : FnOk P w K mg base CX0 2 f_check_lost fd_check_lost ["lost"] spCkLost) (D_check_lost : Dn K mg "check_lost" s_check_lost ["lost"] f_check_lost fd_check_lost)   (g_sorted : mg "sorted" = none) : FnOk P w K mg base CX0 3 f fd ["index", "lost"] (spUnr K) := by
  refine lt_out ?_
  simp (disch := with_unfolding_all
    refine D.F.ok sc_unread_frames (fun vs H Q E h => ?_) (fun cdv A outer s H vs Q E hr h => ?_)
    · obtain ⟨a, b, idx, rows, ns, rfl, _⟩ := h
      rfl
    · obtain ⟨a, b, idx, rows, ns, rfl, h, r, o, l, hb, h0, hl, q⟩ := h
      refine ⟨_, (pss_cons (ps_expr (pe_call G_check_lost (hr.mono (by first | decide | exact Nat.le_refl _)) (by rfl) D_check_lost.g D_check_lost.F.kp D_check_lost.b .nil pass0 (pa_cons (pv 1) pa_nil)))
   (pss_cons (ps_set (i := 2) sc_unread_frames.nd rfl (Or.inl rfl) (pe_callB cr_sortA (by rfl) g_sorted (by decide +kernel) (pa_cons (pv 1) pa_nil)))
   (pss_cons (ps_set (i := 3) sc_unread_frames.nd rfl (Or.inl rfl) (pe_lst pa_nil))
   (pss_cons (ps_set (i := 4) sc_unread_frames.nd rfl (Or.inl rfl) pe_int)
   (pss_cons (ps_set (i := 5) sc_unread_frames.nd rfl (Or.inl rfl) (pe_un un_neg pe_int))
   (pss_cons (ps_for PassesOwn.never rfl (pi_enum (by rfl) bi.enumerate_ (pa_cons (pv 0) pa_nil)) (pg_tup rfl (pgs_cons (pg_name (i := 6) sc_unread_frames.nd rfl (Or.inl rfl)) (pgs_cons (pg_name (i := 7) sc_unread_frames.nd rfl (Or.inl rfl)) pgs_nil)))
   (pss_cons (ps_par (i := 8) (j := 9) rfl sc_unread_frames.nd rfl rfl (by decide) rfl rfl (pa_cons (pe_ix ix_tup (pv 7) pe_int (fun _ _ => rfl)) (pa_cons (pe_ix ix_tup (pv 7) pe_int (fun _ _ => rfl)) pa_nil)) rfl)
   (pss_cons (ps_while PassesOwn.never (PW.pt (pw_and (pt_cmpR op_lt (pv 4) (pe_callB cLen (by rfl) bi.len_ (by decide +kernel) (pa_cons (pv 2) pa_nil)) (nomark _)) (pw_and1 (pt_cmpR op_le (pe_ix ix_list (pv 2) (pv 4) (fun _ _ => rfl)) (pv 8) (nomark _)))))
   (pss_cons (ps_set (i := 5) sc_unread_frames.nd rfl (Or.inl rfl) (pe_ix ix_list (pv 2) (pv 4) (fun _ _ => rfl)))
   (pss_one (ps_aug (i := 4) sc_unread_frames.nd rfl (Or.inl rfl) pe_int ip_add))))
   (pss_one (ps_if (pt_cmpR op_ge (pv 5) (pv 9) (nomark _))
   (pss_one (ps_expr (pe_bm PySem.F.plainAttrs_list PySem.F.slot_list_append PySem.F.type_list_append mt_append (pv 3) (pa_cons (pv 6) pa_nil))))
   pss_nil)))))
   (pss_one (ps_ret (pv 3))))))))), ?_⟩
      refine rd_start (σ := [some (.ref a), some (.ref b), none, none, none, none, none, none, none, none]) rfl ?_
      walk_at "rd"
      refine use_cklost hb h0 fun H1 hs1 => ?_
      walk_at "rd"
      refine rd_sortT ((hb.same hs1).imp SqL.of SqT.of) fun asc S hp hso hS => ?_
      walk_at "rd"
      rename_i D hD
      have sS : Same H (upd H1 S (.lst (asc.map V.int))) := hs1.trans (same_new hS)
      have sD : Same H (upd (upd H1 S (.lst (asc.map V.int))) D (.lst [])) := sS.trans (same_new hD)
      have nDS : S ≠ D := ne_of_none upd_same hD
      have hDH : H D = none := sS.free hD
      have rl := r.len
      have hal : asc.length ≤ 100 := by rw [hp.length_eq]; exact hl
      refine rd_lpE (SqL.of (sD _ _ h)) ?_
      refine for_enum (xs := idx) (fun i σ H' => ∃ n t1 t2 t3 t4, σ = [some (.ref a), some (.ref b), some (.ref S), some (.ref D), some (.int (n : Nat)), some (.int (latS asc n)), t1, t2, t3, t4] ∧ n ≤ asc.length ∧ (∀ r ∈ rows.drop i, n ≤ cntS asc r.1) ∧ H' S = some (.lst (asc.map V.int)) ∧ H' D = some (.lst ((ixsW (hitL ns) rows i).map nv)) ∧ Same H H') ⟨0, none, none, none, none, rfl, Nat.zero_le _, fun _ _ => Nat.zero_le _, look_new hD upd_same, upd_same, sD⟩ (fun i σ H1 _ hI => ?_) (fun i v σ H1 W hv hI hW => ?_) (fun σ H1 hI => ?_)
      · obtain ⟨n, t1, t2, t3, t4, rfl, hn, hc, eS, eD, sm⟩ := hI
        exact SqL.of (sm _ _ h)
      · obtain ⟨n, t1, t2, t3, t4, rfl, hn, hc, eS, eD, sm⟩ := hI
        have hil := (List.getElem?_eq_some_iff.mp hv).1
        obtain ⟨r', hv2, hm, he, _⟩ := r.takeS hv
        have eD := look_new (o := .tup [.int (i : Nat), v]) hW eD
        have eS := look_new (o := .tup [.int (i : Nat), v]) hW eS
        have sm := sm.trans (same_new (o := .tup [.int (i : Nat), v]) hW)
        obtain ⟨bb, jl, j, rfl, hbb, hl2, hj⟩ := hv2.same sm
        have hdr : r' ∈ rows.drop i := List.mem_iff_getElem?.mpr ⟨0, by rw [List.getElem?_drop, Nat.add_zero]; exact he⟩
        have hnc := hc r' hdr
        have hcl := cntS_le asc (r'.1 : Int)
        have hmono : ∀ s ∈ rows.drop (i + 1), cntS asc (r'.1 : Int) ≤ cntS asc (s.1 : Int) := fun s hs => by
          obtain ⟨k, hk⟩ := List.mem_iff_getElem?.mp hs
          rw [List.getElem?_drop] at hk
          obtain ⟨e1, e2⟩ := List.getElem?_eq_some_iff.mp he
          obtain ⟨g1, g2⟩ := List.getElem?_eq_some_iff.mp hk
          have := (List.pairwise_iff_getElem.mp o.asc i (i + 1 + k) e1 g1 (by omega)).1
          rw [e2, g2] at this
          exact cntS_mono (by omega)
        walk_at "rd"
        refine while_n (fun m σ H' => σ = [some (.ref a), some (.ref b), some (.ref S), some (.ref D), some (.int ((n + m : Nat) : Int)), some (.int (latS asc (n + m))), some (.int (i : Nat)), some (.ref bb), some (.int (r'.1 : Nat)), some (.int (r'.2.2.2.2 : Nat))] ∧ H' = upd H1 W (.tup [.int (i : Nat), .ref bb])) (cntS asc r'.1 - n) ⟨rfl, rfl⟩ (fun m σ H' hm' hI => ?_)
        obtain ⟨rfl, rfl⟩ := hI
        walk_at "rd"
        refine rd_iteD (fun c => ?_) (fun c => ?_)
        · have cl : n + m < asc.length := by rw [List.length_map] at c; omega
          walk_at "rd"
          refine rd_ixL (SqL.of eS) (at_ints (List.getElem?_eq_getElem cl)) ?_
          walk_at "rd"
          refine rd_iteD (fun c2 => ?_) (fun c2 => ?_)
          · have hin : n + m < cntS asc (r'.1 : Int) := by
              by_cases z : n + m < cntS asc (r'.1 : Int)
              · exact z
              · have ze : cntS asc (r'.1 : Int) = n + m := by omega
                have := cntS_at (asc := asc) (z := (r'.1 : Int)) (by omega)
                simp only [ze] at this
                omega
            refine while_in (by omega) ?_
            walk_at "rd"
            refine rd_ixL (SqL.of eS) (at_ints (List.getElem?_eq_getElem cl)) ?_
            walk_at "rd"
            refine ⟨?_, rfl⟩
            rw [show n + (m + 1) = n + m + 1 by omega, latS_succ cl]
            rfl
          · have ee : n + m = cntS asc (r'.1 : Int) := by
              by_cases z : n + m < cntS asc (r'.1 : Int)
              · obtain ⟨_, z2⟩ := cntS_lt z
                exact (c2 z2).elim
              · omega
            walk_at "rd"
            have hh := latS_ge hp hso h0 r'
            rw [← ee] at hh
            have li := ixsW_len (hitL ns) rows i
            have hnew : ∀ s ∈ rows.drop (i + 1), n + m ≤ cntS asc (s.1 : Int) := fun s hs => by rw [ee]; exact hmono s hs
            cases c3 : hitL ns r' with
            | true =>
              refine if_yes (hh.trans c3) ?_
              walk_at "rd"
              refine rd_appG eD (by rw [List.length_map]; omega) ?_
              walk_at "rd"
              refine ⟨n + m, _, _, _, _, rfl, by omega, hnew, ?_, ?_, same_put sm hDH⟩
              · rw [upd_ne nDS]
                exact eS
              · rw [ixsW_snoc he, c3, if_pos rfl, List.map_append]
                exact upd_same
            | false =>
              refine if_no (hh.trans c3) ?_
              walk_at "rd"
              refine ⟨n + m, _, _, _, _, rfl, by omega, hnew, eS, ?_, sm⟩
              rw [ixsW_snoc he, c3, if_neg Bool.false_ne_true, List.append_nil]
              exact eD
        · have ee : n + m = cntS asc (r'.1 : Int) := by rw [List.length_map] at c; omega
          walk_at "rd"
          have hh := latS_ge hp hso h0 r'
          rw [← ee] at hh
          have li := ixsW_len (hitL ns) rows i
          have hnew : ∀ s ∈ rows.drop (i + 1), n + m ≤ cntS asc (s.1 : Int) := fun s hs => by rw [ee]; exact hmono s hs
          cases c3 : hitL ns r' with
          | true =>
            refine if_yes (hh.trans c3) ?_
            walk_at "rd"
            refine rd_appG eD (by rw [List.length_map]; omega) ?_
            walk_at "rd"
            refine ⟨n + m, _, _, _, _, rfl, by omega, hnew, ?_, ?_, same_put sm hDH⟩
            · rw [upd_ne nDS]
              exact eS
            · rw [ixsW_snoc he, c3, if_pos rfl, List.map_append]
              exact upd_same
          | false =>
            refine if_no (hh.trans c3) ?_
            walk_at "rd"
            refine ⟨n + m, _, _, _, _, rfl, by omega, hnew, eS, ?_, sm⟩
            rw [ixsW_snoc he, c3, if_neg Bool.false_ne_true, List.append_nil]
            exact eD
      · obtain ⟨n, t1, t2, t3, t4, rfl, hn, hc, eS, eD, sm⟩ := hI
        rw [rl] at eD
        walk_at "rd"
        exact q D _ ((hs1.trans (same_new hS)).free hD) sm eD
    ) only [↓lt_eq]
theorem ok_touched {f : Addr} {fd : FuncData} {f_unread_frames : Addr} {fd_unread_frames : FuncData} {f_reach : Addr} {fd_reach : FuncData}    (D : Dn K mg "touched" s_touched ["index", "lost"] f fd) (bi : Bi mg) (G_unread_frames : FnOk P w K mg base CX0 3 f_unread_frames fd_unread_frames ["index", "lost"] (spUnr K)) (D_unread_frames : Dn K mg "unread_frames" s_unread_frames ["index", "lost"] f_unread_frames fd_unread_frames) (G_reach : FnOk P w K mg base CX0 1 f_reach fd_reach ["entry"] (spReach K)) (D_reach : Dn K mg "reach" s_reach ["entry"] f_reach fd_reach)    : FnOk P w K mg base CX0 4 f fd ["index", "lost"] (spTch K) := by
  refine lt_out ?_
  simp (disch := with_unfolding_all
    refine D.F.ok sc_touched (fun vs H Q E h => ?_) (fun cdv A outer s H vs Q E hr h => ?_)
    · obtain ⟨a, b, idx, rows, ns, rfl, _⟩ := h
      rfl
    · obtain ⟨a, b, idx, rows, ns, rfl, h, r, o, l, hb, h0, hl, q⟩ := h
      refine ⟨_, (pss_cons (ps_set (i := 2) sc_touched.nd rfl (Or.inl rfl) (pe_lst pa_nil))
   (pss_cons (ps_for PassesOwn.never rfl (pi_list (pe_call G_unread_frames (hr.mono (by first | decide | exact Nat.le_refl _)) (by rfl) D_unread_frames.g D_unread_frames.F.kp D_unread_frames.b .nil pass0 (pa_cons (pv 0) (pa_cons (pv 1) pa_nil)))) (pg_name (i := 3) sc_touched.nd rfl (Or.inl rfl))
   (pss_cons (ps_asg (pe_call G_reach (hr.mono (by first | decide | exact Nat.le_refl _)) (by rfl) D_reach.g D_reach.F.kp D_reach.b .nil pass0 (pa_cons (pe_ix ix_list (pv 0) (pv 3) (fun _ _ => rfl)) pa_nil)) (pg_tup rfl (pgs_cons (pg_name (i := 4) sc_touched.nd rfl (Or.inl rfl)) (pgs_cons (pg_name (i := 5) sc_touched.nd rfl (Or.inl rfl)) pgs_nil))))
   (pss_one (ps_if (PW.pt (pw_and (pt_truth (pv 2) (by intro _; rfl)) (pw_and1 (pt_cmpR op_le (pv 4) (pe_ix ix_tup (pe_ix ix_list (pv 2) (pe_un un_neg pe_int) (fun _ _ => rfl)) pe_int (fun _ _ => rfl)) (nomark _)))))
   (pss_one (ps_asg (pe_tup (pa_cons (pe_ix ix_tup (pe_ix ix_list (pv 2) (pe_un un_neg pe_int) (fun _ _ => rfl)) pe_int (fun _ _ => rfl)) (pa_cons (pv 5) pa_nil))) (pg_sub (pv 2) (pe_un un_neg pe_int) set_list)))
   (pss_one (ps_expr (pe_bm PySem.F.plainAttrs_list PySem.F.slot_list_append PySem.F.type_list_append mt_append (pv 2) (pa_cons (pe_tup (pa_cons (pv 4) (pa_cons (pv 5) pa_nil))) pa_nil))))))))
   (pss_one (ps_ret (pv 2))))), ?_⟩
      refine rd_start (σ := [some (.ref a), some (.ref b), none, none, none, none]) rfl ?_
      walk_at "rd"
      rename_i D hD
      have sD := same_new (o := .lst []) hD
      have h1 := sD _ _ h
      refine use_unr h1 (r.same sD) o l (hb.same sD) h0 hl fun J H1 hJ hs1 eJ => ?_
      have sJ := sD.trans hs1
      have nDJ : D ≠ J := ne_of_none upd_same hJ
      have jl := ixsW_len (hitL ns) rows rows.length
      have rl := r.len
      generalize hjs : ixsW (hitL ns) rows rows.length = js at eJ jl
      have jlt : ∀ j ∈ js, j < rows.length := fun j hj => ixsW_lt (by rw [hjs]; exact hj)
      refine rd_lpL (SqL.of eJ) ?_
      refine for_list (xs := js.map nv) (fun i σ H' => ∃ ps t1 t2 t3, σ = [some (.ref a), some (.ref b), some (.ref D), t1, t2, t3] ∧ H' J = some (.lst (js.map nv)) ∧ H' D = some (.lst ps) ∧ PrsAt H' ps (mgA ((rowsAt rows (js.take i)).map ivW)) ∧ Same H H') ⟨[], none, none, none, rfl, eJ, hs1 _ _ upd_same, .nil, sJ⟩ (fun i σ H2 _ hI => ?_) (fun i v σ H2 hv hI => ?_) (fun σ H2 hI => ?_)
      · obtain ⟨ps, t1, t2, t3, rfl, eJ, eD, hps, sm⟩ := hI
        exact SqL.of eJ
      · obtain ⟨ps, t1, t2, t3, rfl, eJ, eD, hps, sm⟩ := hI
        obtain ⟨j, hj, rfl⟩ : ∃ j, js[i]? = some j ∧ v = nv j := by
          rw [List.getElem?_map] at hv
          cases e : js[i]? with
          | none => rw [e] at hv; cases hv
          | some j => rw [e] at hv; exact ⟨j, rfl, (Option.some.inj hv).symm⟩
        have hil := (List.getElem?_eq_some_iff.mp hj).1
        have hjl := jlt j (List.mem_of_getElem? hj)
        have gw := List.getElem?_eq_getElem (show j < idx.length by omega)
        obtain ⟨r', er, hv2, _⟩ := r.at_ j _ gw
        have et : js.take (i + 1) = js.take i ++ [j] := by rw [List.take_add_one, hj]; rfl
        have em : mgA ((rowsAt rows (js.take (i + 1))).map ivW) = mg1 (mgA ((rowsAt rows (js.take i)).map ivW)) (ivW r') := by
          rw [et, rowsAt_snoc er, List.map_append, List.map_singleton, mgA_snoc]
        have pl : ps.length ≤ 40 := by
          have z1 := hps.len
          have z2 := mgA_le ((rowsAt rows (js.take i)).map ivW) []
          have z3 := rowsAt_le rows (js.take i)
          rw [List.length_map, List.length_nil] at z2
          rw [List.length_take] at z3
          have z1 : ps.length = ((rowsAt rows (js.take i)).map ivW |>.foldl mg1 []).length := z1
          omega
        walk_at "rd"
        refine rd_ixL (SqL.of (sm _ _ h)) (atI_nat (j := j) gw) ?_
        walk_at "rd"
        refine use_reach (hv2.same sm) fun p H3 hp hs3 ep => ?_
        have eD := hs3 _ _ eD
        have eJ := hs3 _ _ eJ
        have hps := hps.lk (.of hs3)
        have sm := sm.trans hs3
        rw [em]
        generalize mgA ((rowsAt rows (js.take i)).map ivW) = S at hps
        walk_at "rd"
        rcases last_or S with rfl | ⟨S0, u, rfl⟩
        · cases hps
          refine ⟨_, .inl ⟨_, SqL.of eD, rfl⟩, ?_⟩
          refine if_no rfl ?_
          have hps : PrsAt H3 [] [] := .nil
          refine if_no rfl ?_
          walk_at "rd"
          rename_i t4 ht4
          have eD4 := look_new (o := .tup [.int (rnear r'), .int (rfar r')]) ht4 eD
          refine rd_appG eD4 (by omega) ?_
          walk_at "rd"
          have lk4 := (LK.new (o := .tup [.int (rnear r'), .int (rfar r')]) ht4).trans (LK.at (o := .lst (([] : List V) ++ [.ref t4])) eD4)
          refine ⟨_, _, _, _, rfl, ?_, upd_same, ?_, same_put (sm.trans (same_new ht4)) hD⟩
          · rw [upd_ne nDJ.symm]
            exact look_new ht4 eJ
          · rw [mg1_nil]
            exact (hps.lk lk4).app ⟨t4, rfl, by rw [upd_ne (ne_of_none eD ht4).symm]; exact upd_same⟩
        · obtain ⟨xs, x, rfl, hxs, t, rfl, et4⟩ := All2.snocE hps
          have hix : ixN (xs ++ [V.ref t]).length (-1) = some xs.length := by
            have l : (xs ++ [V.ref t]).length = xs.length + 1 := by simp
            unfold ixN
            rw [if_neg (by decide), l, if_pos (by omega)]
            exact congrArg some (by omega)
          refine ⟨_, .inl ⟨_, SqL.of eD, rfl⟩, ?_⟩
          refine if_yes (by cases xs <;> rfl) ?_
          walk_at "rd"
          refine rd_ixL (SqL.of eD) (atI_last _ _) ?_
          walk_at "rd"
          refine rd_iteD (p := rnear r' ≤ u.2) (fun c => ?_) (fun c => ?_)
          · walk_at "rd"
            refine rd_ixL (SqL.of eD) (atI_last _ _) ?_
            walk_at "rd"
            rename_i q5 hq5
            have c' : (ivW r').1 ≤ u.2 := c
            have eD5 := look_new (o := .tup [.int u.1, .int (rfar r')]) hq5 eD
            have es : (xs ++ [V.ref t]).set xs.length (.ref q5) = xs ++ [.ref q5] := by rw [List.set_append_right _ _ (Nat.le_refl _), Nat.sub_self]; rfl
            rw [es]
            have lk4 := (LK.new (o := .tup [.int u.1, .int (rfar r')]) hq5).trans (LK.at (o := .lst (xs ++ [.ref q5])) eD5)
            refine ⟨_, _, _, _, rfl, ?_, upd_same, ?_, same_put (sm.trans (same_new hq5)) hD⟩
            · rw [upd_ne nDJ.symm]
              exact look_new hq5 eJ
            · rw [mg1_yes c']
              exact All2.app (PrsAt.lk lk4 hxs) ⟨q5, rfl, by rw [upd_ne (ne_of_none eD hq5).symm]; exact upd_same⟩
          · have c' : ¬ (ivW r').1 ≤ u.2 := c
            walk_at "rd"
            rename_i t4 ht4
            have eD4 := look_new (o := .tup [.int (rnear r'), .int (rfar r')]) ht4 eD
            refine rd_appG eD4 (by omega) ?_
            walk_at "rd"
            have lk4 := (LK.new (o := .tup [.int (rnear r'), .int (rfar r')]) ht4).trans (LK.at (o := .lst ((xs ++ [.ref t]) ++ [.ref t4])) eD4)
            refine ⟨_, _, _, _, rfl, ?_, upd_same, ?_, same_put (sm.trans (same_new ht4)) hD⟩
            · rw [upd_ne nDJ.symm]
              exact look_new ht4 eJ
            · rw [mg1_no c']
              exact (hps.lk lk4).app ⟨t4, rfl, by rw [upd_ne (ne_of_none eD ht4).symm]; exact upd_same⟩
      · obtain ⟨ps, t1, t2, t3, rfl, eJ, eD, hps, sm⟩ := hI
        rw [List.length_map, List.take_length, ← hjs] at hps
        walk_at "rd"
        exact q D ps _ hD sm eD hps
    ) only [↓lt_eq]
theorem ok_entries_by_record {f : Addr} {fd : FuncData}     (D : Dn K mg "entries_by_record" s_entries_by_record ["index"] f fd) (bi : Bi mg)     : FnOk P w K mg base CX0 1 f fd ["index"] (spEbr K) := by
  refine lt_out ?_
  simp (disch := with_unfolding_all
    refine D.F.ok sc_entries_by_record (fun vs H Q E h => ?_) (fun cdv A outer s H vs Q E hr h => ?_)
    · obtain ⟨a, idx, rows, rfl, _⟩ := h
      rfl
    · obtain ⟨a, idx, rows, rfl, h, r, l, p, q⟩ := h
      refine ⟨_, (pss_one (ps_ret (pe_dc (own := [("entry", 1)]) (g := gName 1) (tt := tYes) rfl sc_entries_by_record.nd (pi_list (pv 0)) (blkOk_by (N := ["index", "entry"]) (sc := defScope s_entries_by_record) (by decide +kernel)) (fun _ _ _ _ _ => pg_name (i := 1) sc_entries_by_record.nd rfl (Or.inl rfl)) (fun _ _ _ _ _ => pts_nil) (fun _ _ _ _ _ => (pe_ix (show IxR _ (rIxT K) from ix_tup) (pv 1) pe_int (fun _ _ => rfl))) (fun _ _ _ _ _ => (pv 1))))), ?_⟩
      refine rd_start (σ := [some (.ref a), none]) rfl ?_
      walk_at "rd"
      refine rd_dcL ?_
      walk_at "rd"
      have rl := r.len
      refine ⟨a, rfl, ⟨_, SqL.of h⟩, fun D hD => ?_⟩
      refine dc_lst (xs := idx) (fun i H' => ∃ kvs, H' D = some (.dK kvs) ∧ kvs.length ≤ i ∧ Same H H' ∧ IdxD K H' kvs (rows.take i)) ⟨[], upd_same, Nat.zero_le _, same_new hD, IdxD.nil⟩ (fun i H' _ hI => ?_) (fun i v H' hv hI => ?_) (fun H' hI => ?_)
      · obtain ⟨kvs, e, _, sm, _⟩ := hI
        exact SqL.of (sm _ _ h)
      · obtain ⟨kvs, e, lk, sm, hx⟩ := hI
        obtain ⟨w, ew, hw⟩ := r.at2 hv
        have hw2 := hw.lk (.of sm)
        obtain ⟨b, jl, j, rfl, hb, _⟩ := id hw2
        have hil := (List.getElem?_eq_some_iff.mp ew).1
        walk_at "rd"
        refine ⟨rfl, ?_⟩
        walk_at "rd"
        refine ⟨kvs, .inl (w.1 : Int), rfl, e, Nat.lt_of_le_of_lt (show _ ≤ 10000 by omega) (by unfold sizeLine; decide), ?_⟩
        have lkD : LKD H' (upd H' D (.dK (putK kvs (.inl (w.1 : Int)) (.ref b)))) := LKD.at e
        refine ⟨_, upd_same, ?_, fun c o z => by rw [upd_ne (ne_of_none z hD)]; exact sm _ _ z, ?_⟩
        · have := length_putK kvs (.inl (w.1 : Int)) (V.ref b)
          omega
        · rw [List.take_add_one, ew]
          refine (hx.lkd lkD).put (hw2.lkd lkD) fun y hy => ?_
          obtain ⟨n, en⟩ := List.mem_iff_getElem?.mp hy
          have hn : n < i := by
            have := (List.getElem?_eq_some_iff.mp en).1
            rw [List.length_take] at this
            omega
          rw [List.getElem?_take_of_lt hn] at en
          have hnl := (List.getElem?_eq_some_iff.mp en).1
          have := List.pairwise_iff_getElem.mp p n i hnl hil hn
          rw [(List.getElem?_eq_some_iff.mp en).2, (List.getElem?_eq_some_iff.mp ew).2] at this
          exact this
      · obtain ⟨kvs, e, lk, sm, hx⟩ := hI
        rw [List.take_of_length_le (by omega)] at hx
        walk_at "rd"
        exact q D kvs H' hD sm e hx
    ) only [↓lt_eq]
theorem ok_read_as_told {f : Addr} {fd : FuncData} {f_is_state : Addr} {fd_is_state : FuncData} {f_is_frame : Addr} {fd_is_frame : FuncData} {f_read_frame : Addr} {fd_read_frame : FuncData}    (D : Dn K mg "read_as_told" s_read_as_told ["entry", "value", "tables"] f fd) (bi : Bi mg) (G_is_state : FnOk P w K mg base CX0 5 f_is_state fd_is_state ["value"] (spIsSt K)) (D_is_state : Dn K mg "is_state" s_is_state ["value"] f_is_state fd_is_state) (G_is_frame : FnOk P w K mg base CX0 5 f_is_frame fd_is_frame ["value"] (spIsFr K)) (D_is_frame : Dn K mg "is_frame" s_is_frame ["value"] f_is_frame fd_is_frame) (G_read_frame : FnOk P w K mg base CX0 7 f_read_frame fd_read_frame ["record", "tables"] (spRfM K)) (D_read_frame : Dn K mg "read_frame" s_read_frame ["record", "tables"] f_read_frame fd_read_frame)    : FnOk P w K mg base CX0 8 f fd ["entry", "value", "tables"] (spRat K) := by
  refine lt_out ?_
  simp (disch := with_unfolding_all
    refine D.F.ok sc_read_as_told (fun vs H Q E h => ?_) (fun cdv A outer s H vs Q E hr h => ?_)
    · obtain ⟨x, v, t, r, T, rfl, _⟩ := h
      rfl
    · obtain ⟨x, v, t, r, T, rfl, hr2, ok, hT, m, q⟩ := h
      refine ⟨_, (pss_cons (ps_if (pt_cmpR cIsN (pv 0) pe_non (nomark _))
   (pss_one (ps_ret (pe_ifExp (pt_val (pe_call G_is_state (hr.mono (by first | decide | exact Nat.le_refl _)) (by rfl) D_is_state.g D_is_state.F.kp D_is_state.b .nil pass0 (pa_cons (pv 1) pa_nil))) (pe_tup (pa_cons (pe_lst pa_nil) (pa_cons (pe_ix ix_tup (pv 1) pe_int (fun _ _ => rfl)) pa_nil))) pe_non)))
   pss_nil)
   (pss_cons (ps_asg (pe_tup (pa_cons (pe_ix ix_tup (pv 0) pe_int (fun _ _ => rfl)) (pa_cons (pe_ix ix_tup (pv 0) pe_int (fun _ _ => rfl)) (pa_cons (pe_ix ix_tup (pv 0) pe_int (fun _ _ => rfl)) (pa_cons (pe_ix ix_tup (pv 0) pe_int (fun _ _ => rfl)) pa_nil))))) (pg_tup rfl (pgs_cons (pg_name (i := 3) sc_read_as_told.nd rfl (Or.inl rfl)) (pgs_cons (pg_name (i := 4) sc_read_as_told.nd rfl (Or.inl rfl)) (pgs_cons (pg_name (i := 5) sc_read_as_told.nd rfl (Or.inl rfl)) (pgs_cons (pg_name (i := 6) sc_read_as_told.nd rfl (Or.inl rfl)) pgs_nil))))))
   (pss_cons (ps_if (PW.pt (pw_or (pt_not (pt_val (pe_call G_is_frame (hr.mono (by first | decide | exact Nat.le_refl _)) (by rfl) D_is_frame.g D_is_frame.F.kp D_is_frame.b .nil pass0 (pa_cons (pv 1) pa_nil)))) (pw_or1 (pt_cmpR (op_neD hr.units) (pe_slice sl_tup (pv 1) (po_some pe_int) (po_some pe_int)) (pe_tup (pa_cons (pv 3) (pa_cons (pv 4) (pa_cons (pv 5) (pa_cons (pv 6) pa_nil))))) (nomark _)))))
   (pss_one (ps_ret pe_non))
   pss_nil)
   (pss_one (ps_ret (pe_call G_read_frame (hr.mono (by first | decide | exact Nat.le_refl _)) (by rfl) D_read_frame.g D_read_frame.F.kp D_read_frame.b .nil pass0 (pa_cons (pv 1) (pa_cons (pv 2) pa_nil)))))))), ?_⟩
      refine rd_start (σ := [some x, some v, some (.ref t), none, none, none, none]) rfl ?_
      walk_at "rd"
      cases r with
      | st T' =>
        obtain rfl : x = .non := m
        refine if_yesD rfl ?_
        walk_at "rd"
        refine use_isst hr2 ok ?_
        obtain ⟨a, t', rfl, ha, hT'⟩ := hr2
        walk_at "rd"
        refine if_yes rfl ?_
        walk_at "rd"
        rename_i l hl p hp
        have s1 := same_new (o := .lst []) hl
        have s2 := same_new (o := .tup [.ref l, .ref t']) hp
        exact q p l t' _ (s1.free hp) (s1.trans s2) upd_same hl (s2 _ _ upd_same) (hT'.lk (.of (s1.trans s2)))
      | fr d ns T' =>
        obtain ⟨rfl, w, rfl, hw⟩ := m
        obtain ⟨b, jl, j, rfl, hb, hjl, hj⟩ := id hw
        obtain ⟨a, j2, rfl, ha, hj2⟩ := id hr2
        unfold FrAt at ha
        refine if_noD (fun z => V.noConfusion z) ?_
        walk_at "rd"
        rename_i p0 hp0
        have s0 := same_new (o := .tup [.int (w.2.2.1.1 : Nat), .ref j, .int (w.2.2.1.2.2.2.1 : Nat), .int (w.2.2.1.2.2.2.2 : Nat)]) hp0
        refine use_isfr (hr2.lk (.of s0)) ok fun H1 s1 => ?_
        have s1 := s0.trans s1
        walk_at "rd"
        refine rd_slTp (SqT.of (s1 _ _ ha)) (ys := [.int (w.2.2.1.1 : Nat), .ref j2, .int (w.2.2.1.2.2.2.1 : Nat), .int (w.2.2.1.2.2.2.2 : Nat)]) rfl (show ¬ (HT.sIx 7 0 (some 1) = 0 ∧ HT.sIx 7 7 (some 5) = 7) by decide) fun p1 hp1 => ?_
        walk_at "rd"
        rename_i p2 hp2
        have s2 := same_new (o := .tup [.int (w.2.2.1.1 : Nat), .ref j2, .int (w.2.2.1.2.2.2.1 : Nat), .int (w.2.2.1.2.2.2.2 : Nat)]) hp1
        have s3 := same_new (o := .tup [.int (w.2.2.1.1 : Nat), .ref j, .int (w.2.2.1.2.2.2.1 : Nat), .int (w.2.2.1.2.2.2.2 : Nat)]) hp2
        have s4 := s1.trans (s2.trans s3)
        refine rd_neTp (SqT.of (s3 _ _ upd_same)) (SqT.of upd_same) (.cons (.int _) (.cons (.tup (SqT.of (s4 _ _ hj2)) (.cons (.int _) (.cons (.int _) .nil))) (.cons (.int _) (.cons (.int _) .nil)))) (.cons (.int _) (.cons (.tup (SqT.of (s4 _ _ hj)) (.cons (.int _) (.cons (.int _) .nil))) (.cons (.int _) (.cons (.int _) .nil)))) rfl (Nat.le_of_ble_eq_true rfl) ?_
        walk_at "rd"
        refine use_rfM (hr2.lk (.of s4)) ok (hT.lk (.of s4)) fun p m q2 H2 hm0 hs2 hp9 hp hm hq2 => ?_
        exact q p m q2 H2 (s4.free hp9) (s4.trans hs2) hp (s4.free hm0) hm hq2
    ) only [↓lt_eq]
theorem ok_fetched_numbers {f : Addr} {fd : FuncData} {f_entries_by_record : Addr} {fd_entries_by_record : FuncData} {f_records_up_to : Addr} {fd_records_up_to : FuncData} {f_read_as_told : Addr} {fd_read_as_told : FuncData}    (D : Dn K mg "fetched_numbers" s_fetched_numbers ["index", "fetch", "entries"] f fd) (bi : Bi mg) (G_entries_by_record : FnOk P w K mg base CX0 1 f_entries_by_record fd_entries_by_record ["index"] (spEbr K)) (D_entries_by_record : Dn K mg "entries_by_record" s_entries_by_record ["index"] f_entries_by_record fd_entries_by_record) (G_records_up_to : FnOk P w K mg base CX0 1 f_records_up_to fd_records_up_to ["entries"] (spRcU K)) (D_records_up_to : Dn K mg "records_up_to" s_records_up_to ["entries"] f_records_up_to fd_records_up_to) (G_read_as_told : FnOk P w K mg base CX0 8 f_read_as_told fd_read_as_told ["entry", "value", "tables"] (spRat K)) (D_read_as_told : Dn K mg "read_as_told" s_read_as_told ["entry", "value", "tables"] f_read_as_told fd_read_as_told)   {a_START t0 t1 a_HARD : Addr} (g_START : mg "START" = some (.ref a_START)) (hSt : ∀ H, TupV K H a_START [.ref t0, .ref t1]) (hS0 : ∀ H, TupV K H t0 [.int 2, .int 1]) (hS1 : ∀ H, TupV K H t1 [.int 2, .int 1]) (g_HARD : mg "HARD" = some (.ref a_HARD)) (hHd : ∀ H, TupV K H a_HARD [.int 0, .int 0]) : FnC P w K mg base 9 1 f fd ["index", "fetch", "entries"] (spFet K) := by
  refine lt_out ?_
  simp (disch := with_unfolding_all
    refine fnC_of D.F sc_fetched_numbers (fun ff cc tt vs H Q E h => ?_) (fun ff cc tt cdv A outer s H vs Q E hr can h => ?_)
    · obtain ⟨x, e, idx, sel, rows, srows, rs, us, C, cs, Te, rfl, _⟩ := h
      rfl
    · obtain ⟨x, e, idx, sel, rows, srows, rs, us, C, cs, Te, rfl, hx, hrw, hl, hp, hro, hV, he, hsr, hsO, hrc, hgd, hul, hF, hlog, hcl, cx1, cx2, of, oc, cf, cc2, q⟩ := h
      refine ⟨_, (pss_cons (ps_set (i := 3) sc_fetched_numbers.nd rfl (Or.inl rfl) (pe_call G_entries_by_record (hr.mono (by first | decide | exact Nat.le_refl _)) (by rfl) D_entries_by_record.g D_entries_by_record.F.kp D_entries_by_record.b .nil pass0 (pa_cons (pv 0) pa_nil)))
   (pss_cons (ps_set (i := 4) sc_fetched_numbers.nd rfl (Or.inl rfl) pe_dnewK)
   (pss_cons (ps_set (i := 5) sc_fetched_numbers.nd rfl (Or.inl rfl) (pe_glob (v := .ref a_START) (by rfl) g_START rfl))
   (pss_cons (ps_for PassesOwn.never rfl (pi_list (pe_call G_records_up_to (hr.mono (by first | decide | exact Nat.le_refl _)) (by rfl) D_records_up_to.g D_records_up_to.F.kp D_records_up_to.b .nil pass0 (pa_cons (pv 2) pa_nil))) (pg_name (i := 6) sc_fetched_numbers.nd rfl (Or.inl rfl))
   (pss_cons (ps_set (i := 7) sc_fetched_numbers.nd rfl (Or.inl rfl) (pe_call G_read_as_told (hr.mono (by first | decide | exact Nat.le_refl _)) (by rfl) D_read_as_told.g D_read_as_told.F.kp D_read_as_told.b .nil pass0 (pa_cons (pe_dget1 (hu_of hr) (pv 3) (pv 6) ⟨rfl, rfl, rfl, rfl⟩) (pa_cons (pe_callC (i := 1) can (hr.mono (by first | decide | exact Nat.le_refl _)) rfl (Or.inl rfl) (pa_cons (pv 6) pa_nil)) (pa_cons (pv 5) pa_nil)))))
   (pss_cons (ps_if (pt_cmpR cIsN (pv 7) pe_non (nomark _))
   (pss_one ps_never)
   pss_nil)
   (pss_one (ps_asg (pv 7) (pg_tup rfl (pgs_cons (pg_sub (pv 4) (pv 6) (set_dict (hu_of hr))) (pgs_cons (pg_name (i := 5) sc_fetched_numbers.nd rfl (Or.inl rfl)) pgs_nil))))))))
   (pss_one (ps_ret (pv 4))))))), ?_⟩
      refine rd_start (σ := [some (.ref x), some (.ref ff), some (.ref e), none, none, none, none, none]) rfl ?_
      walk_at "rd"
      refine use_ebr hx hrw hl hp fun B kvB H1 hB s1 eB hix => ?_
      walk_at "rd"
      intro N hN
      have sN := same_new (o := .dK []) hN
      walk_at "rd"
      refine use_rcU (sN _ _ (s1 _ _ he)) (hsr.imp fun _ _ z => z.lk (.of (s1.trans sN))) hsO fun D0 H2 hD0 eD0 s2 => ?_
      have s02 := (s1.trans sN).trans s2
      have eN2 := s2 _ _ ((upd_same : (upd H1 N (.dK [])) N = some (.dK [])))
      have eB2 := s2 _ _ (sN _ _ eB)
      have hN0 : H N = none := s1.free hN
      have cN := hlog.ne hN0
      have cB := hlog.ne hB
      have hD00 : H D0 = none := (s1.trans sN).free hD0
      have cD0 := hlog.ne hD00
      have nBN : B ≠ N := ne_of_none eB hN
      have nDN : D0 ≠ N := (ne_of_none ((upd_same : (upd H1 N (.dK [])) N = some (.dK []))) hD0).symm
      rw [hrc] at eD0
      refine rd_lpL (SqL.of eD0) ?_
      refine for_list (xs := (us.map uI).map V.int) (fun i σ H' => ∃ kvs t n x6 x7, σ = [some (.ref x), some (.ref ff), some (.ref e), some (.ref B), some (.ref N), some (.ref t), x6, x7] ∧ H' N = some (.dK kvs) ∧ kvs.length ≤ i ∧ NumD C H' kvs rs (us.take i) ∧ TbsV K H' t (tbG T0 rs n) ∧ Gd rs n (us.drop i) ∧ KpL (N :: C.toList) H2 H' ∧ LKD H1 H' ∧ LogAt C H' (cs ++ (us.take i).map uI)) ⟨[], a_START, 0, none, none, rfl, eN2, Nat.le_refl _, NumD.nil, by rw [tbG_zero]; exact ⟨t0, t1, hSt _, hS0 _, hS1 _⟩, hgd, KpL.refl, LKD.of (sN.trans s2), by rw [List.take_zero, List.map_nil, List.append_nil]; exact hlog.same s02⟩ (fun i σ H' _ hI => ?_) (fun i v σ H' hv hI => ?_) (fun σ H' hI => ?_)
      · obtain ⟨kvs, t, n, x6, x7, rfl, eN, kl, hnd, ht, hg, kp, lk, hlg⟩ := hI
        exact SqL.of (kp _ _ (nm_cons nDN (nmO cD0)) eD0)
      · obtain ⟨kvs, t, n, x6, x7, rfl, eN, kl, hnd, ht, hg, kp, lk, hlg⟩ := hI
        obtain ⟨u, hu, rfl⟩ : ∃ u, us[i]? = some u ∧ v = .int (u : Nat) := by
          rw [List.getElem?_map, List.getElem?_map] at hv
          cases e : us[i]? with
          | none => rw [e] at hv; cases hv
          | some u => rw [e] at hv; exact ⟨u, rfl, (Option.some.inj hv).symm⟩
        have hil := (List.getElem?_eq_some_iff.mp hu).1
        rw [List.drop_eq_getElem_cons hil, (List.getElem?_eq_some_iff.mp hu).2] at hg
        obtain ⟨g1, g2, g3⟩ := hg
        have hr : rs[u]? = some rs[u] := List.getElem?_eq_getElem g1
        generalize rs[u] = r at hr
        have kpH : KpL C.toList H H' := fun a o m e => kp a o (nm_cons (ne_of_none e hN0) m) (s02 _ _ e)
        have eqT : ∀ {a o}, C ≠ some a → H a = some o → H' a = H a := fun {a o} n e => by
          rw [e]
          exact kpH a o (nmO n) e
        have eB' := kp _ _ (nm_cons nBN (nmO cB)) eB2
        have hix' := hix.lkd lk
        have hok := hV.ok r (List.mem_of_getElem? hr)
        obtain ⟨of', hof⟩ := of
        obtain ⟨oc', hoc⟩ := oc
        walk_at "rd"
        refine rd_dg1 ?_
        walk_at "rd"
        refine ⟨B, rfl, .inl ⟨kvB, .inl eB'⟩, ?_⟩
        walk_at "rd"
        refine ⟨_, DGet.k (k := .inl (u : Int)) eB', ?_⟩
        have hent : EntR K H' ((valV kvB (.inl (u : Int))).getD .non) (tbG T0 rs n) r := by
          cases r with
          | st T' =>
            rcases hix' u with ⟨w, hw, ew, _⟩ | ⟨_, z⟩
            · obtain ⟨ns, T2, e2⟩ := hro.fr w hw
              rw [ew, hr] at e2
              cases e2
            · show _ = V.non
              rw [z]
              rfl
          | fr d ns T' =>
            rcases hix' u with ⟨w, hw, ew, v2, z1, z2⟩ | ⟨z, _⟩
            · obtain ⟨ns2, T2, e2⟩ := hro.fr w hw
              rw [ew, hr] at e2
              have ed := Option.some.inj e2
              injection ed with ed1 ed2 ed3
              refine ⟨?_, w, ed1.symm, ?_⟩
              · rcases g2 with rfl | ⟨T3, g2⟩
                · exact hV.tb hr
                · rw [hr] at g2
                  cases g2
              · rw [z1]
                exact z2
            · obtain ⟨w, hw, ew, _⟩ := hro.all u d ns T' hr
              exact absurd ew (z w hw)
        walk_at "rd"
        refine rd_cC rfl (eqT cf hof) ?_
        walk_at "rd"
        refine ⟨eqT cf hof, eqT cc2 hoc, ?_⟩
        refine hF H' u r _ _ kpH hlg (by rw [List.length_append, List.length_map, List.length_take]; omega) (List.mem_of_getElem? hu) hr fun v hv => ?_
        have lkU : LK H' (logU C H' (cs ++ (us.take i).map uI) (u : Nat)) := logU_lk hlg
        have kpU : KpL C.toList H' (logU C H' (cs ++ (us.take i).map uI) (u : Nat)) := logU_kp
        have lgU : LogAt C (logU C H' (cs ++ (us.take i).map uI) (u : Nat)) _ := LogAt.up
        have hent := hent.lkd (LKD.lk lkU)
        have ht := ht.lk lkU
        have eN := kpU _ _ (nmO cN) eN
        generalize logU C H' (cs ++ (us.take i).map uI) (u : Nat) = G at *
        walk_at "rd"
        refine use_rat hv hok ht hent fun p l t' H3 hp0 s3 hp hl0 hl3 ht3 => ?_
        walk_at "rd"
        refine if_noD (fun z => V.noConfusion z) ?_
        walk_at "rd"
        have eN3 := s3 _ _ eN
        refine ⟨N, _, rfl, DPut.k (k := .inl (u : Int)) eN3 (Nat.lt_of_le_of_lt (show _ ≤ 10000 by omega) (by unfold sizeLine; decide)), ?_⟩
        walk_at "rd"
        have cl := lgU.ne hl0
        have nlN : l ≠ N := (ne_of_none eN hl0).symm
        have lkN : LKD H3 (upd H3 N (.dK (putK kvs (.inl (u : Int)) (.ref l)))) := LKD.at eN3
        have et : us.take (i + 1) = us.take i ++ [u] := by rw [List.take_add_one, hu]; rfl
        refine ⟨_, t', u + 1, _, _, rfl, upd_same, ?_, ?_, ?_, g3, ?_, ?_, ?_⟩
        · have := length_putK kvs (.inl (u : Int)) (V.ref l)
          omega
        · rw [et]
          refine hnd.put (fun b xs n e => ?_) hr cl (by rw [upd_ne nlN]; exact hl3)
          have e2 := s3 _ _ (kpU _ _ (nmO n) e)
          rw [upd_ne (fun z => by rw [z, eN3] at e2; cases e2)]
          exact e2
        · rw [tbG_at hr]
          exact ht3.lkd lkN
        · refine kp.trans ((kpU.mono fun a m => List.mem_cons_of_mem _ m).trans ((KpL.ofS s3).trans (KpL.at List.mem_cons_self)))
        · exact lk.trans ((LKD.lk lkU).trans ((LKD.of s3).trans lkN))
        · rw [et, List.map_append, ← List.append_assoc]
          exact (lgU.same s3).kp cN rfl
      · obtain ⟨kvs, t, n, x6, x7, rfl, eN, kl, hnd, ht, hg, kp, lk, hlg⟩ := hI
        rw [List.length_map, List.length_map, List.take_length] at hnd hlg
        have kpH : KpL C.toList H H' := fun a o m e => kp a o (nm_cons (ne_of_none e hN0) m) (s02 _ _ e)
        walk_at "rd"
        exact q N kvs H' hN0 kpH (LK.ofLog hlog kpH) hlg eN hnd
    ) only [↓lt_eq]
theorem ok_samples_of {f : Addr} {fd : FuncData} {f_block_values : Addr} {fd_block_values : FuncData} {f_unfolded_blocks : Addr} {fd_unfolded_blocks : FuncData}    (D : Dn K mg "samples_of" s_samples_of ["entries", "numbers"] f fd) (bi : Bi mg) (G_block_values : FnOk P w K mg base CX0 6 f_block_values fd_block_values ["numbers", "levels", "step"] spBlkV) (D_block_values : Dn K mg "block_values" s_block_values ["numbers", "levels", "step"] f_block_values fd_block_values) (G_unfolded_blocks : FnOk P w K mg base CX0 8 f_unfolded_blocks fd_unfolded_blocks ["blocks", "joints"] spUnB) (D_unfolded_blocks : Dn K mg "unfolded_blocks" s_unfolded_blocks ["blocks", "joints"] f_unfolded_blocks fd_unfolded_blocks)    : FnOk P w K mg base CX0 9 f fd ["entries", "numbers"] (spSmp K) := by
  refine lt_out ?_
  simp (disch := with_unfolding_all
    refine D.F.ok sc_samples_of (fun vs H Q E h => ?_) (fun cdv A outer s H vs Q E hr h => ?_)
    · obtain ⟨e, N, sel, srows, kvs, rs, p, wb, rfl, _⟩ := h
      rfl
    · obtain ⟨e, N, sel, srows, kvs, rs, p, wb, rfl, he, hr2, hl, eN, hch, htw, hp, q⟩ := h
      refine ⟨_, (pss_cons (ps_set (i := 2) sc_samples_of.nd rfl (Or.inl rfl) (pe_lst pa_nil))
   (pss_cons (ps_for PassesOwn.never rfl (pi_list (pv 0)) (pg_name (i := 3) sc_samples_of.nd rfl (Or.inl rfl))
   (pss_cons (ps_asg (pe_tup (pa_cons (pe_ix ix_tup (pv 3) pe_int (fun _ _ => rfl)) (pa_cons (pe_ix ix_tup (pv 3) pe_int (fun _ _ => rfl)) (pa_cons (pe_ix ix_tup (pv 3) pe_int (fun _ _ => rfl)) (pa_cons (pe_ix ix_tup (pv 3) pe_int (fun _ _ => rfl)) pa_nil))))) (pg_tup rfl (pgs_cons (pg_name (i := 4) sc_samples_of.nd rfl (Or.inl rfl)) (pgs_cons (pg_name (i := 5) sc_samples_of.nd rfl (Or.inl rfl)) (pgs_cons (pg_name (i := 6) sc_samples_of.nd rfl (Or.inl rfl)) (pgs_cons (pg_name (i := 7) sc_samples_of.nd rfl (Or.inl rfl)) pgs_nil))))))
   (pss_one (ps_if (pt_cmp (pc_din (hu_of hr) (pv 4) (pv 1)))
   (pss_one (ps_expr (pe_bm PySem.F.plainAttrs_list PySem.F.slot_list_append PySem.F.type_list_append mt_append (pv 2) (pa_cons (pe_call G_block_values (hr.mono (by first | decide | exact Nat.le_refl _)) (by rfl) D_block_values.g D_block_values.F.kp D_block_values.b .nil pass0 (pa_cons (pe_dget (hu_of hr) (pv 1) (pv 4) (fun _ _ => rfl)) (pa_cons (pv 6) (pa_cons (pv 7) pa_nil)))) pa_nil))))
   (pss_one (ps_expr (pe_bm PySem.F.plainAttrs_list PySem.F.slot_list_append PySem.F.type_list_append mt_append (pv 2) (pa_cons (pe_op op_rep (pe_lst (pa_cons pe_int pa_nil)) (pv 5)) pa_nil))))))))
   (pss_one (ps_ret (pe_call G_unfolded_blocks (hr.mono (by first | decide | exact Nat.le_refl _)) (by rfl) D_unfolded_blocks.g D_unfolded_blocks.F.kp D_unfolded_blocks.b .nil pass0 (pa_cons (pv 2) (pa_cons (pe_lc (own := [("entry", 3)]) (g := gName 3) (tt := tYes) rfl sc_samples_of.nd (pi_list (pv 0)) (blkOk_by (N := ["entries", "numbers", "blocks", "entry", "record", "length", "levels", "step"]) (sc := defScope s_samples_of) (by decide +kernel)) (fun _ _ _ _ _ => pg_name (i := 3) sc_samples_of.nd rfl (Or.inl rfl)) (fun _ _ _ _ _ => pts_nil) (fun _ _ _ _ _ => (pe_ix (show IxR _ (rIxT K) from ix_tup) (pv 3) pe_int (fun _ _ => rfl)))) pa_nil))))))), ?_⟩
      refine rd_start (σ := [some (.ref e), some (.ref N), none, none, none, none, none, none]) rfl ?_
      walk_at "rd"
      rename_i D hD
      have rl := hr2.len
      refine rd_lpL (SqL.of (look_new hD he)) ?_
      refine for_list (xs := sel) (fun i σ H' => ∃ bks x3 x4 x5 x6 x7, σ = [some (.ref e), some (.ref N), some (.ref D), x3, x4, x5, x6, x7] ∧ H' D = some (.lst bks) ∧ bks.length = i ∧ Same H H' ∧ All2 (fun v b => ∃ q, v = .ref q ∧ q ≠ D ∧ H' q = some (.lst (b.map V.int))) bks ((srows.take i).map (blS rs p))) ⟨[], _, _, _, _, _, rfl, upd_same, rfl, same_new hD, .nil⟩ (fun i σ H' _ hI => ?_) (fun i v σ H' hv hI => ?_) (fun σ H' hI => ?_)
      · obtain ⟨bks, x3, x4, x5, x6, x7, rfl, eD, bl, sm, hb⟩ := hI
        exact SqL.of (sm _ _ he)
      · obtain ⟨bks, x3, x4, x5, x6, x7, rfl, eD, bl, sm, hb⟩ := hI
        obtain ⟨r, er, hrw⟩ := hr2.at2 hv
        have hil := (List.getElem?_eq_some_iff.mp er).1
        obtain ⟨b, jl, j, rfl, hb0, _⟩ := hrw.lk (.of sm)
        obtain ⟨ok, p1, p2⟩ := hp r (List.mem_of_getElem? er)
        obtain ⟨o1, o2, o3, o4, o5, o6, o7, o8⟩ := ok
        have et : (srows.take (i + 1)).map (blS rs p) = (srows.take i).map (blS rs p) ++ [blS rs p r] := by rw [List.take_add_one, er, List.map_append]; rfl
        have eN' := sm _ _ eN
        walk_at "rd"
        rename_i t0 ht0
        have s0 := same_new (o := .tup [.int (r.1 : Nat), .int (r.2.2.1.1 : Nat), .int (r.2.2.1.2.2.2.1 : Nat), .int (r.2.2.1.2.2.2.2 : Nat)]) ht0
        refine rd_din ?_
        walk_at "rd"
        refine ⟨N, _, rfl, DGet.k (k := .inl (r.1 : Int)) (s0 _ _ eN'), ?_⟩
        cases hpr : p r with
        | true =>
          obtain ⟨a, z1, z2, z3⟩ := p1 hpr
          rw [z1]
          walk_at "rd"
          refine if_yes rfl ?_
          walk_at "rd"
          refine rd_dget ?_
          walk_at "rd"
          refine ⟨N, _, rfl, by have := DGet.k (k := .inl (r.1 : Int)) (s0 _ _ eN'); rw [z1] at this; exact this, ?_⟩
          walk_at "rd"
          refine use_blkV (s0 _ _ (sm _ _ z2)) (by omega) (by omega) o6 o8 fun B H2 hB s2 eB => ?_
          have s3 := s0.trans s2
          walk_at "rd"
          refine rd_appG (s3 _ _ eD) (by omega) ?_
          walk_at "rd"
          have sU : ∀ {c o}, c ≠ D → H' c = some o → (upd H2 D (.lst (bks ++ [.ref B]))) c = some o := fun {c o} n z => by rw [upd_ne n]; exact s3 _ _ z
          refine ⟨bks ++ [.ref B], _, _, _, _, _, rfl, upd_same, by rw [List.length_append, bl]; rfl, fun c o z => sU (ne_of_none z hD) (sm _ _ z), ?_⟩
          rw [et]
          have nB : B ≠ D := (ne_of_none (s0 _ _ eD) hB).symm
          refine All2.app (hb.imp fun _ _ ⟨q, e1, e2, e3⟩ => ⟨q, e1, e2, sU e2 e3⟩) ⟨B, rfl, nB, ?_⟩
          rw [upd_ne nB, eB]
          unfold blS
          rw [if_pos hpr]
        | false =>
          rw [p2 hpr]
          walk_at "rd"
          refine if_no rfl ?_
          walk_at "rd"
          rename_i Z hZ
          have s1 := same_new (o := .lst [.int 0]) hZ
          refine ⟨Z, (r.2.2.1.1 : Int), [.int 0], rfl, rfl, upd_same, by omega, by omega, by
            show 1 * ((r.2.2.1.1 : Nat) : Int).toNat ≤ sizeLine
            exact Nat.le_trans (show _ ≤ 10000 by omega) (by unfold sizeLine; decide), fun B hB => ?_⟩
          have s2 := same_new (o := .lst (List.replicate ((r.2.2.1.1 : Nat) : Int).toNat [V.int 0]).flatten) hB
          have s3 := s0.trans (s1.trans s2)
          walk_at "rd"
          refine rd_appG (s3 _ _ eD) (by omega) ?_
          walk_at "rd"
          have sU : ∀ {c o}, c ≠ D → H' c = some o → (upd (upd (upd (upd H' t0 _) Z _) B _) D (.lst (bks ++ [.ref B]))) c = some o := fun {c o} n z => by rw [upd_ne n]; exact s3 _ _ z
          refine ⟨bks ++ [.ref B], _, _, _, _, _, rfl, upd_same, by rw [List.length_append, bl]; rfl, fun c o z => sU (ne_of_none z hD) (sm _ _ z), ?_⟩
          rw [et]
          have nB : B ≠ D := (ne_of_none ((s0.trans s1) _ _ eD) hB).symm
          refine All2.app (hb.imp fun _ _ ⟨q, e1, e2, e3⟩ => ⟨q, e1, e2, sU e2 e3⟩) ⟨B, rfl, nB, ?_⟩
          rw [upd_ne nB, upd_same]
          unfold blS
          rw [if_neg (by rw [hpr]; exact Bool.false_ne_true), Int.toNat_natCast]
          exact congrArg (fun l => some (HO.lst l)) (zeros _)
      · obtain ⟨bks, x3, x4, x5, x6, x7, rfl, eD, bl, sm, hb⟩ := hI
        rw [List.take_of_length_le (by omega)] at hb
        obtain ⟨js, hj1, hj2⟩ := rws_js hr2
        walk_at "rd"
        refine ⟨e, rfl, ⟨_, SqL.of (sm _ _ he)⟩, fun D2 hD2 => ?_⟩
        refine lc_ofG (fun v u => ∃ a j x0 x1 x2 x3 x5 x6 x7, v = .ref a ∧ H a = some (.tup [x0, x1, x2, x3, .ref j, x5, x6, x7]) ∧ u = V.ref j) id hj1 (SqL.of (sm _ _ he)) (by omega) hD2 (fun v u H2 Q' hm hv2 hs2 hq => ?_) fun H2 s2 eD2 => ?_
        · obtain ⟨a, j, x0, x1, x2, x3, x5, x6, x7, rfl, k1, rfl⟩ := hv2
          have k1 := hs2 _ _ (sm _ _ k1)
          walk_at "rd"
          refine ⟨rfl, ?_⟩
          walk_at "rd"
          exact hq _ (Same.refl _)
        · rw [List.map_id] at eD2
          walk_at "rd"
          refine use_unB (s2 _ _ eD) (hb.imp fun _ _ ⟨q, e1, _, e3⟩ => ⟨q, e1, s2 _ _ e3⟩) ?_ eD2 (hj2.same (sm.trans s2)) hch (by rw [List.length_map]; omega) htw fun R H3 hR s3 eR => ?_
          · rw [List.map_map, List.map_map]
            refine List.map_congr_left fun r hr => ?_
            exact blS_len fun z => (let ⟨_, _, _, w⟩ := (hp r hr).2.1 z; w)
          · exact q R H3 (sm.free (s2.free hR)) ((sm.trans s2).trans s3) eR
    ) only [↓lt_eq]
theorem ok_concealed {f : Addr} {fd : FuncData} {f_unread_frames : Addr} {fd_unread_frames : FuncData} {f_fetched_numbers : Addr} {fd_fetched_numbers : FuncData} {f_samples_of : Addr} {fd_samples_of : FuncData}    (D : Dn K mg "concealed" s_concealed ["index", "fetch", "lost"] f fd) (bi : Bi mg) (G_unread_frames : FnOk P w K mg base CX0 3 f_unread_frames fd_unread_frames ["index", "lost"] (spUnr K)) (D_unread_frames : Dn K mg "unread_frames" s_unread_frames ["index", "lost"] f_unread_frames fd_unread_frames) (G_fetched_numbers : FnC P w K mg base 9 1 f_fetched_numbers fd_fetched_numbers ["index", "fetch", "entries"] (spFet K)) (D_fetched_numbers : Dn K mg "fetched_numbers" s_fetched_numbers ["index", "fetch", "entries"] f_fetched_numbers fd_fetched_numbers) (G_samples_of : FnOk P w K mg base CX0 9 f_samples_of fd_samples_of ["entries", "numbers"] (spSmp K)) (D_samples_of : Dn K mg "samples_of" s_samples_of ["entries", "numbers"] f_samples_of fd_samples_of)    : FnC P w K mg base 10 1 f fd ["index", "fetch", "lost"] (spConc K) := by
  refine lt_out ?_
  simp (disch := with_unfolding_all
    refine fnC_of D.F sc_concealed (fun ff cc tt vs H Q E h => ?_) (fun ff cc tt cdv A outer s H vs Q E hr can h => ?_)
    · obtain ⟨x, b, idx, rows, rs, ns, C, cs, Te, rfl, _⟩ := h
      rfl
    · obtain ⟨x, b, idx, rows, rs, ns, C, cs, Te, rfl, hx, hrw, hl, hO, hro, hV, hfw, htw, hb, h0, hnl, hF, hlog, hcl, cx, of, oc, cf, cc2, q⟩ := h
      refine ⟨_, (pss_cons (ps_set (i := 3) sc_concealed.nd rfl (Or.inl rfl) (pe_call G_unread_frames (hr.mono (by first | decide | exact Nat.le_refl _)) (by rfl) D_unread_frames.g D_unread_frames.F.kp D_unread_frames.b .nil pass0 (pa_cons (pv 0) (pa_cons (pv 2) pa_nil))))
   (pss_cons (ps_set (i := 4) sc_concealed.nd rfl (Or.inr rfl) (pe_dc (own := [("frame", 5)]) (g := gName 5) (tt := tYes) rfl sc_concealed.nd (pi_list (pv 3)) (blkOk_by (N := ["index", "fetch", "lost", "unread", "missing", "frame", "entries", "entry"]) (sc := defScope s_concealed) (by decide +kernel)) (fun _ _ _ _ _ => pg_name (i := 5) sc_concealed.nd rfl (Or.inl rfl)) (fun _ _ _ _ _ => pts_nil) (fun _ _ _ _ _ => (pv 5)) (fun _ _ _ _ _ => pe_bl)))
   (pss_cons (ps_setLc (i := 6) (own := [("frame", 5), ("entry", 7)]) (g := gTup K 2 (gCons (gName 5) (gCons (gName 7) gNil))) (tt := _) rfl sc_concealed.nd rfl rfl (sw_true rfl rfl rfl (by decide +kernel)) (pi_enum (by rfl) bi.enumerate_ (pa_cons (pv 0) pa_nil)) (blkOk_by (N := ["index", "fetch", "lost", "unread", "missing", "frame", "entries", "entry"]) (sc := defScope s_concealed) (by decide +kernel)) (fun _ _ _ _ _ => (by exact pg_tup rfl (pgs_cons (pg_name (i := 5) sc_concealed.nd rfl (Or.inl rfl)) (pgs_cons (pg_name (i := 7) sc_concealed.nd rfl (Or.inl rfl)) pgs_nil)))) (fun _ _ _ _ _ => (pts_one (pt_cmp (pc_dnotin (hu_of hr) (pv 5) (pv 4))))) (fun _ _ _ _ _ => (pv 7)))
   (pss_one (ps_ret (pe_call G_samples_of (hr.mono (by first | decide | exact Nat.le_refl _)) (by rfl) D_samples_of.g D_samples_of.F.kp D_samples_of.b .nil pass0 (pa_cons (pv 0) (pa_cons (pe_callFC G_fetched_numbers (src_par can) (hr.mono (by first | decide | exact Nat.le_refl _)) (by rfl) D_fetched_numbers.g D_fetched_numbers.F.kp D_fetched_numbers.b (pa_cons (pv 0) (pa_cons (pv 1) (pa_cons (pv 6) pa_nil)))) pa_nil)))))))), ?_⟩
      refine rd_start (σ := [some (.ref x), some (.ref ff), some (.ref b), none, none, none, none, none]) rfl ?_
      walk_at "rd"
      have rl := hrw.len
      refine use_unr hx hrw hO hl hb h0 hnl fun D1 H1 hD1 s1 eD1 => ?_
      walk_at "rd"
      refine rd_dcL ?_
      walk_at "rd"
      refine ⟨D1, rfl, ⟨_, SqL.of eD1⟩, fun M hM => ?_⟩
      have ixl : (ixsW (hitL ns) rows rows.length).length ≤ 40 := by
        unfold ixsW
        exact Nat.le_trans (List.length_filter_le _ _) (by rw [List.length_range]; omega)
      refine dc_lst (xs := (ixsW (hitL ns) rows rows.length).map nv) (fun i H' => ∃ kvs, H' M = some (.dK kvs) ∧ kvs.length ≤ i ∧ Same H1 H' ∧ ∀ u : Nat, (valV kvs (.inl (u : Int))).isSome = decide (u ∈ (ixsW (hitL ns) rows rows.length).take i)) ⟨[], upd_same, Nat.zero_le _, same_new hM, fun u => by rw [valV_nil, List.take_zero]; rfl⟩ (fun i H' _ hI => ?_) (fun i v H' hv hI => ?_) (fun H2 hI => ?_)
      · obtain ⟨kvs, e, _, sm, _⟩ := hI
        exact SqL.of (sm _ _ eD1)
      · obtain ⟨kvs, e, lk, sm, hk⟩ := hI
        obtain ⟨u, hu, rfl⟩ : ∃ u, (ixsW (hitL ns) rows rows.length)[i]? = some u ∧ v = nv u := by
          rw [List.getElem?_map] at hv
          cases e : (ixsW (hitL ns) rows rows.length)[i]? with
          | none => rw [e] at hv; cases hv
          | some u => rw [e] at hv; exact ⟨u, rfl, (Option.some.inj hv).symm⟩
        have hil := (List.getElem?_eq_some_iff.mp hu).1
        walk_at "rd"
        refine ⟨rfl, ?_⟩
        walk_at "rd"
        refine ⟨kvs, .inl (u : Int), rfl, e, Nat.lt_of_le_of_lt (show _ ≤ 10000 by omega) (by unfold sizeLine; decide), _, upd_same, ?_, fun c o z => by rw [upd_ne (ne_of_none z hM)]; exact sm _ _ z, fun w => ?_⟩
        · have := length_putK kvs (.inl (u : Int)) (V.bl true)
          omega
        · rw [valV_put, List.take_add_one, hu]
          by_cases c : w = u
          · subst c
            rw [if_pos rfl]
            exact (decide_eq_true (List.mem_append.mpr (.inr List.mem_cons_self))).symm
          · rw [if_neg (fun z => c (by have := Sum.inl.inj z; omega)), hk w]
            rw [Bool.eq_iff_iff, decide_eq_true_eq, decide_eq_true_eq, List.mem_append]
            constructor
            · exact .inl
            · rintro (z | z)
              · exact z
              · exact absurd (List.mem_singleton.mp z) c
      obtain ⟨kvs, eM, _, s2, hk⟩ := hI
      rw [List.length_map, List.take_length] at hk
      have s12 := s1.trans s2
      walk_at "rd"
      refine rd_lcE ?_
      walk_at "rd"
      refine ⟨x, idx, rfl, SqL.of (s12 _ _ hx), fun D hD => ?_⟩
      refine lc_enum (xs := idx) (fun i H' => ∃ sel, H' D = some (.lst sel) ∧ sel.length ≤ i ∧ Same H2 H' ∧ RwsV K H sel ((rows.take i).filter fun r => !hitL ns r)) ⟨[], upd_same, Nat.zero_le _, same_new hD, .nil⟩ (fun i H' _ hI => ?_) (fun i v H' T hv hI hT => ?_) (fun H3 hI => ?_)
      · obtain ⟨sel, e, _, sm, _⟩ := hI
        exact SqL.of (sm _ _ (s12 _ _ hx))
      · obtain ⟨sel, eD, sl, sm, hs⟩ := hI
        obtain ⟨r, er, hr2⟩ := hrw.at2 hv
        have hil := (List.getElem?_eq_some_iff.mp er).1
        have sT := same_new (o := .tup [.int (i : Nat), v]) hT
        have eM' := sT _ _ (sm _ _ eM)
        have eD' := sT _ _ eD
        have ef : (rows.take (i + 1)).filter (fun r => !hitL ns r) = (rows.take i).filter (fun r => !hitL ns r) ++ [r].filter fun r => !hitL ns r := by rw [List.take_add_one, er, List.filter_append]; rfl
        have hmem : decide (i ∈ ixsW (hitL ns) rows rows.length) = hitL ns r := by
          rw [Bool.eq_iff_iff, decide_eq_true_eq]
          unfold ixsW
          rw [List.mem_filter, List.mem_range, er]
          exact ⟨fun z => z.2, fun z => ⟨hil, z⟩⟩
        walk_at "rd"
        refine ⟨rfl, ?_⟩
        walk_at "rd"
        refine rd_dnin ?_
        walk_at "rd"
        refine ⟨M, _, rfl, DGet.k (k := .inl (i : Int)) eM', ?_⟩
        rw [hk i, hmem]
        cases ht : hitL ns r with
        | true =>
          walk_at "rd"
          refine ⟨sel, eD', by omega, sm.trans sT, ?_⟩
          rw [ef, List.filter_cons_of_neg (by rw [ht]; decide), List.filter_nil, List.append_nil]
          exact hs
        | false =>
          walk_at "rd"
          refine ⟨sel, eD', Nat.lt_of_le_of_lt (show _ ≤ 10000 by omega) (by unfold sizeLine; decide), sel ++ [v], upd_same, by rw [List.length_append]; exact Nat.succ_le_succ sl, fun c o z => by rw [upd_ne (ne_of_none z hD)]; exact sT _ _ (sm _ _ z), ?_⟩
          rw [ef, List.filter_cons_of_pos (by rw [ht]; rfl), List.filter_nil]
          exact All2.app hs hr2
      obtain ⟨sel, eD, sl, s3, hs⟩ := hI
      rw [List.take_of_length_le (by omega)] at hs
      have s03 := s12.trans s3
      have sub : (rows.filter fun r => !hitL ns r).Sublist rows := List.filter_sublist
      obtain ⟨us, eu, gu, lu, mu⟩ := fetch_of hro hO sub
      walk_at "rd"
      refine rd_cFC ?_
      walk_at "rd"
      obtain ⟨of', hof⟩ := id of
      obtain ⟨oc', hoc⟩ := id oc
      have eqT : ∀ {a o}, H a = some o → H3 a = H a := fun {a o} e => by rw [e]; exact s03 _ _ e
      refine ⟨ff, cc, tt, ⟨rfl, rfl, rfl, eqT hof, eqT hoc⟩, ?_⟩
      refine use_fet (s03 _ _ hx) (hrw.imp fun _ _ z => z.lk (.of s03)) hl (hO.asc.imp fun z => z.1) hro hV eD (hs.imp fun _ _ z => z.lk (.of s03)) (hO.sub sub) eu gu (by omega) ((hF us eu).kp (KpL.ofS s03)) (hlog.same s03) (by omega) cx (hlog.ne ((s12.free hD))) ⟨_, s03 _ _ hof⟩ ⟨_, s03 _ _ hoc⟩ cf cc2 fun N kvN H4 hN k4 lk4 lg4 eN hnd => ?_
      walk_at "rd"
      have k04 : KpL C.toList H H4 := (KpL.ofS s03).trans k4
      refine use_smp (rs := rs) (fun r => !hitL ns r) (k04 _ _ (nmO cx) hx) (hrw.imp fun _ _ z => z.lk ((LK.of s03).trans lk4)) hl eN (by rw [hfw]; exact hV.chn) (by rw [hfw]; exact htw) (fun r hr2 => ?_) fun R H5 hR s5 eR => ?_
      · obtain ⟨ms, T, e1, e2, e3, e4⟩ := hro.at_ hV hr2
        have ki := keep_iff hro hO mu hr2
        refine ⟨e3, fun z => ?_, fun z => ?_⟩
        · rcases hnd r.1 with ⟨_, r', a, f1, f2, f3, f4⟩ | ⟨n, _⟩
          · rw [e1] at f1
            cases f1
            exact ⟨a, f2, by rw [e2]; exact f4, by rw [e2]; exact e4⟩
          · exact absurd (ki.mpr z) n
        · rcases hnd r.1 with ⟨m, _⟩ | ⟨_, n⟩
          · rw [ki.mp m] at z
            cases z
          · exact n
      · rw [hfw] at eR
        exact q R us H5 ((k04.trans (KpL.ofS s5) |> fun k => by
          have h4 : H4 R = none := hR
          exact KpL.free k04 h4 (fun z => by
            cases C with
            | none => exact absurd z List.not_mem_nil
            | some c =>
              rw [List.mem_singleton.mp z] at h4
              have lg : H4 c = some _ := lg4
              rw [h4] at lg
              cases lg))) (k04.trans (KpL.ofS s5)) (lg4.same s5) lu eu eR
    ) only [↓lt_eq]
theorem ok_read_part {f : Addr} {fd : FuncData} {f_check_stretch : Addr} {fd_check_stretch : FuncData} {f_sound_length : Addr} {fd_sound_length : FuncData} {f_needed_entries : Addr} {fd_needed_entries : FuncData} {f_fetched_numbers : Addr} {fd_fetched_numbers : FuncData} {f_samples_of : Addr} {fd_samples_of : FuncData}    (D : Dn K mg "read_part" s_read_part ["index", "fetch", "start", "end"] f fd) (bi : Bi mg) (G_check_stretch : FnOk P w K mg base CX0 3 f_check_stretch fd_check_stretch ["start", "end", "length"] spStretch) (D_check_stretch : Dn K mg "check_stretch" s_check_stretch ["start", "end", "length"] f_check_stretch fd_check_stretch) (G_sound_length : FnOk P w K mg base CX0 1 f_sound_length fd_sound_length ["index"] (spSndLen K)) (D_sound_length : Dn K mg "sound_length" s_sound_length ["index"] f_sound_length fd_sound_length) (G_needed_entries : FnOk P w K mg base CX0 2 f_needed_entries fd_needed_entries ["index", "start", "end"] (spNdE K)) (D_needed_entries : Dn K mg "needed_entries" s_needed_entries ["index", "start", "end"] f_needed_entries fd_needed_entries) (G_fetched_numbers : FnC P w K mg base 9 1 f_fetched_numbers fd_fetched_numbers ["index", "fetch", "entries"] (spFet K)) (D_fetched_numbers : Dn K mg "fetched_numbers" s_fetched_numbers ["index", "fetch", "entries"] f_fetched_numbers fd_fetched_numbers) (G_samples_of : FnOk P w K mg base CX0 9 f_samples_of fd_samples_of ["entries", "numbers"] (spSmp K)) (D_samples_of : Dn K mg "samples_of" s_samples_of ["entries", "numbers"] f_samples_of fd_samples_of)    : FnC P w K mg base 10 1 f fd ["index", "fetch", "start", "end"] (spRpt K) := by
  refine lt_out ?_
  simp (disch := with_unfolding_all
    refine fnC_of D.F sc_read_part (fun ff cc tt vs H Q E h => ?_) (fun ff cc tt cdv A outer s H vs Q E hr can h => ?_)
    · obtain ⟨x, s, e, idx, rows, rs, C, cs, Te, rfl, _⟩ := h
      rfl
    · obtain ⟨x, s, e, idx, rows, rs, C, cs, Te, rfl, hx, hrw, hl, hO, hro, hV, hfw, htw, hT, hm, hse, hel, hF, hlog, hcl, cx, of, oc, cf, cc2, q⟩ := h
      refine ⟨_, (pss_cons (ps_expr (pe_call G_check_stretch (hr.mono (by first | decide | exact Nat.le_refl _)) (by rfl) D_check_stretch.g D_check_stretch.F.kp D_check_stretch.b .nil pass0 (pa_cons (pv 2) (pa_cons (pv 3) (pa_cons (pe_call G_sound_length (hr.mono (by first | decide | exact Nat.le_refl _)) (by rfl) D_sound_length.g D_sound_length.F.kp D_sound_length.b .nil pass0 (pa_cons (pv 0) pa_nil)) pa_nil)))))
   (pss_cons (ps_set (i := 4) sc_read_part.nd rfl (Or.inl rfl) (pe_call G_needed_entries (hr.mono (by first | decide | exact Nat.le_refl _)) (by rfl) D_needed_entries.g D_needed_entries.F.kp D_needed_entries.b .nil pass0 (pa_cons (pv 0) (pa_cons (pv 2) (pa_cons (pv 3) pa_nil)))))
   (pss_cons (ps_if (pt_not (pt_truth (pv 4) (by intro _; rfl)))
   (pss_one (ps_ret (pe_lst pa_nil)))
   pss_nil)
   (pss_cons (ps_set (i := 5) sc_read_part.nd rfl (Or.inl rfl) (pe_call G_samples_of (hr.mono (by first | decide | exact Nat.le_refl _)) (by rfl) D_samples_of.g D_samples_of.F.kp D_samples_of.b .nil pass0 (pa_cons (pv 4) (pa_cons (pe_callFC G_fetched_numbers (src_par can) (hr.mono (by first | decide | exact Nat.le_refl _)) (by rfl) D_fetched_numbers.g D_fetched_numbers.F.kp D_fetched_numbers.b (pa_cons (pv 0) (pa_cons (pv 1) (pa_cons (pv 4) pa_nil)))) pa_nil))))
   (pss_cons (ps_set (i := 6) sc_read_part.nd rfl (Or.inl rfl) (pe_ix ix_tup (pe_ix ix_list (pv 4) pe_int (fun _ _ => rfl)) pe_int (fun _ _ => rfl)))
   (pss_one (ps_ret (pe_slice sl_list (pv 5) (po_some (pe_op op_sub (pv 2) (pv 6))) (po_some (pe_op op_sub (pv 3) (pv 6))))))))))), ?_⟩
      refine rd_start (σ := [some (.ref x), some (.ref ff), some (.int (s : Nat)), some (.int (e : Nat)), none, none, none]) rfl ?_
      walk_at "rd"
      refine use_sndlen hx hrw ?_
      walk_at "rd"
      have hln := til_len hT
      rw [hfw] at hln
      refine use_stretch (by omega) (by omega) (by rw [hln]; omega) fun H1 s1 => ?_
      walk_at "rd"
      refine use_ndE (s1 _ _ hx) (hrw.imp fun _ _ z => z.lk (.of s1)) hl fun D sel H2 hD eD hsel s2 => ?_
      have s12 := s1.trans s2
      walk_at "rd"
      refine ⟨_, .inl ⟨_, SqL.of eD, rfl⟩, ?_⟩
      have lsel := hsel.len
      by_cases cse : s = e
      · have e0 : ndW (s : Int) (e : Int) rows = [] := if_pos (by rw [cse])
        rw [e0] at hsel
        cases hsel
        refine if_yes rfl ?_
        walk_at "rd"
        rename_i D2 hD2
        refine q D2 [] _ (s12.free hD2) (KpL.ofS (s12.trans (same_new hD2))) ?_ (Nat.zero_le _) (by rw [e0]; rfl) ?_
        · rw [show cs ++ ([] : List Nat).map uI = cs from List.append_nil cs]
          exact hlog.same (s12.trans (same_new hD2))
        · rw [cse, Nat.sub_self, List.take_zero]
          exact upd_same
      have sub : (ndW (s : Int) (e : Int) rows).Sublist rows := nd_sub
      obtain ⟨us, eu, gu, lu, mu⟩ := fetch_of hro hO sub
      obtain ⟨r, B, eB, hrs, her, hcB, hmB, hpt⟩ := part_eq (blk := fun r => kfB r.2.2.1 (nsA rs r.1)) hT (by rw [hfw]; exact hV.chn) hm (fun r hr => by
        obtain ⟨ms, T, e1, e2, e3, e4⟩ := hro.at_ hV hr
        exact kfB_len2 (by rw [e2, e4])) (show s < e by omega) (by rw [hfw]; exact hel)
      rw [hfw] at hpt
      have hF2 := hF us eu
      have eu2 := eu
      have sub2 := sub
      rw [eB] at hsel lsel sub eu mu
      have bB : totW ((r :: B).map rwF) ≤ 10000 := by
        have := hsub_tot sub
        rw [hfw] at this
        omega
      have lsl : sel.length ≤ 40 := by
        have := sub.length_le
        have := hrw.len
        omega
      cases sel with
      | nil => cases lsel
      | cons v0 sel =>
      refine if_no rfl ?_
      walk_at "rd"
      refine rd_cFC ?_
      walk_at "rd"
      obtain ⟨of', hof⟩ := id of
      obtain ⟨oc', hoc⟩ := id oc
      have eqT : ∀ {a o}, H a = some o → H2 a = H a := fun {a o} e => by rw [e]; exact s12 _ _ e
      refine ⟨ff, cc, tt, ⟨rfl, rfl, rfl, eqT hof, eqT hoc⟩, ?_⟩
      refine use_fet (s12 _ _ hx) (hrw.imp fun _ _ z => z.lk (.of s12)) hl (hO.asc.imp fun z => z.1) hro hV eD hsel (hO.sub sub) eu gu (by omega) (hF2.kp (KpL.ofS s12)) (hlog.same s12) (by omega) cx (hlog.ne (s1.free hD)) ⟨_, s12 _ _ hof⟩ ⟨_, s12 _ _ hoc⟩ cf cc2 fun N kvs H4 hN k4 lk4 lg4 eN hnd => ?_
      walk_at "rd"
      have k04 : KpL C.toList H H4 := (KpL.ofS s12).trans k4
      have eD4 : H4 D = some (.lst (v0 :: sel)) := k4 _ _ (nmO (hlog.ne (s1.free hD))) eD
      refine use_smp (rs := rs) (wb := 0) (fun _ => true) eD4 (hsel.imp fun _ _ z => z.lk lk4) lsl eN hcB bB (fun r2 hr2 => ?_) fun R H5 hR s5 eR => ?_
      · have hr3 := hmB r2 hr2
        obtain ⟨ms, T, e1, e2, e3, e4⟩ := hro.at_ hV hr3
        refine ⟨e3, fun _ => ?_, fun z => nomatch z⟩
        rcases hnd r2.1 with ⟨_, r', a, f1, f2, f3, f4⟩ | ⟨n, _⟩
        · rw [e1] at f1
          cases f1
          exact ⟨a, f2, by rw [e2]; exact f4, by rw [e2]; exact e4⟩
        · exact absurd ((mu r2 hr3).mpr ⟨r2, hr2, (hO.each r2 hr3).1.o, Nat.le_refl _⟩) n
      rw [blS_all] at eR
      have eD5 := s5 _ _ eD4
      obtain ⟨hv0, _⟩ : RwV K H2 v0 r ∧ True := by
        cases hsel with
        | cons h _ => exact ⟨h, trivial⟩
      obtain ⟨a0, jl0, j0, rfl, k1, _⟩ := hv0.lk (lk4.trans (LK.of s5))
      walk_at "rd"
      have lR : (sndW ((r :: B).map rwF) (allB rs (r :: B))).length = totW ((r :: B).map rwF) := by
        unfold sndW
        rw [turnL_length]
        refine blk_len fun q hq => ?_
        obtain ⟨ms, T, e1, e2, e3, e4⟩ := hro.at_ hV (hmB q hq)
        exact kfB_len2 (by rw [e2, e4])
      rw [show ((s : Int) - (r.2.1 : Nat)) = ((s - r.2.1 : Nat) : Int) by omega, show ((e : Int) - (r.2.1 : Nat)) = ((e - r.2.1 : Nat) : Int) by omega]
      refine rd_slM (SqL.of eR) (by rw [lR]; omega) (by rw [lR]; omega) fun D2 hD2 => ?_
      have k05 := k04.trans (KpL.ofS s5)
      have lg5 := lg4.same s5
      refine q D2 us _ (free_log k05 lg5 hD2) (k05.trans (KpL.new hD2)) (lg5.same (same_new hD2)) lu eu2 ?_
      rw [upd_same, show e - r.2.1 - (s - r.2.1) = e - s by omega]
      exact congrArg (fun l : List Int => some (HO.lst (l.map V.int))) hpt.symm
    ) only [↓lt_eq]
theorem ok_salvaged {f : Addr} {fd : FuncData} {f_entries_by_record : Addr} {fd_entries_by_record : FuncData} {f_read_as_told : Addr} {fd_read_as_told : FuncData} {f_samples_of : Addr} {fd_samples_of : FuncData}    (D : Dn K mg "salvaged" s_salvaged ["index", "records"] f fd) (bi : Bi mg) (G_entries_by_record : FnOk P w K mg base CX0 1 f_entries_by_record fd_entries_by_record ["index"] (spEbr K)) (D_entries_by_record : Dn K mg "entries_by_record" s_entries_by_record ["index"] f_entries_by_record fd_entries_by_record) (G_read_as_told : FnOk P w K mg base CX0 8 f_read_as_told fd_read_as_told ["entry", "value", "tables"] (spRat K)) (D_read_as_told : Dn K mg "read_as_told" s_read_as_told ["entry", "value", "tables"] f_read_as_told fd_read_as_told) (G_samples_of : FnOk P w K mg base CX0 9 f_samples_of fd_samples_of ["entries", "numbers"] (spSmp K)) (D_samples_of : Dn K mg "samples_of" s_samples_of ["entries", "numbers"] f_samples_of fd_samples_of)   {a_START t0 t1 a_HARD : Addr} (g_START : mg "START" = some (.ref a_START)) (hSt : ∀ H, TupV K H a_START [.ref t0, .ref t1]) (hS0 : ∀ H, TupV K H t0 [.int 2, .int 1]) (hS1 : ∀ H, TupV K H t1 [.int 2, .int 1]) (g_HARD : mg "HARD" = some (.ref a_HARD)) (hHd : ∀ H, TupV K H a_HARD [.int 0, .int 0]) : FnOk P w K mg base CX0 10 f fd ["index", "records"] (spSal K) := by
  refine lt_out ?_
  simp (disch := with_unfolding_all
    refine D.F.ok sc_salvaged (fun vs H Q E h => ?_) (fun cdv A outer s H vs Q E hr h => ?_)
    · obtain ⟨x, R, idx, refs, rows, rs, Te, rfl, _⟩ := h
      rfl
    · obtain ⟨x, R, idx, refs, rows, rs, Te, rfl, hx, hrw, hl, hO, hro, hV, hfw, htw, hR, hRc, hrl, q⟩ := h
      refine ⟨_, (C8.pss_cut (ps_if (PW.pt (pw_or (pt_not (pt_val (pe_callB call_isiT (by rfl) bi.isinstance_ (by decide +kernel) (pa_cons (pv 1) (pa_cons (pe_tup (pa_cons (pe_bltn (v := .ty "list") (by rfl) bi.list_ (by decide +kernel) rfl) (pa_cons (pe_bltn (v := .ty "tuple") (by rfl) bi.tuple_ (by decide +kernel) rfl) pa_nil))) pa_nil))))) (pw_or1 (PW.pt (pw_and (pt_truth (pv 0) (by intro _; rfl)) (pw_and1 (pt_cmpR op_le (pe_callB cLen (by rfl) bi.len_ (by decide +kernel) (pa_cons (pv 1) pa_nil)) (pe_ix ix_tup (pe_ix ix_list (pv 0) (pe_un un_neg pe_int) (fun _ _ => rfl)) pe_int (fun _ _ => rfl)) (nomark _))))))))
   (pss_one ps_never)
   pss_nil)
   (pss_cons (ps_set (i := 2) sc_salvaged.nd rfl (Or.inl rfl) (pe_call G_entries_by_record (hr.mono (by first | decide | exact Nat.le_refl _)) (by rfl) D_entries_by_record.g D_entries_by_record.F.kp D_entries_by_record.b .nil pass0 (pa_cons (pv 0) pa_nil)))
   (pss_cons (ps_set (i := 3) sc_salvaged.nd rfl (Or.inl rfl) pe_dnewK)
   (pss_cons (ps_set (i := 4) sc_salvaged.nd rfl (Or.inl rfl) (pe_lst pa_nil))
   (pss_cons (ps_set (i := 5) sc_salvaged.nd rfl (Or.inl rfl) (pe_glob (v := .ref a_START) (by rfl) g_START rfl))
   (pss_cons (ps_for PassesOwn.never rfl (pi_enum (by rfl) bi.enumerate_ (pa_cons (pv 1) pa_nil)) (pg_tup rfl (pgs_cons (pg_name (i := 6) sc_salvaged.nd rfl (Or.inl rfl)) (pgs_cons (pg_name (i := 7) sc_salvaged.nd rfl (Or.inl rfl)) pgs_nil)))
   (pss_cons (ps_set (i := 8) sc_salvaged.nd rfl (Or.inl rfl) (pe_dget1 (hu_of hr) (pv 2) (pv 6) ⟨rfl, rfl, rfl, rfl⟩))
   (pss_one (ps_if (PW.pt (pw_or (pt_cmpR op_notN (pv 5) pe_non (nomark _)) (pw_or1 (pt_cmpR cIsN (pv 8) pe_non (nomark _)))))
   (pss_cons (ps_set (i := 9) sc_salvaged.nd rfl (Or.inl rfl) (pe_call G_read_as_told (hr.mono (by first | decide | exact Nat.le_refl _)) (by rfl) D_read_as_told.g D_read_as_told.F.kp D_read_as_told.b .nil pass0 (pa_cons (pv 8) (pa_cons (pv 7) (pa_cons (pv 5) pa_nil)))))
   (pss_one (ps_if (pt_cmpR cIsN (pv 9) pe_non (nomark _))
   (pss_cons (ps_expr (pe_bm PySem.F.plainAttrs_list PySem.F.slot_list_append PySem.F.type_list_append mt_append (pv 4) (pa_cons (pv 6) pa_nil)))
   (pss_one (ps_set (i := 5) sc_salvaged.nd rfl (Or.inl rfl) pe_non)))
   (pss_one (ps_asg (pv 9) (pg_tup rfl (pgs_cons (pg_sub (pv 3) (pv 6) (set_dict (hu_of hr))) (pgs_cons (pg_name (i := 5) sc_salvaged.nd rfl (Or.inl rfl)) pgs_nil))))))))
   pss_nil))))
   (pss_one (ps_ret (pe_tup (pa_cons (pe_call G_samples_of (hr.mono (by first | decide | exact Nat.le_refl _)) (by rfl) D_samples_of.g D_samples_of.F.kp D_samples_of.b .nil pass0 (pa_cons (pv 0) (pa_cons (pv 3) pa_nil))) (pa_cons (pv 4) pa_nil))))))))))), ?_⟩
      refine rd_start (σ := [some (.ref x), some (.ref R), none, none, none, none, none, none, none, none]) rfl ?_
      have hln := hRc.len
      refine rd_cut (fun σ G => σ = [some (.ref x), some (.ref R), none, none, none, none, none, none, none, none] ∧ Same H G) ?_ fun σ1 H0 hM => ?_
      · walk_at "rd"
        rename_i t ht
        have st := same_new (o := .tup [.ty "list", .ty "tuple"]) ht
        refine isiT_lst (st _ _ hR) upd_same ?_
        walk_at "rd"
        refine ⟨_, .inl ⟨_, SqL.of (st _ _ hx), rfl⟩, ?_⟩
        rcases hrw.lastE with ⟨rfl, rfl⟩ | ⟨xs, v, rws, r', rfl, rfl, hv⟩
        · walk_at "rd"
          exact ⟨rfl, st⟩
        · obtain ⟨ns, T, e⟩ := hro.fr r' (List.mem_append.mpr (.inr List.mem_cons_self))
          have hlt := (List.getElem?_eq_some_iff.mp e).1
          obtain ⟨b, jl, j, rfl, hb, _⟩ := hv
          refine if_yes (by cases xs <;> rfl) ?_
          walk_at "rd"
          refine rd_ixL (SqL.of (st _ _ hx)) (atI_last _ _) ?_
          walk_at "rd"
          refine if_no (decide_eq_false (by omega)) ?_
          walk_at "rd"
          exact ⟨rfl, st⟩
      obtain ⟨rfl, s0⟩ := hM
      have hx0 := s0 _ _ hx
      have hR0 := s0 _ _ hR
      walk_at "rd"
      refine use_ebr hx0 (hrw.imp fun _ _ z => z.lk (.of s0)) hl (hO.asc.imp fun z => z.1) fun B kvB H1 hB s1 eB hix => ?_
      walk_at "rd"
      intro N hN
      have sN := same_new (o := .dK []) hN
      walk_at "rd"
      rename_i L hL
      have sL := same_new (o := .lst []) hL
      have s02 : Same H _ := s0.trans (s1.trans (sN.trans sL))
      have eN2 := sL _ _ ((upd_same : (upd H1 N (.dK [])) N = some (.dK [])))
      have eL2 : (upd (upd H1 N (.dK [])) L (.lst [])) L = some (.lst []) := upd_same
      have eB2 := sL _ _ (sN _ _ eB)
      have hN0 : H N = none := (s0.trans s1).free hN
      have nBN : B ≠ N := ne_of_none eB hN
      have nLN : L ≠ N := (ne_of_none ((upd_same : (upd H1 N (.dK [])) N = some (.dK []))) hL).symm
      have hR2 := s02 _ _ hR
      have nRN : R ≠ N := ne_of_none hR hN0
      generalize eH2 : upd (upd H1 N (.dK [])) L (.lst []) = H2 at *
      refine rd_lpE (SqL.of hR2) ?_
      refine for_enum (xs := refs) (fun i σ H' => ∃ kvs t x6 x7 x8 x9, σ = [some (.ref x), some (.ref R), some (.ref B), some (.ref N), some (.ref L), some (.ref t), x6, x7, x8, x9] ∧ H' N = some (.dK kvs) ∧ kvs.length ≤ i ∧ NumD none H' kvs rs (List.range i) ∧ TbsV K H' t (tbG T0 rs i) ∧ KpL [N] H2 H' ∧ LKD H1 H') ⟨[], a_START, none, none, none, none, rfl, eN2, Nat.le_refl _, NumD.nil, by rw [tbG_zero]; exact ⟨t0, t1, hSt _, hS0 _, hS1 _⟩, KpL.refl, LKD.of (sN.trans sL)⟩ (fun i σ H' _ hI => ?_) (fun i v σ H' T hv hI hT => ?_) (fun σ H' hI => ?_)
      · obtain ⟨kvs, t, x6, x7, x8, x9, rfl, eN, kl, hnd, ht, kp, lk⟩ := hI
        exact SqL.of (kp _ _ (nm_cons nRN List.not_mem_nil) hR2)
      · obtain ⟨kvs, t, x6, x7, x8, x9, rfl, eN, kl, hnd, ht, kp, lk⟩ := hI
        obtain ⟨r, hr, hv2⟩ := hRc.at2 hv
        have hil := (List.getElem?_eq_some_iff.mp hr).1
        have sT := same_new (o := .tup [.int (i : Nat), v]) hT
        have kpH : KpL [] H H' := fun a o m e => kp a o (nm_cons (ne_of_none e hN0) List.not_mem_nil) (s02 _ _ e)
        have sHH : Same H H' := fun b o e => kpH b o List.not_mem_nil e
        have eB' := sT _ _ (kp _ _ (nm_cons nBN List.not_mem_nil) eB2)
        have hix' := (hix.lkd lk).lkd (LKD.of sT)
        have hok := hV.ok r (List.mem_of_getElem? hr)
        have hv3 := (hv2.lk (.of sHH)).lk (.of sT)
        have ht' := ht.lkd (LKD.of sT)
        have eN' := sT _ _ eN
        walk_at "rd"
        refine rd_dg1 ?_
        walk_at "rd"
        refine ⟨B, rfl, .inl ⟨kvB, .inl eB'⟩, ?_⟩
        walk_at "rd"
        refine ⟨_, DGet.k (k := .inl (i : Int)) eB', ?_⟩
        have hent : EntR K (upd H' T (.tup [.int (i : Nat), v])) ((valV kvB (.inl (i : Int))).getD .non) (tbG T0 rs i) r := by
          cases r with
          | st T' =>
            rcases hix' i with ⟨w, hw, ew, _⟩ | ⟨_, z⟩
            · obtain ⟨ns, T2, e2⟩ := hro.fr w hw
              rw [ew, hr] at e2
              cases e2
            · show _ = V.non
              rw [z]
              rfl
          | fr d ns T' =>
            rcases hix' i with ⟨w, hw, ew, v2, z1, z2⟩ | ⟨z, _⟩
            · obtain ⟨ns2, T2, e2⟩ := hro.fr w hw
              rw [ew, hr] at e2
              have ed := Option.some.inj e2
              injection ed with ed1 ed2 ed3
              refine ⟨hV.tb hr, w, ed1.symm, ?_⟩
              rw [z1]
              exact z2
            · obtain ⟨w, hw, ew, _⟩ := hro.all i d ns T' hr
              exact absurd ew (z w hw)
        walk_at "rd"
        refine ⟨rfl, ?_⟩
        walk_at "rd"
        refine if_yes (by rw [decide_eq_false (fun z => V.noConfusion z)]; rfl) ?_
        walk_at "rd"
        refine use_rat hv3 hok ht' hent fun p l t' H3 hp0 s3 hp hl0 hl3 ht3 => ?_
        walk_at "rd"
        refine if_noD (fun z => V.noConfusion z) ?_
        walk_at "rd"
        have eN3 := s3 _ _ eN'
        refine ⟨N, _, rfl, DPut.k (k := .inl (i : Int)) eN3 (Nat.lt_of_le_of_lt (show _ ≤ 10000 by omega) (by unfold sizeLine; decide)), ?_⟩
        walk_at "rd"
        have nlN : l ≠ N := (ne_of_none eN' hl0).symm
        have lkN : LKD H3 (upd H3 N (.dK (putK kvs (.inl (i : Int)) (.ref l)))) := LKD.at eN3
        refine ⟨_, t', _, _, _, _, rfl, upd_same, ?_, ?_, ?_, ?_, ?_⟩
        · have := length_putK kvs (.inl (i : Int)) (V.ref l)
          omega
        · rw [List.range_succ]
          refine hnd.put (fun b xs n e => ?_) hr (fun z => nomatch z) (by rw [upd_ne nlN]; exact hl3)
          have e2 := s3 _ _ (sT _ _ e)
          rw [upd_ne (fun z => by rw [z, eN3] at e2; cases e2)]
          exact e2
        · rw [tbG_at hr]
          exact ht3.lkd lkN
        · exact kp.trans ((KpL.ofS (sT.trans s3)).trans (KpL.at List.mem_cons_self))
        · exact lk.trans ((LKD.of (sT.trans s3)).trans lkN)
      · obtain ⟨kvs, t, x6, x7, x8, x9, rfl, eN, kl, hnd, ht, kp, lk⟩ := hI
        have kpH : KpL [] H H' := fun a o m e => kp a o (nm_cons (ne_of_none e hN0) List.not_mem_nil) (s02 _ _ e)
        have sHH : Same H H' := fun b o e => kpH b o List.not_mem_nil e
        have eL' := kp _ _ (nm_cons nLN List.not_mem_nil) eL2
        walk_at "rd"
        refine use_smp (rs := rs) (fun _ => true) (sHH _ _ hx) (hrw.imp fun _ _ z => z.lk (.of sHH)) hl eN (by rw [hfw]; exact hV.chn) (by rw [hfw]; exact htw) (fun r hr2 => ?_) fun S H5 hS s5 eS => ?_
        · obtain ⟨ms, T, e1, e2, e3, e4⟩ := hro.at_ hV hr2
          refine ⟨e3, fun z => ?_, fun z => nomatch z⟩
          rcases hnd r.1 with ⟨_, r', a, f1, f2, f3, f4⟩ | ⟨n, _⟩
          · rw [e1] at f1
            cases f1
            exact ⟨a, f2, by rw [e2]; exact f4, by rw [e2]; exact e4⟩
          · exact absurd (List.mem_range.mpr (by have := (List.getElem?_eq_some_iff.mp e1).1; omega)) n
        · rw [hfw, blS_all] at eS
          walk_at "rd"
          rename_i D hD
          have sD := same_new (o := .tup [.ref S, .ref L]) hD
          exact q D S L _ ((sHH.trans s5).free hD) (sHH.trans (s5.trans sD)) upd_same (sD _ _ eS) (sD _ _ (s5 _ _ eL'))
    ) only [↓lt_eq]
theorem ok_take {f : Addr} {fd : FuncData}     (D : Dn K mg "_law_take" s_take ["_law_pool_here", "_law_many"] f fd) (bi : Bi mg)     : FnOk P w K mg base CX0 1 f fd ["_law_pool_here", "_law_many"] spTake := by
  refine lt_out ?_
  simp (disch := with_unfolding_all
    refine D.F.ok sc_take (fun vs H Q E h => ?_) (fun cdv A outer s H vs Q E hr h => ?_)
    · obtain ⟨p, m, rfl, _⟩ := h
      rfl
    · obtain ⟨p, m, rfl, ⟨x, y, hp, hx, hy0, hy1⟩, hm0, hm1, q⟩ := h
      refine ⟨_, (pss_cons (ps_if (pt_cmpR op_gt (pe_ix ix_list (pv 0) pe_int (fun _ _ => rfl)) pe_int (nomark _))
   (pss_cons (ps_set (i := 2) sc_take.nd rfl (Or.inl rfl) (pe_op op_mod (pe_callTy cInt (by rfl) bi.int_ (by decide +kernel) (pa_cons (pe_ix ix_list (pv 0) pe_int (fun _ _ => rfl)) pa_nil)) (pv 1)))
   (pss_cons (ps_asg (pe_op op_fdiv (pe_callTy cInt (by rfl) bi.int_ (by decide +kernel) (pa_cons (pe_ix ix_list (pv 0) pe_int (fun _ _ => rfl)) pa_nil)) (pv 1)) (pg_sub (pv 0) pe_int set_list))
   (pss_one (ps_ret (pv 2)))))
   pss_nil)
   (pss_cons (ps_asg (pe_op op_mod (pe_callTy cInt (by rfl) bi.int_ (by decide +kernel) (pa_cons (pe_op op_add (pe_op op_mul (pe_ix ix_list (pv 0) pe_int (fun _ _ => rfl)) pe_int) pe_int) pa_nil)) pe_int) (pg_sub (pv 0) pe_int set_list))
   (pss_one (ps_ret (pe_op op_mod (pe_op op_fdiv (pe_op op_mod (pe_callTy cInt (by rfl) bi.int_ (by decide +kernel) (pa_cons (pe_op op_mul (pe_ix ix_list (pv 0) pe_int (fun _ _ => rfl)) (pe_ix ix_list (pv 0) pe_int (fun _ _ => rfl))) pa_nil)) pe_int) pe_int) (pv 1)))))), ?_⟩
      refine rd_start (σ := [some (.ref p), some (.int m), none]) rfl ?_
      walk_at "rd"
      refine rd_iteD (fun c => ?_) (fun c => ?_)
      · walk_at "rd"
        exact q _ _ (Int.emod_nonneg _ (by omega)) (Int.emod_lt_of_pos _ hm0) ⟨x / m, y, upd_same, Int.ediv_nonneg hx (by omega), hy0, hy1⟩ Kp.at
      · have e0 := Int.emod_nonneg (y * 48271 + 11) (show (2147483647 : Int) ≠ 0 by decide)
        have e1 := Int.emod_lt_of_pos (y * 48271 + 11) (show (0 : Int) < 2147483647 by decide)
        walk_at "rd"
        exact q _ _ (Int.emod_nonneg _ (by omega)) (Int.emod_lt_of_pos _ hm0) ⟨x, (y * 48271 + 11) % 2147483647, upd_same, hx, e0, e1⟩ Kp.at
    ) only [↓lt_eq]
theorem ok_pool {f : Addr} {fd : FuncData}     (D : Dn K mg "_law_pool" s_pool ["_law_script", "_law_k"] f fd) (bi : Bi mg)     : FnOk P w K mg base CX0 1 f fd ["_law_script", "_law_k"] (spPool K) := by
  refine lt_out ?_
  simp (disch := with_unfolding_all
    refine D.F.ok sc_pool (fun vs H Q E h => ?_) (fun cdv A outer s H vs Q E hr h => ?_)
    · obtain ⟨a, ns, k, rfl, _⟩ := h
      rfl
    · obtain ⟨a, ns, k, rfl, hS, hl, hk0, hk1, q⟩ := h
      refine ⟨_, (pss_cons (ps_set (i := 2) sc_pool.nd rfl (Or.inl rfl) pe_int)
   (pss_cons (ps_if (pt_cmpR op_lt (pv 1) (pe_callB cLen (by rfl) bi.len_ (by decide +kernel) (pa_cons (pv 0) pa_nil)) (nomark _))
   (pss_one (ps_set (i := 2) sc_pool.nd rfl (Or.inl rfl) (pe_callTy cInt (by rfl) bi.int_ (by decide +kernel) (pa_cons (pe_ix ix_list (pv 0) (pv 1) (fun _ _ => rfl)) pa_nil))))
   pss_nil)
   (pss_cons (ps_set (i := 3) sc_pool.nd rfl (Or.inl rfl) (pe_callB cAbs (by rfl) bi.abs_ (by decide +kernel) (pa_cons (pv 2) pa_nil)))
   (pss_cons (ps_set (i := 4) sc_pool.nd rfl (Or.inl rfl) (pe_op op_add (pe_op op_add (pe_op op_mod (pe_callTy cInt (by rfl) bi.int_ (by decide +kernel) (pa_cons (pv 2) pa_nil)) pe_int) (pe_op op_mul pe_int (pv 1))) pe_int))
   (pss_one (ps_ret (pe_lst (pa_cons (pe_op op_mul (pv 3) (pe_callTy cInt (by rfl) bi.int_ (by decide +kernel) (pa_cons (pe_cmpR op_ge (pv 3) (pe_op op_pow pe_int pe_int) (nomark _)) pa_nil))) (pa_cons (pe_op op_mod (pe_callTy cInt (by rfl) bi.int_ (by decide +kernel) (pa_cons (pe_op op_add (pe_op op_mul (pe_op op_mul (pv 4) (pv 4)) (pv 4)) (pe_op op_mul pe_int (pv 1))) pa_nil)) pe_int) pa_nil))))))))), ?_⟩
      refine rd_start (σ := [some (.ref a), some (.int k), none, none, none]) rfl ?_
      have hS' : SqL (cxOf CX0 P w K mg base ["_law_script", "_law_k", "_law_cell", "_law_great", "_law_seed"] "_law_pool" (defScope s_pool) f cdv A outer s H E).nox.K H a (ns.map V.int) := hS
      walk_at "rd"
      refine rd_iteD (fun c => ?_) (fun c => ?_)
      · rw [List.length_map] at c
        obtain ⟨j, rfl⟩ : ∃ j : Nat, k = (j : Int) := ⟨k.toNat, by omega⟩
        have hj : j < ns.length := by omega
        have hat : atI (ns.map V.int) (j : Int) = some (.int ns[j]) := atI_nat (by rw [List.getElem?_map, List.getElem?_eq_getElem hj]; rfl)
        have e0 := Int.emod_nonneg ns[j] (show (2147483629 : Int) ≠ 0 by decide)
        have e1 := Int.emod_lt_of_pos ns[j] (show (0 : Int) < 2147483629 by decide)
        walk_at "rd"
        rename_i p hp
        exact q _ _ hp (same_new hp) ⟨_, _, upd_same, great_nn _ _, Int.emod_nonneg _ (by decide), Int.emod_lt_of_pos _ (by decide)⟩
      · walk_at "rd"
        rename_i p hp
        exact q _ _ hp (same_new hp) ⟨_, _, upd_same, great_nn 0 _, Int.emod_nonneg _ (by decide), Int.emod_lt_of_pos _ (by decide)⟩
    ) only [↓lt_eq]
theorem ok_same0 {f : Addr} {fd : FuncData} (D_same : Dn K mg "_law_same" s_same ["_law_actual", "_law_due"] f fd) (bi : Bi mg) : FnOk P w K mg base CX0 1 f fd ["_law_actual", "_law_due"] (spSame K 0) := by
  refine lt_out ?_
  simp (disch := with_unfolding_all
    refine D_same.F.ok sc_same (fun vs H Q E h => ?_) (fun cdv A outer s H vs Q E hr h => ?_)
    · obtain ⟨x, y, rfl, _⟩ := h
      rfl
    · obtain ⟨x, y, rfl, HS, q⟩ := h
      obtain ⟨rfl, hx⟩ := HS
      refine ⟨_, (pss_cons (ps_if (pt_cmpR cIsN (pv 1) pe_non (nomark _))
   (pss_one (ps_ret (pe_cmpR cIsN (pv 0) pe_non (nomark _))))
   pss_nil)
   (pss_cons (ps_if (pt_val (pe_callB call_isi (by rfl) bi.isinstance_ (by decide +kernel) (pa_cons (pv 1) (pa_cons (pe_bltn (v := .ty "bool") (by rfl) bi.bool_ (by decide +kernel) rfl) pa_nil))))
   (pss_one (ps_ret (pe_and (pe_callB call_isi (by rfl) bi.isinstance_ (by decide +kernel) (pa_cons (pv 0) (pa_cons (pe_bltn (v := .ty "bool") (by rfl) bi.bool_ (by decide +kernel) rfl) pa_nil))) (pe_one (pe_cmpR op_eq (pv 0) (pv 1) (nomark _))))))
   pss_nil)
   (pss_cons (ps_if (pt_val (pe_callB call_isi (by rfl) bi.isinstance_ (by decide +kernel) (pa_cons (pv 1) (pa_cons (pe_bltn (v := .ty "int") (by rfl) bi.int_ (by decide +kernel) rfl) pa_nil))))
   (pss_one (ps_ret (pe_and (pe_callB call_isi (by rfl) bi.isinstance_ (by decide +kernel) (pa_cons (pv 0) (pa_cons (pe_bltn (v := .ty "int") (by rfl) bi.int_ (by decide +kernel) rfl) pa_nil))) (pe_and (pe_not (pe_callB call_isi (by rfl) bi.isinstance_ (by decide +kernel) (pa_cons (pv 0) (pa_cons (pe_bltn (v := .ty "bool") (by rfl) bi.bool_ (by decide +kernel) rfl) pa_nil)))) (pe_one (pe_cmpR op_eq (pv 0) (pv 1) (nomark _)))))))
   pss_nil)
   (pss_cons (ps_if (pt_val (pe_callB call_isi (by rfl) bi.isinstance_ (by decide +kernel) (pa_cons (pv 1) (pa_cons (pe_bltn (v := .ty "str") (by rfl) bi.str_ (by decide +kernel) rfl) pa_nil))))
   (pss_one (ps_ret (pe_and (pe_callB call_isi (by rfl) bi.isinstance_ (by decide +kernel) (pa_cons (pv 0) (pa_cons (pe_bltn (v := .ty "str") (by rfl) bi.str_ (by decide +kernel) rfl) pa_nil))) (pe_one (pe_cmpR op_eq (pv 0) (pv 1) (nomark _))))))
   pss_nil)
   pss_never)))), ?_⟩
      refine rd_start (σ := [some x, some x, none, none]) rfl ?_
      have hQ := q H (Same.refl _)
      cases x with
      | non =>
        walk_at "rd"
        refine if_yesD rfl ?_
        walk_at "rd"
        rw [show decide (V.non = V.non) = true from decide_eq_true rfl]
        exact hQ
      | bl b =>
        walk_at "rd"
        refine if_noD (fun z => V.noConfusion z) ?_
        walk_at "rd"
        rw [show decide (V.bl b = V.bl b) = true from decide_eq_true rfl]
        exact hQ
      | int b =>
        walk_at "rd"
        refine if_noD (fun z => V.noConfusion z) ?_
        walk_at "rd"
        rw [show decide (V.int b = V.int b) = true from decide_eq_true rfl]
        exact hQ
      | str b =>
        walk_at "rd"
        refine if_noD (fun z => V.noConfusion z) ?_
        walk_at "rd"
        rw [show decide (V.str b = V.str b) = true from decide_eq_true rfl]
        exact hQ
      | ref _ => exact Bool.noConfusion hx
      | byt _ => exact Bool.noConfusion hx
      | flt _ => exact Bool.noConfusion hx
      | ty _ => exact Bool.noConfusion hx
    ) only [↓lt_eq]
theorem ok_sameS {f : Addr} {fd : FuncData} {n k : Nat} (D_same : Dn K mg "_law_same" s_same ["_law_actual", "_law_due"] f fd) (bi : Bi mg) (G_same : FnOk P w K mg base CX0 (k + 1) f fd ["_law_actual", "_law_due"] (spSame K n)) : FnOk P w K mg base CX0 (k + 2) f fd ["_law_actual", "_law_due"] (spSame K (n + 1)) := by
  refine lt_out ?_
  simp (disch := with_unfolding_all
    refine D_same.F.ok sc_same (fun vs H Q E h => ?_) (fun cdv A outer s H vs Q E hr h => ?_)
    · obtain ⟨x, y, rfl, _⟩ := h
      rfl
    · obtain ⟨x, y, rfl, HS, q⟩ := h
      rcases HS with HS | ⟨a, b, xs, ys, rfl, rfl, h1, h2, hl, HI⟩ | ⟨a, b, xs, ys, rfl, rfl, h1, h2, hl, HI⟩
      · obtain ⟨rfl, hx⟩ := HS
        refine ⟨_, (pss_cons (ps_if (pt_cmpR cIsN (pv 1) pe_non (nomark _))
   (pss_one (ps_ret (pe_cmpR cIsN (pv 0) pe_non (nomark _))))
   pss_nil)
   (pss_cons (ps_if (pt_val (pe_callB call_isi (by rfl) bi.isinstance_ (by decide +kernel) (pa_cons (pv 1) (pa_cons (pe_bltn (v := .ty "bool") (by rfl) bi.bool_ (by decide +kernel) rfl) pa_nil))))
   (pss_one (ps_ret (pe_and (pe_callB call_isi (by rfl) bi.isinstance_ (by decide +kernel) (pa_cons (pv 0) (pa_cons (pe_bltn (v := .ty "bool") (by rfl) bi.bool_ (by decide +kernel) rfl) pa_nil))) (pe_one (pe_cmpR op_eq (pv 0) (pv 1) (nomark _))))))
   pss_nil)
   (pss_cons (ps_if (pt_val (pe_callB call_isi (by rfl) bi.isinstance_ (by decide +kernel) (pa_cons (pv 1) (pa_cons (pe_bltn (v := .ty "int") (by rfl) bi.int_ (by decide +kernel) rfl) pa_nil))))
   (pss_one (ps_ret (pe_and (pe_callB call_isi (by rfl) bi.isinstance_ (by decide +kernel) (pa_cons (pv 0) (pa_cons (pe_bltn (v := .ty "int") (by rfl) bi.int_ (by decide +kernel) rfl) pa_nil))) (pe_and (pe_not (pe_callB call_isi (by rfl) bi.isinstance_ (by decide +kernel) (pa_cons (pv 0) (pa_cons (pe_bltn (v := .ty "bool") (by rfl) bi.bool_ (by decide +kernel) rfl) pa_nil)))) (pe_one (pe_cmpR op_eq (pv 0) (pv 1) (nomark _)))))))
   pss_nil)
   (pss_cons (ps_if (pt_val (pe_callB call_isi (by rfl) bi.isinstance_ (by decide +kernel) (pa_cons (pv 1) (pa_cons (pe_bltn (v := .ty "str") (by rfl) bi.str_ (by decide +kernel) rfl) pa_nil))))
   (pss_one (ps_ret (pe_and (pe_callB call_isi (by rfl) bi.isinstance_ (by decide +kernel) (pa_cons (pv 0) (pa_cons (pe_bltn (v := .ty "str") (by rfl) bi.str_ (by decide +kernel) rfl) pa_nil))) (pe_one (pe_cmpR op_eq (pv 0) (pv 1) (nomark _))))))
   pss_nil)
   pss_never)))), ?_⟩
        refine rd_start (σ := [some x, some x, none, none]) rfl ?_
        have hQ := q H (Same.refl _)
        cases x with
        | non =>
          walk_at "rd"
          refine if_yesD rfl ?_
          walk_at "rd"
          rw [show decide (V.non = V.non) = true from decide_eq_true rfl]
          exact hQ
        | bl b =>
          walk_at "rd"
          refine if_noD (fun z => V.noConfusion z) ?_
          walk_at "rd"
          rw [show decide (V.bl b = V.bl b) = true from decide_eq_true rfl]
          exact hQ
        | int b =>
          walk_at "rd"
          refine if_noD (fun z => V.noConfusion z) ?_
          walk_at "rd"
          rw [show decide (V.int b = V.int b) = true from decide_eq_true rfl]
          exact hQ
        | str b =>
          walk_at "rd"
          refine if_noD (fun z => V.noConfusion z) ?_
          walk_at "rd"
          rw [show decide (V.str b = V.str b) = true from decide_eq_true rfl]
          exact hQ
        | ref _ => exact Bool.noConfusion hx
        | byt _ => exact Bool.noConfusion hx
        | flt _ => exact Bool.noConfusion hx
        | ty _ => exact Bool.noConfusion hx

      · refine ⟨_, (pss_cons (ps_if (pt_cmpR cIsN (pv 1) pe_non (nomark _))
   (pss_one (ps_ret (pe_cmpR cIsN (pv 0) pe_non (nomark _))))
   pss_nil)
   (pss_cons (ps_if (pt_val (pe_callB call_isi (by rfl) bi.isinstance_ (by decide +kernel) (pa_cons (pv 1) (pa_cons (pe_bltn (v := .ty "bool") (by rfl) bi.bool_ (by decide +kernel) rfl) pa_nil))))
   (pss_one (ps_ret (pe_and (pe_callB call_isi (by rfl) bi.isinstance_ (by decide +kernel) (pa_cons (pv 0) (pa_cons (pe_bltn (v := .ty "bool") (by rfl) bi.bool_ (by decide +kernel) rfl) pa_nil))) (pe_one (pe_cmpR op_eq (pv 0) (pv 1) (nomark _))))))
   pss_nil)
   (pss_cons (ps_if (pt_val (pe_callB call_isi (by rfl) bi.isinstance_ (by decide +kernel) (pa_cons (pv 1) (pa_cons (pe_bltn (v := .ty "int") (by rfl) bi.int_ (by decide +kernel) rfl) pa_nil))))
   (pss_one (ps_ret (pe_and (pe_callB call_isi (by rfl) bi.isinstance_ (by decide +kernel) (pa_cons (pv 0) (pa_cons (pe_bltn (v := .ty "int") (by rfl) bi.int_ (by decide +kernel) rfl) pa_nil))) (pe_and (pe_not (pe_callB call_isi (by rfl) bi.isinstance_ (by decide +kernel) (pa_cons (pv 0) (pa_cons (pe_bltn (v := .ty "bool") (by rfl) bi.bool_ (by decide +kernel) rfl) pa_nil)))) (pe_one (pe_cmpR op_eq (pv 0) (pv 1) (nomark _)))))))
   pss_nil)
   (pss_cons (ps_if (pt_val (pe_callB call_isi (by rfl) bi.isinstance_ (by decide +kernel) (pa_cons (pv 1) (pa_cons (pe_bltn (v := .ty "str") (by rfl) bi.str_ (by decide +kernel) rfl) pa_nil))))
   (pss_one (ps_ret (pe_and (pe_callB call_isi (by rfl) bi.isinstance_ (by decide +kernel) (pa_cons (pv 0) (pa_cons (pe_bltn (v := .ty "str") (by rfl) bi.str_ (by decide +kernel) rfl) pa_nil))) (pe_one (pe_cmpR op_eq (pv 0) (pv 1) (nomark _))))))
   pss_nil)
   (pss_cons (ps_if (PW.pt (pw_and (pt_val (pe_callB call_isi (by rfl) bi.isinstance_ (by decide +kernel) (pa_cons (pv 1) (pa_cons (pe_bltn (v := .ty "list") (by rfl) bi.list_ (by decide +kernel) rfl) pa_nil)))) (pw_and1 (pt_not (pt_val (pe_callB call_isi (by rfl) bi.isinstance_ (by decide +kernel) (pa_cons (pv 0) (pa_cons (pe_bltn (v := .ty "list") (by rfl) bi.list_ (by decide +kernel) rfl) pa_nil))))))))
   (pss_one (ps_ret pe_bl))
   pss_nil)
   (pss_cons (ps_if (PW.pt (pw_and (pt_val (pe_callB call_isi (by rfl) bi.isinstance_ (by decide +kernel) (pa_cons (pv 1) (pa_cons (pe_bltn (v := .ty "tuple") (by rfl) bi.tuple_ (by decide +kernel) rfl) pa_nil)))) (pw_and1 (pt_not (pt_val (pe_callB call_isi (by rfl) bi.isinstance_ (by decide +kernel) (pa_cons (pv 0) (pa_cons (pe_bltn (v := .ty "tuple") (by rfl) bi.tuple_ (by decide +kernel) rfl) pa_nil))))))))
   (pss_one (ps_ret pe_bl))
   pss_nil)
   (pss_cons (ps_if (pt_cmpR op_ne (pe_callB cLen (by rfl) bi.len_ (by decide +kernel) (pa_cons (pv 0) pa_nil)) (pe_callB cLen (by rfl) bi.len_ (by decide +kernel) (pa_cons (pv 1) pa_nil)) (nomark _))
   (pss_one (ps_ret pe_bl))
   pss_nil)
   (pss_cons (ps_for PassesOwn.never rfl (RZ.pi_zipA (by rfl) bi.zip_ (pa_cons (pv 0) (pa_cons (pv 1) pa_nil))) (pg_tup rfl (pgs_cons (pg_name (i := 2) sc_same.nd rfl (Or.inl rfl)) (pgs_cons (pg_name (i := 3) sc_same.nd rfl (Or.inl rfl)) pgs_nil)))
   (pss_one (ps_if (pt_not (pt_val (pe_call G_same (hr.mono (by first | decide | exact Nat.le_refl _)) (by rfl) D_same.g D_same.F.kp D_same.b .nil pass0 (pa_cons (pv 2) (pa_cons (pv 3) pa_nil)))))
   (pss_one (ps_ret pe_bl))
   pss_nil)))
   (pss_one (ps_ret pe_bl)))))))))), ?_⟩
        refine rd_start (σ := [some (.ref a), some (.ref b), none, none]) rfl ?_
        have L1 := h1.1
        have L2 := h2.1
        walk_at "rd"
        refine if_noD (fun z => V.noConfusion z) ?_
        walk_at "rd"
        refine isi_ty h2.2 (d := false) (by decide +kernel) ?_
        walk_at "rd"
        refine isi_ty h2.2 (d := false) (by decide +kernel) ?_
        walk_at "rd"
        refine isi_ty h2.2 (d := false) (by decide +kernel) ?_
        walk_at "rd"
        refine isi_ty h2.2 (d := true) (by decide +kernel) ?_
        walk_at "rd"
        refine isi_ty h1.2 (d := true) (by decide +kernel) ?_
        walk_at "rd"
        refine isi_ty h2.2 (d := false) (by decide +kernel) ?_
        walk_at "rd"
        refine if_noN (by rw [hl]) ?_
        walk_at "rd"
        refine ⟨a, b, xs, ys, rfl, .inl ⟨L1, L2, ?_⟩⟩
        refine for_zip hl (fun i σ H' => ∃ t u, σ = [some (.ref a), some (.ref b), t, u] ∧ Same H H') ⟨none, none, rfl, Same.refl _⟩ (fun i σ H1 _ hI => ?_) (fun i v u σ H1 T hv hu hI hT => ?_) (fun σ H1 hI => ?_)
        · obtain ⟨t, u, rfl, hs⟩ := hI
          exact ⟨hs.seq L1, hs.seq L2⟩
        · obtain ⟨t, u', rfl, hs⟩ := hI
          walk_at "rd"
          refine use_same (.same (hs.trans (same_new hT)) _ (HI i v u hv hu)) fun H2 hs2 => ?_
          walk_at "rd"
          exact ⟨_, _, rfl, (hs.trans (same_new hT)).trans hs2⟩
        · obtain ⟨t, u, rfl, hs⟩ := hI
          walk_at "rd"
          exact q _ hs
      · refine ⟨_, (pss_cons (ps_if (pt_cmpR cIsN (pv 1) pe_non (nomark _))
   (pss_one (ps_ret (pe_cmpR cIsN (pv 0) pe_non (nomark _))))
   pss_nil)
   (pss_cons (ps_if (pt_val (pe_callB call_isi (by rfl) bi.isinstance_ (by decide +kernel) (pa_cons (pv 1) (pa_cons (pe_bltn (v := .ty "bool") (by rfl) bi.bool_ (by decide +kernel) rfl) pa_nil))))
   (pss_one (ps_ret (pe_and (pe_callB call_isi (by rfl) bi.isinstance_ (by decide +kernel) (pa_cons (pv 0) (pa_cons (pe_bltn (v := .ty "bool") (by rfl) bi.bool_ (by decide +kernel) rfl) pa_nil))) (pe_one (pe_cmpR op_eq (pv 0) (pv 1) (nomark _))))))
   pss_nil)
   (pss_cons (ps_if (pt_val (pe_callB call_isi (by rfl) bi.isinstance_ (by decide +kernel) (pa_cons (pv 1) (pa_cons (pe_bltn (v := .ty "int") (by rfl) bi.int_ (by decide +kernel) rfl) pa_nil))))
   (pss_one (ps_ret (pe_and (pe_callB call_isi (by rfl) bi.isinstance_ (by decide +kernel) (pa_cons (pv 0) (pa_cons (pe_bltn (v := .ty "int") (by rfl) bi.int_ (by decide +kernel) rfl) pa_nil))) (pe_and (pe_not (pe_callB call_isi (by rfl) bi.isinstance_ (by decide +kernel) (pa_cons (pv 0) (pa_cons (pe_bltn (v := .ty "bool") (by rfl) bi.bool_ (by decide +kernel) rfl) pa_nil)))) (pe_one (pe_cmpR op_eq (pv 0) (pv 1) (nomark _)))))))
   pss_nil)
   (pss_cons (ps_if (pt_val (pe_callB call_isi (by rfl) bi.isinstance_ (by decide +kernel) (pa_cons (pv 1) (pa_cons (pe_bltn (v := .ty "str") (by rfl) bi.str_ (by decide +kernel) rfl) pa_nil))))
   (pss_one (ps_ret (pe_and (pe_callB call_isi (by rfl) bi.isinstance_ (by decide +kernel) (pa_cons (pv 0) (pa_cons (pe_bltn (v := .ty "str") (by rfl) bi.str_ (by decide +kernel) rfl) pa_nil))) (pe_one (pe_cmpR op_eq (pv 0) (pv 1) (nomark _))))))
   pss_nil)
   (pss_cons (ps_if (PW.pt (pw_and (pt_val (pe_callB call_isi (by rfl) bi.isinstance_ (by decide +kernel) (pa_cons (pv 1) (pa_cons (pe_bltn (v := .ty "list") (by rfl) bi.list_ (by decide +kernel) rfl) pa_nil)))) (pw_and1 (pt_not (pt_val (pe_callB call_isi (by rfl) bi.isinstance_ (by decide +kernel) (pa_cons (pv 0) (pa_cons (pe_bltn (v := .ty "list") (by rfl) bi.list_ (by decide +kernel) rfl) pa_nil))))))))
   (pss_one (ps_ret pe_bl))
   pss_nil)
   (pss_cons (ps_if (PW.pt (pw_and (pt_val (pe_callB call_isi (by rfl) bi.isinstance_ (by decide +kernel) (pa_cons (pv 1) (pa_cons (pe_bltn (v := .ty "tuple") (by rfl) bi.tuple_ (by decide +kernel) rfl) pa_nil)))) (pw_and1 (pt_not (pt_val (pe_callB call_isi (by rfl) bi.isinstance_ (by decide +kernel) (pa_cons (pv 0) (pa_cons (pe_bltn (v := .ty "tuple") (by rfl) bi.tuple_ (by decide +kernel) rfl) pa_nil))))))))
   (pss_one (ps_ret pe_bl))
   pss_nil)
   (pss_cons (ps_if (pt_cmpR op_ne (pe_callB cLen (by rfl) bi.len_ (by decide +kernel) (pa_cons (pv 0) pa_nil)) (pe_callB cLen (by rfl) bi.len_ (by decide +kernel) (pa_cons (pv 1) pa_nil)) (nomark _))
   (pss_one (ps_ret pe_bl))
   pss_nil)
   (pss_cons (ps_for PassesOwn.never rfl (RZ.pi_zipA (by rfl) bi.zip_ (pa_cons (pv 0) (pa_cons (pv 1) pa_nil))) (pg_tup rfl (pgs_cons (pg_name (i := 2) sc_same.nd rfl (Or.inl rfl)) (pgs_cons (pg_name (i := 3) sc_same.nd rfl (Or.inl rfl)) pgs_nil)))
   (pss_one (ps_if (pt_not (pt_val (pe_call G_same (hr.mono (by first | decide | exact Nat.le_refl _)) (by rfl) D_same.g D_same.F.kp D_same.b .nil pass0 (pa_cons (pv 2) (pa_cons (pv 3) pa_nil)))))
   (pss_one (ps_ret pe_bl))
   pss_nil)))
   (pss_one (ps_ret pe_bl)))))))))), ?_⟩
        refine rd_start (σ := [some (.ref a), some (.ref b), none, none]) rfl ?_
        have L1 := h1.1
        have L2 := h2.1
        walk_at "rd"
        refine if_noD (fun z => V.noConfusion z) ?_
        walk_at "rd"
        refine isi_ty h2.2 (d := false) (by decide +kernel) ?_
        walk_at "rd"
        refine isi_ty h2.2 (d := false) (by decide +kernel) ?_
        walk_at "rd"
        refine isi_ty h2.2 (d := false) (by decide +kernel) ?_
        walk_at "rd"
        refine isi_ty h2.2 (d := false) (by decide +kernel) ?_
        walk_at "rd"
        refine isi_ty h2.2 (d := true) (by decide +kernel) ?_
        walk_at "rd"
        refine isi_ty h1.2 (d := true) (by decide +kernel) ?_
        walk_at "rd"
        refine if_noN (by rw [hl]) ?_
        walk_at "rd"
        refine ⟨a, b, xs, ys, rfl, .inr ⟨L1, L2, ?_⟩⟩
        refine for_zipT hl (fun i σ H' => ∃ t u, σ = [some (.ref a), some (.ref b), t, u] ∧ Same H H') ⟨none, none, rfl, Same.refl _⟩ (fun i σ H1 _ hI => ?_) (fun i v u σ H1 T hv hu hI hT => ?_) (fun σ H1 hI => ?_)
        · obtain ⟨t, u, rfl, hs⟩ := hI
          exact ⟨same_seqT hs L1, same_seqT hs L2⟩
        · obtain ⟨t, u', rfl, hs⟩ := hI
          walk_at "rd"
          refine use_same (.same (hs.trans (same_new hT)) _ (HI i v u hv hu)) fun H2 hs2 => ?_
          walk_at "rd"
          exact ⟨_, _, rfl, (hs.trans (same_new hT)).trans hs2⟩
        · obtain ⟨t, u, rfl, hs⟩ := hI
          walk_at "rd"
          exact q _ hs
    ) only [↓lt_eq]
abbrev e_lam : PySem.Expr := kwOf (valOf (inSt ((defBody s_law).getD 1 (.Pass ⟨0, 0, 0, 0⟩)) 8)) 2
abbrev e_lam2 : PySem.Expr := kwOf (valOf (inSt ((defBody s_law).getD 1 (.Pass ⟨0, 0, 0, 0⟩)) 12)) 1
abbrev e_lam3 : PySem.Expr := argOf (argOf (argOf (valOf (inSt ((defBody s_law).getD 1 (.Pass ⟨0, 0, 0, 0⟩)) 13)) 0) 1) 1
theorem lam_ok : NdefX.ndefB (defScope s_law) (lamC e_lam) ["_law_given"] = true := by decide +kernel
theorem lam_ok2 : NdefX.ndefB (defScope s_law) (lamC e_lam2) ["_law_given"] = true := by decide +kernel
theorem lam_ok3 : NdefX.ndefB (defScope s_law) (lamC e_lam3) ["_law_given"] = true := by decide +kernel
theorem ok_law {f_pool : Addr} {fd_pool : FuncData} {f_take : Addr} {fd_take : FuncData} {f_same : Addr} {fd_same : FuncData} {f_encode : Addr} {fd_encode : FuncData} {f_index_of : Addr} {fd_index_of : FuncData} {f_Stream_records : Addr} {fd_Stream_records : FuncData} {f_Stream_sound : Addr} {fd_Stream_sound : FuncData} {f_needed_records : Addr} {fd_needed_records : FuncData} {f_read_part : Addr} {fd_read_part : FuncData} {f_unread_frames : Addr} {fd_unread_frames : FuncData} {f_touched : Addr} {fd_touched : FuncData} {f_concealed : Addr} {fd_concealed : FuncData} {f_salvaged : Addr} {fd_salvaged : FuncData} {C_Stream : Addr} {p_Stream_records : Addr}  {c_law P_tab : Addr} {oc : Value} {od an : Option Addr} {kV doc pm ct : Value} {osl : Array (Option Value)} {f : Addr} (lk_law : K.lookup f = some ⟨oc, od, .func (PySem.W.fnOf "law" "law" (defArgs s_law) (defBody s_law) (defScope s_law) .none kV doc pm an (.ref c_law) ct), osl⟩) (hc_law : PySem.W.codeIn K (.ref c_law) "law" = true) (bi : Bi mg) (TB : LamX.TabB base mg c_law P_tab) (G_pool : FnOk P w K mg base CX0 1 f_pool fd_pool ["_law_script", "_law_k"] (spPool K)) (D_pool : Dn K mg "_law_pool" s_pool ["_law_script", "_law_k"] f_pool fd_pool) (G_take : FnOk P w K mg base CX0 1 f_take fd_take ["_law_pool_here", "_law_many"] spTake) (D_take : Dn K mg "_law_take" s_take ["_law_pool_here", "_law_many"] f_take fd_take) (G_same : FnOk P w K mg base CX0 4 f_same fd_same ["_law_actual", "_law_due"] (spSame K 3)) (D_same : Dn K mg "_law_same" s_same ["_law_actual", "_law_due"] f_same fd_same) (G_encode : FnOk P w K mg base CX0 11 f_encode fd_encode ["sound", "plan", "states"] (spEncN K C_Stream)) (D_encode : Kn K mg "encode" s_encode ["sound", "plan", "states"] 2 ["states"] [.int 0] f_encode fd_encode) (G_index_of : FnOk P w K mg base CX0 5 f_index_of fd_index_of ["stream"] (spIdx K C_Stream)) (D_index_of : Dn K mg "index_of" s_index_of ["stream"] f_index_of fd_index_of) (G_Stream_records : FnOk P w K mg base CX0 1 f_Stream_records fd_Stream_records ["self"] (spRecs K C_Stream)) (D_Stream_records : Pn K C_Stream "records" "Stream.records" s_Stream_records ["self"] p_Stream_records f_Stream_records fd_Stream_records) (G_Stream_sound : FnOk P w K mg base CX0 9 f_Stream_sound fd_Stream_sound ["self"] (spSndS K C_Stream)) (D_Stream_sound : Mn K C_Stream "sound" "Stream.sound" s_Stream_sound ["self"] f_Stream_sound fd_Stream_sound) (G_needed_records : FnOk P w K mg base CX0 4 f_needed_records fd_needed_records ["index", "start", "end"] (spNdd K)) (D_needed_records : Dn K mg "needed_records" s_needed_records ["index", "start", "end"] f_needed_records fd_needed_records) (G_read_part : FnC P w K mg base 10 1 f_read_part fd_read_part ["index", "fetch", "start", "end"] (spRpt K)) (D_read_part : Dn K mg "read_part" s_read_part ["index", "fetch", "start", "end"] f_read_part fd_read_part) (G_unread_frames : FnOk P w K mg base CX0 3 f_unread_frames fd_unread_frames ["index", "lost"] (spUnr K)) (D_unread_frames : Dn K mg "unread_frames" s_unread_frames ["index", "lost"] f_unread_frames fd_unread_frames) (G_touched : FnOk P w K mg base CX0 4 f_touched fd_touched ["index", "lost"] (spTch K)) (D_touched : Dn K mg "touched" s_touched ["index", "lost"] f_touched fd_touched) (G_concealed : FnC P w K mg base 10 1 f_concealed fd_concealed ["index", "fetch", "lost"] (spConc K)) (D_concealed : Dn K mg "concealed" s_concealed ["index", "fetch", "lost"] f_concealed fd_concealed) (G_salvaged : FnOk P w K mg base CX0 10 f_salvaged fd_salvaged ["index", "records"] (spSal K)) (D_salvaged : Dn K mg "salvaged" s_salvaged ["index", "records"] f_salvaged fd_salvaged) (TC_Stream : StmC K mg C_Stream)  (kb_index_of : KBinds K fd_index_of ["stream"] ["stream"] (kg 0 1 [0]) (kg 0 1 [0])) (kb_needed_records : KBinds K fd_needed_records ["index", "start", "end"] ["end", "start", "index"] (kg 0 3 [2, 1, 0]) (kg 0 3 [2, 1, 0])) (kb_read_part : KBinds K fd_read_part ["index", "fetch", "start", "end"] ["end", "start", "fetch", "index"] (kg 0 4 [3, 2, 1, 0]) (kg 0 4 [3, 2, 1, 0])) (kb_unread_frames : KBinds K fd_unread_frames ["index", "lost"] ["lost", "index"] (kg 0 2 [1, 0]) (kg 0 2 [1, 0])) (kb_touched : KBinds K fd_touched ["index", "lost"] ["lost", "index"] (kg 0 2 [1, 0]) (kg 0 2 [1, 0])) (kb_concealed : KBinds K fd_concealed ["index", "fetch", "lost"] ["lost", "fetch", "index"] (kg 0 3 [2, 1, 0]) (kg 0 3 [2, 1, 0])) (kb_salvaged : KBinds K fd_salvaged ["index", "records"] ["records", "index"] (kg 0 2 [1, 0]) (kg 0 2 [1, 0])) : FnOk P w K mg base CX0 12 f (PySem.W.fnOf "law" "law" (defArgs s_law) (defBody s_law) (defScope s_law) .none kV doc pm an (.ref c_law) ct) ["_law_script"] (spLawT K [(P_tab, qLam)]) := by
  refine lt_out ?_
  simp (disch := with_unfolding_all
    refine okC lk_law hc_law sc_law (fun vs H Q E h => ?_) (fun A outer s H vs Q E hr h => ?_)
    · obtain ⟨a, ns, rfl, _⟩ := h
      rfl
    · obtain ⟨a, ns, rfl, hS, hl, hT, q⟩ := h
      obtain ⟨ds_encode, v_encode, b_encode⟩ := D_encode.b
      refine ⟨_, (C8.pss_cut (ps_set (i := 1) sc_law.nd rfl (Or.inl rfl) (pe_lst (pa_cons (pe_tup (pa_cons pe_int (pa_cons (pe_tup (pa_cons pe_int (pa_cons pe_int pa_nil))) (pa_cons pe_int (pa_cons pe_int pa_nil))))) (pa_cons (pe_tup (pa_cons pe_int (pa_cons (pe_tup (pa_cons pe_int (pa_cons pe_int pa_nil))) (pa_cons pe_int (pa_cons pe_int pa_nil))))) (pa_cons (pe_tup (pa_cons pe_int (pa_cons (pe_tup (pa_cons pe_int (pa_cons pe_int pa_nil))) (pa_cons pe_int (pa_cons pe_int pa_nil))))) (pa_cons (pe_tup (pa_cons pe_int (pa_cons (pe_tup (pa_cons pe_int (pa_cons pe_int pa_nil))) (pa_cons pe_int (pa_cons pe_int pa_nil))))) pa_nil))))))
   (pss_cons (ps_for PassesOwn.never rfl (pi_range1 (by rfl) bi.range_ (pa_cons (pe_callB (cMax rfl) (by rfl) bi.max_ (by decide +kernel) (pa_cons pe_int (pa_cons (pe_callB (cMin rfl) (by rfl) bi.min_ (by decide +kernel) (pa_cons (pe_callB cLen (by rfl) bi.len_ (by decide +kernel) (pa_cons (pv 0) pa_nil)) (pa_cons pe_int pa_nil))) pa_nil))) pa_nil)) (pg_name (i := 2) sc_law.nd rfl (Or.inl rfl))
   (pss_cons (ps_set (i := 3) sc_law.nd rfl (Or.inr rfl) (pe_call G_pool (hr.mono (by first | decide | exact Nat.le_refl _)) (by rfl) D_pool.g D_pool.F.kp D_pool.b .nil pass0 (pa_cons (pv 0) (pa_cons (pv 2) pa_nil))))
   (pss_cons (ps_setLc (i := 4) (own := [("_law_at", 5)]) (g := gName 5) (tt := tYes) rfl sc_law.nd rfl rfl (sw_true rfl rfl rfl (by decide +kernel)) (pi_range1 (by rfl) bi.range_ (pa_cons pe_int pa_nil)) (blkOk_by (N := ["_law_script", "_law_shares", "_law_k", "_law_pool_here", "_law_some", "_law_at", "_law_made", "_law_rows", "_law_given", "_law_first", "_law_last", "_law_gone", "_law_part", "_law_silent"]) (sc := defScope s_law) (by decide +kernel)) (fun _ _ _ _ _ => pg_name (i := 5) sc_law.nd rfl (Or.inl rfl)) (fun _ _ _ _ _ => pts_nil) (fun _ _ _ _ _ => (pe_op op_sub (pe_call G_take (hr.mono (by first | decide | exact Nat.le_refl _)) (by rfl) D_take.g D_take.F.kp D_take.b .nil pass0 (pa_cons (pv 3) (pa_cons pe_int pa_nil))) pe_int)))
   (pss_cons (ps_set (i := 6) sc_law.nd rfl (Or.inl rfl) (pe_callN G_encode (hr.mono (by first | decide | exact Nat.le_refl _)) (by rfl) D_encode.g D_encode.F.kp D_encode.kb pass0 (pa_cons (pv 4) (pa_cons (pv 1) pa_nil)) (pk_cons pe_int pk_nil)))
   (pss_cons (ps_asg (pe_tup (pa_cons (pe_call G_index_of (hr.mono (by first | decide | exact Nat.le_refl _)) (by rfl) D_index_of.g D_index_of.F.kp D_index_of.b .nil pass0 (pa_cons (pv 6) pa_nil)) (pa_cons (pe_prop (pv 6) TC_Stream.cl D_Stream_records.p G_Stream_records (hr.mono (by first | decide | exact Nat.le_refl _)) D_Stream_records.b .nil pass0 rfl) pa_nil))) (pg_tup rfl (pgs_cons (pg_name (i := 7) sc_law.nd rfl (Or.inl rfl)) (pgs_cons (pg_name (i := 8) sc_law.nd rfl (Or.inr rfl)) pgs_nil))))
   (pss_cons (ps_set (i := 9) sc_law.nd rfl (Or.inl rfl) (pe_call G_take (hr.mono (by first | decide | exact Nat.le_refl _)) (by rfl) D_take.g D_take.F.kp D_take.b .nil pass0 (pa_cons (pv 3) (pa_cons pe_int pa_nil))))
   (pss_cons (ps_par (i := 10) (j := 11) rfl sc_law.nd rfl rfl (by decide) rfl rfl (pa_cons (pe_op op_add (pv 9) (pe_call G_take (hr.mono (by first | decide | exact Nat.le_refl _)) (by rfl) D_take.g D_take.F.kp D_take.b .nil pass0 (pa_cons (pv 3) (pa_cons (pe_op op_sub pe_int (pv 9)) pa_nil)))) (pa_cons (pe_lst (pa_cons (pe_call G_take (hr.mono (by first | decide | exact Nat.le_refl _)) (by rfl) D_take.g D_take.F.kp D_take.b .nil pass0 (pa_cons (pv 3) (pa_cons pe_int pa_nil))) pa_nil)) pa_nil)) rfl)
   (pss_cons (ps_if (pt_not (pt_val (pe_call G_same (hr.mono (by first | decide | exact Nat.le_refl _)) (by rfl) D_same.g D_same.F.kp D_same.b .nil pass0 (pa_cons (pe_callK0 G_index_of (hr.mono (by first | decide | exact Nat.le_refl _)) (by rfl) D_index_of.g D_index_of.F.kp kb_index_of pass0 (pk_cons (pv 6) pk_nil)) (pa_cons (pv 7) pa_nil)))))
   (pss_one (ps_ret pe_bl))
   pss_nil)
   (pss_cons (ps_if (pt_not (pt_val (pe_call G_same (hr.mono (by first | decide | exact Nat.le_refl _)) (by rfl) D_same.g D_same.F.kp D_same.b .nil pass0 (pa_cons (pe_callK0 G_needed_records (hr.mono (by first | decide | exact Nat.le_refl _)) (by rfl) D_needed_records.g D_needed_records.F.kp kb_needed_records pass0 (pk_cons (pv 10) (pk_cons (pv 9) (pk_cons (pv 7) pk_nil)))) (pa_cons (pe_call G_needed_records (hr.mono (by first | decide | exact Nat.le_refl _)) (by rfl) D_needed_records.g D_needed_records.F.kp D_needed_records.b .nil pass0 (pa_cons (pv 7) (pa_cons (pv 9) (pa_cons (pv 10) pa_nil)))) pa_nil)))))
   (pss_one (ps_ret pe_bl))
   pss_nil)
   (pss_cons (ps_set (i := 12) sc_law.nd rfl (Or.inl rfl) (pe_callFCK0 G_read_part (src_lam (k := 0) (e := e_lam) (N := ["_law_at", "_law_given"]) (ps := ["_law_at"]) (fr := ["_law_given"]) (js := [8]) (sp := spGet) (NdefX.nscope_by (by decide +kernel)) (fun _ _ _ _ _ us hl => match us, hl with | [_], _ => rfl) get_len (fun f c A stack s H vs ws Q r h => ⟨_, pe_ix ix_list (pv 1) (pv 0) (fun _ _ => rfl), get_run h⟩) (fun ok => NdefX.Caps.made (scope := lamC e_lam) ok (NdefX.ndef_free lam_ok) (NdefX.ndef_fr lam_ok) rfl)) (hr.mono (by first | decide | exact Nat.le_refl _)) (by rfl) D_read_part.g D_read_part.F.kp kb_read_part (pk_cons (pv 10) (pk_cons (pv 9) (pk_cons (pe_mkLamF (T := [(P_tab, qLam)]) (e := e_lam) rfl TB rfl (List.mem_singleton.mpr rfl) (fun p hp _ => congrArg Prod.snd (List.mem_singleton.mp hp)) rfl (NdefX.ndef_free lam_ok)) (pk_cons (pv 7) pk_nil))))))
   (pss_cons (ps_if (pt_not (pt_val (pe_call G_same (hr.mono (by first | decide | exact Nat.le_refl _)) (by rfl) D_same.g D_same.F.kp D_same.b .nil pass0 (pa_cons (pv 12) (pa_cons (pe_slice sl_list (pe_meth0 (pv 6) TC_Stream.cl D_Stream_sound.m G_Stream_sound (hr.mono (by first | decide | exact Nat.le_refl _)) D_Stream_sound.b .nil pass0) (po_some (pv 9)) (po_some (pv 10))) pa_nil)))))
   (pss_one (ps_ret pe_bl))
   pss_nil)
   (pss_cons (ps_if (pt_not (pt_val (pe_call G_same (hr.mono (by first | decide | exact Nat.le_refl _)) (by rfl) D_same.g D_same.F.kp D_same.b .nil pass0 (pa_cons (pe_callK0 G_unread_frames (hr.mono (by first | decide | exact Nat.le_refl _)) (by rfl) D_unread_frames.g D_unread_frames.F.kp kb_unread_frames pass0 (pk_cons (pv 11) (pk_cons (pv 7) pk_nil))) (pa_cons (pe_call G_unread_frames (hr.mono (by first | decide | exact Nat.le_refl _)) (by rfl) D_unread_frames.g D_unread_frames.F.kp D_unread_frames.b .nil pass0 (pa_cons (pv 7) (pa_cons (pv 11) pa_nil))) pa_nil)))))
   (pss_one (ps_ret pe_bl))
   pss_nil)
   (pss_cons (ps_if (pt_not (pt_val (pe_call G_same (hr.mono (by first | decide | exact Nat.le_refl _)) (by rfl) D_same.g D_same.F.kp D_same.b .nil pass0 (pa_cons (pe_callK0 G_touched (hr.mono (by first | decide | exact Nat.le_refl _)) (by rfl) D_touched.g D_touched.F.kp kb_touched pass0 (pk_cons (pv 11) (pk_cons (pv 7) pk_nil))) (pa_cons (pe_call G_touched (hr.mono (by first | decide | exact Nat.le_refl _)) (by rfl) D_touched.g D_touched.F.kp D_touched.b .nil pass0 (pa_cons (pv 7) (pa_cons (pv 11) pa_nil))) pa_nil)))))
   (pss_one (ps_ret pe_bl))
   pss_nil)
   (pss_cons (ps_set (i := 13) sc_law.nd rfl (Or.inl rfl) (pe_callFCK0 G_concealed (src_lam (k := 0) (e := e_lam2) (N := ["_law_at", "_law_given"]) (ps := ["_law_at"]) (fr := ["_law_given"]) (js := [8]) (sp := spGet) (NdefX.nscope_by (by decide +kernel)) (fun _ _ _ _ _ us hl => match us, hl with | [_], _ => rfl) get_len (fun f c A stack s H vs ws Q r h => ⟨_, pe_ix ix_list (pv 1) (pv 0) (fun _ _ => rfl), get_run h⟩) (fun ok => NdefX.Caps.made (scope := lamC e_lam2) ok (NdefX.ndef_free lam_ok2) (NdefX.ndef_fr lam_ok2) rfl)) (hr.mono (by first | decide | exact Nat.le_refl _)) (by rfl) D_concealed.g D_concealed.F.kp kb_concealed (pk_cons (pv 11) (pk_cons (pe_mkLamF (T := [(P_tab, qLam)]) (e := e_lam2) rfl TB rfl (List.mem_singleton.mpr rfl) (fun p hp _ => congrArg Prod.snd (List.mem_singleton.mp hp)) rfl (NdefX.ndef_free lam_ok2)) (pk_cons (pv 7) pk_nil)))))
   (pss_cons (ps_if (pt_not (pt_val (pe_call G_same (hr.mono (by first | decide | exact Nat.le_refl _)) (by rfl) D_same.g D_same.F.kp D_same.b .nil pass0 (pa_cons (pv 13) (pa_cons (pe_callFC G_concealed (src_lam (k := 0) (e := e_lam3) (N := ["_law_at", "_law_given"]) (ps := ["_law_at"]) (fr := ["_law_given"]) (js := [8]) (sp := spGet) (NdefX.nscope_by (by decide +kernel)) (fun _ _ _ _ _ us hl => match us, hl with | [_], _ => rfl) get_len (fun f c A stack s H vs ws Q r h => ⟨_, pe_ix ix_list (pv 1) (pv 0) (fun _ _ => rfl), get_run h⟩) (fun ok => NdefX.Caps.made (scope := lamC e_lam3) ok (NdefX.ndef_free lam_ok3) (NdefX.ndef_fr lam_ok3) rfl)) (hr.mono (by first | decide | exact Nat.le_refl _)) (by rfl) D_concealed.g D_concealed.F.kp D_concealed.b (pa_cons (pv 7) (pa_cons (pe_mkLamF (T := [(P_tab, qLam)]) (e := e_lam3) rfl TB rfl (List.mem_singleton.mpr rfl) (fun p hp _ => congrArg Prod.snd (List.mem_singleton.mp hp)) rfl (NdefX.ndef_free lam_ok3)) (pa_cons (pv 11) pa_nil)))) pa_nil)))))
   (pss_one (ps_ret pe_bl))
   pss_nil)
   (pss_one (ps_if (pt_not (pt_val (pe_call G_same (hr.mono (by first | decide | exact Nat.le_refl _)) (by rfl) D_same.g D_same.F.kp D_same.b .nil pass0 (pa_cons (pe_callK0 G_salvaged (hr.mono (by first | decide | exact Nat.le_refl _)) (by rfl) D_salvaged.g D_salvaged.F.kp kb_salvaged pass0 (pk_cons (pv 8) (pk_cons (pv 7) pk_nil))) (pa_cons (pe_tup (pa_cons (pe_meth0 (pv 6) TC_Stream.cl D_Stream_sound.m G_Stream_sound (hr.mono (by first | decide | exact Nat.le_refl _)) D_Stream_sound.b .nil pass0) (pa_cons (pe_lst pa_nil) pa_nil))) pa_nil)))))
   (pss_one (ps_ret pe_bl))
   pss_nil)))))))))))))))))
   (pss_one (ps_ret pe_bl)))), ?_⟩
      refine rd_start (σ := [some (.ref a), none, none, none, none, none, none, none, none, none, none, none, none, none]) rfl ?_
      refine rd_cut (fun σ G => ∃ B us, σ = [some (.ref a), some (.ref B), none, none, none, none, none, none, none, none, none, none, none, none] ∧ Same H G ∧ G B = some (.lst us) ∧ us.length = 4 ∧ HdsAt G us hs45) ?_ fun σ1 H0 hM => ?_
      · walk_at "rd"
        rename_i j0 hj0 u0 hu0 j1 hj1 u1 hu1 j2 hj2 u2 hu2 j3 hj3 u3 hu3 B hB
        exact ⟨B, [.ref u0, .ref u1, .ref u2, .ref u3], rfl, by walk_at "sm", upd_same, rfl, .cons (hd39_0 (j := j0) (by walk_at "hg") (by walk_at "hg")) (.cons (hd45_1 (j := j1) (by walk_at "hg") (by walk_at "hg")) (.cons (hd39_2 (j := j2) (by walk_at "hg") (by walk_at "hg")) (.cons (hd45_3 (j := j3) (by walk_at "hg") (by walk_at "hg")) .nil)))⟩
      obtain ⟨B, us, rfl, sH0, eB, lus, hh⟩ := hM
      have hT0 : LamX.Tabs [(P_tab, qLam)] H0 := Tabs.same sH0 hT
      have hS0 := sH0.seq hS
      walk_at "rd"
      have hn := mm_nat (ns.map V.int).length 24 (by decide)
      refine for_range (lo := 0) (n := _) (fun i σ G' => ∃ x2 x3 x4 x5 x6 x7 x8 x9 x10 x11 x12 x13, σ = [some (.ref a), some (.ref B), x2, x3, x4, x5, x6, x7, x8, x9, x10, x11, x12, x13] ∧ LamX.ExtN H0 G' ∧ LamX.Tabs [(P_tab, qLam)] G') ⟨_, _, _, _, _, _, _, _, _, _, _, _, rfl, .of (fun _ _ e => e), hT0⟩ (fun i σ G1 hi hI => ?_) (fun σ G1 hI => ?_)
      · obtain ⟨x2, x3, x4, x5, x6, x7, x8, x9, x10, x11, x12, x13, rfl, hs, hT1⟩ := hI
        have hi' : i < 24 := Nat.lt_of_lt_of_le hi hn
        have hS1 : SqL K G1 a (ns.map V.int) := extN_seq hs hS0
        walk_at "rd"
        rename_i p H2 hp0 hs2 hP2 D hD
        refine lc_draw (fun w => -500 ≤ w ∧ w ≤ 500) (fun _ => rfl) hP2 hD (by decide) (fun i' H3 Q' hP3 hq => ?_) fun xs H3 hxl hxb hP3 hK3 eD => ?_
        · walk_at "rd"
          rename_i r2 H4 h20 h21 hP4 hK4
          exact hq _ _ ⟨by omega, by omega⟩ hP4 hK4
        have X3 : LamX.ExtN H0 H3 := extN_trans hs (extN_kpT hp0 (.of hs2) (KpT.of hK3))
        have lk3 := LKX.ext X3
        have hT3 : LamX.Tabs [(P_tab, qLam)] H3 := Tabs.kp hP2 hK3 (Tabs.same hs2 hT1)
        have eB3 := X3 _ _ eB lst_ntbl
        have hh3 : HdsAt H3 us hs45 := hh.imp fun _ _ ⟨h, k, e, z1, z2⟩ => ⟨h, k, e, X3 _ _ z1 (fun _ z => nomatch z), X3 _ _ z2 (fun _ z => nomatch z)⟩
        obtain ⟨Te, hV⟩ := enc_vd (g := 2) ch45 (hxl.trans tot45.symm) (by decide) (fun x hx => by have := hxb x hx; omega)
        walk_at "rd"
        refine rd_cN ?_
        walk_at "rd"
        refine ⟨rfl, rfl, use_encN (g := 2) rfl eD eB3 hh3 ch45 (hxl.trans tot45.symm) (by decide) (by rw [lus]; decide) (by decide) hV fun y ws H4 hy s34 hSt => ?_⟩
        have frs : (encA 2 hs45 xs).length = 5 ∧ totW (fwR (encA 2 hs45 xs)) = 17 := ⟨len45 xs, fw45 xs⟩
        generalize encA 2 hs45 xs = rs at *
        obtain ⟨lrs, twr⟩ := frs
        have hy4 : y ≠ p := by
          obtain ⟨_, _, e, _⟩ := hP3
          exact (ne_of_none e hy).symm
        walk_at "rd"
        refine use_idx hSt.at_ fun A idx H5 hA eA hix s45 => ?_
        walk_at "rd"
        refine rd_propS (hSt.at_.same s45) rfl ⟨y, ws, _, rfl, hSt.at_.same s45, fun R hR => ?_⟩
        walk_at "rd"
        rename_i tt0 htt0 r7 H7 h70 h71 hP7 hK7 r8 H8 h80 h81 hP8 hK8 r9 H9 h90 h91 hP9 hK9 G hG
        have s5R := same_new (o := .lst ws) hR
        have s56 := s5R.trans (same_new (o := .tup [.ref A, .ref R]) htt0)
        have s46 := s45.trans s56
        have hP4 := hP3.same s34
        have hP6 := hP4.same s46
        have nAp : A ≠ p := hP4.ne hA
        have nRp : R ≠ p := (hP4.same s45).ne hR
        have hRc4 : RcsAt K H4 ws rs := by
          obtain ⟨dx, L0, F0, fms0, Te0, z1, z2, z3, z4, z5⟩ := hSt.at_
          exact z4
        have eR6 : (upd (upd H5 R (.lst ws)) tt0 (.tup [.ref A, .ref R])) R = some (.lst ws) := look_new htt0 upd_same
        have eA6 := s56 _ _ eA
        have hT6 : LamX.Tabs [(P_tab, qLam)] _ := Tabs.same s46 (Tabs.same s34 hT3)
        have hix6 := hix.imp fun _ _ z => RwV.lk (.of s56) z
        generalize upd (upd H5 R (.lst ws)) tt0 (.tup [.ref A, .ref R]) = H6 at *
        have s9G := same_new (o := .lst [V.int r9]) hG
        have k610 : KpT p H6 (upd H9 G (.lst [V.int r9])) := (KpT.of hK7).trans ((KpT.of hK8).trans ((KpT.of hK9).trans (KpT.same s9G)))
        have k410 : KpT p H4 (upd H9 G (.lst [V.int r9])) := (KpT.same s46).trans k610
        have lk610 := k610.lkx hP6
        have lk410 := k410.lkx hP4
        have pe3 : ∃ o, H3 p = some o := by
          obtain ⟨_, _, e, _⟩ := hP3
          exact ⟨_, e⟩
        have hN := hSt.kpT pe3 hy4 lk410 k410
        have hT10 : LamX.Tabs [(P_tab, qLam)] (upd H9 G (.lst [V.int r9])) := Tabs.same s9G (Tabs.kp hP8 hK9 (Tabs.kp hP7 hK8 (Tabs.kp hP6 hK7 hT6)))
        have eA10 := k610.lst nAp eA6
        have eR10 := k610.lst nRp eR6
        have hix10 := hix6.imp fun _ _ z => RwV.lkx lk610 z
        have hRc10 : RcsAt K _ ws rs := hRc4.imp fun _ _ z => RcAt.lkx lk410 z
        have eG10 : (upd H9 G (.lst [V.int r9])) G = some (.lst ([r9].map V.int)) := upd_same
        have X10 : LamX.ExtN H0 (upd H9 G (.lst [V.int r9])) := extN_trans hs (extN_kpT hp0 (.of hs2) ((KpT.of hK3).trans ((KpT.same s34).trans k410)))
        generalize upd H9 G (.lst [V.int r9]) = H10 at *
        obtain ⟨fi, rfl⟩ : ∃ k : Nat, r7 = (k : Int) := ⟨r7.toNat, by omega⟩
        obtain ⟨la, ela, hla1, hla2⟩ : ∃ k : Nat, (fi : Int) + r8 = (k : Int) ∧ fi ≤ k ∧ k ≤ 17 := ⟨((fi : Int) + r8).toNat, by omega, by omega, by omega⟩
        rw [ela]
        have ro : RowsO (runR rs).rows := (runO hV.ok).rows (by rw [runR_at]; omega)
        have hro := rowsOf rs
        have hfw := rows_fw rs
        have htil := til_run rs
        have hmo := (rowsM_of hV).mo
        have z2 := rows_le rs
        have lA : idx.length ≤ 40 := by have := hix10.len; omega
        have hlw := til_len htil
        rw [hfw] at hlw
        have tw0 : totW (fwR rs) ≤ 10000 := by omega
        have lws : ws.length ≤ 400 := by have := hRc10.len; omega
        clear hK7 hK8 hK9 hP7 hP8 hP9 hP6 hP4 k610 k410 lk610 lk410
        refine use_idxK hN.at_ fun A2 idx2 H11 hA2 eA2 hix2 s11 => ?_
        walk_at "rd"
        refine use_same (sm_rows eA2 (s11 _ _ eA10) hix2 (hix10.imp fun _ _ z => RwV.lk (.of s11) z)) fun H12 s12 => ?_
        walk_at "rd"
        have c12 := s11.trans s12
        refine use_ndd (c12 _ _ eA10) (hix10.imp fun _ _ z => RwV.lk (.of c12) z) lA ro (by omega) (by omega) (by rw [hlw]; omega) fun D1 H13 hD1 eD1 s13 => ?_
        walk_at "rd"
        have c13 := c12.trans s13
        refine use_ndd (c13 _ _ eA10) (hix10.imp fun _ _ z => RwV.lk (.of c13) z) lA ro (by omega) (by omega) (by rw [hlw]; omega) fun D2 H14 hD2 eD2 s14 => ?_
        walk_at "rd"
        refine use_same (sm_ints3 (s14 _ _ eD1) eD2) fun H15 s15 => ?_
        walk_at "rd"
        have c15 := c13.trans (s14.trans s15)
        refine rd_cFCK ?_
        walk_at "rd"
        refine ⟨Tabs.same c15 hT10, fun f9 c9 pm9 ctv9 J1 nf hE hT11 ef ec => ?_⟩
        walk_at "rd"
        have Y1 : LamX.ExtN H10 J1 := extN_trans (.of c15) hE
        have ly1 := LKX.ext Y1
        refine ⟨f9, c9, _, ⟨⟨_, _, ef⟩, ec, rfl⟩, use_rpt (C := none) (cs := []) (s := fi) (e := la) rfl rfl (Y1 _ _ eA10 lst_ntbl) (hix10.imp fun _ _ z => RwV.lkx ly1 z) lA ro hro hV hfw tw0 htil hmo (by omega) (by omega) (fun us _ => fetches_get (Y1 _ _ eR10 lst_ntbl) (hRc10.imp fun _ _ z => RcAt.lkx ly1 z)) trivial (Nat.zero_le _) (fun z => nomatch z) ⟨_, ef⟩ ⟨_, ec⟩ (fun z => nomatch z) (fun z => nomatch z) fun D3 us3 J2 hD3 k3 _ _ _ eD3 => ?_⟩
        have t12 : Same J1 J2 := fun b o z => k3 b o List.not_mem_nil z
        have Y2 := extN_trans Y1 (.of t12)
        have hN2 := hN.kpT pe3 hy4 (LKX.ext Y2) (KpT.ext Y2)
        have hT12 := Tabs.same t12 hT11
        have sndE : sndR rs = sndW (fwR rs) (allB rs (runR rs).rows) := sndR_all rs
        have lSW : (sndW (fwR rs) (allB rs (runR rs).rows)).length = totW (fwR rs) := by
          unfold sndW
          rw [turnL_length, ← hfw]
          refine blk_len fun r hr => ?_
          obtain ⟨ns', T', f1, f2, f3, f4⟩ := hro.at_ hV hr
          exact kfB_len2 (by rw [f2, f4])
        rw [← sndE] at eD3 lSW
        walk_at "rd"
        refine rd_methS hN2.at_ rfl (by decide +kernel) (by decide +kernel) ?_
        walk_at "rd"
        refine use_sndS hN2.at_ tw0 fun S1 J3 hS1' t23 eS1 => ?_
        walk_at "rd"
        refine rd_slM (SqL.of eS1) (by rw [lSW]; omega) (by rw [lSW]; omega) fun S2 hS2 => ?_
        have t34 := same_new (o := .lst ((((sndR rs).drop fi).take (la - fi)).map V.int)) hS2
        walk_at "rd"
        refine use_same (sm_ints3 (t34 _ _ (t23 _ _ eD3)) upd_same) fun J4 t45 => ?_
        walk_at "rd"
        have t24 := t23.trans (t34.trans t45)
        have Y4 := extN_trans Y2 (.of t24)
        have ly4 := LKX.ext Y4
        have hN4 := hN2.kpT pe3 hy4 (LKX.of t24) (KpT.same t24)
        have eA4 := Y4 _ _ eA10 lst_ntbl
        have eR4 := Y4 _ _ eR10 lst_ntbl
        have eG4 := Y4 _ _ eG10 lst_ntbl
        have hix4 := hix10.imp fun _ _ z => RwV.lkx ly4 z
        have hRc4' : RcsAt K J4 ws rs := hRc10.imp fun _ _ z => RcAt.lkx ly4 z
        have hT14 := Tabs.same t24 hT12
        have hg0 : ∀ z ∈ [r9], 0 ≤ z := fun z hz => by rw [List.mem_singleton.mp hz]; exact h90
        clear hT12 hT11 hT10 eA10 eR10 eG10 hix10 hRc10 hN hN2
        refine use_unr (ns := [r9]) eA4 hix4 ro lA (.inl eG4) hg0 (by show 1 ≤ 100; decide) fun U1 J5 hU1 t5 eU1 => ?_
        walk_at "rd"
        refine use_unr (ns := [r9]) (t5 _ _ eA4) (hix4.imp fun _ _ z => RwV.lk (.of t5) z) ro lA (.inl (t5 _ _ eG4)) hg0 (by show 1 ≤ 100; decide) fun U2 J6 hU2 t6 eU2 => ?_
        walk_at "rd"
        refine use_same (sm_flatL (t6 _ _ eU1) eU2 (sc_nats _)) fun J7 t7 => ?_
        walk_at "rd"
        have t47 := t5.trans (t6.trans t7)
        refine use_tch (ns := [r9]) (t47 _ _ eA4) (hix4.imp fun _ _ z => RwV.lk (.of t47) z) ro lA (.inl (t47 _ _ eG4)) hg0 (by show 1 ≤ 100; decide) fun V1 ps1 J8 hV1 t8 eV1 hp1 => ?_
        walk_at "rd"
        have t48 := t47.trans t8
        refine use_tch (ns := [r9]) (t48 _ _ eA4) (hix4.imp fun _ _ z => RwV.lk (.of t48) z) ro lA (.inl (t48 _ _ eG4)) hg0 (by show 1 ≤ 100; decide) fun V2 ps2 J9 hV2 t9 eV2 hp2 => ?_
        walk_at "rd"
        refine use_same (sm_prs (t9 _ _ eV1) eV2 (hp1.lk (.of t9)) hp2) fun J10 t10 => ?_
        walk_at "rd"
        have t410 := t48.trans (t9.trans t10)
        refine rd_cFCK ?_
        walk_at "rd"
        refine ⟨Tabs.same t410 hT14, fun f10 c10 pm10 ctv10 J11 nf10 hE10 hT15 ef10 ec10 => ?_⟩
        walk_at "rd"
        have Y11 : LamX.ExtN J4 J11 := extN_trans (.of t410) hE10
        have ly11 := LKX.ext Y11
        refine ⟨f10, c10, _, ⟨⟨_, _, ef10⟩, ec10, rfl⟩, use_conc (C := none) (cs := []) (ns := [r9]) (Y11 _ _ eA4 lst_ntbl) (hix4.imp fun _ _ z => RwV.lkx ly11 z) lA ro hro hV hfw tw0 (.inl (Y11 _ _ eG4 lst_ntbl)) hg0 (by show 1 ≤ 100; decide) (fun us _ => fetches_get (Y11 _ _ eR4 lst_ntbl) (hRc4'.imp fun _ _ z => RcAt.lkx ly11 z)) trivial (Nat.zero_le _) (fun z => nomatch z) ⟨_, ef10⟩ ⟨_, ec10⟩ (fun z => nomatch z) (fun z => nomatch z) fun D5 us5 J12 hD5 k5 _ _ _ eD5 => ?_⟩
        have t12' : Same J11 J12 := fun b o z => k5 b o List.not_mem_nil z
        have Y12 := extN_trans Y11 (.of t12')
        have ly12 := LKX.ext Y12
        walk_at "rd"
        refine rd_cFC ?_
        walk_at "rd"
        refine ⟨Tabs.same t12' hT15, fun f11 c11 pm11 ctv11 J13 nf11 hE11 hT16 ef11 ec11 => ?_⟩
        walk_at "rd"
        have Y13 := extN_trans Y12 hE11
        have ly13 := LKX.ext Y13
        refine ⟨f11, c11, _, ⟨⟨_, _, ef11⟩, ec11, rfl⟩, use_conc (C := none) (cs := []) (ns := [r9]) (Y13 _ _ eA4 lst_ntbl) (hix4.imp fun _ _ z => RwV.lkx ly13 z) lA ro hro hV hfw tw0 (.inl (Y13 _ _ eG4 lst_ntbl)) hg0 (by show 1 ≤ 100; decide) (fun us _ => fetches_get (Y13 _ _ eR4 lst_ntbl) (hRc4'.imp fun _ _ z => RcAt.lkx ly13 z)) trivial (Nat.zero_le _) (fun z => nomatch z) ⟨_, ef11⟩ ⟨_, ec11⟩ (fun z => nomatch z) (fun z => nomatch z) fun D6 us6 J14 hD6 k6 _ _ _ eD6 => ?_⟩
        have t14 : Same J13 J14 := fun b o z => k6 b o List.not_mem_nil z
        walk_at "rd"
        refine use_same (sm_ints3 (t14 _ _ (hE11 _ _ eD5 lst_ntbl)) eD6) fun J15 t15 => ?_
        walk_at "rd"
        have Y15 := extN_trans Y13 (.of (t14.trans t15))
        have ly15 := LKX.ext Y15
        have hN15 := hN4.kpT pe3 hy4 ly15 (KpT.ext Y15)
        refine use_sal (Y15 _ _ eA4 lst_ntbl) (hix4.imp fun _ _ z => RwV.lkx ly15 z) lA ro hro hV hfw tw0 (Y15 _ _ eR4 lst_ntbl) (hRc4'.imp fun _ _ z => RcAt.lkx ly15 z) lws fun D7 S7 L7 J16 hD7 t16 eD7 eS7 eL7 => ?_
        have hN16 := hN15.kpT pe3 hy4 (LKX.of t16) (KpT.same t16)
        walk_at "rd"
        refine rd_methS hN16.at_ rfl (by decide +kernel) (by decide +kernel) ?_
        walk_at "rd"
        refine use_sndS hN16.at_ tw0 fun S8 J17 hS8 t17 eS8 => ?_
        walk_at "rd"
        rename_i Z0 hZ0 Z1 hZ1
        have tZ1 := same_new (o := .tup [.ref S8, .ref Z0]) hZ1
        have tZ := (same_new (o := .lst []) hZ0).trans tZ1
        refine use_same (sm_sal (ns := sndR rs) (tZ _ _ (t17 _ _ eD7)) upd_same (by rw [sndE]; exact tZ _ _ (t17 _ _ eS7)) (tZ _ _ eS8) (tZ _ _ (t17 _ _ eL7)) (tZ1 _ _ upd_same)) fun J18 t18 => ?_
        walk_at "rd"
        have tE := t16.trans (t17.trans (tZ.trans t18))
        exact ⟨_, _, _, _, _, _, _, _, _, _, _, _, rfl, extN_trans X10 (extN_trans Y4 (extN_trans Y15 (.of tE))), Tabs.same (t14.trans (t15.trans tE)) hT16⟩
      · obtain ⟨x2, x3, x4, x5, x6, x7, x8, x9, x10, x11, x12, x13, rfl, hs, hT1⟩ := hI
        walk_at "rd"
        exact q _
    ) only [↓lt_eq]
end
theorem mkD_is_integer {K : PySem.W.Frag} {h : Heap} {mg : Str → Option Value} (X : K.In h) (G : h.Ns mainGlobals mg) {f : Addr} {od an : Option Addr} {sl : Array (Option Value)} {oc kV dc pm cd ct : Value} (a : PySem.W.nsIn K mainGlobals "is_integer" = some (some (.ref f))) (lk : K.lookup f = some ⟨oc, od, .func (PySem.W.fnOf "is_integer" "is_integer" (defArgs s_is_integer) (defBody s_is_integer) (defScope s_is_integer) .none kV dc pm an cd ct), sl⟩) (c : PySem.W.codeIn K cd "is_integer" = true) (k : PySem.W.keepIn K (.ref f) = true) : Dn K mg "is_integer" s_is_integer ["value"] f (PySem.W.fnOf "is_integer" "is_integer" (defArgs s_is_integer) (defBody s_is_integer) (defScope s_is_integer) .none kV dc pm an cd ct) := by
  have F := fun_mk (st := s_is_integer) lk c k
  exact ⟨F, PySem.W.mg_of X G a, F.binds (ps := ["value"]) fun _ _ _ _ _ _ us hl => match us, hl with | [_], _ => rfl⟩
theorem mkD_is_within {K : PySem.W.Frag} {h : Heap} {mg : Str → Option Value} (X : K.In h) (G : h.Ns mainGlobals mg) {f : Addr} {od an : Option Addr} {sl : Array (Option Value)} {oc kV dc pm cd ct : Value} (a : PySem.W.nsIn K mainGlobals "is_within" = some (some (.ref f))) (lk : K.lookup f = some ⟨oc, od, .func (PySem.W.fnOf "is_within" "is_within" (defArgs s_is_within) (defBody s_is_within) (defScope s_is_within) .none kV dc pm an cd ct), sl⟩) (c : PySem.W.codeIn K cd "is_within" = true) (k : PySem.W.keepIn K (.ref f) = true) : Dn K mg "is_within" s_is_within ["value", "low", "high"] f (PySem.W.fnOf "is_within" "is_within" (defArgs s_is_within) (defBody s_is_within) (defScope s_is_within) .none kV dc pm an cd ct) := by
  have F := fun_mk (st := s_is_within) lk c k
  exact ⟨F, PySem.W.mg_of X G a, F.binds (ps := ["value", "low", "high"]) fun _ _ _ _ _ _ us hl => match us, hl with | [_, _, _], _ => rfl⟩
theorem mkD_check_integer {K : PySem.W.Frag} {h : Heap} {mg : Str → Option Value} (X : K.In h) (G : h.Ns mainGlobals mg) {f : Addr} {od an : Option Addr} {sl : Array (Option Value)} {oc kV dc pm cd ct : Value} (a : PySem.W.nsIn K mainGlobals "check_integer" = some (some (.ref f))) (lk : K.lookup f = some ⟨oc, od, .func (PySem.W.fnOf "check_integer" "check_integer" (defArgs s_check_integer) (defBody s_check_integer) (defScope s_check_integer) .none kV dc pm an cd ct), sl⟩) (c : PySem.W.codeIn K cd "check_integer" = true) (k : PySem.W.keepIn K (.ref f) = true) : Dn K mg "check_integer" s_check_integer ["value"] f (PySem.W.fnOf "check_integer" "check_integer" (defArgs s_check_integer) (defBody s_check_integer) (defScope s_check_integer) .none kV dc pm an cd ct) := by
  have F := fun_mk (st := s_check_integer) lk c k
  exact ⟨F, PySem.W.mg_of X G a, F.binds (ps := ["value"]) fun _ _ _ _ _ _ us hl => match us, hl with | [_], _ => rfl⟩
theorem mkD_check_within {K : PySem.W.Frag} {h : Heap} {mg : Str → Option Value} (X : K.In h) (G : h.Ns mainGlobals mg) {f : Addr} {od an : Option Addr} {sl : Array (Option Value)} {oc kV dc pm cd ct : Value} (a : PySem.W.nsIn K mainGlobals "check_within" = some (some (.ref f))) (lk : K.lookup f = some ⟨oc, od, .func (PySem.W.fnOf "check_within" "check_within" (defArgs s_check_within) (defBody s_check_within) (defScope s_check_within) .none kV dc pm an cd ct), sl⟩) (c : PySem.W.codeIn K cd "check_within" = true) (k : PySem.W.keepIn K (.ref f) = true) : Dn K mg "check_within" s_check_within ["value", "low", "high"] f (PySem.W.fnOf "check_within" "check_within" (defArgs s_check_within) (defBody s_check_within) (defScope s_check_within) .none kV dc pm an cd ct) := by
  have F := fun_mk (st := s_check_within) lk c k
  exact ⟨F, PySem.W.mg_of X G a, F.binds (ps := ["value", "low", "high"]) fun _ _ _ _ _ _ us hl => match us, hl with | [_, _, _], _ => rfl⟩
theorem mkD_check_stretch {K : PySem.W.Frag} {h : Heap} {mg : Str → Option Value} (X : K.In h) (G : h.Ns mainGlobals mg) {f : Addr} {od an : Option Addr} {sl : Array (Option Value)} {oc kV dc pm cd ct : Value} (a : PySem.W.nsIn K mainGlobals "check_stretch" = some (some (.ref f))) (lk : K.lookup f = some ⟨oc, od, .func (PySem.W.fnOf "check_stretch" "check_stretch" (defArgs s_check_stretch) (defBody s_check_stretch) (defScope s_check_stretch) .none kV dc pm an cd ct), sl⟩) (c : PySem.W.codeIn K cd "check_stretch" = true) (k : PySem.W.keepIn K (.ref f) = true) : Dn K mg "check_stretch" s_check_stretch ["start", "end", "length"] f (PySem.W.fnOf "check_stretch" "check_stretch" (defArgs s_check_stretch) (defBody s_check_stretch) (defScope s_check_stretch) .none kV dc pm an cd ct) := by
  have F := fun_mk (st := s_check_stretch) lk c k
  exact ⟨F, PySem.W.mg_of X G a, F.binds (ps := ["start", "end", "length"]) fun _ _ _ _ _ _ us hl => match us, hl with | [_, _, _], _ => rfl⟩
theorem mkD_check_items {K : PySem.W.Frag} {h : Heap} {mg : Str → Option Value} (X : K.In h) (G : h.Ns mainGlobals mg) {f : Addr} {od an : Option Addr} {sl : Array (Option Value)} {oc kV dc pm cd ct : Value} (a : PySem.W.nsIn K mainGlobals "check_items" = some (some (.ref f))) (lk : K.lookup f = some ⟨oc, od, .func (PySem.W.fnOf "check_items" "check_items" (defArgs s_check_items) (defBody s_check_items) (defScope s_check_items) .none kV dc pm an cd ct), sl⟩) (c : PySem.W.codeIn K cd "check_items" = true) (k : PySem.W.keepIn K (.ref f) = true) : Dn K mg "check_items" s_check_items ["values"] f (PySem.W.fnOf "check_items" "check_items" (defArgs s_check_items) (defBody s_check_items) (defScope s_check_items) .none kV dc pm an cd ct) := by
  have F := fun_mk (st := s_check_items) lk c k
  exact ⟨F, PySem.W.mg_of X G a, F.binds (ps := ["values"]) fun _ _ _ _ _ _ us hl => match us, hl with | [_], _ => rfl⟩
theorem mkD_check_sound {K : PySem.W.Frag} {h : Heap} {mg : Str → Option Value} (X : K.In h) (G : h.Ns mainGlobals mg) {f : Addr} {od an : Option Addr} {sl : Array (Option Value)} {oc kV dc pm cd ct : Value} (a : PySem.W.nsIn K mainGlobals "check_sound" = some (some (.ref f))) (lk : K.lookup f = some ⟨oc, od, .func (PySem.W.fnOf "check_sound" "check_sound" (defArgs s_check_sound) (defBody s_check_sound) (defScope s_check_sound) .none kV dc pm an cd ct), sl⟩) (c : PySem.W.codeIn K cd "check_sound" = true) (k : PySem.W.keepIn K (.ref f) = true) : Dn K mg "check_sound" s_check_sound ["values"] f (PySem.W.fnOf "check_sound" "check_sound" (defArgs s_check_sound) (defBody s_check_sound) (defScope s_check_sound) .none kV dc pm an cd ct) := by
  have F := fun_mk (st := s_check_sound) lk c k
  exact ⟨F, PySem.W.mg_of X G a, F.binds (ps := ["values"]) fun _ _ _ _ _ _ us hl => match us, hl with | [_], _ => rfl⟩
theorem mkD_check_block {K : PySem.W.Frag} {h : Heap} {mg : Str → Option Value} (X : K.In h) (G : h.Ns mainGlobals mg) {f : Addr} {od an : Option Addr} {sl : Array (Option Value)} {oc kV dc pm cd ct : Value} (a : PySem.W.nsIn K mainGlobals "check_block" = some (some (.ref f))) (lk : K.lookup f = some ⟨oc, od, .func (PySem.W.fnOf "check_block" "check_block" (defArgs s_check_block) (defBody s_check_block) (defScope s_check_block) .none kV dc pm an cd ct), sl⟩) (c : PySem.W.codeIn K cd "check_block" = true) (k : PySem.W.keepIn K (.ref f) = true) : Dn K mg "check_block" s_check_block ["values", "least"] f (PySem.W.fnOf "check_block" "check_block" (defArgs s_check_block) (defBody s_check_block) (defScope s_check_block) .none kV dc pm an cd ct) := by
  have F := fun_mk (st := s_check_block) lk c k
  exact ⟨F, PySem.W.mg_of X G a, F.binds (ps := ["values", "least"]) fun _ _ _ _ _ _ us hl => match us, hl with | [_, _], _ => rfl⟩
theorem mkD_is_joint {K : PySem.W.Frag} {h : Heap} {mg : Str → Option Value} (X : K.In h) (G : h.Ns mainGlobals mg) {f : Addr} {od an : Option Addr} {sl : Array (Option Value)} {oc kV dc pm cd ct : Value} (a : PySem.W.nsIn K mainGlobals "is_joint" = some (some (.ref f))) (lk : K.lookup f = some ⟨oc, od, .func (PySem.W.fnOf "is_joint" "is_joint" (defArgs s_is_joint) (defBody s_is_joint) (defScope s_is_joint) .none kV dc pm an cd ct), sl⟩) (c : PySem.W.codeIn K cd "is_joint" = true) (k : PySem.W.keepIn K (.ref f) = true) : Dn K mg "is_joint" s_is_joint ["value"] f (PySem.W.fnOf "is_joint" "is_joint" (defArgs s_is_joint) (defBody s_is_joint) (defScope s_is_joint) .none kV dc pm an cd ct) := by
  have F := fun_mk (st := s_is_joint) lk c k
  exact ⟨F, PySem.W.mg_of X G a, F.binds (ps := ["value"]) fun _ _ _ _ _ _ us hl => match us, hl with | [_], _ => rfl⟩
theorem mkD_fold_pair {K : PySem.W.Frag} {h : Heap} {mg : Str → Option Value} (X : K.In h) (G : h.Ns mainGlobals mg) {f : Addr} {od an : Option Addr} {sl : Array (Option Value)} {oc kV dc pm cd ct : Value} (a : PySem.W.nsIn K mainGlobals "fold_pair" = some (some (.ref f))) (lk : K.lookup f = some ⟨oc, od, .func (PySem.W.fnOf "fold_pair" "fold_pair" (defArgs s_fold_pair) (defBody s_fold_pair) (defScope s_fold_pair) .none kV dc pm an cd ct), sl⟩) (c : PySem.W.codeIn K cd "fold_pair" = true) (k : PySem.W.keepIn K (.ref f) = true) : Dn K mg "fold_pair" s_fold_pair ["shape", "a", "b"] f (PySem.W.fnOf "fold_pair" "fold_pair" (defArgs s_fold_pair) (defBody s_fold_pair) (defScope s_fold_pair) .none kV dc pm an cd ct) := by
  have F := fun_mk (st := s_fold_pair) lk c k
  exact ⟨F, PySem.W.mg_of X G a, F.binds (ps := ["shape", "a", "b"]) fun _ _ _ _ _ _ us hl => match us, hl with | [_, _, _], _ => rfl⟩
theorem mkD_unfold_pair {K : PySem.W.Frag} {h : Heap} {mg : Str → Option Value} (X : K.In h) (G : h.Ns mainGlobals mg) {f : Addr} {od an : Option Addr} {sl : Array (Option Value)} {oc kV dc pm cd ct : Value} (a : PySem.W.nsIn K mainGlobals "unfold_pair" = some (some (.ref f))) (lk : K.lookup f = some ⟨oc, od, .func (PySem.W.fnOf "unfold_pair" "unfold_pair" (defArgs s_unfold_pair) (defBody s_unfold_pair) (defScope s_unfold_pair) .none kV dc pm an cd ct), sl⟩) (c : PySem.W.codeIn K cd "unfold_pair" = true) (k : PySem.W.keepIn K (.ref f) = true) : Dn K mg "unfold_pair" s_unfold_pair ["shape", "a", "b"] f (PySem.W.fnOf "unfold_pair" "unfold_pair" (defArgs s_unfold_pair) (defBody s_unfold_pair) (defScope s_unfold_pair) .none kV dc pm an cd ct) := by
  have F := fun_mk (st := s_unfold_pair) lk c k
  exact ⟨F, PySem.W.mg_of X G a, F.binds (ps := ["shape", "a", "b"]) fun _ _ _ _ _ _ us hl => match us, hl with | [_, _, _], _ => rfl⟩
theorem mkD_check_pair {K : PySem.W.Frag} {h : Heap} {mg : Str → Option Value} (X : K.In h) (G : h.Ns mainGlobals mg) {f : Addr} {od an : Option Addr} {sl : Array (Option Value)} {oc kV dc pm cd ct : Value} (a : PySem.W.nsIn K mainGlobals "check_pair" = some (some (.ref f))) (lk : K.lookup f = some ⟨oc, od, .func (PySem.W.fnOf "check_pair" "check_pair" (defArgs s_check_pair) (defBody s_check_pair) (defScope s_check_pair) .none kV dc pm an cd ct), sl⟩) (c : PySem.W.codeIn K cd "check_pair" = true) (k : PySem.W.keepIn K (.ref f) = true) : Dn K mg "check_pair" s_check_pair ["shape", "a", "b"] f (PySem.W.fnOf "check_pair" "check_pair" (defArgs s_check_pair) (defBody s_check_pair) (defScope s_check_pair) .none kV dc pm an cd ct) := by
  have F := fun_mk (st := s_check_pair) lk c k
  exact ⟨F, PySem.W.mg_of X G a, F.binds (ps := ["shape", "a", "b"]) fun _ _ _ _ _ _ us hl => match us, hl with | [_, _, _], _ => rfl⟩
theorem mkD_folded {K : PySem.W.Frag} {h : Heap} {mg : Str → Option Value} (X : K.In h) (G : h.Ns mainGlobals mg) {f : Addr} {od an : Option Addr} {sl : Array (Option Value)} {oc kV dc pm cd ct : Value} (a : PySem.W.nsIn K mainGlobals "folded" = some (some (.ref f))) (lk : K.lookup f = some ⟨oc, od, .func (PySem.W.fnOf "folded" "folded" (defArgs s_folded) (defBody s_folded) (defScope s_folded) .none kV dc pm an cd ct), sl⟩) (c : PySem.W.codeIn K cd "folded" = true) (k : PySem.W.keepIn K (.ref f) = true) : Dn K mg "folded" s_folded ["values", "joints"] f (PySem.W.fnOf "folded" "folded" (defArgs s_folded) (defBody s_folded) (defScope s_folded) .none kV dc pm an cd ct) := by
  have F := fun_mk (st := s_folded) lk c k
  exact ⟨F, PySem.W.mg_of X G a, F.binds (ps := ["values", "joints"]) fun _ _ _ _ _ _ us hl => match us, hl with | [_, _], _ => rfl⟩
theorem mkD_unfolded {K : PySem.W.Frag} {h : Heap} {mg : Str → Option Value} (X : K.In h) (G : h.Ns mainGlobals mg) {f : Addr} {od an : Option Addr} {sl : Array (Option Value)} {oc kV dc pm cd ct : Value} (a : PySem.W.nsIn K mainGlobals "unfolded" = some (some (.ref f))) (lk : K.lookup f = some ⟨oc, od, .func (PySem.W.fnOf "unfolded" "unfolded" (defArgs s_unfolded) (defBody s_unfolded) (defScope s_unfolded) .none kV dc pm an cd ct), sl⟩) (c : PySem.W.codeIn K cd "unfolded" = true) (k : PySem.W.keepIn K (.ref f) = true) : Dn K mg "unfolded" s_unfolded ["values", "joints"] f (PySem.W.fnOf "unfolded" "unfolded" (defArgs s_unfolded) (defBody s_unfolded) (defScope s_unfolded) .none kV dc pm an cd ct) := by
  have F := fun_mk (st := s_unfolded) lk c k
  exact ⟨F, PySem.W.mg_of X G a, F.binds (ps := ["values", "joints"]) fun _ _ _ _ _ _ us hl => match us, hl with | [_, _], _ => rfl⟩
theorem mkD_turned {K : PySem.W.Frag} {h : Heap} {mg : Str → Option Value} (X : K.In h) (G : h.Ns mainGlobals mg) {f : Addr} {od an : Option Addr} {sl : Array (Option Value)} {oc kV dc pm cd ct : Value} (a : PySem.W.nsIn K mainGlobals "turned" = some (some (.ref f))) (lk : K.lookup f = some ⟨oc, od, .func (PySem.W.fnOf "turned" "turned" (defArgs s_turned) (defBody s_turned) (defScope s_turned) .none kV dc pm an cd ct), sl⟩) (c : PySem.W.codeIn K cd "turned" = true) (k : PySem.W.keepIn K (.ref f) = true) : Dn K mg "turned" s_turned ["values", "joints", "turn"] f (PySem.W.fnOf "turned" "turned" (defArgs s_turned) (defBody s_turned) (defScope s_turned) .none kV dc pm an cd ct) := by
  have F := fun_mk (st := s_turned) lk c k
  exact ⟨F, PySem.W.mg_of X G a, F.binds (ps := ["values", "joints", "turn"]) fun _ _ _ _ _ _ us hl => match us, hl with | [_, _, _], _ => rfl⟩
theorem mkD_check_joints {K : PySem.W.Frag} {h : Heap} {mg : Str → Option Value} (X : K.In h) (G : h.Ns mainGlobals mg) {f : Addr} {od an : Option Addr} {sl : Array (Option Value)} {oc kV dc pm cd ct : Value} (a : PySem.W.nsIn K mainGlobals "check_joints" = some (some (.ref f))) (lk : K.lookup f = some ⟨oc, od, .func (PySem.W.fnOf "check_joints" "check_joints" (defArgs s_check_joints) (defBody s_check_joints) (defScope s_check_joints) .none kV dc pm an cd ct), sl⟩) (c : PySem.W.codeIn K cd "check_joints" = true) (k : PySem.W.keepIn K (.ref f) = true) : Dn K mg "check_joints" s_check_joints ["joints", "length"] f (PySem.W.fnOf "check_joints" "check_joints" (defArgs s_check_joints) (defBody s_check_joints) (defScope s_check_joints) .none kV dc pm an cd ct) := by
  have F := fun_mk (st := s_check_joints) lk c k
  exact ⟨F, PySem.W.mg_of X G a, F.binds (ps := ["joints", "length"]) fun _ _ _ _ _ _ us hl => match us, hl with | [_, _], _ => rfl⟩
theorem mkD_is_placed_joint {K : PySem.W.Frag} {h : Heap} {mg : Str → Option Value} (X : K.In h) (G : h.Ns mainGlobals mg) {f : Addr} {od an : Option Addr} {sl : Array (Option Value)} {oc kV dc pm cd ct : Value} (a : PySem.W.nsIn K mainGlobals "is_placed_joint" = some (some (.ref f))) (lk : K.lookup f = some ⟨oc, od, .func (PySem.W.fnOf "is_placed_joint" "is_placed_joint" (defArgs s_is_placed_joint) (defBody s_is_placed_joint) (defScope s_is_placed_joint) .none kV dc pm an cd ct), sl⟩) (c : PySem.W.codeIn K cd "is_placed_joint" = true) (k : PySem.W.keepIn K (.ref f) = true) : Dn K mg "is_placed_joint" s_is_placed_joint ["value"] f (PySem.W.fnOf "is_placed_joint" "is_placed_joint" (defArgs s_is_placed_joint) (defBody s_is_placed_joint) (defScope s_is_placed_joint) .none kV dc pm an cd ct) := by
  have F := fun_mk (st := s_is_placed_joint) lk c k
  exact ⟨F, PySem.W.mg_of X G a, F.binds (ps := ["value"]) fun _ _ _ _ _ _ us hl => match us, hl with | [_], _ => rfl⟩
theorem mkD_has_room {K : PySem.W.Frag} {h : Heap} {mg : Str → Option Value} (X : K.In h) (G : h.Ns mainGlobals mg) {f : Addr} {od an : Option Addr} {sl : Array (Option Value)} {oc kV dc pm cd ct : Value} (a : PySem.W.nsIn K mainGlobals "has_room" = some (some (.ref f))) (lk : K.lookup f = some ⟨oc, od, .func (PySem.W.fnOf "has_room" "has_room" (defArgs s_has_room) (defBody s_has_room) (defScope s_has_room) .none kV dc pm an cd ct), sl⟩) (c : PySem.W.codeIn K cd "has_room" = true) (k : PySem.W.keepIn K (.ref f) = true) : Dn K mg "has_room" s_has_room ["item", "before", "width_before", "length"] f (PySem.W.fnOf "has_room" "has_room" (defArgs s_has_room) (defBody s_has_room) (defScope s_has_room) .none kV dc pm an cd ct) := by
  have F := fun_mk (st := s_has_room) lk c k
  exact ⟨F, PySem.W.mg_of X G a, F.binds (ps := ["item", "before", "width_before", "length"]) fun _ _ _ _ _ _ us hl => match us, hl with | [_, _, _, _], _ => rfl⟩
theorem mkD_split_levels {K : PySem.W.Frag} {h : Heap} {mg : Str → Option Value} (X : K.In h) (G : h.Ns mainGlobals mg) {f : Addr} {od an : Option Addr} {sl : Array (Option Value)} {oc kV dc pm cd ct : Value} (a : PySem.W.nsIn K mainGlobals "split_levels" = some (some (.ref f))) (lk : K.lookup f = some ⟨oc, od, .func (PySem.W.fnOf "split_levels" "split_levels" (defArgs s_split_levels) (defBody s_split_levels) (defScope s_split_levels) .none kV dc pm an cd ct), sl⟩) (c : PySem.W.codeIn K cd "split_levels" = true) (k : PySem.W.keepIn K (.ref f) = true) : Dn K mg "split_levels" s_split_levels ["values", "levels"] f (PySem.W.fnOf "split_levels" "split_levels" (defArgs s_split_levels) (defBody s_split_levels) (defScope s_split_levels) .none kV dc pm an cd ct) := by
  have F := fun_mk (st := s_split_levels) lk c k
  exact ⟨F, PySem.W.mg_of X G a, F.binds (ps := ["values", "levels"]) fun _ _ _ _ _ _ us hl => match us, hl with | [_, _], _ => rfl⟩
theorem mkD_split_once {K : PySem.W.Frag} {h : Heap} {mg : Str → Option Value} (X : K.In h) (G : h.Ns mainGlobals mg) {f : Addr} {od an : Option Addr} {sl : Array (Option Value)} {oc kV dc pm cd ct : Value} (a : PySem.W.nsIn K mainGlobals "split_once" = some (some (.ref f))) (lk : K.lookup f = some ⟨oc, od, .func (PySem.W.fnOf "split_once" "split_once" (defArgs s_split_once) (defBody s_split_once) (defScope s_split_once) .none kV dc pm an cd ct), sl⟩) (c : PySem.W.codeIn K cd "split_once" = true) (k : PySem.W.keepIn K (.ref f) = true) : Dn K mg "split_once" s_split_once ["values"] f (PySem.W.fnOf "split_once" "split_once" (defArgs s_split_once) (defBody s_split_once) (defScope s_split_once) .none kV dc pm an cd ct) := by
  have F := fun_mk (st := s_split_once) lk c k
  exact ⟨F, PySem.W.mg_of X G a, F.binds (ps := ["values"]) fun _ _ _ _ _ _ us hl => match us, hl with | [_], _ => rfl⟩
theorem mkD_join_levels {K : PySem.W.Frag} {h : Heap} {mg : Str → Option Value} (X : K.In h) (G : h.Ns mainGlobals mg) {f : Addr} {od an : Option Addr} {sl : Array (Option Value)} {oc kV dc pm cd ct : Value} (a : PySem.W.nsIn K mainGlobals "join_levels" = some (some (.ref f))) (lk : K.lookup f = some ⟨oc, od, .func (PySem.W.fnOf "join_levels" "join_levels" (defArgs s_join_levels) (defBody s_join_levels) (defScope s_join_levels) .none kV dc pm an cd ct), sl⟩) (c : PySem.W.codeIn K cd "join_levels" = true) (k : PySem.W.keepIn K (.ref f) = true) : Dn K mg "join_levels" s_join_levels ["numbers", "levels"] f (PySem.W.fnOf "join_levels" "join_levels" (defArgs s_join_levels) (defBody s_join_levels) (defScope s_join_levels) .none kV dc pm an cd ct) := by
  have F := fun_mk (st := s_join_levels) lk c k
  exact ⟨F, PySem.W.mg_of X G a, F.binds (ps := ["numbers", "levels"]) fun _ _ _ _ _ _ us hl => match us, hl with | [_, _], _ => rfl⟩
theorem mkD_join_once {K : PySem.W.Frag} {h : Heap} {mg : Str → Option Value} (X : K.In h) (G : h.Ns mainGlobals mg) {f : Addr} {od an : Option Addr} {sl : Array (Option Value)} {oc kV dc pm cd ct : Value} (a : PySem.W.nsIn K mainGlobals "join_once" = some (some (.ref f))) (lk : K.lookup f = some ⟨oc, od, .func (PySem.W.fnOf "join_once" "join_once" (defArgs s_join_once) (defBody s_join_once) (defScope s_join_once) .none kV dc pm an cd ct), sl⟩) (c : PySem.W.codeIn K cd "join_once" = true) (k : PySem.W.keepIn K (.ref f) = true) : Dn K mg "join_once" s_join_once ["sums", "differences"] f (PySem.W.fnOf "join_once" "join_once" (defArgs s_join_once) (defBody s_join_once) (defScope s_join_once) .none kV dc pm an cd ct) := by
  have F := fun_mk (st := s_join_once) lk c k
  exact ⟨F, PySem.W.mg_of X G a, F.binds (ps := ["sums", "differences"]) fun _ _ _ _ _ _ us hl => match us, hl with | [_, _], _ => rfl⟩
theorem mkD_coarse_count {K : PySem.W.Frag} {h : Heap} {mg : Str → Option Value} (X : K.In h) (G : h.Ns mainGlobals mg) {f : Addr} {od an : Option Addr} {sl : Array (Option Value)} {oc kV dc pm cd ct : Value} (a : PySem.W.nsIn K mainGlobals "coarse_count" = some (some (.ref f))) (lk : K.lookup f = some ⟨oc, od, .func (PySem.W.fnOf "coarse_count" "coarse_count" (defArgs s_coarse_count) (defBody s_coarse_count) (defScope s_coarse_count) .none kV dc pm an cd ct), sl⟩) (c : PySem.W.codeIn K cd "coarse_count" = true) (k : PySem.W.keepIn K (.ref f) = true) : Dn K mg "coarse_count" s_coarse_count ["length", "levels"] f (PySem.W.fnOf "coarse_count" "coarse_count" (defArgs s_coarse_count) (defBody s_coarse_count) (defScope s_coarse_count) .none kV dc pm an cd ct) := by
  have F := fun_mk (st := s_coarse_count) lk c k
  exact ⟨F, PySem.W.mg_of X G a, F.binds (ps := ["length", "levels"]) fun _ _ _ _ _ _ us hl => match us, hl with | [_, _], _ => rfl⟩
theorem mkD_quantized {K : PySem.W.Frag} {h : Heap} {mg : Str → Option Value} (X : K.In h) (G : h.Ns mainGlobals mg) {f : Addr} {od an : Option Addr} {sl : Array (Option Value)} {oc kV dc pm cd ct : Value} (a : PySem.W.nsIn K mainGlobals "quantized" = some (some (.ref f))) (lk : K.lookup f = some ⟨oc, od, .func (PySem.W.fnOf "quantized" "quantized" (defArgs s_quantized) (defBody s_quantized) (defScope s_quantized) .none kV dc pm an cd ct), sl⟩) (c : PySem.W.codeIn K cd "quantized" = true) (k : PySem.W.keepIn K (.ref f) = true) : Dn K mg "quantized" s_quantized ["value", "step"] f (PySem.W.fnOf "quantized" "quantized" (defArgs s_quantized) (defBody s_quantized) (defScope s_quantized) .none kV dc pm an cd ct) := by
  have F := fun_mk (st := s_quantized) lk c k
  exact ⟨F, PySem.W.mg_of X G a, F.binds (ps := ["value", "step"]) fun _ _ _ _ _ _ us hl => match us, hl with | [_, _], _ => rfl⟩
theorem mkD_is_table {K : PySem.W.Frag} {h : Heap} {mg : Str → Option Value} (X : K.In h) (G : h.Ns mainGlobals mg) {f : Addr} {od an : Option Addr} {sl : Array (Option Value)} {oc kV dc pm cd ct : Value} (a : PySem.W.nsIn K mainGlobals "is_table" = some (some (.ref f))) (lk : K.lookup f = some ⟨oc, od, .func (PySem.W.fnOf "is_table" "is_table" (defArgs s_is_table) (defBody s_is_table) (defScope s_is_table) .none kV dc pm an cd ct), sl⟩) (c : PySem.W.codeIn K cd "is_table" = true) (k : PySem.W.keepIn K (.ref f) = true) : Dn K mg "is_table" s_is_table ["value"] f (PySem.W.fnOf "is_table" "is_table" (defArgs s_is_table) (defBody s_is_table) (defScope s_is_table) .none kV dc pm an cd ct) := by
  have F := fun_mk (st := s_is_table) lk c k
  exact ⟨F, PySem.W.mg_of X G a, F.binds (ps := ["value"]) fun _ _ _ _ _ _ us hl => match us, hl with | [_], _ => rfl⟩
theorem mkD_is_tables {K : PySem.W.Frag} {h : Heap} {mg : Str → Option Value} (X : K.In h) (G : h.Ns mainGlobals mg) {f : Addr} {od an : Option Addr} {sl : Array (Option Value)} {oc kV dc pm cd ct : Value} (a : PySem.W.nsIn K mainGlobals "is_tables" = some (some (.ref f))) (lk : K.lookup f = some ⟨oc, od, .func (PySem.W.fnOf "is_tables" "is_tables" (defArgs s_is_tables) (defBody s_is_tables) (defScope s_is_tables) .none kV dc pm an cd ct), sl⟩) (c : PySem.W.codeIn K cd "is_tables" = true) (k : PySem.W.keepIn K (.ref f) = true) : Dn K mg "is_tables" s_is_tables ["value"] f (PySem.W.fnOf "is_tables" "is_tables" (defArgs s_is_tables) (defBody s_is_tables) (defScope s_is_tables) .none kV dc pm an cd ct) := by
  have F := fun_mk (st := s_is_tables) lk c k
  exact ⟨F, PySem.W.mg_of X G a, F.binds (ps := ["value"]) fun _ _ _ _ _ _ us hl => match us, hl with | [_], _ => rfl⟩
theorem mkD_parameter {K : PySem.W.Frag} {h : Heap} {mg : Str → Option Value} (X : K.In h) (G : h.Ns mainGlobals mg) {f : Addr} {od an : Option Addr} {sl : Array (Option Value)} {oc kV dc pm cd ct : Value} (a : PySem.W.nsIn K mainGlobals "parameter" = some (some (.ref f))) (lk : K.lookup f = some ⟨oc, od, .func (PySem.W.fnOf "parameter" "parameter" (defArgs s_parameter) (defBody s_parameter) (defScope s_parameter) .none kV dc pm an cd ct), sl⟩) (c : PySem.W.codeIn K cd "parameter" = true) (k : PySem.W.keepIn K (.ref f) = true) : Dn K mg "parameter" s_parameter ["table"] f (PySem.W.fnOf "parameter" "parameter" (defArgs s_parameter) (defBody s_parameter) (defScope s_parameter) .none kV dc pm an cd ct) := by
  have F := fun_mk (st := s_parameter) lk c k
  exact ⟨F, PySem.W.mg_of X G a, F.binds (ps := ["table"]) fun _ _ _ _ _ _ us hl => match us, hl with | [_], _ => rfl⟩
theorem mkD_table_behind {K : PySem.W.Frag} {h : Heap} {mg : Str → Option Value} (X : K.In h) (G : h.Ns mainGlobals mg) {f : Addr} {od an : Option Addr} {sl : Array (Option Value)} {oc kV dc pm cd ct : Value} (a : PySem.W.nsIn K mainGlobals "table_behind" = some (some (.ref f))) (lk : K.lookup f = some ⟨oc, od, .func (PySem.W.fnOf "table_behind" "table_behind" (defArgs s_table_behind) (defBody s_table_behind) (defScope s_table_behind) .none kV dc pm an cd ct), sl⟩) (c : PySem.W.codeIn K cd "table_behind" = true) (k : PySem.W.keepIn K (.ref f) = true) : Dn K mg "table_behind" s_table_behind ["table", "code"] f (PySem.W.fnOf "table_behind" "table_behind" (defArgs s_table_behind) (defBody s_table_behind) (defScope s_table_behind) .none kV dc pm an cd ct) := by
  have F := fun_mk (st := s_table_behind) lk c k
  exact ⟨F, PySem.W.mg_of X G a, F.binds (ps := ["table", "code"]) fun _ _ _ _ _ _ us hl => match us, hl with | [_, _], _ => rfl⟩
theorem mkD_code_number {K : PySem.W.Frag} {h : Heap} {mg : Str → Option Value} (X : K.In h) (G : h.Ns mainGlobals mg) {f : Addr} {od an : Option Addr} {sl : Array (Option Value)} {oc kV dc pm cd ct : Value} (a : PySem.W.nsIn K mainGlobals "code_number" = some (some (.ref f))) (lk : K.lookup f = some ⟨oc, od, .func (PySem.W.fnOf "code_number" "code_number" (defArgs s_code_number) (defBody s_code_number) (defScope s_code_number) .none kV dc pm an cd ct), sl⟩) (c : PySem.W.codeIn K cd "code_number" = true) (k : PySem.W.keepIn K (.ref f) = true) : Dn K mg "code_number" s_code_number ["number"] f (PySem.W.fnOf "code_number" "code_number" (defArgs s_code_number) (defBody s_code_number) (defScope s_code_number) .none kV dc pm an cd ct) := by
  have F := fun_mk (st := s_code_number) lk c k
  exact ⟨F, PySem.W.mg_of X G a, F.binds (ps := ["number"]) fun _ _ _ _ _ _ us hl => match us, hl with | [_], _ => rfl⟩
theorem mkD_number_with {K : PySem.W.Frag} {h : Heap} {mg : Str → Option Value} (X : K.In h) (G : h.Ns mainGlobals mg) {f : Addr} {od an : Option Addr} {sl : Array (Option Value)} {oc kV dc pm cd ct : Value} (a : PySem.W.nsIn K mainGlobals "number_with" = some (some (.ref f))) (lk : K.lookup f = some ⟨oc, od, .func (PySem.W.fnOf "number_with" "number_with" (defArgs s_number_with) (defBody s_number_with) (defScope s_number_with) .none kV dc pm an cd ct), sl⟩) (c : PySem.W.codeIn K cd "number_with" = true) (k : PySem.W.keepIn K (.ref f) = true) : Dn K mg "number_with" s_number_with ["code"] f (PySem.W.fnOf "number_with" "number_with" (defArgs s_number_with) (defBody s_number_with) (defScope s_number_with) .none kV dc pm an cd ct) := by
  have F := fun_mk (st := s_number_with) lk c k
  exact ⟨F, PySem.W.mg_of X G a, F.binds (ps := ["code"]) fun _ _ _ _ _ _ us hl => match us, hl with | [_], _ => rfl⟩
theorem mkD_code_bits {K : PySem.W.Frag} {h : Heap} {mg : Str → Option Value} (X : K.In h) (G : h.Ns mainGlobals mg) {f : Addr} {od an : Option Addr} {sl : Array (Option Value)} {oc kV dc pm cd ct : Value} (a : PySem.W.nsIn K mainGlobals "code_bits" = some (some (.ref f))) (lk : K.lookup f = some ⟨oc, od, .func (PySem.W.fnOf "code_bits" "code_bits" (defArgs s_code_bits) (defBody s_code_bits) (defScope s_code_bits) .none kV dc pm an cd ct), sl⟩) (c : PySem.W.codeIn K cd "code_bits" = true) (k : PySem.W.keepIn K (.ref f) = true) : Dn K mg "code_bits" s_code_bits ["code", "k"] f (PySem.W.fnOf "code_bits" "code_bits" (defArgs s_code_bits) (defBody s_code_bits) (defScope s_code_bits) .none kV dc pm an cd ct) := by
  have F := fun_mk (st := s_code_bits) lk c k
  exact ⟨F, PySem.W.mg_of X G a, F.binds (ps := ["code", "k"]) fun _ _ _ _ _ _ us hl => match us, hl with | [_, _], _ => rfl⟩
theorem mkD_write_numbers {K : PySem.W.Frag} {h : Heap} {mg : Str → Option Value} (X : K.In h) (G : h.Ns mainGlobals mg) {f : Addr} {od an : Option Addr} {sl : Array (Option Value)} {oc kV dc pm cd ct : Value} (a : PySem.W.nsIn K mainGlobals "write_numbers" = some (some (.ref f))) (lk : K.lookup f = some ⟨oc, od, .func (PySem.W.fnOf "write_numbers" "write_numbers" (defArgs s_write_numbers) (defBody s_write_numbers) (defScope s_write_numbers) .none kV dc pm an cd ct), sl⟩) (c : PySem.W.codeIn K cd "write_numbers" = true) (k : PySem.W.keepIn K (.ref f) = true) : Dn K mg "write_numbers" s_write_numbers ["numbers", "coarse", "tables"] f (PySem.W.fnOf "write_numbers" "write_numbers" (defArgs s_write_numbers) (defBody s_write_numbers) (defScope s_write_numbers) .none kV dc pm an cd ct) := by
  have F := fun_mk (st := s_write_numbers) lk c k
  exact ⟨F, PySem.W.mg_of X G a, F.binds (ps := ["numbers", "coarse", "tables"]) fun _ _ _ _ _ _ us hl => match us, hl with | [_, _, _], _ => rfl⟩
theorem mkD_read_numbers {K : PySem.W.Frag} {h : Heap} {mg : Str → Option Value} (X : K.In h) (G : h.Ns mainGlobals mg) {f : Addr} {od an : Option Addr} {sl : Array (Option Value)} {oc kV dc pm cd ct : Value} (a : PySem.W.nsIn K mainGlobals "read_numbers" = some (some (.ref f))) (lk : K.lookup f = some ⟨oc, od, .func (PySem.W.fnOf "read_numbers" "read_numbers" (defArgs s_read_numbers) (defBody s_read_numbers) (defScope s_read_numbers) .none kV dc pm an cd ct), sl⟩) (c : PySem.W.codeIn K cd "read_numbers" = true) (k : PySem.W.keepIn K (.ref f) = true) : Dn K mg "read_numbers" s_read_numbers ["bits", "length", "coarse", "tables"] f (PySem.W.fnOf "read_numbers" "read_numbers" (defArgs s_read_numbers) (defBody s_read_numbers) (defScope s_read_numbers) .none kV dc pm an cd ct) := by
  have F := fun_mk (st := s_read_numbers) lk c k
  exact ⟨F, PySem.W.mg_of X G a, F.binds (ps := ["bits", "length", "coarse", "tables"]) fun _ _ _ _ _ _ us hl => match us, hl with | [_, _, _, _], _ => rfl⟩
theorem mkD_check_coding {K : PySem.W.Frag} {h : Heap} {mg : Str → Option Value} (X : K.In h) (G : h.Ns mainGlobals mg) {f : Addr} {od an : Option Addr} {sl : Array (Option Value)} {oc kV dc pm cd ct : Value} (a : PySem.W.nsIn K mainGlobals "check_coding" = some (some (.ref f))) (lk : K.lookup f = some ⟨oc, od, .func (PySem.W.fnOf "check_coding" "check_coding" (defArgs s_check_coding) (defBody s_check_coding) (defScope s_check_coding) .none kV dc pm an cd ct), sl⟩) (c : PySem.W.codeIn K cd "check_coding" = true) (k : PySem.W.keepIn K (.ref f) = true) : Dn K mg "check_coding" s_check_coding ["length", "coarse", "tables"] f (PySem.W.fnOf "check_coding" "check_coding" (defArgs s_check_coding) (defBody s_check_coding) (defScope s_check_coding) .none kV dc pm an cd ct) := by
  have F := fun_mk (st := s_check_coding) lk c k
  exact ⟨F, PySem.W.mg_of X G a, F.binds (ps := ["length", "coarse", "tables"]) fun _ _ _ _ _ _ us hl => match us, hl with | [_, _, _], _ => rfl⟩
theorem mkD_read_code {K : PySem.W.Frag} {h : Heap} {mg : Str → Option Value} (X : K.In h) (G : h.Ns mainGlobals mg) {f : Addr} {od an : Option Addr} {sl : Array (Option Value)} {oc kV dc pm cd ct : Value} (a : PySem.W.nsIn K mainGlobals "read_code" = some (some (.ref f))) (lk : K.lookup f = some ⟨oc, od, .func (PySem.W.fnOf "read_code" "read_code" (defArgs s_read_code) (defBody s_read_code) (defScope s_read_code) .none kV dc pm an cd ct), sl⟩) (c : PySem.W.codeIn K cd "read_code" = true) (k : PySem.W.keepIn K (.ref f) = true) : Dn K mg "read_code" s_read_code ["bits", "place", "k"] f (PySem.W.fnOf "read_code" "read_code" (defArgs s_read_code) (defBody s_read_code) (defScope s_read_code) .none kV dc pm an cd ct) := by
  have F := fun_mk (st := s_read_code) lk c k
  exact ⟨F, PySem.W.mg_of X G a, F.binds (ps := ["bits", "place", "k"]) fun _ _ _ _ _ _ us hl => match us, hl with | [_, _, _], _ => rfl⟩
theorem mkD_mark_of {K : PySem.W.Frag} {h : Heap} {mg : Str → Option Value} (X : K.In h) (G : h.Ns mainGlobals mg) {f : Addr} {od an : Option Addr} {sl : Array (Option Value)} {oc kV dc pm cd ct : Value} (a : PySem.W.nsIn K mainGlobals "mark_of" = some (some (.ref f))) (lk : K.lookup f = some ⟨oc, od, .func (PySem.W.fnOf "mark_of" "mark_of" (defArgs s_mark_of) (defBody s_mark_of) (defScope s_mark_of) .none kV dc pm an cd ct), sl⟩) (c : PySem.W.codeIn K cd "mark_of" = true) (k : PySem.W.keepIn K (.ref f) = true) : Dn K mg "mark_of" s_mark_of ["numbers"] f (PySem.W.fnOf "mark_of" "mark_of" (defArgs s_mark_of) (defBody s_mark_of) (defScope s_mark_of) .none kV dc pm an cd ct) := by
  have F := fun_mk (st := s_mark_of) lk c k
  exact ⟨F, PySem.W.mg_of X G a, F.binds (ps := ["numbers"]) fun _ _ _ _ _ _ us hl => match us, hl with | [_], _ => rfl⟩
theorem mkD_is_record {K : PySem.W.Frag} {h : Heap} {mg : Str → Option Value} (X : K.In h) (G : h.Ns mainGlobals mg) {f : Addr} {od an : Option Addr} {sl : Array (Option Value)} {oc kV dc pm cd ct : Value} (a : PySem.W.nsIn K mainGlobals "is_record" = some (some (.ref f))) (lk : K.lookup f = some ⟨oc, od, .func (PySem.W.fnOf "is_record" "is_record" (defArgs s_is_record) (defBody s_is_record) (defScope s_is_record) .none kV dc pm an cd ct), sl⟩) (c : PySem.W.codeIn K cd "is_record" = true) (k : PySem.W.keepIn K (.ref f) = true) : Dn K mg "is_record" s_is_record ["value"] f (PySem.W.fnOf "is_record" "is_record" (defArgs s_is_record) (defBody s_is_record) (defScope s_is_record) .none kV dc pm an cd ct) := by
  have F := fun_mk (st := s_is_record) lk c k
  exact ⟨F, PySem.W.mg_of X G a, F.binds (ps := ["value"]) fun _ _ _ _ _ _ us hl => match us, hl with | [_], _ => rfl⟩
theorem mkD_is_state {K : PySem.W.Frag} {h : Heap} {mg : Str → Option Value} (X : K.In h) (G : h.Ns mainGlobals mg) {f : Addr} {od an : Option Addr} {sl : Array (Option Value)} {oc kV dc pm cd ct : Value} (a : PySem.W.nsIn K mainGlobals "is_state" = some (some (.ref f))) (lk : K.lookup f = some ⟨oc, od, .func (PySem.W.fnOf "is_state" "is_state" (defArgs s_is_state) (defBody s_is_state) (defScope s_is_state) .none kV dc pm an cd ct), sl⟩) (c : PySem.W.codeIn K cd "is_state" = true) (k : PySem.W.keepIn K (.ref f) = true) : Dn K mg "is_state" s_is_state ["value"] f (PySem.W.fnOf "is_state" "is_state" (defArgs s_is_state) (defBody s_is_state) (defScope s_is_state) .none kV dc pm an cd ct) := by
  have F := fun_mk (st := s_is_state) lk c k
  exact ⟨F, PySem.W.mg_of X G a, F.binds (ps := ["value"]) fun _ _ _ _ _ _ us hl => match us, hl with | [_], _ => rfl⟩
theorem mkD_is_frame {K : PySem.W.Frag} {h : Heap} {mg : Str → Option Value} (X : K.In h) (G : h.Ns mainGlobals mg) {f : Addr} {od an : Option Addr} {sl : Array (Option Value)} {oc kV dc pm cd ct : Value} (a : PySem.W.nsIn K mainGlobals "is_frame" = some (some (.ref f))) (lk : K.lookup f = some ⟨oc, od, .func (PySem.W.fnOf "is_frame" "is_frame" (defArgs s_is_frame) (defBody s_is_frame) (defScope s_is_frame) .none kV dc pm an cd ct), sl⟩) (c : PySem.W.codeIn K cd "is_frame" = true) (k : PySem.W.keepIn K (.ref f) = true) : Dn K mg "is_frame" s_is_frame ["value"] f (PySem.W.fnOf "is_frame" "is_frame" (defArgs s_is_frame) (defBody s_is_frame) (defScope s_is_frame) .none kV dc pm an cd ct) := by
  have F := fun_mk (st := s_is_frame) lk c k
  exact ⟨F, PySem.W.mg_of X G a, F.binds (ps := ["value"]) fun _ _ _ _ _ _ us hl => match us, hl with | [_], _ => rfl⟩
theorem mkD_is_layout {K : PySem.W.Frag} {h : Heap} {mg : Str → Option Value} (X : K.In h) (G : h.Ns mainGlobals mg) {f : Addr} {od an : Option Addr} {sl : Array (Option Value)} {oc kV dc pm cd ct : Value} (a : PySem.W.nsIn K mainGlobals "is_layout" = some (some (.ref f))) (lk : K.lookup f = some ⟨oc, od, .func (PySem.W.fnOf "is_layout" "is_layout" (defArgs s_is_layout) (defBody s_is_layout) (defScope s_is_layout) .none kV dc pm an cd ct), sl⟩) (c : PySem.W.codeIn K cd "is_layout" = true) (k : PySem.W.keepIn K (.ref f) = true) : Dn K mg "is_layout" s_is_layout ["value"] f (PySem.W.fnOf "is_layout" "is_layout" (defArgs s_is_layout) (defBody s_is_layout) (defScope s_is_layout) .none kV dc pm an cd ct) := by
  have F := fun_mk (st := s_is_layout) lk c k
  exact ⟨F, PySem.W.mg_of X G a, F.binds (ps := ["value"]) fun _ _ _ _ _ _ us hl => match us, hl with | [_], _ => rfl⟩
theorem mkD_is_bits {K : PySem.W.Frag} {h : Heap} {mg : Str → Option Value} (X : K.In h) (G : h.Ns mainGlobals mg) {f : Addr} {od an : Option Addr} {sl : Array (Option Value)} {oc kV dc pm cd ct : Value} (a : PySem.W.nsIn K mainGlobals "is_bits" = some (some (.ref f))) (lk : K.lookup f = some ⟨oc, od, .func (PySem.W.fnOf "is_bits" "is_bits" (defArgs s_is_bits) (defBody s_is_bits) (defScope s_is_bits) .none kV dc pm an cd ct), sl⟩) (c : PySem.W.codeIn K cd "is_bits" = true) (k : PySem.W.keepIn K (.ref f) = true) : Dn K mg "is_bits" s_is_bits ["value"] f (PySem.W.fnOf "is_bits" "is_bits" (defArgs s_is_bits) (defBody s_is_bits) (defScope s_is_bits) .none kV dc pm an cd ct) := by
  have F := fun_mk (st := s_is_bits) lk c k
  exact ⟨F, PySem.W.mg_of X G a, F.binds (ps := ["value"]) fun _ _ _ _ _ _ us hl => match us, hl with | [_], _ => rfl⟩
theorem mkD_read_frame {K : PySem.W.Frag} {h : Heap} {mg : Str → Option Value} (X : K.In h) (G : h.Ns mainGlobals mg) {f : Addr} {od an : Option Addr} {sl : Array (Option Value)} {oc kV dc pm cd ct : Value} (a : PySem.W.nsIn K mainGlobals "read_frame" = some (some (.ref f))) (lk : K.lookup f = some ⟨oc, od, .func (PySem.W.fnOf "read_frame" "read_frame" (defArgs s_read_frame) (defBody s_read_frame) (defScope s_read_frame) .none kV dc pm an cd ct), sl⟩) (c : PySem.W.codeIn K cd "read_frame" = true) (k : PySem.W.keepIn K (.ref f) = true) : Dn K mg "read_frame" s_read_frame ["record", "tables"] f (PySem.W.fnOf "read_frame" "read_frame" (defArgs s_read_frame) (defBody s_read_frame) (defScope s_read_frame) .none kV dc pm an cd ct) := by
  have F := fun_mk (st := s_read_frame) lk c k
  exact ⟨F, PySem.W.mg_of X G a, F.binds (ps := ["record", "tables"]) fun _ _ _ _ _ _ us hl => match us, hl with | [_, _], _ => rfl⟩
theorem mkD_block_values {K : PySem.W.Frag} {h : Heap} {mg : Str → Option Value} (X : K.In h) (G : h.Ns mainGlobals mg) {f : Addr} {od an : Option Addr} {sl : Array (Option Value)} {oc kV dc pm cd ct : Value} (a : PySem.W.nsIn K mainGlobals "block_values" = some (some (.ref f))) (lk : K.lookup f = some ⟨oc, od, .func (PySem.W.fnOf "block_values" "block_values" (defArgs s_block_values) (defBody s_block_values) (defScope s_block_values) .none kV dc pm an cd ct), sl⟩) (c : PySem.W.codeIn K cd "block_values" = true) (k : PySem.W.keepIn K (.ref f) = true) : Dn K mg "block_values" s_block_values ["numbers", "levels", "step"] f (PySem.W.fnOf "block_values" "block_values" (defArgs s_block_values) (defBody s_block_values) (defScope s_block_values) .none kV dc pm an cd ct) := by
  have F := fun_mk (st := s_block_values) lk c k
  exact ⟨F, PySem.W.mg_of X G a, F.binds (ps := ["numbers", "levels", "step"]) fun _ _ _ _ _ _ us hl => match us, hl with | [_, _, _], _ => rfl⟩
theorem mkD_placed_joints {K : PySem.W.Frag} {h : Heap} {mg : Str → Option Value} (X : K.In h) (G : h.Ns mainGlobals mg) {f : Addr} {od an : Option Addr} {sl : Array (Option Value)} {oc kV dc pm cd ct : Value} (a : PySem.W.nsIn K mainGlobals "placed_joints" = some (some (.ref f))) (lk : K.lookup f = some ⟨oc, od, .func (PySem.W.fnOf "placed_joints" "placed_joints" (defArgs s_placed_joints) (defBody s_placed_joints) (defScope s_placed_joints) .none kV dc pm an cd ct), sl⟩) (c : PySem.W.codeIn K cd "placed_joints" = true) (k : PySem.W.keepIn K (.ref f) = true) : Dn K mg "placed_joints" s_placed_joints ["lengths", "joints"] f (PySem.W.fnOf "placed_joints" "placed_joints" (defArgs s_placed_joints) (defBody s_placed_joints) (defScope s_placed_joints) .none kV dc pm an cd ct) := by
  have F := fun_mk (st := s_placed_joints) lk c k
  exact ⟨F, PySem.W.mg_of X G a, F.binds (ps := ["lengths", "joints"]) fun _ _ _ _ _ _ us hl => match us, hl with | [_, _], _ => rfl⟩
theorem mkD_unfolded_blocks {K : PySem.W.Frag} {h : Heap} {mg : Str → Option Value} (X : K.In h) (G : h.Ns mainGlobals mg) {f : Addr} {od an : Option Addr} {sl : Array (Option Value)} {oc kV dc pm cd ct : Value} (a : PySem.W.nsIn K mainGlobals "unfolded_blocks" = some (some (.ref f))) (lk : K.lookup f = some ⟨oc, od, .func (PySem.W.fnOf "unfolded_blocks" "unfolded_blocks" (defArgs s_unfolded_blocks) (defBody s_unfolded_blocks) (defScope s_unfolded_blocks) .none kV dc pm an cd ct), sl⟩) (c : PySem.W.codeIn K cd "unfolded_blocks" = true) (k : PySem.W.keepIn K (.ref f) = true) : Dn K mg "unfolded_blocks" s_unfolded_blocks ["blocks", "joints"] f (PySem.W.fnOf "unfolded_blocks" "unfolded_blocks" (defArgs s_unfolded_blocks) (defBody s_unfolded_blocks) (defScope s_unfolded_blocks) .none kV dc pm an cd ct) := by
  have F := fun_mk (st := s_unfolded_blocks) lk c k
  exact ⟨F, PySem.W.mg_of X G a, F.binds (ps := ["blocks", "joints"]) fun _ _ _ _ _ _ us hl => match us, hl with | [_, _], _ => rfl⟩
theorem mkD_check_records {K : PySem.W.Frag} {h : Heap} {mg : Str → Option Value} (X : K.In h) (G : h.Ns mainGlobals mg) {f : Addr} {od an : Option Addr} {sl : Array (Option Value)} {oc kV dc pm cd ct : Value} (a : PySem.W.nsIn K mainGlobals "check_records" = some (some (.ref f))) (lk : K.lookup f = some ⟨oc, od, .func (PySem.W.fnOf "check_records" "check_records" (defArgs s_check_records) (defBody s_check_records) (defScope s_check_records) .none kV dc pm an cd ct), sl⟩) (c : PySem.W.codeIn K cd "check_records" = true) (k : PySem.W.keepIn K (.ref f) = true) : Dn K mg "check_records" s_check_records ["records"] f (PySem.W.fnOf "check_records" "check_records" (defArgs s_check_records) (defBody s_check_records) (defScope s_check_records) .none kV dc pm an cd ct) := by
  have F := fun_mk (st := s_check_records) lk c k
  exact ⟨F, PySem.W.mg_of X G a, F.binds (ps := ["records"]) fun _ _ _ _ _ _ us hl => match us, hl with | [_], _ => rfl⟩
theorem mkD_read_frames {K : PySem.W.Frag} {h : Heap} {mg : Str → Option Value} (X : K.In h) (G : h.Ns mainGlobals mg) {f : Addr} {od an : Option Addr} {sl : Array (Option Value)} {oc kV dc pm cd ct : Value} (a : PySem.W.nsIn K mainGlobals "read_frames" = some (some (.ref f))) (lk : K.lookup f = some ⟨oc, od, .func (PySem.W.fnOf "read_frames" "read_frames" (defArgs s_read_frames) (defBody s_read_frames) (defScope s_read_frames) .none kV dc pm an cd ct), sl⟩) (c : PySem.W.codeIn K cd "read_frames" = true) (k : PySem.W.keepIn K (.ref f) = true) : Dn K mg "read_frames" s_read_frames ["records"] f (PySem.W.fnOf "read_frames" "read_frames" (defArgs s_read_frames) (defBody s_read_frames) (defScope s_read_frames) .none kV dc pm an cd ct) := by
  have F := fun_mk (st := s_read_frames) lk c k
  exact ⟨F, PySem.W.mg_of X G a, F.binds (ps := ["records"]) fun _ _ _ _ _ _ us hl => match us, hl with | [_], _ => rfl⟩
theorem mkD_sound_length {K : PySem.W.Frag} {h : Heap} {mg : Str → Option Value} (X : K.In h) (G : h.Ns mainGlobals mg) {f : Addr} {od an : Option Addr} {sl : Array (Option Value)} {oc kV dc pm cd ct : Value} (a : PySem.W.nsIn K mainGlobals "sound_length" = some (some (.ref f))) (lk : K.lookup f = some ⟨oc, od, .func (PySem.W.fnOf "sound_length" "sound_length" (defArgs s_sound_length) (defBody s_sound_length) (defScope s_sound_length) .none kV dc pm an cd ct), sl⟩) (c : PySem.W.codeIn K cd "sound_length" = true) (k : PySem.W.keepIn K (.ref f) = true) : Dn K mg "sound_length" s_sound_length ["index"] f (PySem.W.fnOf "sound_length" "sound_length" (defArgs s_sound_length) (defBody s_sound_length) (defScope s_sound_length) .none kV dc pm an cd ct) := by
  have F := fun_mk (st := s_sound_length) lk c k
  exact ⟨F, PySem.W.mg_of X G a, F.binds (ps := ["index"]) fun _ _ _ _ _ _ us hl => match us, hl with | [_], _ => rfl⟩
theorem mkD_reach {K : PySem.W.Frag} {h : Heap} {mg : Str → Option Value} (X : K.In h) (G : h.Ns mainGlobals mg) {f : Addr} {od an : Option Addr} {sl : Array (Option Value)} {oc kV dc pm cd ct : Value} (a : PySem.W.nsIn K mainGlobals "reach" = some (some (.ref f))) (lk : K.lookup f = some ⟨oc, od, .func (PySem.W.fnOf "reach" "reach" (defArgs s_reach) (defBody s_reach) (defScope s_reach) .none kV dc pm an cd ct), sl⟩) (c : PySem.W.codeIn K cd "reach" = true) (k : PySem.W.keepIn K (.ref f) = true) : Dn K mg "reach" s_reach ["entry"] f (PySem.W.fnOf "reach" "reach" (defArgs s_reach) (defBody s_reach) (defScope s_reach) .none kV dc pm an cd ct) := by
  have F := fun_mk (st := s_reach) lk c k
  exact ⟨F, PySem.W.mg_of X G a, F.binds (ps := ["entry"]) fun _ _ _ _ _ _ us hl => match us, hl with | [_], _ => rfl⟩
theorem mkD_needed_entries {K : PySem.W.Frag} {h : Heap} {mg : Str → Option Value} (X : K.In h) (G : h.Ns mainGlobals mg) {f : Addr} {od an : Option Addr} {sl : Array (Option Value)} {oc kV dc pm cd ct : Value} (a : PySem.W.nsIn K mainGlobals "needed_entries" = some (some (.ref f))) (lk : K.lookup f = some ⟨oc, od, .func (PySem.W.fnOf "needed_entries" "needed_entries" (defArgs s_needed_entries) (defBody s_needed_entries) (defScope s_needed_entries) .none kV dc pm an cd ct), sl⟩) (c : PySem.W.codeIn K cd "needed_entries" = true) (k : PySem.W.keepIn K (.ref f) = true) : Dn K mg "needed_entries" s_needed_entries ["index", "start", "end"] f (PySem.W.fnOf "needed_entries" "needed_entries" (defArgs s_needed_entries) (defBody s_needed_entries) (defScope s_needed_entries) .none kV dc pm an cd ct) := by
  have F := fun_mk (st := s_needed_entries) lk c k
  exact ⟨F, PySem.W.mg_of X G a, F.binds (ps := ["index", "start", "end"]) fun _ _ _ _ _ _ us hl => match us, hl with | [_, _, _], _ => rfl⟩
theorem mkD_records_up_to {K : PySem.W.Frag} {h : Heap} {mg : Str → Option Value} (X : K.In h) (G : h.Ns mainGlobals mg) {f : Addr} {od an : Option Addr} {sl : Array (Option Value)} {oc kV dc pm cd ct : Value} (a : PySem.W.nsIn K mainGlobals "records_up_to" = some (some (.ref f))) (lk : K.lookup f = some ⟨oc, od, .func (PySem.W.fnOf "records_up_to" "records_up_to" (defArgs s_records_up_to) (defBody s_records_up_to) (defScope s_records_up_to) .none kV dc pm an cd ct), sl⟩) (c : PySem.W.codeIn K cd "records_up_to" = true) (k : PySem.W.keepIn K (.ref f) = true) : Dn K mg "records_up_to" s_records_up_to ["entries"] f (PySem.W.fnOf "records_up_to" "records_up_to" (defArgs s_records_up_to) (defBody s_records_up_to) (defScope s_records_up_to) .none kV dc pm an cd ct) := by
  have F := fun_mk (st := s_records_up_to) lk c k
  exact ⟨F, PySem.W.mg_of X G a, F.binds (ps := ["entries"]) fun _ _ _ _ _ _ us hl => match us, hl with | [_], _ => rfl⟩
theorem mkD_entries_by_record {K : PySem.W.Frag} {h : Heap} {mg : Str → Option Value} (X : K.In h) (G : h.Ns mainGlobals mg) {f : Addr} {od an : Option Addr} {sl : Array (Option Value)} {oc kV dc pm cd ct : Value} (a : PySem.W.nsIn K mainGlobals "entries_by_record" = some (some (.ref f))) (lk : K.lookup f = some ⟨oc, od, .func (PySem.W.fnOf "entries_by_record" "entries_by_record" (defArgs s_entries_by_record) (defBody s_entries_by_record) (defScope s_entries_by_record) .none kV dc pm an cd ct), sl⟩) (c : PySem.W.codeIn K cd "entries_by_record" = true) (k : PySem.W.keepIn K (.ref f) = true) : Dn K mg "entries_by_record" s_entries_by_record ["index"] f (PySem.W.fnOf "entries_by_record" "entries_by_record" (defArgs s_entries_by_record) (defBody s_entries_by_record) (defScope s_entries_by_record) .none kV dc pm an cd ct) := by
  have F := fun_mk (st := s_entries_by_record) lk c k
  exact ⟨F, PySem.W.mg_of X G a, F.binds (ps := ["index"]) fun _ _ _ _ _ _ us hl => match us, hl with | [_], _ => rfl⟩
theorem mkD_fetched_numbers {K : PySem.W.Frag} {h : Heap} {mg : Str → Option Value} (X : K.In h) (G : h.Ns mainGlobals mg) {f : Addr} {od an : Option Addr} {sl : Array (Option Value)} {oc kV dc pm cd ct : Value} (a : PySem.W.nsIn K mainGlobals "fetched_numbers" = some (some (.ref f))) (lk : K.lookup f = some ⟨oc, od, .func (PySem.W.fnOf "fetched_numbers" "fetched_numbers" (defArgs s_fetched_numbers) (defBody s_fetched_numbers) (defScope s_fetched_numbers) .none kV dc pm an cd ct), sl⟩) (c : PySem.W.codeIn K cd "fetched_numbers" = true) (k : PySem.W.keepIn K (.ref f) = true) : Dn K mg "fetched_numbers" s_fetched_numbers ["index", "fetch", "entries"] f (PySem.W.fnOf "fetched_numbers" "fetched_numbers" (defArgs s_fetched_numbers) (defBody s_fetched_numbers) (defScope s_fetched_numbers) .none kV dc pm an cd ct) := by
  have F := fun_mk (st := s_fetched_numbers) lk c k
  exact ⟨F, PySem.W.mg_of X G a, F.binds (ps := ["index", "fetch", "entries"]) fun _ _ _ _ _ _ us hl => match us, hl with | [_, _, _], _ => rfl⟩
theorem mkD_read_as_told {K : PySem.W.Frag} {h : Heap} {mg : Str → Option Value} (X : K.In h) (G : h.Ns mainGlobals mg) {f : Addr} {od an : Option Addr} {sl : Array (Option Value)} {oc kV dc pm cd ct : Value} (a : PySem.W.nsIn K mainGlobals "read_as_told" = some (some (.ref f))) (lk : K.lookup f = some ⟨oc, od, .func (PySem.W.fnOf "read_as_told" "read_as_told" (defArgs s_read_as_told) (defBody s_read_as_told) (defScope s_read_as_told) .none kV dc pm an cd ct), sl⟩) (c : PySem.W.codeIn K cd "read_as_told" = true) (k : PySem.W.keepIn K (.ref f) = true) : Dn K mg "read_as_told" s_read_as_told ["entry", "value", "tables"] f (PySem.W.fnOf "read_as_told" "read_as_told" (defArgs s_read_as_told) (defBody s_read_as_told) (defScope s_read_as_told) .none kV dc pm an cd ct) := by
  have F := fun_mk (st := s_read_as_told) lk c k
  exact ⟨F, PySem.W.mg_of X G a, F.binds (ps := ["entry", "value", "tables"]) fun _ _ _ _ _ _ us hl => match us, hl with | [_, _, _], _ => rfl⟩
theorem mkD_samples_of {K : PySem.W.Frag} {h : Heap} {mg : Str → Option Value} (X : K.In h) (G : h.Ns mainGlobals mg) {f : Addr} {od an : Option Addr} {sl : Array (Option Value)} {oc kV dc pm cd ct : Value} (a : PySem.W.nsIn K mainGlobals "samples_of" = some (some (.ref f))) (lk : K.lookup f = some ⟨oc, od, .func (PySem.W.fnOf "samples_of" "samples_of" (defArgs s_samples_of) (defBody s_samples_of) (defScope s_samples_of) .none kV dc pm an cd ct), sl⟩) (c : PySem.W.codeIn K cd "samples_of" = true) (k : PySem.W.keepIn K (.ref f) = true) : Dn K mg "samples_of" s_samples_of ["entries", "numbers"] f (PySem.W.fnOf "samples_of" "samples_of" (defArgs s_samples_of) (defBody s_samples_of) (defScope s_samples_of) .none kV dc pm an cd ct) := by
  have F := fun_mk (st := s_samples_of) lk c k
  exact ⟨F, PySem.W.mg_of X G a, F.binds (ps := ["entries", "numbers"]) fun _ _ _ _ _ _ us hl => match us, hl with | [_, _], _ => rfl⟩
theorem mkD_check_lost {K : PySem.W.Frag} {h : Heap} {mg : Str → Option Value} (X : K.In h) (G : h.Ns mainGlobals mg) {f : Addr} {od an : Option Addr} {sl : Array (Option Value)} {oc kV dc pm cd ct : Value} (a : PySem.W.nsIn K mainGlobals "check_lost" = some (some (.ref f))) (lk : K.lookup f = some ⟨oc, od, .func (PySem.W.fnOf "check_lost" "check_lost" (defArgs s_check_lost) (defBody s_check_lost) (defScope s_check_lost) .none kV dc pm an cd ct), sl⟩) (c : PySem.W.codeIn K cd "check_lost" = true) (k : PySem.W.keepIn K (.ref f) = true) : Dn K mg "check_lost" s_check_lost ["lost"] f (PySem.W.fnOf "check_lost" "check_lost" (defArgs s_check_lost) (defBody s_check_lost) (defScope s_check_lost) .none kV dc pm an cd ct) := by
  have F := fun_mk (st := s_check_lost) lk c k
  exact ⟨F, PySem.W.mg_of X G a, F.binds (ps := ["lost"]) fun _ _ _ _ _ _ us hl => match us, hl with | [_], _ => rfl⟩
theorem mkD_check_plan {K : PySem.W.Frag} {h : Heap} {mg : Str → Option Value} (X : K.In h) (G : h.Ns mainGlobals mg) {f : Addr} {od an : Option Addr} {sl : Array (Option Value)} {oc kV dc pm cd ct : Value} (a : PySem.W.nsIn K mainGlobals "check_plan" = some (some (.ref f))) (lk : K.lookup f = some ⟨oc, od, .func (PySem.W.fnOf "check_plan" "check_plan" (defArgs s_check_plan) (defBody s_check_plan) (defScope s_check_plan) .none kV dc pm an cd ct), sl⟩) (c : PySem.W.codeIn K cd "check_plan" = true) (k : PySem.W.keepIn K (.ref f) = true) : Dn K mg "check_plan" s_check_plan ["plan", "length"] f (PySem.W.fnOf "check_plan" "check_plan" (defArgs s_check_plan) (defBody s_check_plan) (defScope s_check_plan) .none kV dc pm an cd ct) := by
  have F := fun_mk (st := s_check_plan) lk c k
  exact ⟨F, PySem.W.mg_of X G a, F.binds (ps := ["plan", "length"]) fun _ _ _ _ _ _ us hl => match us, hl with | [_, _], _ => rfl⟩
theorem mkD_coded_records {K : PySem.W.Frag} {h : Heap} {mg : Str → Option Value} (X : K.In h) (G : h.Ns mainGlobals mg) {f : Addr} {od an : Option Addr} {sl : Array (Option Value)} {oc kV dc pm cd ct : Value} (a : PySem.W.nsIn K mainGlobals "coded_records" = some (some (.ref f))) (lk : K.lookup f = some ⟨oc, od, .func (PySem.W.fnOf "coded_records" "coded_records" (defArgs s_coded_records) (defBody s_coded_records) (defScope s_coded_records) .none kV dc pm an cd ct), sl⟩) (c : PySem.W.codeIn K cd "coded_records" = true) (k : PySem.W.keepIn K (.ref f) = true) : Dn K mg "coded_records" s_coded_records ["sound", "plan", "states"] f (PySem.W.fnOf "coded_records" "coded_records" (defArgs s_coded_records) (defBody s_coded_records) (defScope s_coded_records) .none kV dc pm an cd ct) := by
  have F := fun_mk (st := s_coded_records) lk c k
  exact ⟨F, PySem.W.mg_of X G a, F.binds (ps := ["sound", "plan", "states"]) fun _ _ _ _ _ _ us hl => match us, hl with | [_, _, _], _ => rfl⟩
theorem mkD_coded_frame {K : PySem.W.Frag} {h : Heap} {mg : Str → Option Value} (X : K.In h) (G : h.Ns mainGlobals mg) {f : Addr} {od an : Option Addr} {sl : Array (Option Value)} {oc kV dc pm cd ct : Value} (a : PySem.W.nsIn K mainGlobals "coded_frame" = some (some (.ref f))) (lk : K.lookup f = some ⟨oc, od, .func (PySem.W.fnOf "coded_frame" "coded_frame" (defArgs s_coded_frame) (defBody s_coded_frame) (defScope s_coded_frame) .none kV dc pm an cd ct), sl⟩) (c : PySem.W.codeIn K cd "coded_frame" = true) (k : PySem.W.keepIn K (.ref f) = true) : Dn K mg "coded_frame" s_coded_frame ["values", "layout", "tables"] f (PySem.W.fnOf "coded_frame" "coded_frame" (defArgs s_coded_frame) (defBody s_coded_frame) (defScope s_coded_frame) .none kV dc pm an cd ct) := by
  have F := fun_mk (st := s_coded_frame) lk c k
  exact ⟨F, PySem.W.mg_of X G a, F.binds (ps := ["values", "layout", "tables"]) fun _ _ _ _ _ _ us hl => match us, hl with | [_, _, _], _ => rfl⟩
theorem mkD_pool {K : PySem.W.Frag} {h : Heap} {mg : Str → Option Value} (X : K.In h) (G : h.Ns mainGlobals mg) {f : Addr} {od an : Option Addr} {sl : Array (Option Value)} {oc kV dc pm cd ct : Value} (a : PySem.W.nsIn K mainGlobals "_law_pool" = some (some (.ref f))) (lk : K.lookup f = some ⟨oc, od, .func (PySem.W.fnOf "_law_pool" "_law_pool" (defArgs s_pool) (defBody s_pool) (defScope s_pool) .none kV dc pm an cd ct), sl⟩) (c : PySem.W.codeIn K cd "_law_pool" = true) (k : PySem.W.keepIn K (.ref f) = true) : Dn K mg "_law_pool" s_pool ["_law_script", "_law_k"] f (PySem.W.fnOf "_law_pool" "_law_pool" (defArgs s_pool) (defBody s_pool) (defScope s_pool) .none kV dc pm an cd ct) := by
  have F := fun_mk (st := s_pool) lk c k
  exact ⟨F, PySem.W.mg_of X G a, F.binds (ps := ["_law_script", "_law_k"]) fun _ _ _ _ _ _ us hl => match us, hl with | [_, _], _ => rfl⟩
theorem mkD_take {K : PySem.W.Frag} {h : Heap} {mg : Str → Option Value} (X : K.In h) (G : h.Ns mainGlobals mg) {f : Addr} {od an : Option Addr} {sl : Array (Option Value)} {oc kV dc pm cd ct : Value} (a : PySem.W.nsIn K mainGlobals "_law_take" = some (some (.ref f))) (lk : K.lookup f = some ⟨oc, od, .func (PySem.W.fnOf "_law_take" "_law_take" (defArgs s_take) (defBody s_take) (defScope s_take) .none kV dc pm an cd ct), sl⟩) (c : PySem.W.codeIn K cd "_law_take" = true) (k : PySem.W.keepIn K (.ref f) = true) : Dn K mg "_law_take" s_take ["_law_pool_here", "_law_many"] f (PySem.W.fnOf "_law_take" "_law_take" (defArgs s_take) (defBody s_take) (defScope s_take) .none kV dc pm an cd ct) := by
  have F := fun_mk (st := s_take) lk c k
  exact ⟨F, PySem.W.mg_of X G a, F.binds (ps := ["_law_pool_here", "_law_many"]) fun _ _ _ _ _ _ us hl => match us, hl with | [_, _], _ => rfl⟩
theorem mkD_same {K : PySem.W.Frag} {h : Heap} {mg : Str → Option Value} (X : K.In h) (G : h.Ns mainGlobals mg) {f : Addr} {od an : Option Addr} {sl : Array (Option Value)} {oc kV dc pm cd ct : Value} (a : PySem.W.nsIn K mainGlobals "_law_same" = some (some (.ref f))) (lk : K.lookup f = some ⟨oc, od, .func (PySem.W.fnOf "_law_same" "_law_same" (defArgs s_same) (defBody s_same) (defScope s_same) .none kV dc pm an cd ct), sl⟩) (c : PySem.W.codeIn K cd "_law_same" = true) (k : PySem.W.keepIn K (.ref f) = true) : Dn K mg "_law_same" s_same ["_law_actual", "_law_due"] f (PySem.W.fnOf "_law_same" "_law_same" (defArgs s_same) (defBody s_same) (defScope s_same) .none kV dc pm an cd ct) := by
  have F := fun_mk (st := s_same) lk c k
  exact ⟨F, PySem.W.mg_of X G a, F.binds (ps := ["_law_actual", "_law_due"]) fun _ _ _ _ _ _ us hl => match us, hl with | [_, _], _ => rfl⟩
theorem all_mk {l : PySem.W.OpenLaw} {w : World} {K : PySem.W.Frag} {h : Heap} {mg mb : Str → Option Value} {fa : Addr} {q : Program} {loose : List Str} {XP : (Str → Option Value) → Heap → Prop} {s0 : Shared} {dLaw : DefRec} {c_law P_tab : Addr}
    (Gd : PySem.W.Ground q loose [] XP w s0 mg mb h) (X : K.In h) (G : h.Ns mainGlobals mg) (hfa : mg "law" = some (.ref fa))
    {f_is_integer : Addr} {fd_is_integer : FuncData}
    {f_is_within : Addr} {fd_is_within : FuncData}
    {f_check_integer : Addr} {fd_check_integer : FuncData}
    {f_check_within : Addr} {fd_check_within : FuncData}
    {f_check_stretch : Addr} {fd_check_stretch : FuncData}
    {f_check_items : Addr} {fd_check_items : FuncData}
    {f_check_sound : Addr} {fd_check_sound : FuncData}
    {f_check_block : Addr} {fd_check_block : FuncData}
    {f_is_joint : Addr} {fd_is_joint : FuncData}
    {f_fold_pair : Addr} {fd_fold_pair : FuncData}
    {f_unfold_pair : Addr} {fd_unfold_pair : FuncData}
    {f_check_pair : Addr} {fd_check_pair : FuncData}
    {f_folded : Addr} {fd_folded : FuncData}
    {f_unfolded : Addr} {fd_unfolded : FuncData}
    {f_turned : Addr} {fd_turned : FuncData}
    {f_check_joints : Addr} {fd_check_joints : FuncData}
    {f_is_placed_joint : Addr} {fd_is_placed_joint : FuncData}
    {f_has_room : Addr} {fd_has_room : FuncData}
    {f_split_levels : Addr} {fd_split_levels : FuncData}
    {f_split_once : Addr} {fd_split_once : FuncData}
    {f_join_levels : Addr} {fd_join_levels : FuncData}
    {f_join_once : Addr} {fd_join_once : FuncData}
    {f_coarse_count : Addr} {fd_coarse_count : FuncData}
    {f_quantized : Addr} {fd_quantized : FuncData}
    {f_is_table : Addr} {fd_is_table : FuncData}
    {f_is_tables : Addr} {fd_is_tables : FuncData}
    {f_parameter : Addr} {fd_parameter : FuncData}
    {f_table_behind : Addr} {fd_table_behind : FuncData}
    {f_code_number : Addr} {fd_code_number : FuncData}
    {f_number_with : Addr} {fd_number_with : FuncData}
    {f_code_bits : Addr} {fd_code_bits : FuncData}
    {f_write_numbers : Addr} {fd_write_numbers : FuncData}
    {f_read_numbers : Addr} {fd_read_numbers : FuncData}
    {f_check_coding : Addr} {fd_check_coding : FuncData}
    {f_read_code : Addr} {fd_read_code : FuncData}
    {f_mark_of : Addr} {fd_mark_of : FuncData}
    {f_is_record : Addr} {fd_is_record : FuncData}
    {f_is_state : Addr} {fd_is_state : FuncData}
    {f_is_frame : Addr} {fd_is_frame : FuncData}
    {f_is_layout : Addr} {fd_is_layout : FuncData}
    {f_is_bits : Addr} {fd_is_bits : FuncData}
    {f_read_frame : Addr} {fd_read_frame : FuncData}
    {f_block_values : Addr} {fd_block_values : FuncData}
    {f_placed_joints : Addr} {fd_placed_joints : FuncData}
    {f_unfolded_blocks : Addr} {fd_unfolded_blocks : FuncData}
    {f_check_records : Addr} {fd_check_records : FuncData}
    {f_read_frames : Addr} {fd_read_frames : FuncData}
    {f_index_of : Addr} {od_index_of an_index_of : Option Addr} {sl_index_of : Array (Option Value)} {oc_index_of kV_index_of dc_index_of pm_index_of cd_index_of ct_index_of : Value}
    {f_needed_records : Addr} {od_needed_records an_needed_records : Option Addr} {sl_needed_records : Array (Option Value)} {oc_needed_records kV_needed_records dc_needed_records pm_needed_records cd_needed_records ct_needed_records : Value}
    {f_read_part : Addr} {od_read_part an_read_part : Option Addr} {sl_read_part : Array (Option Value)} {oc_read_part kV_read_part dc_read_part pm_read_part cd_read_part ct_read_part : Value}
    {f_sound_length : Addr} {fd_sound_length : FuncData}
    {f_reach : Addr} {fd_reach : FuncData}
    {f_needed_entries : Addr} {fd_needed_entries : FuncData}
    {f_records_up_to : Addr} {fd_records_up_to : FuncData}
    {f_entries_by_record : Addr} {fd_entries_by_record : FuncData}
    {f_fetched_numbers : Addr} {fd_fetched_numbers : FuncData}
    {f_read_as_told : Addr} {fd_read_as_told : FuncData}
    {f_samples_of : Addr} {fd_samples_of : FuncData}
    {f_unread_frames : Addr} {od_unread_frames an_unread_frames : Option Addr} {sl_unread_frames : Array (Option Value)} {oc_unread_frames kV_unread_frames dc_unread_frames pm_unread_frames cd_unread_frames ct_unread_frames : Value}
    {f_check_lost : Addr} {fd_check_lost : FuncData}
    {f_touched : Addr} {od_touched an_touched : Option Addr} {sl_touched : Array (Option Value)} {oc_touched kV_touched dc_touched pm_touched cd_touched ct_touched : Value}
    {f_concealed : Addr} {od_concealed an_concealed : Option Addr} {sl_concealed : Array (Option Value)} {oc_concealed kV_concealed dc_concealed pm_concealed cd_concealed ct_concealed : Value}
    {f_salvaged : Addr} {od_salvaged an_salvaged : Option Addr} {sl_salvaged : Array (Option Value)} {oc_salvaged kV_salvaged dc_salvaged pm_salvaged cd_salvaged ct_salvaged : Value}
    {f_encode kw_encode : Addr} {od_encode an_encode : Option Addr} {sl_encode : Array (Option Value)} {oc_encode dc_encode pm_encode cd_encode ct_encode : Value} {tk_encode_states : Tok}
    {f_check_plan : Addr} {fd_check_plan : FuncData}
    {f_coded_records : Addr} {fd_coded_records : FuncData}
    {f_coded_frame : Addr} {fd_coded_frame : FuncData}
    {f_pool : Addr} {fd_pool : FuncData}
    {f_take : Addr} {fd_take : FuncData}
    {f_same : Addr} {fd_same : FuncData}
    {f_law : Addr} {od_law an_law : Option Addr} {sl_law : Array (Option Value)} {oc_law kV_law dc_law pm_law ct_law : Value}
    {t_BLOCK_LIMIT : Tok}
    {t_COUNT_LIMIT : Tok}
    {t_SHAPE_LIMIT : Tok}
    {t_WIDTH_LIMIT : Tok}
    {t_LEVEL_LIMIT : Tok}
    {t_STEP_LIMIT : Tok}
    {t_MARK_MODULUS : Tok}
    {t_HALVED_COUNT : Tok}
    {t_LONG_FORM : Tok}
    {t_MARK_FACTOR : Tok}
    {t_FRAME_ITEMS : Tok}
    {t_STATES_LIMIT : Tok}
    (D_is_integer : Dn K mg "is_integer" s_is_integer ["value"] f_is_integer fd_is_integer)
    (D_is_within : Dn K mg "is_within" s_is_within ["value", "low", "high"] f_is_within fd_is_within)
    (D_check_integer : Dn K mg "check_integer" s_check_integer ["value"] f_check_integer fd_check_integer)
    (D_check_within : Dn K mg "check_within" s_check_within ["value", "low", "high"] f_check_within fd_check_within)
    (D_check_stretch : Dn K mg "check_stretch" s_check_stretch ["start", "end", "length"] f_check_stretch fd_check_stretch)
    (D_check_items : Dn K mg "check_items" s_check_items ["values"] f_check_items fd_check_items)
    (D_check_sound : Dn K mg "check_sound" s_check_sound ["values"] f_check_sound fd_check_sound)
    (D_check_block : Dn K mg "check_block" s_check_block ["values", "least"] f_check_block fd_check_block)
    (D_is_joint : Dn K mg "is_joint" s_is_joint ["value"] f_is_joint fd_is_joint)
    (D_fold_pair : Dn K mg "fold_pair" s_fold_pair ["shape", "a", "b"] f_fold_pair fd_fold_pair)
    (D_unfold_pair : Dn K mg "unfold_pair" s_unfold_pair ["shape", "a", "b"] f_unfold_pair fd_unfold_pair)
    (D_check_pair : Dn K mg "check_pair" s_check_pair ["shape", "a", "b"] f_check_pair fd_check_pair)
    (D_folded : Dn K mg "folded" s_folded ["values", "joints"] f_folded fd_folded)
    (D_unfolded : Dn K mg "unfolded" s_unfolded ["values", "joints"] f_unfolded fd_unfolded)
    (D_turned : Dn K mg "turned" s_turned ["values", "joints", "turn"] f_turned fd_turned)
    (D_check_joints : Dn K mg "check_joints" s_check_joints ["joints", "length"] f_check_joints fd_check_joints)
    (D_is_placed_joint : Dn K mg "is_placed_joint" s_is_placed_joint ["value"] f_is_placed_joint fd_is_placed_joint)
    (D_has_room : Dn K mg "has_room" s_has_room ["item", "before", "width_before", "length"] f_has_room fd_has_room)
    (D_split_levels : Dn K mg "split_levels" s_split_levels ["values", "levels"] f_split_levels fd_split_levels)
    (D_split_once : Dn K mg "split_once" s_split_once ["values"] f_split_once fd_split_once)
    (D_join_levels : Dn K mg "join_levels" s_join_levels ["numbers", "levels"] f_join_levels fd_join_levels)
    (D_join_once : Dn K mg "join_once" s_join_once ["sums", "differences"] f_join_once fd_join_once)
    (D_coarse_count : Dn K mg "coarse_count" s_coarse_count ["length", "levels"] f_coarse_count fd_coarse_count)
    (D_quantized : Dn K mg "quantized" s_quantized ["value", "step"] f_quantized fd_quantized)
    (D_is_table : Dn K mg "is_table" s_is_table ["value"] f_is_table fd_is_table)
    (D_is_tables : Dn K mg "is_tables" s_is_tables ["value"] f_is_tables fd_is_tables)
    (D_parameter : Dn K mg "parameter" s_parameter ["table"] f_parameter fd_parameter)
    (D_table_behind : Dn K mg "table_behind" s_table_behind ["table", "code"] f_table_behind fd_table_behind)
    (D_code_number : Dn K mg "code_number" s_code_number ["number"] f_code_number fd_code_number)
    (D_number_with : Dn K mg "number_with" s_number_with ["code"] f_number_with fd_number_with)
    (D_code_bits : Dn K mg "code_bits" s_code_bits ["code", "k"] f_code_bits fd_code_bits)
    (D_write_numbers : Dn K mg "write_numbers" s_write_numbers ["numbers", "coarse", "tables"] f_write_numbers fd_write_numbers)
    (D_read_numbers : Dn K mg "read_numbers" s_read_numbers ["bits", "length", "coarse", "tables"] f_read_numbers fd_read_numbers)
    (D_check_coding : Dn K mg "check_coding" s_check_coding ["length", "coarse", "tables"] f_check_coding fd_check_coding)
    (D_read_code : Dn K mg "read_code" s_read_code ["bits", "place", "k"] f_read_code fd_read_code)
    (D_mark_of : Dn K mg "mark_of" s_mark_of ["numbers"] f_mark_of fd_mark_of)
    (D_is_record : Dn K mg "is_record" s_is_record ["value"] f_is_record fd_is_record)
    (D_is_state : Dn K mg "is_state" s_is_state ["value"] f_is_state fd_is_state)
    (D_is_frame : Dn K mg "is_frame" s_is_frame ["value"] f_is_frame fd_is_frame)
    (D_is_layout : Dn K mg "is_layout" s_is_layout ["value"] f_is_layout fd_is_layout)
    (D_is_bits : Dn K mg "is_bits" s_is_bits ["value"] f_is_bits fd_is_bits)
    (D_read_frame : Dn K mg "read_frame" s_read_frame ["record", "tables"] f_read_frame fd_read_frame)
    (D_block_values : Dn K mg "block_values" s_block_values ["numbers", "levels", "step"] f_block_values fd_block_values)
    (D_placed_joints : Dn K mg "placed_joints" s_placed_joints ["lengths", "joints"] f_placed_joints fd_placed_joints)
    (D_unfolded_blocks : Dn K mg "unfolded_blocks" s_unfolded_blocks ["blocks", "joints"] f_unfolded_blocks fd_unfolded_blocks)
    (D_check_records : Dn K mg "check_records" s_check_records ["records"] f_check_records fd_check_records)
    (D_read_frames : Dn K mg "read_frames" s_read_frames ["records"] f_read_frames fd_read_frames)
    (a_index_of : PySem.W.nsIn K mainGlobals "index_of" = some (some (.ref f_index_of))) (l_index_of : K.lookup f_index_of = some ⟨oc_index_of, od_index_of, .func (PySem.W.fnOf "index_of" "index_of" (defArgs s_index_of) (defBody s_index_of) (defScope s_index_of) .none kV_index_of dc_index_of pm_index_of an_index_of cd_index_of ct_index_of), sl_index_of⟩) (c_index_of : PySem.W.codeIn K cd_index_of "index_of" = true) (k_index_of : PySem.W.keepIn K (.ref f_index_of) = true)
    (a_needed_records : PySem.W.nsIn K mainGlobals "needed_records" = some (some (.ref f_needed_records))) (l_needed_records : K.lookup f_needed_records = some ⟨oc_needed_records, od_needed_records, .func (PySem.W.fnOf "needed_records" "needed_records" (defArgs s_needed_records) (defBody s_needed_records) (defScope s_needed_records) .none kV_needed_records dc_needed_records pm_needed_records an_needed_records cd_needed_records ct_needed_records), sl_needed_records⟩) (c_needed_records : PySem.W.codeIn K cd_needed_records "needed_records" = true) (k_needed_records : PySem.W.keepIn K (.ref f_needed_records) = true)
    (a_read_part : PySem.W.nsIn K mainGlobals "read_part" = some (some (.ref f_read_part))) (l_read_part : K.lookup f_read_part = some ⟨oc_read_part, od_read_part, .func (PySem.W.fnOf "read_part" "read_part" (defArgs s_read_part) (defBody s_read_part) (defScope s_read_part) .none kV_read_part dc_read_part pm_read_part an_read_part cd_read_part ct_read_part), sl_read_part⟩) (c_read_part : PySem.W.codeIn K cd_read_part "read_part" = true) (k_read_part : PySem.W.keepIn K (.ref f_read_part) = true)
    (D_sound_length : Dn K mg "sound_length" s_sound_length ["index"] f_sound_length fd_sound_length)
    (D_reach : Dn K mg "reach" s_reach ["entry"] f_reach fd_reach)
    (D_needed_entries : Dn K mg "needed_entries" s_needed_entries ["index", "start", "end"] f_needed_entries fd_needed_entries)
    (D_records_up_to : Dn K mg "records_up_to" s_records_up_to ["entries"] f_records_up_to fd_records_up_to)
    (D_entries_by_record : Dn K mg "entries_by_record" s_entries_by_record ["index"] f_entries_by_record fd_entries_by_record)
    (D_fetched_numbers : Dn K mg "fetched_numbers" s_fetched_numbers ["index", "fetch", "entries"] f_fetched_numbers fd_fetched_numbers)
    (D_read_as_told : Dn K mg "read_as_told" s_read_as_told ["entry", "value", "tables"] f_read_as_told fd_read_as_told)
    (D_samples_of : Dn K mg "samples_of" s_samples_of ["entries", "numbers"] f_samples_of fd_samples_of)
    (a_unread_frames : PySem.W.nsIn K mainGlobals "unread_frames" = some (some (.ref f_unread_frames))) (l_unread_frames : K.lookup f_unread_frames = some ⟨oc_unread_frames, od_unread_frames, .func (PySem.W.fnOf "unread_frames" "unread_frames" (defArgs s_unread_frames) (defBody s_unread_frames) (defScope s_unread_frames) .none kV_unread_frames dc_unread_frames pm_unread_frames an_unread_frames cd_unread_frames ct_unread_frames), sl_unread_frames⟩) (c_unread_frames : PySem.W.codeIn K cd_unread_frames "unread_frames" = true) (k_unread_frames : PySem.W.keepIn K (.ref f_unread_frames) = true)
    (D_check_lost : Dn K mg "check_lost" s_check_lost ["lost"] f_check_lost fd_check_lost)
    (a_touched : PySem.W.nsIn K mainGlobals "touched" = some (some (.ref f_touched))) (l_touched : K.lookup f_touched = some ⟨oc_touched, od_touched, .func (PySem.W.fnOf "touched" "touched" (defArgs s_touched) (defBody s_touched) (defScope s_touched) .none kV_touched dc_touched pm_touched an_touched cd_touched ct_touched), sl_touched⟩) (c_touched : PySem.W.codeIn K cd_touched "touched" = true) (k_touched : PySem.W.keepIn K (.ref f_touched) = true)
    (a_concealed : PySem.W.nsIn K mainGlobals "concealed" = some (some (.ref f_concealed))) (l_concealed : K.lookup f_concealed = some ⟨oc_concealed, od_concealed, .func (PySem.W.fnOf "concealed" "concealed" (defArgs s_concealed) (defBody s_concealed) (defScope s_concealed) .none kV_concealed dc_concealed pm_concealed an_concealed cd_concealed ct_concealed), sl_concealed⟩) (c_concealed : PySem.W.codeIn K cd_concealed "concealed" = true) (k_concealed : PySem.W.keepIn K (.ref f_concealed) = true)
    (a_salvaged : PySem.W.nsIn K mainGlobals "salvaged" = some (some (.ref f_salvaged))) (l_salvaged : K.lookup f_salvaged = some ⟨oc_salvaged, od_salvaged, .func (PySem.W.fnOf "salvaged" "salvaged" (defArgs s_salvaged) (defBody s_salvaged) (defScope s_salvaged) .none kV_salvaged dc_salvaged pm_salvaged an_salvaged cd_salvaged ct_salvaged), sl_salvaged⟩) (c_salvaged : PySem.W.codeIn K cd_salvaged "salvaged" = true) (k_salvaged : PySem.W.keepIn K (.ref f_salvaged) = true)
    (a_encode : PySem.W.nsIn K mainGlobals "encode" = some (some (.ref f_encode))) (l_encode : K.lookup f_encode = some ⟨oc_encode, od_encode, .func (PySem.W.fnOf "encode" "encode" (defArgs s_encode) (defBody s_encode) (defScope s_encode) .none (.ref kw_encode) dc_encode pm_encode an_encode cd_encode ct_encode), sl_encode⟩) (c_encode : PySem.W.codeIn K cd_encode "encode" = true) (k_encode : PySem.W.keepIn K (.ref f_encode) = true)
    (n_encode_states : PySem.W.nsIn K kw_encode "states" = some (some (.int 0 tk_encode_states)))
    (D_check_plan : Dn K mg "check_plan" s_check_plan ["plan", "length"] f_check_plan fd_check_plan)
    (D_coded_records : Dn K mg "coded_records" s_coded_records ["sound", "plan", "states"] f_coded_records fd_coded_records)
    (D_coded_frame : Dn K mg "coded_frame" s_coded_frame ["values", "layout", "tables"] f_coded_frame fd_coded_frame)
    (D_pool : Dn K mg "_law_pool" s_pool ["_law_script", "_law_k"] f_pool fd_pool)
    (D_take : Dn K mg "_law_take" s_take ["_law_pool_here", "_law_many"] f_take fd_take)
    (D_same : Dn K mg "_law_same" s_same ["_law_actual", "_law_due"] f_same fd_same)
    (a_law : PySem.W.nsIn K mainGlobals "law" = some (some (.ref f_law))) (l_law : K.lookup f_law = some ⟨oc_law, od_law, .func (PySem.W.fnOf "law" "law" (defArgs s_law) (defBody s_law) (defScope s_law) .none kV_law dc_law pm_law an_law (.ref c_law) ct_law), sl_law⟩) (c_law' : PySem.W.codeIn K (.ref c_law) "law" = true) (k_law : PySem.W.keepIn K (.ref f_law) = true)
    (a_BLOCK_LIMIT : PySem.W.nsIn K mainGlobals "BLOCK_LIMIT" = some (some (.int 64 t_BLOCK_LIMIT)))
    (a_COUNT_LIMIT : PySem.W.nsIn K mainGlobals "COUNT_LIMIT" = some (some (.int 15 t_COUNT_LIMIT)))
    (a_SHAPE_LIMIT : PySem.W.nsIn K mainGlobals "SHAPE_LIMIT" = some (some (.int 3 t_SHAPE_LIMIT)))
    (a_WIDTH_LIMIT : PySem.W.nsIn K mainGlobals "WIDTH_LIMIT" = some (some (.int 8 t_WIDTH_LIMIT)))
    (a_LEVEL_LIMIT : PySem.W.nsIn K mainGlobals "LEVEL_LIMIT" = some (some (.int 5 t_LEVEL_LIMIT)))
    (a_STEP_LIMIT : PySem.W.nsIn K mainGlobals "STEP_LIMIT" = some (some (.int 64 t_STEP_LIMIT)))
    (a_MARK_MODULUS : PySem.W.nsIn K mainGlobals "MARK_MODULUS" = some (some (.int 9973 t_MARK_MODULUS)))
    (a_HALVED_COUNT : PySem.W.nsIn K mainGlobals "HALVED_COUNT" = some (some (.int 8 t_HALVED_COUNT)))
    (a_LONG_FORM : PySem.W.nsIn K mainGlobals "LONG_FORM" = some (some (.int 20 t_LONG_FORM)))
    (a_MARK_FACTOR : PySem.W.nsIn K mainGlobals "MARK_FACTOR" = some (some (.int 31 t_MARK_FACTOR)))
    (a_FRAME_ITEMS : PySem.W.nsIn K mainGlobals "FRAME_ITEMS" = some (some (.int 7 t_FRAME_ITEMS)))
    (a_STATES_LIMIT : PySem.W.nsIn K mainGlobals "STATES_LIMIT" = some (some (.int 1000 t_STATES_LIMIT)))
    {a_START t0 t1 a_HARD : Addr} {oS o0 o1 oH : Option Addr} {nS n0 n1 nH : Nat} {qS q0 q1 qH : Array (Option Value)} {b0 b1 d0 d1 bH dH : Tok} (zS : PySem.W.nsIn K mainGlobals "START" = some (some (.ref a_START))) (lS : K.lookup a_START = some ⟨.type "tuple", oS, .seq #[.ref t0, .ref t1] nS, qS⟩) (lt0 : K.lookup t0 = some ⟨.type "tuple", o0, .seq #[.int 2 b0, .int 1 d0] n0, q0⟩) (lt1 : K.lookup t1 = some ⟨.type "tuple", o1, .seq #[.int 2 b1, .int 1 d1] n1, q1⟩)
    (zH : PySem.W.nsIn K mainGlobals "HARD" = some (some (.ref a_HARD))) (lH : K.lookup a_HARD = some ⟨.type "tuple", oH, .seq #[.int 0 bH, .int 0 dH] nH, qH⟩)
     (z_sorted : PySem.W.nsIn K mainGlobals "sorted" = some none)
    {a_COEFFICIENTS ct0 ct1 ct2 ct3 : Addr} {oC co0 co1 co2 co3 : Option Addr} {nC cn0 cn1 cn2 cn3 : Nat} {qC cq0 cq1 cq2 cq3 : Array (Option Value)} {cb0 cb1 cb2 cb3 cd0 cd1 cd2 cd3 : Tok} (zC : PySem.W.nsIn K mainGlobals "COEFFICIENTS" = some (some (.ref a_COEFFICIENTS))) (lC : K.lookup a_COEFFICIENTS = some ⟨.type "tuple", oC, .seq #[.ref ct0, .ref ct1, .ref ct2, .ref ct3] nC, qC⟩)
    (l0 : K.lookup ct0 = some ⟨.type "tuple", co0, .seq #[.int (-1) cb0, .int 2 cd0] cn0, cq0⟩) (l1 : K.lookup ct1 = some ⟨.type "tuple", co1, .seq #[.int (-2) cb1, .int 3 cd1] cn1, cq1⟩)
    (l2 : K.lookup ct2 = some ⟨.type "tuple", co2, .seq #[.int 1 cb2, .int (-2) cd2] cn2, cq2⟩) (l3 : K.lookup ct3 = some ⟨.type "tuple", co3, .seq #[.int 2 cb3, .int (-3) cd3] cn3, cq3⟩)
    (z_int : PySem.W.nsIn K mainGlobals "int" = some none)
    (z_bool : PySem.W.nsIn K mainGlobals "bool" = some none)
    (z_str : PySem.W.nsIn K mainGlobals "str" = some none)
    (z_list : PySem.W.nsIn K mainGlobals "list" = some none)
    (z_tuple : PySem.W.nsIn K mainGlobals "tuple" = some none)
    (z_len : PySem.W.nsIn K mainGlobals "len" = some none)
    (z_abs : PySem.W.nsIn K mainGlobals "abs" = some none)
    (z_max : PySem.W.nsIn K mainGlobals "max" = some none)
    (z_min : PySem.W.nsIn K mainGlobals "min" = some none)
    (z_range : PySem.W.nsIn K mainGlobals "range" = some none)
    (z_zip : PySem.W.nsIn K mainGlobals "zip" = some none)
    (z_isinstance : PySem.W.nsIn K mainGlobals "isinstance" = some none)
    (z_enumerate : PySem.W.nsIn K mainGlobals "enumerate" = some none)
    (z_reversed : PySem.W.nsIn K mainGlobals "reversed" = some none)
    {C_Stream : Addr} (x_Stream : PySem.W.nsIn K mainGlobals "Stream" = some (some (.ref C_Stream))) (pg_Stream : PySem.W.plainGet K C_Stream Str.empty = true) (hd_Stream : PySem.W.hasDictIn K C_Stream = true) (po_Stream : PySem.W.plainOver K C_Stream = true) (sa_Stream : PySem.W.findIn K (.ref C_Stream) "__setattr__" = some (some (.builtin "object.__setattr__"))) (mk_Stream : PySem.W.makesIn K C_Stream = true) (kc_Stream : PySem.W.keepIn K (.ref C_Stream) = true)
    (na_Stream_held : PySem.W.findIn K (.ref C_Stream) "held" = some none)
    (na_Stream_read : PySem.W.findIn K (.ref C_Stream) "read" = some none)
    {f_Stream___init__ : Addr} {od_Stream___init__ an_Stream___init__ : Option Addr} {sl_Stream___init__ : Array (Option Value)} {oc_Stream___init__ kV_Stream___init__ dc_Stream___init__ pm_Stream___init__ cd_Stream___init__ ct_Stream___init__ : Value}
    (at_Stream___init__ : PySem.W.findIn K (.ref C_Stream) "__init__" = some (some (.ref f_Stream___init__))) (if_Stream___init__ : PySem.W.isFn K (.ref f_Stream___init__) = true)
    (l_Stream___init__ : K.lookup f_Stream___init__ = some ⟨oc_Stream___init__, od_Stream___init__, .func (PySem.W.fnOf "__init__" "Stream.__init__" (defArgs s_Stream___init__) (defBody s_Stream___init__) (defScope s_Stream___init__) .none kV_Stream___init__ dc_Stream___init__ pm_Stream___init__ an_Stream___init__ cd_Stream___init__ ct_Stream___init__), sl_Stream___init__⟩) (c_Stream___init__ : PySem.W.codeIn K cd_Stream___init__ "Stream.__init__" = true) (k_Stream___init__ : PySem.W.keepIn K (.ref f_Stream___init__) = true)
    {f_Stream_records : Addr} {od_Stream_records an_Stream_records : Option Addr} {sl_Stream_records : Array (Option Value)} {oc_Stream_records kV_Stream_records dc_Stream_records pm_Stream_records cd_Stream_records ct_Stream_records : Value}
    {p_Stream_records : Addr} {rs_Stream_records : List Value} (at_Stream_records : PySem.W.findIn K (.ref C_Stream) "records" = some (some (.ref p_Stream_records))) (gt_Stream_records : PySem.W.specialIn K (.ref p_Stream_records) "__get__" = some (some (.builtin "property.__get__"))) (tk_Stream_records : PySem.W.takesIn K (.ref p_Stream_records) = some true) (rc_Stream_records : PySem.W.recIn K p_Stream_records "property" = some (.ref f_Stream_records :: rs_Stream_records))
    (l_Stream_records : K.lookup f_Stream_records = some ⟨oc_Stream_records, od_Stream_records, .func (PySem.W.fnOf "records" "Stream.records" (defArgs s_Stream_records) (defBody s_Stream_records) (defScope s_Stream_records) .none kV_Stream_records dc_Stream_records pm_Stream_records an_Stream_records cd_Stream_records ct_Stream_records), sl_Stream_records⟩) (c_Stream_records : PySem.W.codeIn K cd_Stream_records "Stream.records" = true) (k_Stream_records : PySem.W.keepIn K (.ref f_Stream_records) = true)
    {f_Stream_sound : Addr} {od_Stream_sound an_Stream_sound : Option Addr} {sl_Stream_sound : Array (Option Value)} {oc_Stream_sound kV_Stream_sound dc_Stream_sound pm_Stream_sound cd_Stream_sound ct_Stream_sound : Value}
    (at_Stream_sound : PySem.W.findIn K (.ref C_Stream) "sound" = some (some (.ref f_Stream_sound))) (if_Stream_sound : PySem.W.isFn K (.ref f_Stream_sound) = true)
    (l_Stream_sound : K.lookup f_Stream_sound = some ⟨oc_Stream_sound, od_Stream_sound, .func (PySem.W.fnOf "sound" "Stream.sound" (defArgs s_Stream_sound) (defBody s_Stream_sound) (defScope s_Stream_sound) .none kV_Stream_sound dc_Stream_sound pm_Stream_sound an_Stream_sound cd_Stream_sound ct_Stream_sound), sl_Stream_sound⟩) (c_Stream_sound : PySem.W.codeIn K cd_Stream_sound "Stream.sound" = true) (k_Stream_sound : PySem.W.keepIn K (.ref f_Stream_sound) = true)
    {f_Stream_block : Addr} {od_Stream_block an_Stream_block : Option Addr} {sl_Stream_block : Array (Option Value)} {oc_Stream_block kV_Stream_block dc_Stream_block pm_Stream_block cd_Stream_block ct_Stream_block : Value}
    (at_Stream_block : PySem.W.findIn K (.ref C_Stream) "block" = some (some (.ref f_Stream_block))) (if_Stream_block : PySem.W.isFn K (.ref f_Stream_block) = true)
    (l_Stream_block : K.lookup f_Stream_block = some ⟨oc_Stream_block, od_Stream_block, .func (PySem.W.fnOf "block" "Stream.block" (defArgs s_Stream_block) (defBody s_Stream_block) (defScope s_Stream_block) .none kV_Stream_block dc_Stream_block pm_Stream_block an_Stream_block cd_Stream_block ct_Stream_block), sl_Stream_block⟩) (c_Stream_block : PySem.W.codeIn K cd_Stream_block "Stream.block" = true) (k_Stream_block : PySem.W.keepIn K (.ref f_Stream_block) = true)
    {f_Stream_contents : Addr} {od_Stream_contents an_Stream_contents : Option Addr} {sl_Stream_contents : Array (Option Value)} {oc_Stream_contents kV_Stream_contents dc_Stream_contents pm_Stream_contents cd_Stream_contents ct_Stream_contents : Value}
    (at_Stream_contents : PySem.W.findIn K (.ref C_Stream) "contents" = some (some (.ref f_Stream_contents))) (if_Stream_contents : PySem.W.isFn K (.ref f_Stream_contents) = true)
    (l_Stream_contents : K.lookup f_Stream_contents = some ⟨oc_Stream_contents, od_Stream_contents, .func (PySem.W.fnOf "contents" "Stream.contents" (defArgs s_Stream_contents) (defBody s_Stream_contents) (defScope s_Stream_contents) .none kV_Stream_contents dc_Stream_contents pm_Stream_contents an_Stream_contents cd_Stream_contents ct_Stream_contents), sl_Stream_contents⟩) (c_Stream_contents : PySem.W.codeIn K cd_Stream_contents "Stream.contents" = true) (k_Stream_contents : PySem.W.keepIn K (.ref f_Stream_contents) = true)
    {f_Stream_part_of : Addr} {od_Stream_part_of an_Stream_part_of : Option Addr} {sl_Stream_part_of : Array (Option Value)} {oc_Stream_part_of kV_Stream_part_of dc_Stream_part_of pm_Stream_part_of cd_Stream_part_of ct_Stream_part_of : Value}
    (at_Stream_part_of : PySem.W.findIn K (.ref C_Stream) "part_of" = some (some (.ref f_Stream_part_of))) (if_Stream_part_of : PySem.W.isFn K (.ref f_Stream_part_of) = true)
    (l_Stream_part_of : K.lookup f_Stream_part_of = some ⟨oc_Stream_part_of, od_Stream_part_of, .func (PySem.W.fnOf "part_of" "Stream.part_of" (defArgs s_Stream_part_of) (defBody s_Stream_part_of) (defScope s_Stream_part_of) .none kV_Stream_part_of dc_Stream_part_of pm_Stream_part_of an_Stream_part_of cd_Stream_part_of ct_Stream_part_of), sl_Stream_part_of⟩) (c_Stream_part_of : PySem.W.codeIn K cd_Stream_part_of "Stream.part_of" = true) (k_Stream_part_of : PySem.W.keepIn K (.ref f_Stream_part_of) = true)
    (hr_tab : (recsOf q).find? (fun e => e.name == (PySem.Str.ofString "law")) = some dLaw) (ht_tab : PySem.W.tabIn K (PySem.Str.ofString "law") = some (c_law, P_tab)) (hn_tab : K.lookup P_tab = none)
    : LamX.LawAtS l w K CX0 12 63 "_law_script" mg fa h := by
  have e := hfa.symm.trans (PySem.W.mg_of X G a_law)
  cases e
  have bi : Bi mg := ⟨PySem.W.mg_none_of X G z_int, PySem.W.mg_none_of X G z_bool, PySem.W.mg_none_of X G z_str, PySem.W.mg_none_of X G z_list, PySem.W.mg_none_of X G z_tuple, PySem.W.mg_none_of X G z_len, PySem.W.mg_none_of X G z_abs, PySem.W.mg_none_of X G z_max, PySem.W.mg_none_of X G z_min, PySem.W.mg_none_of X G z_range, PySem.W.mg_none_of X G z_zip, PySem.W.mg_none_of X G z_isinstance, PySem.W.mg_none_of X G z_enumerate, PySem.W.mg_none_of X G z_reversed⟩
  have F_index_of := fun_mk (st := s_index_of) l_index_of c_index_of k_index_of
  have D_index_of : Dn K mg "index_of" s_index_of ["stream"] _ _ := ⟨F_index_of, PySem.W.mg_of X G a_index_of, F_index_of.binds (ps := ["stream"]) fun _ _ _ _ _ _ us hl => match us, hl with | [_], _ => rfl⟩
  have F_needed_records := fun_mk (st := s_needed_records) l_needed_records c_needed_records k_needed_records
  have D_needed_records : Dn K mg "needed_records" s_needed_records ["index", "start", "end"] _ _ := ⟨F_needed_records, PySem.W.mg_of X G a_needed_records, F_needed_records.binds (ps := ["index", "start", "end"]) fun _ _ _ _ _ _ us hl => match us, hl with | [_, _, _], _ => rfl⟩
  have F_read_part := fun_mk (st := s_read_part) l_read_part c_read_part k_read_part
  have D_read_part : Dn K mg "read_part" s_read_part ["index", "fetch", "start", "end"] _ _ := ⟨F_read_part, PySem.W.mg_of X G a_read_part, F_read_part.binds (ps := ["index", "fetch", "start", "end"]) fun _ _ _ _ _ _ us hl => match us, hl with | [_, _, _, _], _ => rfl⟩
  have F_unread_frames := fun_mk (st := s_unread_frames) l_unread_frames c_unread_frames k_unread_frames
  have D_unread_frames : Dn K mg "unread_frames" s_unread_frames ["index", "lost"] _ _ := ⟨F_unread_frames, PySem.W.mg_of X G a_unread_frames, F_unread_frames.binds (ps := ["index", "lost"]) fun _ _ _ _ _ _ us hl => match us, hl with | [_, _], _ => rfl⟩
  have F_touched := fun_mk (st := s_touched) l_touched c_touched k_touched
  have D_touched : Dn K mg "touched" s_touched ["index", "lost"] _ _ := ⟨F_touched, PySem.W.mg_of X G a_touched, F_touched.binds (ps := ["index", "lost"]) fun _ _ _ _ _ _ us hl => match us, hl with | [_, _], _ => rfl⟩
  have F_concealed := fun_mk (st := s_concealed) l_concealed c_concealed k_concealed
  have D_concealed : Dn K mg "concealed" s_concealed ["index", "fetch", "lost"] _ _ := ⟨F_concealed, PySem.W.mg_of X G a_concealed, F_concealed.binds (ps := ["index", "fetch", "lost"]) fun _ _ _ _ _ _ us hl => match us, hl with | [_, _, _], _ => rfl⟩
  have F_salvaged := fun_mk (st := s_salvaged) l_salvaged c_salvaged k_salvaged
  have D_salvaged : Dn K mg "salvaged" s_salvaged ["index", "records"] _ _ := ⟨F_salvaged, PySem.W.mg_of X G a_salvaged, F_salvaged.binds (ps := ["index", "records"]) fun _ _ _ _ _ _ us hl => match us, hl with | [_, _], _ => rfl⟩
  have F_encode := fun_mk (st := s_encode) l_encode c_encode k_encode
  have FD_encode : FunD K "encode" "encode" (defArgs s_encode) (defBody s_encode) (defScope s_encode) [] [("states", V.int 0)] f_encode _ := ⟨⟨_, _, _, _, _, _, _, _, _, _, rfl, l_encode, c_encode, .inl ⟨rfl, rfl⟩, .inr ⟨kw_encode, rfl, fun q hq => by
    rw [List.mem_singleton.mp hq]
    exact ⟨_, n_encode_states, ⟨_, rfl⟩⟩⟩⟩, k_encode⟩
  have D_encode : Kn K mg "encode" s_encode ["sound", "plan", "states"] 2 ["states"] [.int 0] f_encode _ := ⟨F_encode, PySem.W.mg_of X G a_encode, FD_encode.binds0 (ps := ["sound", "plan", "states"]) 2 (fun z => nomatch z) rfl (fun D doc pm an cdv ct us ks h1 h2 => by
      obtain ⟨x1, x2, rfl⟩ := len2 h1
      obtain ⟨y1, rfl⟩ := len1 h2
      exact ⟨_, _, _, _, _, _, rfl, rfl, rfl⟩), ⟨fun s us ws X h1 h2 => by
      obtain ⟨x1, x2, rfl⟩ := len2 h1
      obtain ⟨y1, rfl⟩ := len1 h2
      exact .of_eq rfl, fun r1 r2 => r1.append r2⟩⟩
  have TC_Stream : StmC K mg C_Stream := ⟨⟨pg_Stream, hd_Stream, po_Stream, sa_Stream⟩, PySem.W.mg_of X G x_Stream, mk_Stream, kc_Stream, na_Stream_held, na_Stream_read⟩
  have F_Stream___init__ := fun_mk (st := s_Stream___init__) l_Stream___init__ c_Stream___init__ k_Stream___init__
  have D_Stream___init__ : Mn K C_Stream "__init__" "Stream.__init__" s_Stream___init__ ["self", "records"] _ _ := ⟨F_Stream___init__, ⟨at_Stream___init__, if_Stream___init__, k_Stream___init__⟩, F_Stream___init__.binds (ps := ["self", "records"]) fun _ _ _ _ _ _ us hl => match us, hl with | [_, _], _ => rfl⟩
  have F_Stream_records := fun_mk (st := s_Stream_records) l_Stream_records c_Stream_records k_Stream_records
  have D_Stream_records : Pn K C_Stream "records" "Stream.records" s_Stream_records ["self"] p_Stream_records _ _ := ⟨F_Stream_records, ⟨at_Stream_records, gt_Stream_records, tk_Stream_records, rs_Stream_records, rc_Stream_records⟩, F_Stream_records.binds (ps := ["self"]) fun _ _ _ _ _ _ us hl => match us, hl with | [_], _ => rfl⟩
  have F_Stream_sound := fun_mk (st := s_Stream_sound) l_Stream_sound c_Stream_sound k_Stream_sound
  have D_Stream_sound : Mn K C_Stream "sound" "Stream.sound" s_Stream_sound ["self"] _ _ := ⟨F_Stream_sound, ⟨at_Stream_sound, if_Stream_sound, k_Stream_sound⟩, F_Stream_sound.binds (ps := ["self"]) fun _ _ _ _ _ _ us hl => match us, hl with | [_], _ => rfl⟩
  have F_Stream_block := fun_mk (st := s_Stream_block) l_Stream_block c_Stream_block k_Stream_block
  have D_Stream_block : Mn K C_Stream "block" "Stream.block" s_Stream_block ["self", "frame"] _ _ := ⟨F_Stream_block, ⟨at_Stream_block, if_Stream_block, k_Stream_block⟩, F_Stream_block.binds (ps := ["self", "frame"]) fun _ _ _ _ _ _ us hl => match us, hl with | [_, _], _ => rfl⟩
  have F_Stream_contents := fun_mk (st := s_Stream_contents) l_Stream_contents c_Stream_contents k_Stream_contents
  have D_Stream_contents : Mn K C_Stream "contents" "Stream.contents" s_Stream_contents ["self", "frame"] _ _ := ⟨F_Stream_contents, ⟨at_Stream_contents, if_Stream_contents, k_Stream_contents⟩, F_Stream_contents.binds (ps := ["self", "frame"]) fun _ _ _ _ _ _ us hl => match us, hl with | [_, _], _ => rfl⟩
  have F_Stream_part_of := fun_mk (st := s_Stream_part_of) l_Stream_part_of c_Stream_part_of k_Stream_part_of
  have D_Stream_part_of : Mn K C_Stream "part_of" "Stream.part_of" s_Stream_part_of ["self", "frame", "part"] _ _ := ⟨F_Stream_part_of, ⟨at_Stream_part_of, if_Stream_part_of, k_Stream_part_of⟩, F_Stream_part_of.binds (ps := ["self", "frame", "part"]) fun _ _ _ _ _ _ us hl => match us, hl with | [_, _, _], _ => rfl⟩
  have kb_index_of : KBinds K (PySem.W.fnOf "index_of" "index_of" (defArgs s_index_of) (defBody s_index_of) (defScope s_index_of) .none kV_index_of dc_index_of pm_index_of an_index_of cd_index_of ct_index_of) ["stream"] ["stream"] (kg 0 1 [0]) (kg 0 1 [0]) := ⟨fun s us ws _ hl => by
    obtain ⟨h1, h2⟩ := kg_some hl (by decide)
    obtain rfl := len0 h1
    obtain ⟨y1, rfl⟩ := len1 h2
    exact .of_eq rfl, fun r1 r2 => kg_rel r1 r2⟩
  have kb_needed_records : KBinds K (PySem.W.fnOf "needed_records" "needed_records" (defArgs s_needed_records) (defBody s_needed_records) (defScope s_needed_records) .none kV_needed_records dc_needed_records pm_needed_records an_needed_records cd_needed_records ct_needed_records) ["index", "start", "end"] ["end", "start", "index"] (kg 0 3 [2, 1, 0]) (kg 0 3 [2, 1, 0]) := ⟨fun s us ws _ hl => by
    obtain ⟨h1, h2⟩ := kg_some hl (by decide)
    obtain rfl := len0 h1
    obtain ⟨y1, y2, y3, rfl⟩ := len3 h2
    exact .of_eq rfl, fun r1 r2 => kg_rel r1 r2⟩
  have kb_read_part : KBinds K (PySem.W.fnOf "read_part" "read_part" (defArgs s_read_part) (defBody s_read_part) (defScope s_read_part) .none kV_read_part dc_read_part pm_read_part an_read_part cd_read_part ct_read_part) ["index", "fetch", "start", "end"] ["end", "start", "fetch", "index"] (kg 0 4 [3, 2, 1, 0]) (kg 0 4 [3, 2, 1, 0]) := ⟨fun s us ws _ hl => by
    obtain ⟨h1, h2⟩ := kg_some hl (by decide)
    obtain rfl := len0 h1
    obtain ⟨y1, y2, y3, y4, rfl⟩ := len4 h2
    exact .of_eq rfl, fun r1 r2 => kg_rel r1 r2⟩
  have kb_unread_frames : KBinds K (PySem.W.fnOf "unread_frames" "unread_frames" (defArgs s_unread_frames) (defBody s_unread_frames) (defScope s_unread_frames) .none kV_unread_frames dc_unread_frames pm_unread_frames an_unread_frames cd_unread_frames ct_unread_frames) ["index", "lost"] ["lost", "index"] (kg 0 2 [1, 0]) (kg 0 2 [1, 0]) := ⟨fun s us ws _ hl => by
    obtain ⟨h1, h2⟩ := kg_some hl (by decide)
    obtain rfl := len0 h1
    obtain ⟨y1, y2, rfl⟩ := len2 h2
    exact .of_eq rfl, fun r1 r2 => kg_rel r1 r2⟩
  have kb_touched : KBinds K (PySem.W.fnOf "touched" "touched" (defArgs s_touched) (defBody s_touched) (defScope s_touched) .none kV_touched dc_touched pm_touched an_touched cd_touched ct_touched) ["index", "lost"] ["lost", "index"] (kg 0 2 [1, 0]) (kg 0 2 [1, 0]) := ⟨fun s us ws _ hl => by
    obtain ⟨h1, h2⟩ := kg_some hl (by decide)
    obtain rfl := len0 h1
    obtain ⟨y1, y2, rfl⟩ := len2 h2
    exact .of_eq rfl, fun r1 r2 => kg_rel r1 r2⟩
  have kb_concealed : KBinds K (PySem.W.fnOf "concealed" "concealed" (defArgs s_concealed) (defBody s_concealed) (defScope s_concealed) .none kV_concealed dc_concealed pm_concealed an_concealed cd_concealed ct_concealed) ["index", "fetch", "lost"] ["lost", "fetch", "index"] (kg 0 3 [2, 1, 0]) (kg 0 3 [2, 1, 0]) := ⟨fun s us ws _ hl => by
    obtain ⟨h1, h2⟩ := kg_some hl (by decide)
    obtain rfl := len0 h1
    obtain ⟨y1, y2, y3, rfl⟩ := len3 h2
    exact .of_eq rfl, fun r1 r2 => kg_rel r1 r2⟩
  have kb_salvaged : KBinds K (PySem.W.fnOf "salvaged" "salvaged" (defArgs s_salvaged) (defBody s_salvaged) (defScope s_salvaged) .none kV_salvaged dc_salvaged pm_salvaged an_salvaged cd_salvaged ct_salvaged) ["index", "records"] ["records", "index"] (kg 0 2 [1, 0]) (kg 0 2 [1, 0]) := ⟨fun s us ws _ hl => by
    obtain ⟨h1, h2⟩ := kg_some hl (by decide)
    obtain rfl := len0 h1
    obtain ⟨y1, y2, rfl⟩ := len2 h2
    exact .of_eq rfl, fun r1 r2 => kg_rel r1 r2⟩
  obtain ⟨hCh, hTab⟩ := PySem.W.tab_of Gd.T X hr_tab ht_tab
  refine ⟨PySem.W.fnOf "law" "law" (defArgs s_law) (defBody s_law) (defScope s_law) .none kV_law dc_law pm_law an_law (.ref c_law) ct_law, [(c_law, P_tab)], spLawT K [(P_tab, qLam)], ?_, ?_, ?_, fun s v => .of_eq rfl, fun H a ns h1 _ hT hS => ⟨a, ns, rfl, hS, h1, ?_, fun _ => rfl⟩, fun base _ _ hTB => ?_⟩
  · intro p hp
    rw [List.mem_singleton.mp hp]
    exact hTab
  · intro p hp
    rw [List.mem_singleton.mp hp]
    exact hn_tab
  · intro p hp
    rw [List.mem_singleton.mp hp]
    exact hCh
  · intro p hp
    rw [List.mem_singleton.mp hp]
    exact LamX.TabS.nil (hT (c_law, P_tab) (List.mem_singleton.mpr rfl))
  have TB := hTB (c_law, P_tab) (List.mem_singleton.mpr rfl)
  have hSt := tupV_K (xs := [.ref t0, .ref t1]) lS (Nat.le_of_ble_eq_true rfl) (.cons rfl (.cons rfl .nil))
  have hS0 := tupV_K (xs := [.int 2, .int 1]) lt0 (Nat.le_of_ble_eq_true rfl) (.cons ⟨_, rfl⟩ (.cons ⟨_, rfl⟩ .nil))
  have hS1 := tupV_K (xs := [.int 2, .int 1]) lt1 (Nat.le_of_ble_eq_true rfl) (.cons ⟨_, rfl⟩ (.cons ⟨_, rfl⟩ .nil))
  have hHd := tupV_K (xs := [.int 0, .int 0]) lH (Nat.le_of_ble_eq_true rfl) (.cons ⟨_, rfl⟩ (.cons ⟨_, rfl⟩ .nil))
  have hCo := seqT_K (xs := [.ref ct0, .ref ct1, .ref ct2, .ref ct3]) lC (Nat.le_of_ble_eq_true rfl) (.cons rfl (.cons rfl (.cons rfl (.cons rfl .nil))))
  have hC0 := seqT_K (xs := [.int (-1), .int 2]) l0 (Nat.le_of_ble_eq_true rfl) (.cons ⟨_, rfl⟩ (.cons ⟨_, rfl⟩ .nil))
  have hC1 := seqT_K (xs := [.int (-2), .int 3]) l1 (Nat.le_of_ble_eq_true rfl) (.cons ⟨_, rfl⟩ (.cons ⟨_, rfl⟩ .nil))
  have hC2 := seqT_K (xs := [.int 1, .int (-2)]) l2 (Nat.le_of_ble_eq_true rfl) (.cons ⟨_, rfl⟩ (.cons ⟨_, rfl⟩ .nil))
  have hC3 := seqT_K (xs := [.int 2, .int (-3)]) l3 (Nat.le_of_ble_eq_true rfl) (.cons ⟨_, rfl⟩ (.cons ⟨_, rfl⟩ .nil))
  have G_is_integer := ok_is_integer (P := l.prog) (w := w) (base := base) D_is_integer bi    
  have G_is_within := ok_is_within (P := l.prog) (w := w) (base := base) D_is_within bi G_is_integer D_is_integer   
  have G_is_joint := ok_is_joint (P := l.prog) (w := w) (base := base) D_is_joint bi G_is_within D_is_within   ⟨_, PySem.W.mg_of X G a_WIDTH_LIMIT⟩ ⟨_, PySem.W.mg_of X G a_SHAPE_LIMIT⟩
  have G_is_table := ok_is_table (P := l.prog) (w := w) (base := base) D_is_table bi G_is_integer D_is_integer G_is_within D_is_within   ⟨_, PySem.W.mg_of X G a_COUNT_LIMIT⟩
  have G_is_tables := ok_is_tables (P := l.prog) (w := w) (base := base) D_is_tables bi G_is_table D_is_table   
  have G_is_bits := ok_is_bits (P := l.prog) (w := w) (base := base) D_is_bits bi    
  have G_is_layout := ok_is_layout (P := l.prog) (w := w) (base := base) D_is_layout bi G_is_within D_is_within G_is_joint D_is_joint   ⟨_, PySem.W.mg_of X G a_BLOCK_LIMIT⟩ ⟨_, PySem.W.mg_of X G a_LEVEL_LIMIT⟩ ⟨_, PySem.W.mg_of X G a_STEP_LIMIT⟩
  have G_is_frame := ok_is_frame (P := l.prog) (w := w) (base := base) D_is_frame bi G_is_layout D_is_layout G_is_within D_is_within G_is_bits D_is_bits   ⟨_, PySem.W.mg_of X G a_FRAME_ITEMS⟩ ⟨_, PySem.W.mg_of X G a_MARK_MODULUS⟩
  have G_is_state := ok_is_state (P := l.prog) (w := w) (base := base) D_is_state bi G_is_tables D_is_tables   
  have G_is_record := ok_is_record (P := l.prog) (w := w) (base := base) D_is_record bi G_is_state D_is_state G_is_frame D_is_frame   
  have G_check_records := ok_check_records (P := l.prog) (w := w) (base := base) D_check_records bi G_is_record D_is_record   
  have G_check_within := ok_check_within (P := l.prog) (w := w) (base := base) D_check_within bi G_is_within D_is_within   
  have G_check_integer := ok_check_integer (P := l.prog) (w := w) (base := base) D_check_integer bi G_is_integer D_is_integer   
  have G_check_items := ok_check_items (P := l.prog) (w := w) (base := base) D_check_items bi G_is_integer D_is_integer   
  have G_check_block := ok_check_block (P := l.prog) (w := w) (base := base) D_check_block bi G_check_items D_check_items   ⟨_, PySem.W.mg_of X G a_BLOCK_LIMIT⟩
  have G_coarse_count := ok_coarse_count (P := l.prog) (w := w) (base := base) D_coarse_count bi G_check_within D_check_within   ⟨_, PySem.W.mg_of X G a_BLOCK_LIMIT⟩ ⟨_, PySem.W.mg_of X G a_LEVEL_LIMIT⟩
  have G_parameter := ok_parameter (P := l.prog) (w := w) (base := base) D_parameter bi G_is_table D_is_table   
  have G_table_behind := ok_table_behind (P := l.prog) (w := w) (base := base) D_table_behind bi    ⟨_, PySem.W.mg_of X G a_COUNT_LIMIT⟩ ⟨_, PySem.W.mg_of X G a_HALVED_COUNT⟩
  have G_code_number := ok_code_number (P := l.prog) (w := w) (base := base) D_code_number bi    
  have G_number_with := ok_number_with (P := l.prog) (w := w) (base := base) D_number_with bi    
  have G_read_code := ok_read_code (P := l.prog) (w := w) (base := base) D_read_code bi    ⟨_, PySem.W.mg_of X G a_LONG_FORM⟩
  have G_check_coding := ok_check_coding (P := l.prog) (w := w) (base := base) D_check_coding bi G_check_within D_check_within G_is_tables D_is_tables   
  have G_read_numbers := ok_read_numbers (P := l.prog) (w := w) (base := base) D_read_numbers bi G_check_within D_check_within G_check_coding D_check_coding G_parameter D_parameter G_read_code D_read_code G_number_with D_number_with G_table_behind D_table_behind   ⟨_, PySem.W.mg_of X G a_BLOCK_LIMIT⟩
  have G_mark_of := ok_mark_of (P := l.prog) (w := w) (base := base) D_mark_of bi G_check_block D_check_block G_code_number D_code_number   ⟨_, PySem.W.mg_of X G a_MARK_FACTOR⟩ ⟨_, PySem.W.mg_of X G a_MARK_MODULUS⟩
  have G_read_frame := ok_read_frame (P := l.prog) (w := w) (base := base) D_read_frame bi G_read_numbers D_read_numbers G_coarse_count D_coarse_count G_mark_of D_mark_of   
  have G_read_frames := ok_read_frames (P := l.prog) (w := w) (base := base) D_read_frames bi G_read_frame D_read_frame   (PySem.W.mg_of X G zS) hSt hS0 hS1 (PySem.W.mg_of X G zH) hHd
  have G_Stream___init__ := ok_Stream___init__ (P := l.prog) (w := w) (base := base) D_Stream___init__ bi G_check_records D_check_records G_read_frames D_read_frames TC_Stream  
  have G_Stream_part_of := ok_Stream_part_of (P := l.prog) (w := w) (base := base) D_Stream_part_of bi G_is_within D_is_within TC_Stream  
  have G_join_once := ok_join_once (P := l.prog) (w := w) (base := base) D_join_once bi    
  have G_join_levels := ok_join_levels (P := l.prog) (w := w) (base := base) D_join_levels bi G_check_block D_check_block G_check_within D_check_within G_coarse_count D_coarse_count G_join_once D_join_once   ⟨_, PySem.W.mg_of X G a_LEVEL_LIMIT⟩
  have G_check_pair := ok_check_pair (P := l.prog) (w := w) (base := base) D_check_pair bi G_check_within D_check_within G_check_integer D_check_integer   ⟨_, PySem.W.mg_of X G a_SHAPE_LIMIT⟩
  have G_fold_pair := ok_fold_pair (P := l.prog) (w := w) (base := base) D_fold_pair bi G_check_pair D_check_pair   (PySem.W.mg_of X G zC) hCo hC0 hC1 hC2 hC3
  have G_unfold_pair := ok_unfold_pair (P := l.prog) (w := w) (base := base) D_unfold_pair bi G_check_pair D_check_pair   (PySem.W.mg_of X G zC) hCo hC0 hC1 hC2 hC3
  have G_check_sound := ok_check_sound (P := l.prog) (w := w) (base := base) D_check_sound bi G_check_items D_check_items   
  have G_is_placed_joint := ok_is_placed_joint (P := l.prog) (w := w) (base := base) D_is_placed_joint bi G_is_integer D_is_integer G_is_joint D_is_joint   
  have G_has_room := ok_has_room (P := l.prog) (w := w) (base := base) D_has_room bi    
  have G_check_joints := ok_check_joints (P := l.prog) (w := w) (base := base) D_check_joints bi G_is_placed_joint D_is_placed_joint G_has_room D_has_room   
  have G_turned_fold_pair := ok_turned (P := l.prog) (w := w) (base := base) (g := f_fold_pair) D_turned bi G_check_sound D_check_sound G_check_joints D_check_joints G_fold_pair D_fold_pair.F.kp D_fold_pair.b
  have G_turned_unfold_pair := ok_turned (P := l.prog) (w := w) (base := base) (g := f_unfold_pair) D_turned bi G_check_sound D_check_sound G_check_joints D_check_joints G_unfold_pair D_unfold_pair.F.kp D_unfold_pair.b
  have G_unfolded := ok_unfolded (P := l.prog) (w := w) (base := base) D_unfolded bi G_turned_unfold_pair D_turned D_unfold_pair
  have G_block_values := ok_block_values (P := l.prog) (w := w) (base := base) D_block_values bi G_join_levels D_join_levels   
  have G_placed_joints := ok_placed_joints (P := l.prog) (w := w) (base := base) D_placed_joints bi    
  have G_unfolded_blocks := ok_unfolded_blocks (P := l.prog) (w := w) (base := base) D_unfolded_blocks bi G_unfolded D_unfolded G_placed_joints D_placed_joints   
  have G_folded := ok_folded (P := l.prog) (w := w) (base := base) D_folded bi G_turned_fold_pair D_turned D_fold_pair
  have G_split_once := ok_split_once (P := l.prog) (w := w) (base := base) D_split_once bi    
  have G_split_levels := ok_split_levels (P := l.prog) (w := w) (base := base) D_split_levels bi G_check_block D_check_block G_check_within D_check_within G_split_once D_split_once   ⟨_, PySem.W.mg_of X G a_LEVEL_LIMIT⟩
  have G_quantized := ok_quantized (P := l.prog) (w := w) (base := base) D_quantized bi G_check_integer D_check_integer G_check_within D_check_within   ⟨_, PySem.W.mg_of X G a_STEP_LIMIT⟩
  have G_code_bits := ok_code_bits (P := l.prog) (w := w) (base := base) D_code_bits bi    ⟨_, PySem.W.mg_of X G a_LONG_FORM⟩
  have G_write_numbers := ok_write_numbers (P := l.prog) (w := w) (base := base) D_write_numbers bi G_check_block D_check_block G_check_coding D_check_coding G_code_number D_code_number G_code_bits D_code_bits G_parameter D_parameter G_table_behind D_table_behind   
  have G_check_plan := ok_check_plan (P := l.prog) (w := w) (base := base) D_check_plan bi G_is_layout D_is_layout   (PySem.W.mg_of X G zS) hSt hS0 hS1 (PySem.W.mg_of X G zH) hHd
  have G_coded_frame := ok_coded_frame (P := l.prog) (w := w) (base := base) D_coded_frame bi G_split_levels D_split_levels G_quantized D_quantized G_write_numbers D_write_numbers G_coarse_count D_coarse_count G_mark_of D_mark_of   
  have G_coded_records := ok_coded_records (P := l.prog) (w := w) (base := base) D_coded_records bi G_folded D_folded G_placed_joints D_placed_joints G_coded_frame D_coded_frame   (PySem.W.mg_of X G zS) hSt hS0 hS1 (PySem.W.mg_of X G zH) hHd
  have G_encode := ok_encode (P := l.prog) (w := w) (base := base) D_encode bi G_check_sound D_check_sound G_check_plan D_check_plan G_check_within D_check_within G_coded_records D_coded_records G_Stream___init__ D_Stream___init__ TC_Stream  ⟨_, PySem.W.mg_of X G a_STATES_LIMIT⟩
  have G_Stream_contents := ok_Stream_contents (P := l.prog) (w := w) (base := base) D_Stream_contents bi G_Stream_part_of D_Stream_part_of G_block_values D_block_values TC_Stream  
  have G_Stream_sound := ok_Stream_sound (P := l.prog) (w := w) (base := base) D_Stream_sound bi G_Stream_contents D_Stream_contents G_unfolded_blocks D_unfolded_blocks TC_Stream  
  have G_Stream_records := ok_Stream_records (P := l.prog) (w := w) (base := base) D_Stream_records bi  TC_Stream  
  have G_Stream_block := ok_Stream_block (P := l.prog) (w := w) (base := base) D_Stream_block bi G_Stream_part_of D_Stream_part_of TC_Stream  
  have G_index_of := ok_index_of (P := l.prog) (w := w) (base := base) D_index_of bi G_Stream_records D_Stream_records G_Stream_block D_Stream_block TC_Stream  
  have G_check_stretch := ok_check_stretch (P := l.prog) (w := w) (base := base) D_check_stretch bi G_is_within D_is_within   
  have G_sound_length := ok_sound_length (P := l.prog) (w := w) (base := base) D_sound_length bi    
  have G_reach := ok_reach (P := l.prog) (w := w) (base := base) D_reach bi    
  have G_needed_entries := ok_needed_entries (P := l.prog) (w := w) (base := base) D_needed_entries bi G_reach D_reach   
  have G_records_up_to := ok_records_up_to (P := l.prog) (w := w) (base := base) D_records_up_to bi    
  have G_needed_records := ok_needed_records (P := l.prog) (w := w) (base := base) D_needed_records bi G_check_stretch D_check_stretch G_sound_length D_sound_length G_records_up_to D_records_up_to G_needed_entries D_needed_entries   
  have G_check_lost := ok_check_lost (P := l.prog) (w := w) (base := base) D_check_lost bi G_is_integer D_is_integer   
  have G_unread_frames := ok_unread_frames (P := l.prog) (w := w) (base := base) D_unread_frames bi G_check_lost D_check_lost   (PySem.W.mg_none_of X G z_sorted)
  have G_touched := ok_touched (P := l.prog) (w := w) (base := base) D_touched bi G_unread_frames D_unread_frames G_reach D_reach   
  have G_entries_by_record := ok_entries_by_record (P := l.prog) (w := w) (base := base) D_entries_by_record bi    
  have G_read_as_told := ok_read_as_told (P := l.prog) (w := w) (base := base) D_read_as_told bi G_is_state D_is_state G_is_frame D_is_frame G_read_frame D_read_frame   
  have G_fetched_numbers := ok_fetched_numbers (P := l.prog) (w := w) (base := base) D_fetched_numbers bi G_entries_by_record D_entries_by_record G_records_up_to D_records_up_to G_read_as_told D_read_as_told   (PySem.W.mg_of X G zS) hSt hS0 hS1 (PySem.W.mg_of X G zH) hHd
  have G_samples_of := ok_samples_of (P := l.prog) (w := w) (base := base) D_samples_of bi G_block_values D_block_values G_unfolded_blocks D_unfolded_blocks   
  have G_concealed := ok_concealed (P := l.prog) (w := w) (base := base) D_concealed bi G_unread_frames D_unread_frames G_fetched_numbers D_fetched_numbers G_samples_of D_samples_of   
  have G_read_part := ok_read_part (P := l.prog) (w := w) (base := base) D_read_part bi G_check_stretch D_check_stretch G_sound_length D_sound_length G_needed_entries D_needed_entries G_fetched_numbers D_fetched_numbers G_samples_of D_samples_of   
  have G_salvaged := ok_salvaged (P := l.prog) (w := w) (base := base) D_salvaged bi G_entries_by_record D_entries_by_record G_read_as_told D_read_as_told G_samples_of D_samples_of   (PySem.W.mg_of X G zS) hSt hS0 hS1 (PySem.W.mg_of X G zH) hHd
  have G_take := ok_take (P := l.prog) (w := w) (base := base) D_take bi    
  have G_pool := ok_pool (P := l.prog) (w := w) (base := base) D_pool bi    
  have G_same0 := ok_same0 (P := l.prog) (w := w) (base := base) D_same bi
  have G_same1 := ok_sameS (P := l.prog) (w := w) (base := base) D_same bi G_same0
  have G_same2 := ok_sameS (P := l.prog) (w := w) (base := base) D_same bi G_same1
  have G_same3 := ok_sameS (P := l.prog) (w := w) (base := base) D_same bi G_same2
  have G_same := G_same3
  exact ok_law l_law c_law' bi TB G_pool D_pool G_take D_take G_same D_same G_encode D_encode G_index_of D_index_of G_Stream_records D_Stream_records G_Stream_sound D_Stream_sound G_needed_records D_needed_records G_read_part D_read_part G_unread_frames D_unread_frames G_touched D_touched G_concealed D_concealed G_salvaged D_salvaged TC_Stream  kb_index_of kb_needed_records kb_read_part kb_unread_frames kb_touched kb_concealed kb_salvaged
end Z
open PySem PySem.W PyProof.Rows
set_option maxHeartbeats 0 in
theorem PySem.Challenge.cw_framejoins_k45_reading_by_names_holds : PySem.Challenge.rw_framejoins_k45_reading_by_names.Holds := by
  w_on; refine headTop ?_
  k_fill
  refine Z.walk_ofTop (l := PySem.Challenge.rw_framejoins_k45_reading_by_names) (n := 63) (k := 12) (x := "_law_script") rfl (by decide) rfl ⟨rfl, by decide, by decide⟩ (fun w h Y => PySem.W.km_in_of Y) ?F
  case F =>
    intro w s0 mg mb fa h Gd KX G hmg
    refine' Z.all_mk (P_tab := 757) Gd KX G hmg (Z.mkD_is_integer KX G ?a_is_integer ?l_is_integer ?c_is_integer ?k_is_integer) (Z.mkD_is_within KX G ?a_is_within ?l_is_within ?c_is_within ?k_is_within) (Z.mkD_check_integer KX G ?a_check_integer ?l_check_integer ?c_check_integer ?k_check_integer) (Z.mkD_check_within KX G ?a_check_within ?l_check_within ?c_check_within ?k_check_within) (Z.mkD_check_stretch KX G ?a_check_stretch ?l_check_stretch ?c_check_stretch ?k_check_stretch) (Z.mkD_check_items KX G ?a_check_items ?l_check_items ?c_check_items ?k_check_items) (Z.mkD_check_sound KX G ?a_check_sound ?l_check_sound ?c_check_sound ?k_check_sound) (Z.mkD_check_block KX G ?a_check_block ?l_check_block ?c_check_block ?k_check_block) (Z.mkD_is_joint KX G ?a_is_joint ?l_is_joint ?c_is_joint ?k_is_joint) (Z.mkD_fold_pair KX G ?a_fold_pair ?l_fold_pair ?c_fold_pair ?k_fold_pair) (Z.mkD_unfold_pair KX G ?a_unfold_pair ?l_unfold_pair ?c_unfold_pair ?k_unfold_pair) (Z.mkD_check_pair KX G ?a_check_pair ?l_check_pair ?c_check_pair ?k_check_pair) (Z.mkD_folded KX G ?a_folded ?l_folded ?c_folded ?k_folded) (Z.mkD_unfolded KX G ?a_unfolded ?l_unfolded ?c_unfolded ?k_unfolded) (Z.mkD_turned KX G ?a_turned ?l_turned ?c_turned ?k_turned) (Z.mkD_check_joints KX G ?a_check_joints ?l_check_joints ?c_check_joints ?k_check_joints) (Z.mkD_is_placed_joint KX G ?a_is_placed_joint ?l_is_placed_joint ?c_is_placed_joint ?k_is_placed_joint) (Z.mkD_has_room KX G ?a_has_room ?l_has_room ?c_has_room ?k_has_room) (Z.mkD_split_levels KX G ?a_split_levels ?l_split_levels ?c_split_levels ?k_split_levels) (Z.mkD_split_once KX G ?a_split_once ?l_split_once ?c_split_once ?k_split_once) (Z.mkD_join_levels KX G ?a_join_levels ?l_join_levels ?c_join_levels ?k_join_levels) (Z.mkD_join_once KX G ?a_join_once ?l_join_once ?c_join_once ?k_join_once) (Z.mkD_coarse_count KX G ?a_coarse_count ?l_coarse_count ?c_coarse_count ?k_coarse_count) (Z.mkD_quantized KX G ?a_quantized ?l_quantized ?c_quantized ?k_quantized) (Z.mkD_is_table KX G ?a_is_table ?l_is_table ?c_is_table ?k_is_table) (Z.mkD_is_tables KX G ?a_is_tables ?l_is_tables ?c_is_tables ?k_is_tables) (Z.mkD_parameter KX G ?a_parameter ?l_parameter ?c_parameter ?k_parameter) (Z.mkD_table_behind KX G ?a_table_behind ?l_table_behind ?c_table_behind ?k_table_behind) (Z.mkD_code_number KX G ?a_code_number ?l_code_number ?c_code_number ?k_code_number) (Z.mkD_number_with KX G ?a_number_with ?l_number_with ?c_number_with ?k_number_with) (Z.mkD_code_bits KX G ?a_code_bits ?l_code_bits ?c_code_bits ?k_code_bits) (Z.mkD_write_numbers KX G ?a_write_numbers ?l_write_numbers ?c_write_numbers ?k_write_numbers) (Z.mkD_read_numbers KX G ?a_read_numbers ?l_read_numbers ?c_read_numbers ?k_read_numbers) (Z.mkD_check_coding KX G ?a_check_coding ?l_check_coding ?c_check_coding ?k_check_coding) (Z.mkD_read_code KX G ?a_read_code ?l_read_code ?c_read_code ?k_read_code) (Z.mkD_mark_of KX G ?a_mark_of ?l_mark_of ?c_mark_of ?k_mark_of) (Z.mkD_is_record KX G ?a_is_record ?l_is_record ?c_is_record ?k_is_record) (Z.mkD_is_state KX G ?a_is_state ?l_is_state ?c_is_state ?k_is_state) (Z.mkD_is_frame KX G ?a_is_frame ?l_is_frame ?c_is_frame ?k_is_frame) (Z.mkD_is_layout KX G ?a_is_layout ?l_is_layout ?c_is_layout ?k_is_layout) (Z.mkD_is_bits KX G ?a_is_bits ?l_is_bits ?c_is_bits ?k_is_bits) (Z.mkD_read_frame KX G ?a_read_frame ?l_read_frame ?c_read_frame ?k_read_frame) (Z.mkD_block_values KX G ?a_block_values ?l_block_values ?c_block_values ?k_block_values) (Z.mkD_placed_joints KX G ?a_placed_joints ?l_placed_joints ?c_placed_joints ?k_placed_joints) (Z.mkD_unfolded_blocks KX G ?a_unfolded_blocks ?l_unfolded_blocks ?c_unfolded_blocks ?k_unfolded_blocks) (Z.mkD_check_records KX G ?a_check_records ?l_check_records ?c_check_records ?k_check_records) (Z.mkD_read_frames KX G ?a_read_frames ?l_read_frames ?c_read_frames ?k_read_frames) ?a_index_of ?l_index_of ?c_index_of ?k_index_of ?a_needed_records ?l_needed_records ?c_needed_records ?k_needed_records ?a_read_part ?l_read_part ?c_read_part ?k_read_part (Z.mkD_sound_length KX G ?a_sound_length ?l_sound_length ?c_sound_length ?k_sound_length) (Z.mkD_reach KX G ?a_reach ?l_reach ?c_reach ?k_reach) (Z.mkD_needed_entries KX G ?a_needed_entries ?l_needed_entries ?c_needed_entries ?k_needed_entries) (Z.mkD_records_up_to KX G ?a_records_up_to ?l_records_up_to ?c_records_up_to ?k_records_up_to) (Z.mkD_entries_by_record KX G ?a_entries_by_record ?l_entries_by_record ?c_entries_by_record ?k_entries_by_record) (Z.mkD_fetched_numbers KX G ?a_fetched_numbers ?l_fetched_numbers ?c_fetched_numbers ?k_fetched_numbers) (Z.mkD_read_as_told KX G ?a_read_as_told ?l_read_as_told ?c_read_as_told ?k_read_as_told) (Z.mkD_samples_of KX G ?a_samples_of ?l_samples_of ?c_samples_of ?k_samples_of) ?a_unread_frames ?l_unread_frames ?c_unread_frames ?k_unread_frames (Z.mkD_check_lost KX G ?a_check_lost ?l_check_lost ?c_check_lost ?k_check_lost) ?a_touched ?l_touched ?c_touched ?k_touched ?a_concealed ?l_concealed ?c_concealed ?k_concealed ?a_salvaged ?l_salvaged ?c_salvaged ?k_salvaged ?a_encode ?l_encode ?c_encode ?k_encode ?n_encode_states (Z.mkD_check_plan KX G ?a_check_plan ?l_check_plan ?c_check_plan ?k_check_plan) (Z.mkD_coded_records KX G ?a_coded_records ?l_coded_records ?c_coded_records ?k_coded_records) (Z.mkD_coded_frame KX G ?a_coded_frame ?l_coded_frame ?c_coded_frame ?k_coded_frame) (Z.mkD_pool KX G ?a_pool ?l_pool ?c_pool ?k_pool) (Z.mkD_take KX G ?a_take ?l_take ?c_take ?k_take) (Z.mkD_same KX G ?a_same ?l_same ?c_same ?k_same) ?a_law ?l_law ?c_law' ?k_law ?a_BLOCK_LIMIT ?a_COUNT_LIMIT ?a_SHAPE_LIMIT ?a_WIDTH_LIMIT ?a_LEVEL_LIMIT ?a_STEP_LIMIT ?a_MARK_MODULUS ?a_HALVED_COUNT ?a_LONG_FORM ?a_MARK_FACTOR ?a_FRAME_ITEMS ?a_STATES_LIMIT ?zS ?lS ?lt0 ?lt1 ?zH ?lH ?z_sorted ?zC ?lC ?l0 ?l1 ?l2 ?l3 ?z_int ?z_bool ?z_str ?z_list ?z_tuple ?z_len ?z_abs ?z_max ?z_min ?z_range ?z_zip ?z_isinstance ?z_enumerate ?z_reversed ?x_Stream ?pg_Stream ?hd_Stream ?po_Stream ?sa_Stream ?mk_Stream ?kc_Stream ?na_Stream_held ?na_Stream_read ?at_Stream___init__ ?if_Stream___init__ ?l_Stream___init__ ?c_Stream___init__ ?k_Stream___init__ ?at_Stream_records ?gt_Stream_records ?tk_Stream_records ?rc_Stream_records ?l_Stream_records ?c_Stream_records ?k_Stream_records ?at_Stream_sound ?if_Stream_sound ?l_Stream_sound ?c_Stream_sound ?k_Stream_sound ?at_Stream_block ?if_Stream_block ?l_Stream_block ?c_Stream_block ?k_Stream_block ?at_Stream_contents ?if_Stream_contents ?l_Stream_contents ?c_Stream_contents ?k_Stream_contents ?at_Stream_part_of ?if_Stream_part_of ?l_Stream_part_of ?c_Stream_part_of ?k_Stream_part_of ?hr_tab ?ht_tab ?hn_tab
    (case a_is_integer => as_aux_lemma => k_is); (case l_is_integer => as_aux_lemma => k_is); (case c_is_integer => as_aux_lemma => k_is); (case k_is_integer => as_aux_lemma => k_is); (case a_is_within => as_aux_lemma => k_is); (case l_is_within => as_aux_lemma => k_is); (case c_is_within => as_aux_lemma => k_is); (case k_is_within => as_aux_lemma => k_is); (case a_check_integer => as_aux_lemma => k_is); (case l_check_integer => as_aux_lemma => k_is); (case c_check_integer => as_aux_lemma => k_is); (case k_check_integer => as_aux_lemma => k_is); (case a_check_within => as_aux_lemma => k_is); (case l_check_within => as_aux_lemma => k_is); (case c_check_within => as_aux_lemma => k_is); (case k_check_within => as_aux_lemma => k_is); (case a_check_stretch => as_aux_lemma => k_is); (case l_check_stretch => as_aux_lemma => k_is); (case c_check_stretch => as_aux_lemma => k_is); (case k_check_stretch => as_aux_lemma => k_is); (case a_check_items => as_aux_lemma => k_is); (case l_check_items => as_aux_lemma => k_is); (case c_check_items => as_aux_lemma => k_is); (case k_check_items => as_aux_lemma => k_is); (case a_check_sound => as_aux_lemma => k_is); (case l_check_sound => as_aux_lemma => k_is); (case c_check_sound => as_aux_lemma => k_is); (case k_check_sound => as_aux_lemma => k_is); (case a_check_block => as_aux_lemma => k_is); (case l_check_block => as_aux_lemma => k_is); (case c_check_block => as_aux_lemma => k_is); (case k_check_block => as_aux_lemma => k_is); (case a_is_joint => as_aux_lemma => k_is); (case l_is_joint => as_aux_lemma => k_is); (case c_is_joint => as_aux_lemma => k_is); (case k_is_joint => as_aux_lemma => k_is); (case a_fold_pair => as_aux_lemma => k_is); (case l_fold_pair => as_aux_lemma => k_is); (case c_fold_pair => as_aux_lemma => k_is); (case k_fold_pair => as_aux_lemma => k_is); (case a_unfold_pair => as_aux_lemma => k_is); (case l_unfold_pair => as_aux_lemma => k_is); (case c_unfold_pair => as_aux_lemma => k_is); (case k_unfold_pair => as_aux_lemma => k_is); (case a_check_pair => as_aux_lemma => k_is); (case l_check_pair => as_aux_lemma => k_is); (case c_check_pair => as_aux_lemma => k_is); (case k_check_pair => as_aux_lemma => k_is); (case a_folded => as_aux_lemma => k_is); (case l_folded => as_aux_lemma => k_is); (case c_folded => as_aux_lemma => k_is); (case k_folded => as_aux_lemma => k_is); (case a_unfolded => as_aux_lemma => k_is); (case l_unfolded => as_aux_lemma => k_is); (case c_unfolded => as_aux_lemma => k_is); (case k_unfolded => as_aux_lemma => k_is); (case a_turned => as_aux_lemma => k_is); (case l_turned => as_aux_lemma => k_is); (case c_turned => as_aux_lemma => k_is); (case k_turned => as_aux_lemma => k_is); (case a_check_joints => as_aux_lemma => k_is); (case l_check_joints => as_aux_lemma => k_is); (case c_check_joints => as_aux_lemma => k_is); (case k_check_joints => as_aux_lemma => k_is); (case a_is_placed_joint => as_aux_lemma => k_is); (case l_is_placed_joint => as_aux_lemma => k_is); (case c_is_placed_joint => as_aux_lemma => k_is); (case k_is_placed_joint => as_aux_lemma => k_is); (case a_has_room => as_aux_lemma => k_is); (case l_has_room => as_aux_lemma => k_is); (case c_has_room => as_aux_lemma => k_is); (case k_has_room => as_aux_lemma => k_is); (case a_split_levels => as_aux_lemma => k_is); (case l_split_levels => as_aux_lemma => k_is); (case c_split_levels => as_aux_lemma => k_is); (case k_split_levels => as_aux_lemma => k_is); (case a_split_once => as_aux_lemma => k_is); (case l_split_once => as_aux_lemma => k_is); (case c_split_once => as_aux_lemma => k_is); (case k_split_once => as_aux_lemma => k_is); (case a_join_levels => as_aux_lemma => k_is); (case l_join_levels => as_aux_lemma => k_is); (case c_join_levels => as_aux_lemma => k_is); (case k_join_levels => as_aux_lemma => k_is); (case a_join_once => as_aux_lemma => k_is); (case l_join_once => as_aux_lemma => k_is); (case c_join_once => as_aux_lemma => k_is); (case k_join_once => as_aux_lemma => k_is); (case a_coarse_count => as_aux_lemma => k_is); (case l_coarse_count => as_aux_lemma => k_is); (case c_coarse_count => as_aux_lemma => k_is); (case k_coarse_count => as_aux_lemma => k_is); (case a_quantized => as_aux_lemma => k_is); (case l_quantized => as_aux_lemma => k_is); (case c_quantized => as_aux_lemma => k_is); (case k_quantized => as_aux_lemma => k_is); (case a_is_table => as_aux_lemma => k_is); (case l_is_table => as_aux_lemma => k_is); (case c_is_table => as_aux_lemma => k_is); (case k_is_table => as_aux_lemma => k_is); (case a_is_tables => as_aux_lemma => k_is); (case l_is_tables => as_aux_lemma => k_is); (case c_is_tables => as_aux_lemma => k_is); (case k_is_tables => as_aux_lemma => k_is); (case a_parameter => as_aux_lemma => k_is); (case l_parameter => as_aux_lemma => k_is); (case c_parameter => as_aux_lemma => k_is); (case k_parameter => as_aux_lemma => k_is); (case a_table_behind => as_aux_lemma => k_is); (case l_table_behind => as_aux_lemma => k_is); (case c_table_behind => as_aux_lemma => k_is); (case k_table_behind => as_aux_lemma => k_is); (case a_code_number => as_aux_lemma => k_is); (case l_code_number => as_aux_lemma => k_is); (case c_code_number => as_aux_lemma => k_is); (case k_code_number => as_aux_lemma => k_is); (case a_number_with => as_aux_lemma => k_is); (case l_number_with => as_aux_lemma => k_is); (case c_number_with => as_aux_lemma => k_is); (case k_number_with => as_aux_lemma => k_is); (case a_code_bits => as_aux_lemma => k_is); (case l_code_bits => as_aux_lemma => k_is); (case c_code_bits => as_aux_lemma => k_is); (case k_code_bits => as_aux_lemma => k_is); (case a_write_numbers => as_aux_lemma => k_is); (case l_write_numbers => as_aux_lemma => k_is); (case c_write_numbers => as_aux_lemma => k_is); (case k_write_numbers => as_aux_lemma => k_is); (case a_read_numbers => as_aux_lemma => k_is); (case l_read_numbers => as_aux_lemma => k_is); (case c_read_numbers => as_aux_lemma => k_is); (case k_read_numbers => as_aux_lemma => k_is); (case a_check_coding => as_aux_lemma => k_is); (case l_check_coding => as_aux_lemma => k_is); (case c_check_coding => as_aux_lemma => k_is); (case k_check_coding => as_aux_lemma => k_is); (case a_read_code => as_aux_lemma => k_is); (case l_read_code => as_aux_lemma => k_is); (case c_read_code => as_aux_lemma => k_is); (case k_read_code => as_aux_lemma => k_is); (case a_mark_of => as_aux_lemma => k_is); (case l_mark_of => as_aux_lemma => k_is); (case c_mark_of => as_aux_lemma => k_is); (case k_mark_of => as_aux_lemma => k_is); (case a_is_record => as_aux_lemma => k_is); (case l_is_record => as_aux_lemma => k_is); (case c_is_record => as_aux_lemma => k_is); (case k_is_record => as_aux_lemma => k_is); (case a_is_state => as_aux_lemma => k_is); (case l_is_state => as_aux_lemma => k_is); (case c_is_state => as_aux_lemma => k_is); (case k_is_state => as_aux_lemma => k_is); (case a_is_frame => as_aux_lemma => k_is); (case l_is_frame => as_aux_lemma => k_is); (case c_is_frame => as_aux_lemma => k_is); (case k_is_frame => as_aux_lemma => k_is); (case a_is_layout => as_aux_lemma => k_is); (case l_is_layout => as_aux_lemma => k_is); (case c_is_layout => as_aux_lemma => k_is); (case k_is_layout => as_aux_lemma => k_is); (case a_is_bits => as_aux_lemma => k_is); (case l_is_bits => as_aux_lemma => k_is); (case c_is_bits => as_aux_lemma => k_is); (case k_is_bits => as_aux_lemma => k_is); (case a_read_frame => as_aux_lemma => k_is); (case l_read_frame => as_aux_lemma => k_is); (case c_read_frame => as_aux_lemma => k_is); (case k_read_frame => as_aux_lemma => k_is); (case a_block_values => as_aux_lemma => k_is); (case l_block_values => as_aux_lemma => k_is); (case c_block_values => as_aux_lemma => k_is); (case k_block_values => as_aux_lemma => k_is); (case a_placed_joints => as_aux_lemma => k_is); (case l_placed_joints => as_aux_lemma => k_is); (case c_placed_joints => as_aux_lemma => k_is); (case k_placed_joints => as_aux_lemma => k_is); (case a_unfolded_blocks => as_aux_lemma => k_is); (case l_unfolded_blocks => as_aux_lemma => k_is); (case c_unfolded_blocks => as_aux_lemma => k_is); (case k_unfolded_blocks => as_aux_lemma => k_is); (case a_check_records => as_aux_lemma => k_is); (case l_check_records => as_aux_lemma => k_is); (case c_check_records => as_aux_lemma => k_is); (case k_check_records => as_aux_lemma => k_is); (case a_read_frames => as_aux_lemma => k_is); (case l_read_frames => as_aux_lemma => k_is); (case c_read_frames => as_aux_lemma => k_is); (case k_read_frames => as_aux_lemma => k_is); (case a_index_of => as_aux_lemma => k_is); (case l_index_of => as_aux_lemma => k_is); (case c_index_of => as_aux_lemma => k_is); (case k_index_of => as_aux_lemma => k_is); (case a_needed_records => as_aux_lemma => k_is); (case l_needed_records => as_aux_lemma => k_is); (case c_needed_records => as_aux_lemma => k_is); (case k_needed_records => as_aux_lemma => k_is); (case a_read_part => as_aux_lemma => k_is); (case l_read_part => as_aux_lemma => k_is); (case c_read_part => as_aux_lemma => k_is); (case k_read_part => as_aux_lemma => k_is); (case a_sound_length => as_aux_lemma => k_is); (case l_sound_length => as_aux_lemma => k_is); (case c_sound_length => as_aux_lemma => k_is); (case k_sound_length => as_aux_lemma => k_is); (case a_reach => as_aux_lemma => k_is); (case l_reach => as_aux_lemma => k_is); (case c_reach => as_aux_lemma => k_is); (case k_reach => as_aux_lemma => k_is); (case a_needed_entries => as_aux_lemma => k_is); (case l_needed_entries => as_aux_lemma => k_is); (case c_needed_entries => as_aux_lemma => k_is); (case k_needed_entries => as_aux_lemma => k_is); (case a_records_up_to => as_aux_lemma => k_is); (case l_records_up_to => as_aux_lemma => k_is); (case c_records_up_to => as_aux_lemma => k_is); (case k_records_up_to => as_aux_lemma => k_is); (case a_entries_by_record => as_aux_lemma => k_is); (case l_entries_by_record => as_aux_lemma => k_is); (case c_entries_by_record => as_aux_lemma => k_is); (case k_entries_by_record => as_aux_lemma => k_is); (case a_fetched_numbers => as_aux_lemma => k_is); (case l_fetched_numbers => as_aux_lemma => k_is); (case c_fetched_numbers => as_aux_lemma => k_is); (case k_fetched_numbers => as_aux_lemma => k_is); (case a_read_as_told => as_aux_lemma => k_is); (case l_read_as_told => as_aux_lemma => k_is); (case c_read_as_told => as_aux_lemma => k_is); (case k_read_as_told => as_aux_lemma => k_is); (case a_samples_of => as_aux_lemma => k_is); (case l_samples_of => as_aux_lemma => k_is); (case c_samples_of => as_aux_lemma => k_is); (case k_samples_of => as_aux_lemma => k_is); (case a_unread_frames => as_aux_lemma => k_is); (case l_unread_frames => as_aux_lemma => k_is); (case c_unread_frames => as_aux_lemma => k_is); (case k_unread_frames => as_aux_lemma => k_is); (case a_check_lost => as_aux_lemma => k_is); (case l_check_lost => as_aux_lemma => k_is); (case c_check_lost => as_aux_lemma => k_is); (case k_check_lost => as_aux_lemma => k_is); (case a_touched => as_aux_lemma => k_is); (case l_touched => as_aux_lemma => k_is); (case c_touched => as_aux_lemma => k_is); (case k_touched => as_aux_lemma => k_is); (case a_concealed => as_aux_lemma => k_is); (case l_concealed => as_aux_lemma => k_is); (case c_concealed => as_aux_lemma => k_is); (case k_concealed => as_aux_lemma => k_is); (case a_salvaged => as_aux_lemma => k_is); (case l_salvaged => as_aux_lemma => k_is); (case c_salvaged => as_aux_lemma => k_is); (case k_salvaged => as_aux_lemma => k_is); (case a_encode => as_aux_lemma => k_is); (case l_encode => as_aux_lemma => k_is); (case c_encode => as_aux_lemma => k_is); (case k_encode => as_aux_lemma => k_is); (case n_encode_states => as_aux_lemma => k_is); (case a_check_plan => as_aux_lemma => k_is); (case l_check_plan => as_aux_lemma => k_is); (case c_check_plan => as_aux_lemma => k_is); (case k_check_plan => as_aux_lemma => k_is); (case a_coded_records => as_aux_lemma => k_is); (case l_coded_records => as_aux_lemma => k_is); (case c_coded_records => as_aux_lemma => k_is); (case k_coded_records => as_aux_lemma => k_is); (case a_coded_frame => as_aux_lemma => k_is); (case l_coded_frame => as_aux_lemma => k_is); (case c_coded_frame => as_aux_lemma => k_is); (case k_coded_frame => as_aux_lemma => k_is); (case a_pool => as_aux_lemma => k_is); (case l_pool => as_aux_lemma => k_is); (case c_pool => as_aux_lemma => k_is); (case k_pool => as_aux_lemma => k_is); (case a_take => as_aux_lemma => k_is); (case l_take => as_aux_lemma => k_is); (case c_take => as_aux_lemma => k_is); (case k_take => as_aux_lemma => k_is); (case a_same => as_aux_lemma => k_is); (case l_same => as_aux_lemma => k_is); (case c_same => as_aux_lemma => k_is); (case k_same => as_aux_lemma => k_is); (case a_law => as_aux_lemma => k_is); (case l_law => as_aux_lemma => k_is); (case c_law' => as_aux_lemma => k_is); (case k_law => as_aux_lemma => k_is); (case a_BLOCK_LIMIT => as_aux_lemma => k_is); (case a_COUNT_LIMIT => as_aux_lemma => k_is); (case a_SHAPE_LIMIT => as_aux_lemma => k_is); (case a_WIDTH_LIMIT => as_aux_lemma => k_is); (case a_LEVEL_LIMIT => as_aux_lemma => k_is); (case a_STEP_LIMIT => as_aux_lemma => k_is); (case a_MARK_MODULUS => as_aux_lemma => k_is); (case a_HALVED_COUNT => as_aux_lemma => k_is); (case a_LONG_FORM => as_aux_lemma => k_is); (case a_MARK_FACTOR => as_aux_lemma => k_is); (case a_FRAME_ITEMS => as_aux_lemma => k_is); (case a_STATES_LIMIT => as_aux_lemma => k_is); (case zS => as_aux_lemma => k_is); (case lS => as_aux_lemma => k_is); (case lt0 => as_aux_lemma => k_is); (case lt1 => as_aux_lemma => k_is); (case zH => as_aux_lemma => k_is); (case lH => as_aux_lemma => k_is); (case z_sorted => as_aux_lemma => k_is); (case zC => as_aux_lemma => k_is); (case lC => as_aux_lemma => k_is); (case l0 => as_aux_lemma => k_is); (case l1 => as_aux_lemma => k_is); (case l2 => as_aux_lemma => k_is); (case l3 => as_aux_lemma => k_is); (case z_int => as_aux_lemma => k_is); (case z_bool => as_aux_lemma => k_is); (case z_str => as_aux_lemma => k_is); (case z_list => as_aux_lemma => k_is); (case z_tuple => as_aux_lemma => k_is); (case z_len => as_aux_lemma => k_is); (case z_abs => as_aux_lemma => k_is); (case z_max => as_aux_lemma => k_is); (case z_min => as_aux_lemma => k_is); (case z_range => as_aux_lemma => k_is); (case z_zip => as_aux_lemma => k_is); (case z_isinstance => as_aux_lemma => k_is); (case z_enumerate => as_aux_lemma => k_is); (case z_reversed => as_aux_lemma => k_is); (case x_Stream => as_aux_lemma => k_is); (case pg_Stream => as_aux_lemma => k_is); (case hd_Stream => as_aux_lemma => k_is); (case po_Stream => as_aux_lemma => k_is); (case sa_Stream => as_aux_lemma => k_is); (case mk_Stream => as_aux_lemma => k_is); (case kc_Stream => as_aux_lemma => k_is); (case na_Stream_held => as_aux_lemma => k_is); (case na_Stream_read => as_aux_lemma => k_is); (case at_Stream___init__ => as_aux_lemma => k_is); (case if_Stream___init__ => as_aux_lemma => k_is); (case l_Stream___init__ => as_aux_lemma => k_is); (case c_Stream___init__ => as_aux_lemma => k_is); (case k_Stream___init__ => as_aux_lemma => k_is); (case at_Stream_records => as_aux_lemma => k_is); (case gt_Stream_records => as_aux_lemma => k_is); (case tk_Stream_records => as_aux_lemma => k_is); (case rc_Stream_records => as_aux_lemma => k_is); (case l_Stream_records => as_aux_lemma => k_is); (case c_Stream_records => as_aux_lemma => k_is); (case k_Stream_records => as_aux_lemma => k_is); (case at_Stream_sound => as_aux_lemma => k_is); (case if_Stream_sound => as_aux_lemma => k_is); (case l_Stream_sound => as_aux_lemma => k_is); (case c_Stream_sound => as_aux_lemma => k_is); (case k_Stream_sound => as_aux_lemma => k_is); (case at_Stream_block => as_aux_lemma => k_is); (case if_Stream_block => as_aux_lemma => k_is); (case l_Stream_block => as_aux_lemma => k_is); (case c_Stream_block => as_aux_lemma => k_is); (case k_Stream_block => as_aux_lemma => k_is); (case at_Stream_contents => as_aux_lemma => k_is); (case if_Stream_contents => as_aux_lemma => k_is); (case l_Stream_contents => as_aux_lemma => k_is); (case c_Stream_contents => as_aux_lemma => k_is); (case k_Stream_contents => as_aux_lemma => k_is); (case at_Stream_part_of => as_aux_lemma => k_is); (case if_Stream_part_of => as_aux_lemma => k_is); (case l_Stream_part_of => as_aux_lemma => k_is); (case c_Stream_part_of => as_aux_lemma => k_is); (case k_Stream_part_of => as_aux_lemma => k_is); (case hr_tab => rfl); (case ht_tab => as_aux_lemma => kernel_rfl); (case hn_tab => as_aux_lemma => kernel_rfl)
