import PyProof.Rows.All
import Wide.All
import OpenK.AllK
import Wide.FinOn
import HandS.ForExc
import HandS.ForMost
import HandS.IsInst
import HandS.Style
import HandS.Zip
import HandS.RevRange
import HandS.Lambda
import HandS.TryOnly
import HandS.TryMany
import HandS.ExcOwn
import HandS.ExcInit
import HandS.ExcField
import HandS.ExcIs
import HandS.EndTab
import HandS.CallLocal
import KE.KExcIs
import KE.KNestM
import KE.IntBitsLaws
import HandS.WideBits
import KE.GoesEnum
import KE.GoesMore
import HandS.Codes
import HandS.Conv
import HandS.IntHex
import PyProof.FString3
import PyProof.StrOps2
import KE.IntText
import HandS.StrMore
import HandS.FStr
import PySem.Challenge.RW_framejoins_k17_whole_bits_that_are_none
set_option Elab.async false
set_option linter.all false
set_option maxRecDepth 100000
set_option maxHeartbeats 4000000
section
open PySem PySem.W PyProof.Rows
set_option maxHeartbeats 0 in
open_top headTop for PySem.Challenge.rw_framejoins_k17_whole_bits_that_are_none
end
namespace Z
def Lt1 (P : Prop) : Prop := P
theorem lt_eq {P : Prop} (h : P) : Lt1 P = True := eq_true h
theorem lt_out {P : Prop} (h : Lt1 P) : P := h
open PySem PySem.Spec PyProof.Rows L2
def rLen (K : PySem.W.Frag) : List V → Hp → VK → Prop := fun xs H Q => ∃ x n, xs = [x] ∧ LenV K x H n ∧ Q (.int n) H
def rAbs : List V → Hp → VK → Prop := fun xs H Q => ∃ i, xs = [.int i] ∧ Q (.int (if i < 0 then -i else i)) H
def rMax2 : List V → Hp → VK → Prop := fun xs H Q => ∃ i j, xs = [.int i, .int j] ∧ Q (.int (if j > i then j else i)) H
def rMin2 : List V → Hp → VK → Prop := fun xs H Q => ∃ i j, xs = [.int i, .int j] ∧ Q (.int (if j < i then j else i)) H
def rToInt : List V → Hp → VK → Prop := fun xs H Q => (∃ i, xs = [.int i] ∧ Q (.int i) H) ∨ ∃ k, xs = [.bl k] ∧ Q (.int (if k then 1 else 0)) H
def rToList (K : PySem.W.Frag) : List V → Hp → VK → Prop := fun xs H Q => ∃ p ys, xs = [.ref p] ∧ (SqL K H p ys ∨ SqT K H p ys) ∧ ∀ l, H l = none → Q (.ref l) (upd H l (.lst ys))
section
variable {X : Cx}
theorem cLen : CallR X (.builtin "len") (rLen X.K) := call_len
theorem cAbs : CallR X (.builtin "abs") rAbs := call_abs
theorem cMax (hc : X.calm = true) : CallR X (.builtin "max") rMax2 := call_max2 hc
theorem cMin (hc : X.calm = true) : CallR X (.builtin "min") rMin2 := call_min2 hc
theorem cInt : CallR X (.type "int") rToInt := call_int1
theorem cList : CallR X (.type "list") (rToList X.K) := call_list_of
end
/-- the values by position and by keyword, put in the parameters' order -/
def kg {α : Type} (m n : Nat) (idx : List Nat) (us ws : List α) : List α := if us.length = m ∧ ws.length = n then idx.filterMap (fun i => (us ++ ws)[i]?) else []
theorem len2 {α : Type} : ∀ {l : List α}, l.length = 2 → ∃ a b, l = [a, b]
  | [a, b], _ => ⟨a, b, rfl⟩
section
variable {X : Cx} {K : PySem.W.Frag} {σ : L2.St} {H : Hp} {Q : VK} {n : L2.St → Hp → Prop} {r : VK} {b c : L2.St → Hp → Prop} {ta tb tc te : TE} {tA tB1 : TT} {t u : TS} {v : V}
theorem rd_seq (h : t ⟨u ⟨n, r, b, c⟩, r, b, c⟩ σ H) : tSeq t u ⟨n, r, b, c⟩ σ H := h
theorem rd_start {D : Ends} {σ σ' : L2.St} (e : σ' = σ) (h : t D σ H) : t D σ' H := e ▸ h
theorem rd_next (h : n σ H) : tNext ⟨n, r, b, c⟩ σ H := h
theorem rd_asg {g : TG} (h : te σ H fun x H1 => g x σ H1 n) : tAsg te g ⟨n, r, b, c⟩ σ H := h
theorem rd_gname {i : Nat} {Q : L2.St → Hp → Prop} (h : Q (σ.set i (some v)) H) : gName i v σ H Q := h
theorem rd_gsub {to ti : TE} {s : TSet} {Q : L2.St → Hp → Prop} (h : to σ H fun o H1 => ti σ H1 fun i H2 => s o i v H2 fun H3 => Q σ H3) : gSub to ti s v σ H Q := h
theorem rd_ret (h : te σ H r) : tRet te ⟨n, r, b, c⟩ σ H := h
theorem rd_retn (h : r .non H) : tRetN ⟨n, r, b, c⟩ σ H := h
theorem rd_ifs (h : tA σ H fun d H1 => if d = true then t ⟨n, r, b, c⟩ σ H1 else u ⟨n, r, b, c⟩ σ H1) : tIfS tA t u ⟨n, r, b, c⟩ σ H := h
theorem rd_drop (h : te σ H fun _ H1 => n σ H1) : tDrop te ⟨n, r, b, c⟩ σ H := h
theorem rd_par {i j : Nat} {ts : TA} (h : ts σ H fun vs H1 => ∃ v w, vs = [v, w] ∧ n ((σ.set i (some v)).set j (some w)) H1) : tPar i j ts ⟨n, r, b, c⟩ σ H := h
theorem rd_par3 {i j l : Nat} {ts : TA} (h : ts σ H fun vs H1 => ∃ u v w, vs = [u, v, w] ∧ n (((σ.set i (some u)).set j (some v)).set l (some w)) H1) : tPar3 i j l ts ⟨n, r, b, c⟩ σ H := h
theorem rd_two {v w : V} {P : V → V → Prop} (h : P v w) : ∃ a b, [v, w] = [a, b] ∧ P a b := ⟨v, w, rfl, h⟩
theorem rd_three {u v w : V} {P : V → V → V → Prop} (h : P u v w) : ∃ a b c, [u, v, w] = [a, b, c] ∧ P a b c := ⟨u, v, w, rfl, h⟩
theorem rd_var {i : Nat} (e : σ[i]? = some (some v)) (h : Q v H) : tVar i σ H Q := ⟨v, e, h⟩
theorem rd_c (h : Q v H) : tC v σ H Q := h
theorem rd_op {o : R2} (h : ta σ H fun x H1 => tb σ H1 fun y H2 => o x y H2 Q) : tOp o ta tb σ H Q := h
theorem rd_un {o : V → Hp → VK → Prop} (h : ta σ H fun x H1 => o x H1 Q) : tUn o ta σ H Q := h
theorem rd_i0 {g : Int → Int → V} {i j : Int} (h : Q (g i j) H) : rI0 g (.int i) (.int j) H Q := ⟨i, j, rfl, rfl, h⟩
theorem rd_i {C : Int → Int → Prop} {g : Int → Int → V} {i j : Int} (hC : C i j) (h : Q (g i j) H) : rI C g (.int i) (.int j) H Q := ⟨i, j, rfl, rfl, hC, h⟩
theorem rd_u {g : Int → V} {i : Int} (h : Q (g i) H) : rU g (.int i) H Q := ⟨i, rfl, h⟩
theorem rd_eq {x y : V} (e : scal x y = true) (h : Q (.bl (decide (x = y))) H) : rEq x y H Q := ⟨e, h⟩
theorem rd_ne {x y : V} (e : scal x y = true) (h : Q (.bl (!decide (x = y))) H) : rNe x y H Q := ⟨e, h⟩
theorem rd_test {q : Bool → Hp → Prop} (h : te σ H fun x H' => ∃ k, x = .bl k ∧ q k H') : tTest te σ H q := h
theorem rd_b {q : Bool → Hp → Prop} (h : te σ H fun x H' => ∃ k, x = .bl k ∧ q k H') : tB te σ H q := h
theorem rd_bl {k : Bool} {P : Bool → Prop} (h : P k) : ∃ d, V.bl k = .bl d ∧ P d := ⟨k, rfl, h⟩
theorem rd_not {q : Bool → Hp → Prop} (h : tA σ H fun d H1 => q (!d) H1) : tNot tA σ H q := h
theorem rd_and {q : Bool → Hp → Prop} (h : tA σ H fun d H1 => if d = true then tB1 σ H1 q else q false H1) : tAnd tA tB1 σ H q := h
theorem rd_or {q : Bool → Hp → Prop} (h : tA σ H fun d H1 => if d = true then q true H1 else tB1 σ H1 q) : tOr tA tB1 σ H q := h
theorem rd_andV (h : ta σ H fun x H1 => ∃ c, x = .bl c ∧ if c = true then tb σ H1 Q else Q (.bl false) H1) : tAndV ta tb σ H Q := h
theorem rd_orV (h : ta σ H fun x H1 => ∃ c, x = .bl c ∧ if c = true then Q (.bl true) H1 else tb σ H1 Q) : tOrV ta tb σ H Q := h
theorem rd_notV (h : ta σ H fun x H1 => ∃ c, x = .bl c ∧ Q (.bl (!c)) H1) : tNotV ta σ H Q := h
theorem rd_if (h : tA σ H fun d H1 => if d = true then ta σ H1 Q else tb σ H1 Q) : tIf tA ta tb σ H Q := h
theorem rd_chain {o o' : R2} (h : ta σ H fun x H1 => tb σ H1 fun y H2 => o x y H2 fun z H3 => ∃ k, z = .bl k ∧ if k = true then tc σ H3 fun w' H4 => o' y w' H4 Q else Q (.bl false) H3) : tChain o o' ta tb tc σ H Q := h
theorem rd_call {sp : Sp} {dvs : List V} {E : XK} {ts : TA} (h : ts σ H fun vs H1 => sp (vs ++ dvs) H1 Q E) : tCall sp dvs E ts σ H Q := h
theorem rd_callK {sp : Sp} {gV : List V → List V → List V} {E : XK} {ts tk : TA} (h : ts σ H fun vs H1 => tk σ H1 fun zs H2 => sp (gV vs zs) H2 Q E) : tCallK sp gV E ts tk σ H Q := h
theorem rd_cb {rr : List V → Hp → VK → Prop} {ts : TA} (h : ts σ H fun vs H1 => rr vs H1 Q) : tCB rr ts σ H Q := h
theorem rd_cons {tr : TA} {q : List V → Hp → Prop} (h : te σ H fun x H1 => tr σ H1 fun xs H2 => q (x :: xs) H2) : tCons te tr σ H q := h
theorem rd_nil {q : List V → Hp → Prop} (h : q [] H) : tNil σ H q := h
theorem rd_tup {ts : TA} (h : ts σ H fun xs H1 => xs.length ≤ sizeLine ∧ ∀ p, H1 p = none → Q (.ref p) (upd H1 p (.tup xs))) : tTup ts σ H Q := h
theorem rd_lst {ts : TA} (h : ts σ H fun xs H1 => xs.length ≤ sizeLine ∧ ∀ p, H1 p = none → Q (.ref p) (upd H1 p (.lst xs))) : tLst ts σ H Q := h
theorem rd_int {i : Int} (h : Q (.int i) H) : rToInt [.int i] H Q := .inl ⟨i, rfl, h⟩
theorem rd_intb {k : Bool} (h : Q (.int (if k then 1 else 0)) H) : rToInt [.bl k] H Q := .inr ⟨k, rfl, h⟩
theorem rd_abs {i : Int} (h : Q (.int (if i < 0 then -i else i)) H) : rAbs [.int i] H Q := ⟨i, rfl, h⟩
theorem rd_max {i j : Int} (h : Q (.int (if j > i then j else i)) H) : rMax2 [.int i, .int j] H Q := ⟨i, j, rfl, h⟩
theorem rd_min {i j : Int} (h : Q (.int (if j < i then j else i)) H) : rMin2 [.int i, .int j] H Q := ⟨i, j, rfl, h⟩
theorem rd_lenL {p : Addr} {xs : List V} (e : SqL K H p xs) (h : Q (.int xs.length) H) : rLen K [.ref p] H Q := ⟨.ref p, xs.length, rfl, .inl ⟨xs, e, rfl⟩, h⟩
theorem rd_lenT {p : Addr} {xs : List V} (e : SqT K H p xs) (h : Q (.int xs.length) H) : rLen K [.ref p] H Q := ⟨.ref p, xs.length, rfl, .inr ⟨xs, e, rfl⟩, h⟩
theorem rd_ixL {p : Addr} {xs : List V} {i : Int} {v : V} (e : SqL K H p xs) (a : atI xs i = some v) (h : Q v H) : rIxL K (.ref p) (.int i) H Q := ⟨p, xs, i, v, rfl, rfl, e, a, h⟩
theorem rd_ixT {p : Addr} {xs : List V} {i : Int} {v : V} (e : SqT K H p xs) (a : atI xs i = some v) (h : Q v H) : rIxT K (.ref p) (.int i) H Q := ⟨p, xs, i, v, rfl, rfl, e, a, h⟩
theorem rd_setL {p : Addr} {xs : List V} {i : Int} {j : Nat} {v : V} {q : Hp → Prop} (e : H p = some (.lst xs)) (a : ixN xs.length i = some j) (h : q (upd H p (.lst (xs.set j v)))) : rSetL (.ref p) (.int i) v H q := ⟨p, xs, i, j, rfl, rfl, e, a, h⟩
theorem rd_listL {p : Addr} {xs : List V} (e : SqL K H p xs) (h : ∀ l, H l = none → Q (.ref l) (upd H l (.lst xs))) : rToList K [.ref p] H Q := ⟨p, xs, rfl, .inl e, h⟩
theorem rd_iteD {p : Prop} [Decidable p] {A B : Prop} (h1 : p → A) (h2 : ¬ p → B) : if decide p = true then A else B := by
  by_cases h : p
  · rw [if_pos (decide_eq_true h)]; exact h1 h
  · rw [decide_eq_false h, if_neg Bool.false_ne_true]; exact h2 h
theorem rd_iteN {p : Prop} [Decidable p] {A B : Prop} (h1 : ¬ p → A) (h2 : p → B) : if (!decide p) = true then A else B := by
  by_cases h : p
  · rw [decide_eq_true h]; exact iteF (h2 h)
  · rw [decide_eq_false h]; exact iteT (h1 h)
theorem iteNT {A B : Prop} (h : B) : if (!true) = true then A else B := iteF h
theorem iteNF {A B : Prop} (h : A) : if (!false) = true then A else B := iteT h
theorem rd_isi {x c : V} {t' u' : Value} {d : Bool} (k : ClsV c u') (ty : TyX K H x t') (e : PySem.W.kitOne K t' u' = some d) (h : Q (.bl d) H) : rIsi K [x, c] H Q := ⟨x, c, t', u', d, rfl, k, ty, e, h⟩
theorem isi_int_int {i : Int} (h : Q (.bl true) H) : rIsi K [.int i, .ty "int"] H Q := rd_isi (.ty "int") (.base (.int i)) (kit_ty (by decide +kernel)) h
theorem isi_int_bool {i : Int} (h : Q (.bl false) H) : rIsi K [.int i, .ty "bool"] H Q := rd_isi (.ty "bool") (.base (.int i)) (kit_ty (by decide +kernel)) h
theorem isi_int_str {i : Int} (h : Q (.bl false) H) : rIsi K [.int i, .ty "str"] H Q := rd_isi (.ty "str") (.base (.int i)) (kit_ty (by decide +kernel)) h
theorem isi_int_list {i : Int} (h : Q (.bl false) H) : rIsi K [.int i, .ty "list"] H Q := rd_isi (.ty "list") (.base (.int i)) (kit_ty (by decide +kernel)) h
theorem isi_int_tuple {i : Int} (h : Q (.bl false) H) : rIsi K [.int i, .ty "tuple"] H Q := rd_isi (.ty "tuple") (.base (.int i)) (kit_ty (by decide +kernel)) h
theorem isi_bl_int {i : Bool} (h : Q (.bl true) H) : rIsi K [.bl i, .ty "int"] H Q := rd_isi (.ty "int") (.base (.bl i)) (kit_ty (by decide +kernel)) h
theorem isi_bl_bool {i : Bool} (h : Q (.bl true) H) : rIsi K [.bl i, .ty "bool"] H Q := rd_isi (.ty "bool") (.base (.bl i)) (kit_ty (by decide +kernel)) h
theorem isi_bl_str {i : Bool} (h : Q (.bl false) H) : rIsi K [.bl i, .ty "str"] H Q := rd_isi (.ty "str") (.base (.bl i)) (kit_ty (by decide +kernel)) h
theorem isi_bl_list {i : Bool} (h : Q (.bl false) H) : rIsi K [.bl i, .ty "list"] H Q := rd_isi (.ty "list") (.base (.bl i)) (kit_ty (by decide +kernel)) h
theorem isi_bl_tuple {i : Bool} (h : Q (.bl false) H) : rIsi K [.bl i, .ty "tuple"] H Q := rd_isi (.ty "tuple") (.base (.bl i)) (kit_ty (by decide +kernel)) h
theorem isi_non_int  (h : Q (.bl false) H) : rIsi K [.non, .ty "int"] H Q := rd_isi (.ty "int") (.base .non) (kit_ty (by decide +kernel)) h
theorem isi_non_bool  (h : Q (.bl false) H) : rIsi K [.non, .ty "bool"] H Q := rd_isi (.ty "bool") (.base .non) (kit_ty (by decide +kernel)) h
theorem isi_non_str  (h : Q (.bl false) H) : rIsi K [.non, .ty "str"] H Q := rd_isi (.ty "str") (.base .non) (kit_ty (by decide +kernel)) h
theorem isi_non_list  (h : Q (.bl false) H) : rIsi K [.non, .ty "list"] H Q := rd_isi (.ty "list") (.base .non) (kit_ty (by decide +kernel)) h
theorem isi_non_tuple  (h : Q (.bl false) H) : rIsi K [.non, .ty "tuple"] H Q := rd_isi (.ty "tuple") (.base .non) (kit_ty (by decide +kernel)) h
theorem isi_str_int {z : Str} (h : Q (.bl false) H) : rIsi K [.str z, .ty "int"] H Q := rd_isi (.ty "int") (.base (.str z)) (kit_ty (by decide +kernel)) h
theorem isi_str_bool {z : Str} (h : Q (.bl false) H) : rIsi K [.str z, .ty "bool"] H Q := rd_isi (.ty "bool") (.base (.str z)) (kit_ty (by decide +kernel)) h
theorem isi_str_str {z : Str} (h : Q (.bl true) H) : rIsi K [.str z, .ty "str"] H Q := rd_isi (.ty "str") (.base (.str z)) (kit_ty (by decide +kernel)) h
theorem isi_str_list {z : Str} (h : Q (.bl false) H) : rIsi K [.str z, .ty "list"] H Q := rd_isi (.ty "list") (.base (.str z)) (kit_ty (by decide +kernel)) h
theorem isi_str_tuple {z : Str} (h : Q (.bl false) H) : rIsi K [.str z, .ty "tuple"] H Q := rd_isi (.ty "tuple") (.base (.str z)) (kit_ty (by decide +kernel)) h
theorem isi_lst_int {p : Addr} {xs : List V} (hp : H p = some (.lst xs)) (h : Q (.bl false) H) : rIsi K [.ref p, .ty "int"] H Q := rd_isi (.ty "int") (.base (.lst hp)) (kit_ty (by decide +kernel)) h
theorem isi_lst_bool {p : Addr} {xs : List V} (hp : H p = some (.lst xs)) (h : Q (.bl false) H) : rIsi K [.ref p, .ty "bool"] H Q := rd_isi (.ty "bool") (.base (.lst hp)) (kit_ty (by decide +kernel)) h
theorem isi_lst_str {p : Addr} {xs : List V} (hp : H p = some (.lst xs)) (h : Q (.bl false) H) : rIsi K [.ref p, .ty "str"] H Q := rd_isi (.ty "str") (.base (.lst hp)) (kit_ty (by decide +kernel)) h
theorem isi_lst_list {p : Addr} {xs : List V} (hp : H p = some (.lst xs)) (h : Q (.bl true) H) : rIsi K [.ref p, .ty "list"] H Q := rd_isi (.ty "list") (.base (.lst hp)) (kit_ty (by decide +kernel)) h
theorem isi_lst_tuple {p : Addr} {xs : List V} (hp : H p = some (.lst xs)) (h : Q (.bl false) H) : rIsi K [.ref p, .ty "tuple"] H Q := rd_isi (.ty "tuple") (.base (.lst hp)) (kit_ty (by decide +kernel)) h
theorem isi_tup_int {p : Addr} {xs : List V} (hp : H p = some (.tup xs)) (h : Q (.bl false) H) : rIsi K [.ref p, .ty "int"] H Q := rd_isi (.ty "int") (.base (.tup hp)) (kit_ty (by decide +kernel)) h
theorem isi_tup_bool {p : Addr} {xs : List V} (hp : H p = some (.tup xs)) (h : Q (.bl false) H) : rIsi K [.ref p, .ty "bool"] H Q := rd_isi (.ty "bool") (.base (.tup hp)) (kit_ty (by decide +kernel)) h
theorem isi_tup_str {p : Addr} {xs : List V} (hp : H p = some (.tup xs)) (h : Q (.bl false) H) : rIsi K [.ref p, .ty "str"] H Q := rd_isi (.ty "str") (.base (.tup hp)) (kit_ty (by decide +kernel)) h
theorem isi_tup_list {p : Addr} {xs : List V} (hp : H p = some (.tup xs)) (h : Q (.bl false) H) : rIsi K [.ref p, .ty "list"] H Q := rd_isi (.ty "list") (.base (.tup hp)) (kit_ty (by decide +kernel)) h
theorem isi_tup_tuple {p : Addr} {xs : List V} (hp : H p = some (.tup xs)) (h : Q (.bl true) H) : rIsi K [.ref p, .ty "tuple"] H Q := rd_isi (.ty "tuple") (.base (.tup hp)) (kit_ty (by decide +kernel)) h
theorem rd_for1 {ts : TA} {g : TG} {tb' : TS} {D : Ends} (h : ts σ H fun vs H1 => ∃ j : Int, vs = [.int j] ∧ -(2 ^ 62) ≤ j ∧ j < 2 ^ 62 ∧ (∃ W : Nat → Nat → L2.St → Hp → Prop, (∃ m, W 0 m σ H1) ∧ ∀ i m σ H, W i m σ H →
      ((Itr 0 j.toNat).stop i H ∧ D.nx σ H) ∨ ((Itr 0 j.toNat).go i H ∧ ∃ N : L2.St → Hp → Prop, (∀ σ' H', N σ' H' → ∃ m', m' < m ∧ W (i + 1) m' σ' H') ∧ ∀ x H', (Itr 0 j.toNat).yld i H x H' → g x σ H' fun σ2 H2 => tb' { D with nx := N, ct := N, bk := D.nx } σ2 H2))) : tFor (iRng1 ts) g tb' D σ H := h
theorem rd_all {n m : Nat} {P : Addr → Prop} (h1 : n ≤ m) (h : ∀ p, H p = none → P p) : n ≤ m ∧ ∀ p, H p = none → P p := ⟨h1, h⟩
theorem rd_ixP {p : Addr} {xs : List V} {i : Int} (Pm : V → Prop) (e : SqL K H p xs) (h0 : 0 ≤ i) (h1 : i < xs.length) (hP : ∀ v ∈ xs, Pm v) (h : ∀ v, Pm v → Q v H) : rIxL K (.ref p) (.int i) H Q := by
  obtain ⟨j, rfl⟩ : ∃ j : Nat, i = (j : Int) := ⟨i.toNat, by omega⟩
  have hj : j < xs.length := by omega
  have g : xs[j]? = some xs[j] := List.getElem?_eq_getElem hj
  exact ⟨p, xs, (j : Int), xs[j], rfl, rfl, e, atI_nat g, h _ (hP _ (List.getElem_mem hj))⟩
theorem rd_gtup {a : Addr} {xs : List V} {k : Nat} {ts : TGs} {q : L2.St → Hp → Prop} (e : SqT K H a xs) (l : xs.length = k) (h : ts xs σ H q) : gTup K k ts (.ref a) σ H q := ⟨a, xs, rfl, e, l, h⟩
theorem rd_gcons {g : TG} {ts : TGs} {v : V} {vs : List V} {q : L2.St → Hp → Prop} (h : g v σ H fun σ' H' => ts vs σ' H' q) : gCons g ts (v :: vs) σ H q := ⟨v, vs, rfl, h⟩
theorem rd_gnil {q : L2.St → Hp → Prop} (h : q σ H) : gNil [] σ H q := ⟨rfl, h⟩
def LpW (J : It) (g : TG) (tb : TS) (D : Ends) (σ : L2.St) (H1 : Hp) : Prop := ∃ W : Nat → Nat → L2.St → Hp → Prop, (∃ m, W 0 m σ H1) ∧ ∀ i m σ H, W i m σ H →
      (J.stop i H ∧ D.nx σ H) ∨ (J.go i H ∧ ∃ N : L2.St → Hp → Prop, (∀ σ' H', N σ' H' → ∃ m', m' < m ∧ W (i + 1) m' σ' H') ∧ ∀ x H', J.yld i H x H' → g x σ H' fun σ2 H2 => tb { D with nx := N, ct := N, bk := D.nx } σ2 H2)
theorem rd_forT {g : TG} {tb' : TS} {D : Ends} (h : te σ H fun x H1 => ∃ a, x = .ref a ∧ (∃ xs, SqT K H1 a xs) ∧ LpW (Itt K a) g tb' D σ H1) : tFor (iTup K te) g tb' D σ H := h
theorem rd_forL {g : TG} {tb' : TS} {D : Ends} (h : te σ H fun x H1 => ∃ a, x = .ref a ∧ (∃ xs, SqL K H1 a xs) ∧ LpW (Itl K a) g tb' D σ H1) : tFor (iList K te) g tb' D σ H := h
theorem rd_for2 {ts : TA} {g : TG} {tb' : TS} {D : Ends} (h : ts σ H fun vs H1 => ∃ i j : Int, vs = [.int i, .int j] ∧ (-(2 ^ 62) ≤ i ∧ i < 2 ^ 62 ∧ -(2 ^ 62) ≤ j ∧ j < 2 ^ 62) ∧ LpW (Itr i (j - i).toNat) g tb' D σ H1) : tFor (iRng2 ts) g tb' D σ H := h
theorem rd_n2 {i j : Int} {A : Int → Int → Prop} (h1 : -(2 ^ 62) ≤ i ∧ i < 2 ^ 62 ∧ -(2 ^ 62) ≤ j ∧ j < 2 ^ 62) (h : A i j) : ∃ k l : Int, [V.int i, V.int j] = [V.int k, V.int l] ∧ (-(2 ^ 62) ≤ k ∧ k < 2 ^ 62 ∧ -(2 ^ 62) ≤ l ∧ l < 2 ^ 62) ∧ A k l := ⟨i, j, rfl, h1, h⟩
theorem dp_ints : ∀ ns : List Int, DpAll K H (ns.map V.int) (ns.map PyData.int)
  | [] => .nil
  | n :: r => .cons (.int n) (dp_ints r)
theorem rd_neT2 {p q : Addr} {a b c d : Int} (hp : SqT K H p [.int a, .int b]) (hq : SqT K H q [.int c, .int d]) (e1 : a = c) (e2 : b = d) (h : Q (.bl false) H) : rNeD K (.ref p) (.ref q) H Q := by
  subst e1 e2
  exact ⟨_, _, .tup hp (dp_ints [a, b]), .tup hq (dp_ints [a, b]), rfl, rfl, by
    have e : PyData.eqv (.tuple ([a, b].map PyData.int)) (.tuple ([a, b].map PyData.int)) = true := by simp [PyData.eqv, PyData.eqvAll]
    rw [e]
    exact h⟩
def rIsN : R2 := fun x y H Q => y = .non ∧ Q (.bl (decide (x = .non))) H
theorem cIsN {X : Cx} : OpR X (compareOp .Is) rIsN := op_isN
theorem rd_isN {x : V} (h : Q (.bl (decide (x = .non))) H) : rIsN x .non H Q := ⟨rfl, h⟩
theorem rd_one {v : V} {P : V → Prop} (h : P v) : ∃ a, [v] = [a] ∧ P a := ⟨v, rfl, h⟩
theorem rd_n1 {j : Int} {A : Int → Prop} (h1 : -(2 ^ 62) ≤ j) (h2 : j < 2 ^ 62) (h : A j) : ∃ k : Int, [V.int j] = [V.int k] ∧ -(2 ^ 62) ≤ k ∧ k < 2 ^ 62 ∧ A k := ⟨j, rfl, h1, h2, h⟩
end
theorem look_same {H H' : Hp} {a : Addr} {u : HO} (s : Same H H') (h : H a = some u) : H' a = some u := s a u h
theorem look_new {H : Hp} {p a : Addr} {o u : HO} (hp : H p = none) (h : H a = some u) : upd H p o a = some u := by rw [upd_ne (ne_of_none h hp)]; exact h
/-- all but the object at p stay -/
def Kp (p : Addr) (H H' : Hp) : Prop := ∀ a o, a ≠ p → H a = some o → H' a = some o
theorem Kp.refl {p : Addr} {H : Hp} : Kp p H H := fun _ _ _ h => h
theorem Kp.trans {p : Addr} {H H1 H2 : Hp} (a : Kp p H H1) (b : Kp p H1 H2) : Kp p H H2 := fun c o n h => b c o n (a c o n h)
theorem Kp.of {p : Addr} {H H' : Hp} (s : Same H H') : Kp p H H' := fun a o _ h => s a o h
theorem same_new {H : Hp} {p : Addr} {o : HO} (h : H p = none) : Same H (upd H p o) := fun b x e => look_new h e
theorem Kp.new {p q : Addr} {H : Hp} {o : HO} (h : H q = none) : Kp p H (upd H q o) := .of (same_new h)
theorem Kp.at {p : Addr} {H : Hp} {o : HO} : Kp p H (upd H p o) := fun a x n h => by rw [upd_ne n]; exact h
theorem same_kp {p : Addr} {H0 H H' : Hp} (s : Same H0 H) (n : H0 p = none) (k : Kp p H H') : Same H0 H' := fun a o h => k a o (ne_of_none h n) (s a o h)
theorem sqL_new {K : PySem.W.Frag} {p a : Addr} {H : Hp} {o : HO} {xs : List V} (n : H p = none) (h : SqL K H a xs) : SqL K (upd H p o) a xs := (same_new n).seq h
theorem sqL_same {K : PySem.W.Frag} {a : Addr} {H H' : Hp} {xs : List V} (s : Same H H') (h : SqL K H a xs) : SqL K H' a xs := s.seq h
theorem by_all {K : PySem.W.Frag} {a : Addr} {xs : List V} {H : Hp} (h : ∀ H, SqT K H a xs) : SqT K H a xs := h H
def Pool (H : Hp) (p : Addr) : Prop := ∃ x y : Int, H p = some (.lst [.int x, .int y]) ∧ 0 ≤ x ∧ 0 ≤ y ∧ y < 2147483647
theorem look_kp {p a : Addr} {H H' : Hp} {u : HO} (k : Kp p H H') (n : a ≠ p) (h : H a = some u) : H' a = some u := k a u n h
theorem Pool.ne {H : Hp} {p a : Addr} (h : Pool H p) (n : H a = none) : a ≠ p := by
  obtain ⟨x, y, e, _⟩ := h
  exact (ne_of_none e n).symm
theorem Pool.ne' {H : Hp} {p a : Addr} (n : H a = none) (h : Pool H p) : a ≠ p := h.ne n
theorem Pool.new {H : Hp} {p q : Addr} {o : HO} (h : Pool H p) (n : H q = none) : Pool (upd H q o) p := by
  obtain ⟨x, y, e, r⟩ := h
  exact ⟨x, y, look_new n e, r⟩
theorem Pool.same {H H' : Hp} {p : Addr} (h : Pool H p) (s : Same H H') : Pool H' p := by
  obtain ⟨x, y, e, r⟩ := h
  exact ⟨x, y, s _ _ e, r⟩
theorem Pool.same' {H H' : Hp} {p : Addr} (s : Same H H') (h : Pool H p) : Pool H' p := h.same s
theorem Pool.new' {H : Hp} {p q : Addr} {o : HO} (n : H q = none) (h : Pool H p) : Pool (upd H q o) p := h.new n
def spTake : Sp := fun vs H Q _ => ∃ (p : Addr) (m : Int), vs = [.ref p, .int m] ∧ Pool H p ∧ 0 < m ∧ m < 1073741824 ∧ ∀ r H', 0 ≤ r → r < m → Pool H' p → Kp p H H' → Q (.int r) H'
theorem use_take {p : Addr} {m : Int} {H : Hp} {Q : VK} {E : XK} (h1 : Pool H p) (h2 : 0 < m) (h3 : m < 1073741824) (q : ∀ r H', 0 ≤ r → r < m → Pool H' p → Kp p H H' → Q (.int r) H') : spTake ([.ref p, .int m] ++ []) H Q E := ⟨p, m, rfl, h1, h2, h3, q⟩
def spPool (K : PySem.W.Frag) : Sp := fun vs H Q _ => ∃ (a : Addr) (ns : List Int) (k : Int), vs = [.ref a, .int k] ∧ SqL K H a (ns.map V.int) ∧ ns.length ≤ 63 ∧ 0 ≤ k ∧ k < 64 ∧ ∀ p H', H p = none → Same H H' → Pool H' p → Q (.ref p) H'
theorem use_pool {K : PySem.W.Frag} {a : Addr} {ns : List Int} {k : Int} {H : Hp} {Q : VK} {E : XK} (h1 : SqL K H a (ns.map V.int)) (h2 : ns.length ≤ 63) (h3 : 0 ≤ k) (h4 : k < 64) (q : ∀ p H', H p = none → Same H H' → Pool H' p → Q (.ref p) H') : spPool K ([.ref a, .int k] ++ []) H Q E := ⟨a, ns, k, rfl, h1, h2, h3, h4, q⟩
def spNumber : Sp := fun vs H Q _ => ∃ (p : Addr), vs = [.ref p] ∧ Pool H p ∧ ∀ r H', r.natAbs < 10 ^ 55 → Pool H' p → Kp p H H' → Q (.int r) H'
theorem pow9 : ∀ n : Nat, n ≤ 9 → (1000000 : Int) ^ n ≤ 1000000 ^ 9
  | 0, _ => by decide
  | 1, _ => by decide
  | 2, _ => by decide
  | 3, _ => by decide
  | 4, _ => by decide
  | 5, _ => by decide
  | 6, _ => by decide
  | 7, _ => by decide
  | 8, _ => by decide
  | 9, _ => by decide
  | n + 10, h => absurd h (by omega)
theorem great_nn (z : Int) (b : Bool) : 0 ≤ (if z < 0 then -z else z) * (if b = true then (1 : Int) else 0) := Int.mul_nonneg (by split <;> omega) (by split <;> decide)
theorem use_number {p : Addr} {H : Hp} {Q : VK} {E : XK} (h1 : Pool H p) (q : ∀ r H', r.natAbs < 10 ^ 55 → Pool H' p → Kp p H H' → Q (.int r) H') : spNumber ([.ref p] ++ []) H Q E := ⟨p, rfl, h1, q⟩
def isI : V → Bool
  | .int _ => true
  | _ => false
def TyV (H : Hp) : V → Prop
  | .non => True
  | .bl _ => True
  | .int _ => True
  | .str _ => True
  | .ref a => (∃ xs, H a = some (.lst xs)) ∨ ∃ xs, H a = some (.tup xs)
  | _ => False
def spIsI : Sp := fun vs H Q _ => ∃ x, vs = [x] ∧ TyV H x ∧ Q (.bl (isI x)) H
theorem use_isi {x : V} {H : Hp} {Q : VK} {E : XK} (t : TyV H x) (q : Q (.bl (isI x)) H) : spIsI ([x] ++ []) H Q E := ⟨x, rfl, t, q⟩
theorem use_isi_int {i : Int} {H : Hp} {Q : VK} {E : XK} (q : Q (.bl true) H) : spIsI ([.int i] ++ []) H Q E := ⟨_, rfl, trivial, q⟩
def inI (x : V) (lo hi : Int) : Bool := match x with
  | .int i => decide (lo ≤ i ∧ i ≤ hi)
  | _ => false
def spWithin : Sp := fun vs H Q _ => ∃ x lo hi, vs = [x, .int lo, .int hi] ∧ TyV H x ∧ Q (.bl (inI x lo hi)) H
theorem use_within_int {i lo hi : Int} {H : Hp} {Q : VK} {E : XK} (q : Q (.bl (decide (lo ≤ i ∧ i ≤ hi))) H) : spWithin ([.int i, .int lo, .int hi] ++ []) H Q E := ⟨_, lo, hi, rfl, trivial, q⟩
def spCkI : Sp := fun vs H Q _ => ∃ i, vs = [.int i] ∧ Q .non H
theorem use_cki {i : Int} {H : Hp} {Q : VK} {E : XK} (q : Q .non H) : spCkI ([.int i] ++ []) H Q E := ⟨_, rfl, q⟩
def spCkW : Sp := fun vs H Q _ => ∃ i lo hi, vs = [.int i, .int lo, .int hi] ∧ lo ≤ i ∧ i ≤ hi ∧ Q .non H
theorem use_ckw {i lo hi : Int} {H : Hp} {Q : VK} {E : XK} (h1 : lo ≤ i) (h2 : i ≤ hi) (q : Q .non H) : spCkW ([.int i, .int lo, .int hi] ++ []) H Q E := ⟨_, _, _, rfl, h1, h2, q⟩
def spQuant : Sp := fun vs H Q _ => ∃ v s, vs = [.int v, .int s] ∧ 1 ≤ s ∧ s ≤ 64 ∧ Q (.int ((2 * v + s) / (2 * s))) H
theorem use_quant {v s : Int} {H : Hp} {Q : VK} {E : XK} (h1 : 1 ≤ s) (h2 : s ≤ 64) (q : Q (.int ((2 * v + s) / (2 * s))) H) : spQuant ([.int v, .int s] ++ []) H Q E := ⟨v, s, rfl, h1, h2, q⟩
theorem use_quantK {v s : Int} {H : Hp} {Q : VK} {E : XK} (h1 : 1 ≤ s) (h2 : s ≤ 64) (q : Q (.int ((2 * v + s) / (2 * s))) H) : spQuant (kg 0 2 [1, 0] [] [.int s, .int v]) H Q E := ⟨v, s, rfl, h1, h2, q⟩
def cC (s : Int) : Int := if s = 0 then -1 else if s = 1 then -2 else if s = 2 then 1 else 2
def cD (s : Int) : Int := if s = 0 then 2 else if s = 1 then 3 else if s = 2 then -2 else -3
def foldP (s a b : Int) : Int × Int :=
  (a + (cC s * b + 2) / 4 + (cC s * (b + (cD s * (a + (cC s * b + 2) / 4) + 2) / 4) + 2) / 4, b + (cD s * (a + (cC s * b + 2) / 4) + 2) / 4)
def unfoldP (s a b : Int) : Int × Int :=
  (a - (cC s * b + 2) / 4 - (cC s * (b - (cD s * (a - (cC s * b + 2) / 4) + 2) / 4) + 2) / 4, b - (cD s * (a - (cC s * b + 2) / 4) + 2) / 4)
theorem unfold_fold (s a b : Int) : unfoldP s (foldP s a b).1 (foldP s a b).2 = (a, b) := by
  unfold unfoldP foldP
  dsimp only
  rw [Int.add_sub_cancel, Int.add_sub_cancel, Int.add_sub_cancel]
theorem fold_unfold (s a b : Int) : foldP s (unfoldP s a b).1 (unfoldP s a b).2 = (a, b) := by
  unfold unfoldP foldP
  dsimp only
  rw [Int.sub_add_cancel, Int.sub_add_cancel, Int.sub_add_cancel]
def spPair (f : Int → Int → Int → Int × Int) : Sp := fun vs H Q _ => ∃ s a b, vs = [.int s, .int a, .int b] ∧ 0 ≤ s ∧ s < 4 ∧ ∀ p, H p = none → Q (.ref p) (upd H p (.tup [.int (f s a b).1, .int (f s a b).2]))
theorem use_pair {f : Int → Int → Int → Int × Int} {s a b : Int} {H : Hp} {Q : VK} {E : XK} (h1 : 0 ≤ s) (h2 : s < 4) (q : ∀ p, H p = none → Q (.ref p) (upd H p (.tup [.int (f s a b).1, .int (f s a b).2]))) : spPair f ([.int s, .int a, .int b] ++ []) H Q E := ⟨s, a, b, rfl, h1, h2, q⟩
def spCkP : Sp := fun vs H Q _ => ∃ s a b, vs = [.int s, .int a, .int b] ∧ 0 ≤ s ∧ s < 4 ∧ Q .non H
theorem use_ckp {s a b : Int} {H : Hp} {Q : VK} {E : XK} (h1 : 0 ≤ s) (h2 : s < 4) (q : Q .non H) : spCkP ([.int s, .int a, .int b] ++ []) H Q E := ⟨s, a, b, rfl, h1, h2, q⟩
def spLFold : Sp := fun vs H Q _ => ∃ s a b, vs = [.int s, .int a, .int b] ∧ 0 ≤ s ∧ s < 4 ∧ ∀ p H', Same H H' → H' p = some (.tup [.int (foldP s a b).1, .int (foldP s a b).2]) → Q (.ref p) H'
theorem use_lfold {s a b : Int} {H : Hp} {Q : VK} {E : XK} (h1 : 0 ≤ s) (h2 : s < 4) (q : ∀ p H', Same H H' → H' p = some (.tup [.int (foldP s a b).1, .int (foldP s a b).2]) → Q (.ref p) H') : spLFold ([.int s, .int a, .int b] ++ []) H Q E := ⟨s, a, b, rfl, h1, h2, q⟩
def spIsPair : Sp := fun vs H Q _ => ∃ p x y, vs = [.ref p] ∧ H p = some (.tup [.int x, .int y]) ∧ Q (.bl true) H
theorem use_ispair {p : Addr} {x y : Int} {H : Hp} {Q : VK} {E : XK} (h : H p = some (.tup [.int x, .int y])) (q : Q (.bl true) H) : spIsPair ([.ref p] ++ []) H Q E := ⟨p, x, y, rfl, h, q⟩
theorem look_upd {H : Hp} {p a : Addr} {o u : HO} (n : a ≠ p) (h : H a = some u) : upd H p o a = some u := by rw [upd_ne n]; exact h
def Kp2 (p q : Addr) (H H' : Hp) : Prop := ∀ a o, a ≠ p → a ≠ q → H a = some o → H' a = some o
theorem Kp2.refl {p q : Addr} {H : Hp} : Kp2 p q H H := fun _ _ _ _ h => h
theorem Kp2.trans {p q : Addr} {H H1 H2 : Hp} (a : Kp2 p q H H1) (b : Kp2 p q H1 H2) : Kp2 p q H H2 := fun c o n m h => b c o n m (a c o n m h)
theorem Kp2.ofK {p q : Addr} {H H' : Hp} (k : Kp p H H') : Kp2 p q H H' := fun a o n _ h => k a o n h
theorem Kp2.ofS {p q : Addr} {H H' : Hp} (k : Same H H') : Kp2 p q H H' := fun a o _ _ h => k a o h
theorem Kp2.new {p q r : Addr} {H : Hp} {o : HO} (h : H r = none) : Kp2 p q H (upd H r o) := .ofS (same_new h)
theorem Kp2.at {p q : Addr} {H : Hp} {o : HO} : Kp2 p q H (upd H q o) := fun a x _ n h => by rw [upd_ne n]; exact h
theorem close_turn {p : Addr} {H H1 H2 H3 : Hp} (s : Same H H1) (n : H1 p = none) (s2 : Same H1 H2) (k : Kp p H2 H3) : Same H H3 := same_kp (s.trans s2) (s.free n) k
theorem mm_nat (n c : Nat) (hc : 1 ≤ c) : (if (if (c : Int) < (n : Int) then (c : Int) else (n : Int)) > 1 then (if (c : Int) < (n : Int) then (c : Int) else (n : Int)) else 1).toNat ≤ c := by
  split
  · split <;> omega
  · split <;> omega
def spLaw (K : PySem.W.Frag) : Sp := fun vs H Q _ => ∃ (a : Addr) (ns : List Int), vs = [.ref a] ∧ SqL K H a (ns.map V.int) ∧ ns.length ≤ 63 ∧ ∀ H', Q (.bl true) H'
theorem if_no {c : Bool} {A B : Prop} (h : c = false) (q : B) : if c = true then A else B := by rw [h]; exact iteF q
theorem if_yes {c : Bool} {A B : Prop} (h : c = true) (q : A) : if c = true then A else B := by rw [h]; exact iteT q
theorem if_noD {p : Prop} [Decidable p] {A B : Prop} (h : ¬ p) (q : B) : if decide p = true then A else B := if_no (decide_eq_false h) q
theorem if_yesD {p : Prop} [Decidable p] {A B : Prop} (h : p) (q : A) : if decide p = true then A else B := if_yes (decide_eq_true h) q
theorem if_noN {p : Prop} [Decidable p] {A B : Prop} (h : p) (q : B) : if (!decide p) = true then A else B := if_no (by rw [decide_eq_true h]; rfl) q
theorem if_yesN {p : Prop} [Decidable p] {A B : Prop} (h : ¬ p) (q : A) : if (!decide p) = true then A else B := if_yes (by rw [decide_eq_false h]; rfl) q
theorem canLay_ints : ∀ ns : List Int, PyData.canLayAll0 (ns.map PyData.int) = true
  | [] => rfl
  | n :: r => by
    show (PyData.canLay0 (.int n) && PyData.canLayAll0 (r.map PyData.int)) = true
    rw [canLay_ints r]
    rfl
theorem depth_ints : ∀ ns : List Int, PyData.depthAll (ns.map PyData.int) = 0
  | [] => rfl
  | n :: r => by
    show max (PyData.depth (.int n)) (PyData.depthAll (r.map PyData.int)) = 0
    rw [depth_ints r]
    rfl
theorem shaped_ints (ns : List Int) : SeqAt.shaped (.list (ns.map PyData.int)) = true := by
  show (PyData.canLayAll0 (ns.map PyData.int) && decide (PyData.depthAll (ns.map PyData.int) + 1 ≤ 64)) = true
  rw [canLay_ints, depth_ints]
  rfl
theorem eqv_ints : ∀ ns ms : List Int, PyData.eqvAll (ns.map PyData.int) (ms.map PyData.int) = decide (ns = ms)
  | [], [] => by simp [PyData.eqvAll]
  | [], m :: r => by simp [PyData.eqvAll]
  | n :: r, [] => by simp [PyData.eqvAll]
  | n :: r, m :: t => by
    show (PyData.eqv (.int n) (.int m) && PyData.eqvAll (r.map PyData.int) (t.map PyData.int)) = decide (n :: r = m :: t)
    rw [eqv_ints r t]
    show ((n == m) && decide (r = t)) = decide (n :: r = m :: t)
    by_cases h : n = m
    · subst h
      simp
    · have e : (n == m) = false := by simpa using h
      rw [e, Bool.false_and]
      exact (decide_eq_false fun z => h (List.cons.inj z).1).symm
section
variable {K : PySem.W.Frag} {H : Hp} {Q : VK} {p q : Addr} {ns ms : List Int}
theorem rd_neL (hp : SqL K H p (ns.map V.int)) (hq : SqL K H q (ms.map V.int)) (h : Q (.bl (!decide (ns = ms))) H) : rNeD K (.ref p) (.ref q) H Q :=
  ⟨_, _, .lst hp (dp_ints ns), .lst hq (dp_ints ms), shaped_ints ns, shaped_ints ms, by
    rw [show PyData.eqv (.list (ns.map PyData.int)) (.list (ms.map PyData.int)) = decide (ns = ms) by rw [← eqv_ints]; simp only [PyData.eqv]]
    exact h⟩
theorem rd_eqL (hp : SqL K H p (ns.map V.int)) (hq : SqL K H q (ms.map V.int)) (h : Q (.bl (decide (ns = ms))) H) : rEqD K (.ref p) (.ref q) H Q :=
  ⟨_, _, .lst hp (dp_ints ns), .lst hq (dp_ints ms), shaped_ints ns, shaped_ints ms, by
    rw [show PyData.eqv (.list (ns.map PyData.int)) (.list (ms.map PyData.int)) = decide (ns = ms) by rw [← eqv_ints]; simp only [PyData.eqv]]
    exact h⟩
theorem rd_neN (hp : SqL K H p (ns.map V.int)) (hq : SqL K H q []) (h : Q (.bl (!decide (ns = []))) H) : rNeD K (.ref p) (.ref q) H Q := rd_neL (ms := []) hp hq h
end
section
variable {K : PySem.W.Frag} {σ : L2.St} {H : Hp} {Q : VK} {g : TG} {tb : TS} {D : Ends}
theorem rd_forE {ts : TA} (h : ts σ H fun vs H1 => ∃ a xs, vs = [.ref a] ∧ SqL K H1 a xs ∧ LpW (Ite K a) g tb D σ H1) : tFor (iEnum K ts) g tb D σ H := h
theorem rd_lpE {a : Addr} {xs : List V} (e : SqL K H a xs) (h : LpW (Ite K a) g tb D σ H) : ∃ b ys, [V.ref a] = [.ref b] ∧ SqL K H b ys ∧ LpW (Ite K b) g tb D σ H := ⟨a, xs, rfl, e, h⟩
theorem for_enum {a : Addr} {xs : List V} (Pv : Nat → L2.St → Hp → Prop) (h0 : Pv 0 σ H) (hl : ∀ i σ H, i ≤ xs.length → Pv i σ H → SqL K H a xs)
    (hs : ∀ i x σ H T, xs[i]? = some x → Pv i σ H → H T = none → g (.ref T) σ (upd H T (.tup [.int (i : Nat), x])) fun σ2 H2 => tb { D with nx := Pv (i + 1), ct := Pv (i + 1), bk := D.nx } σ2 H2) (hd : ∀ σ H, Pv xs.length σ H → D.nx σ H) : LpW (Ite K a) g tb D σ H := by
  refine ⟨fun i m σ H => m = xs.length - i ∧ i ≤ xs.length ∧ Pv i σ H, ⟨xs.length, by simp, Nat.zero_le _, h0⟩, ?_⟩
  rintro i m σ H ⟨rfl, hi, p⟩
  have q := hl i σ H hi p
  by_cases hlt : i < xs.length
  · refine .inr ⟨⟨xs, xs[i], q, by simp [hlt]⟩, Pv (i + 1), fun σ' H' p' => ⟨xs.length - (i + 1), by omega, rfl, hlt, p'⟩, fun x H' y => ?_⟩
    obtain ⟨T, x1, rfl, nT, rfl, y⟩ := y
    exact hs i x1 σ H T (y xs q) p nT
  · have e : i = xs.length := by omega
    subst e
    exact .inl ⟨⟨xs, q, Nat.le_refl _⟩, hd σ H p⟩
theorem rd_forZ {ts : TA} (h : ts σ H fun vs H1 => ∃ a b xs ys, vs = [.ref a, .ref b] ∧ ((SqL K H1 a xs ∧ SqL K H1 b ys ∧ LpW (Itz K a b) g tb D σ H1) ∨ (SqT K H1 a xs ∧ SqT K H1 b ys ∧ LpW (RZ.ItzT K a b) g tb D σ H1))) : tFor (RZ.iZipA K ts) g tb D σ H := h
theorem for_zip {a b : Addr} {xs ys : List V} (hln : xs.length = ys.length) (Pv : Nat → L2.St → Hp → Prop) (h0 : Pv 0 σ H) (hl : ∀ i σ H, i ≤ xs.length → Pv i σ H → SqL K H a xs ∧ SqL K H b ys)
    (hs : ∀ i x y σ H T, xs[i]? = some x → ys[i]? = some y → Pv i σ H → H T = none → g (.ref T) σ (upd H T (.tup [x, y])) fun σ2 H2 => tb { D with nx := Pv (i + 1), ct := Pv (i + 1), bk := D.nx } σ2 H2) (hd : ∀ σ H, Pv xs.length σ H → D.nx σ H) : LpW (Itz K a b) g tb D σ H := by
  refine ⟨fun i m σ H => m = xs.length - i ∧ i ≤ xs.length ∧ Pv i σ H, ⟨xs.length, by simp, Nat.zero_le _, h0⟩, ?_⟩
  rintro i m σ H ⟨rfl, hi, p⟩
  obtain ⟨q1, q2⟩ := hl i σ H hi p
  by_cases hlt : i < xs.length
  · have hlt2 : i < ys.length := by omega
    refine .inr ⟨⟨xs, ys, xs[i], ys[i], q1, q2, by simp [hlt], by simp [hlt2]⟩, Pv (i + 1), fun σ' H' p' => ⟨xs.length - (i + 1), by omega, rfl, hlt, p'⟩, fun x H' y => ?_⟩
    obtain ⟨T, x1, y1, rfl, nT, rfl, f1, f2⟩ := y
    exact hs i x1 y1 σ H T (f1 xs q1) (f2 ys q2) p nT
  · have e : i = xs.length := by omega
    subst e
    exact .inl ⟨⟨xs, ys, q1, q2, .inl (Nat.le_refl _)⟩, hd σ H p⟩
theorem for_zipT {a b : Addr} {xs ys : List V} (hln : xs.length = ys.length) (Pv : Nat → L2.St → Hp → Prop) (h0 : Pv 0 σ H) (hl : ∀ i σ H, i ≤ xs.length → Pv i σ H → SqT K H a xs ∧ SqT K H b ys)
    (hs : ∀ i x y σ H T, xs[i]? = some x → ys[i]? = some y → Pv i σ H → H T = none → g (.ref T) σ (upd H T (.tup [x, y])) fun σ2 H2 => tb { D with nx := Pv (i + 1), ct := Pv (i + 1), bk := D.nx } σ2 H2) (hd : ∀ σ H, Pv xs.length σ H → D.nx σ H) : LpW (RZ.ItzT K a b) g tb D σ H := by
  refine ⟨fun i m σ H => m = xs.length - i ∧ i ≤ xs.length ∧ Pv i σ H, ⟨xs.length, by simp, Nat.zero_le _, h0⟩, ?_⟩
  rintro i m σ H ⟨rfl, hi, p⟩
  obtain ⟨q1, q2⟩ := hl i σ H hi p
  by_cases hlt : i < xs.length
  · have hlt2 : i < ys.length := by omega
    refine .inr ⟨⟨xs, ys, xs[i], ys[i], q1, q2, by simp [hlt], by simp [hlt2]⟩, Pv (i + 1), fun σ' H' p' => ⟨xs.length - (i + 1), by omega, rfl, hlt, p'⟩, fun x H' y => ?_⟩
    obtain ⟨T, x1, y1, rfl, nT, rfl, f1, f2⟩ := y
    exact hs i x1 y1 σ H T (f1 xs q1) (f2 ys q2) p nT
  · have e : i = xs.length := by omega
    subst e
    exact .inl ⟨⟨xs, ys, q1, q2, .inl (Nat.le_refl _)⟩, hd σ H p⟩
def LcW (J : It) (g : TG) (tt : TT) (te : TE) (vs : List Nat) (Q : VK) (σ : L2.St) (H1 : Hp) (D : Addr) : Prop := ∃ W : Nat → Nat → Hp → Prop, (∃ m, W 0 m (upd H1 D (.lst []))) ∧ ∀ i m H, W i m H →
  (J.stop i H ∧ Q (.ref D) H) ∨ (J.go i H ∧ ∃ Nx : Hp → Prop, (∀ H', Nx H' → ∃ m', m' < m ∧ W (i + 1) m' H') ∧ ∀ x H', J.yld i H x H' → g x (wipe σ vs) H' fun σ2 H2 => wipe σ2 vs = wipe σ vs ∧ tt σ2 H2 fun b H3 =>
    if b = true then te σ2 H3 fun y H4 => ∃ acc, H4 D = some (.lst acc) ∧ acc.length < sizeLine ∧ Nx (upd H4 D (.lst (acc ++ [y]))) else Nx H3)
theorem rd_lc1 {ts : TA} {tt : TT} {te : TE} {vs : List Nat} (h : ts σ H fun us H1 => ∃ j : Int, us = [.int j] ∧ -(2 ^ 62) ≤ j ∧ j < 2 ^ 62 ∧ ∀ D, H1 D = none → LcW (Itr 0 j.toNat) g tt te vs Q σ H1 D) : tLc (iRng1 ts) g tt te vs σ H Q := h
theorem rd_yes {σ : L2.St} {H : Hp} {A B : Hp → Prop} (h : A H) : tYes σ H fun b H3 => if b = true then A H3 else B H3 := by
  show if true = true then A H else B H
  rw [if_pos rfl]
  exact h
theorem kp_app {p D : Addr} {H1 H H' : Hp} {o : HO} (hD : H1 D = none) (k : Kp p H1 H) (k2 : Kp p H H') : Kp p H1 (upd H' D o) := fun a x n e => by
  rw [upd_ne (ne_of_none e hD)]
  exact k2 a x n (k a x n e)
theorem rd_lcD {J : It} {tt : TT} {te : TE} {vs : List Nat} (h : ∀ D, H D = none → LcW J g tt te vs Q σ H D) : ∀ D, H D = none → LcW J g tt te vs Q σ H D := h
theorem lc_numbers {vs : List Nat} {i k : Nat} {p D : Addr} {n : Nat} {H1 : Hp} (hσ : ∀ v, ((wipe σ vs).set k (some v))[i]? = some (some (.ref p))) (hw : ∀ v, wipe ((wipe σ vs).set k (some v)) vs = wipe σ vs) (hP : Pool H1 p) (hD : H1 D = none) (hn : n ≤ 1000)
    (q : ∀ (ns : List Int) H', ns.length = n → (∀ z ∈ ns, z.natAbs < 10 ^ 55) → Pool H' p → Kp p H1 H' → H' D = some (.lst (ns.map V.int)) → Q (.ref D) H') :
    LcW (Itr 0 n) (gName k) tYes (tCall spNumber [] E0 (tCons (tVar i) tNil)) vs Q σ H1 D := by
  have hDp : D ≠ p := hP.ne hD
  refine lc_range (Pv := fun j H => ∃ ns : List Int, ns.length = j ∧ (∀ z ∈ ns, z.natAbs < 10 ^ 55) ∧ Pool H p ∧ Kp p H1 H ∧ H D = some (.lst (ns.map V.int))) ⟨[], rfl, List.forall_mem_nil _, hP.new hD, Kp.new hD, upd_same⟩ (fun j H hj hI => ?_) (fun H hI => ?_)
  · obtain ⟨ns, hl, hb, hP', hK, hd⟩ := hI
    refine ⟨hw _, rd_yes ?_⟩
    refine rd_call (rd_cons (rd_var (hσ _) (rd_nil (use_number hP' fun r H' hr hP2 hK2 => ?_))))
    refine ⟨_, hK2 _ _ hDp hd, ?_, ns ++ [r], ?_, ?_, ?_, kp_app hD hK hK2, ?_⟩
    · rw [List.length_map]
      exact small1000 (by omega)
    · rw [List.length_append, hl]
      rfl
    · intro z hz
      rcases List.mem_append.mp hz with hz | hz
      · exact hb z hz
      · rw [List.mem_singleton.mp hz]
        exact hr
    · obtain ⟨x, y, e, r⟩ := hP2
      exact ⟨x, y, by rw [upd_ne hDp.symm]; exact e, r⟩
    · rw [upd_same, List.map_append]
      rfl
  · obtain ⟨ns, hl, hb, hP', hK, hd⟩ := hI
    exact q ns H hl hb hP' hK hd
end
def scalarV : V → Bool
  | .non => true
  | .bl _ => true
  | .int _ => true
  | .str _ => true
  | _ => false
def LstV (K : PySem.W.Frag) (H : Hp) (a : Addr) (xs : List V) : Prop := SqL K H a xs ∧ TyX K H (.ref a) (.type "list")
def TupV (K : PySem.W.Frag) (H : Hp) (a : Addr) (xs : List V) : Prop := SqT K H a xs ∧ TyX K H (.ref a) (.type "tuple")
def SmV (K : PySem.W.Frag) (H : Hp) : Nat → V → V → Prop
  | 0, x, y => x = y ∧ scalarV x = true
  | n + 1, x, y => (x = y ∧ scalarV x = true) ∨ (∃ a b xs ys, x = .ref a ∧ y = .ref b ∧ LstV K H a xs ∧ LstV K H b ys ∧ xs.length = ys.length ∧ ∀ (i : Nat) x y, xs[i]? = some x → ys[i]? = some y → SmV K H n x y) ∨
      ∃ a b xs ys, x = .ref a ∧ y = .ref b ∧ TupV K H a xs ∧ TupV K H b ys ∧ xs.length = ys.length ∧ ∀ (i : Nat) x y, xs[i]? = some x → ys[i]? = some y → SmV K H n x y
theorem LstV.of {K : PySem.W.Frag} {H : Hp} {a : Addr} {xs : List V} (h : H a = some (.lst xs)) : LstV K H a xs := ⟨SqL.of h, .base (.lst h)⟩
theorem TupV.of {K : PySem.W.Frag} {H : Hp} {a : Addr} {xs : List V} (h : H a = some (.tup xs)) : TupV K H a xs := ⟨SqT.of h, .base (.tup h)⟩
section
variable {K : PySem.W.Frag} {H H' : Hp}
theorem tyo_same {x : V} {t : Value} (s : Same H H') (h : TyOf K H x t) : TyOf K H' x t := by
  cases h with
  | non => exact .non
  | bl x => exact .bl x
  | int i => exact .int i
  | str x => exact .str x
  | flt x => exact .flt x
  | lst e => exact .lst (s _ _ e)
  | frz e => exact .frz (s _ _ e)
  | tup e => exact .tup (s _ _ e)
  | dK e => exact .dK (s _ _ e)
  | dT e => exact .dT (s _ _ e)
  | ins e cl ha hn htk hm => exact .ins (s _ _ e) cl ha hn htk hm
theorem tyx_same {x : V} {t : Value} (s : Same H H') (h : TyX K H x t) : TyX K H' x t := by
  cases h with
  | base b => exact .base (tyo_same s b)
  | byt b => exact .byt b
  | set e => exact .set (s _ _ e)
  | kList e c => exact .kList e c
  | kTuple e c => exact .kTuple e c
  | kDict e c => exact .kDict e c
  | fTuple e => exact .fTuple (s _ _ e)
  | fDict e => exact .fDict (s _ _ e)
theorem LstV.same {a : Addr} {xs : List V} (s : Same H H') (h : LstV K H a xs) : LstV K H' a xs := ⟨s.seq h.1, tyx_same s h.2⟩
theorem same_seqT {a : Addr} {xs : List V} (s : Same H H') (h : SqT K H a xs) : SqT K H' a xs := by
  rcases h with (h | ⟨o, h⟩) | h
  · exact .inl (.inl (s _ _ h))
  · exact .inl (.inr ⟨o, s _ _ h⟩)
  · exact .inr h
theorem TupV.same {a : Addr} {xs : List V} (s : Same H H') (h : TupV K H a xs) : TupV K H' a xs := ⟨same_seqT s h.1, tyx_same s h.2⟩
theorem SmV.same (s : Same H H') : ∀ (n : Nat) {x y : V}, SmV K H n x y → SmV K H' n x y
  | 0, _, _, h => h
  | n + 1, x, y, h => by
    rcases h with h | ⟨a, b, xs, ys, e1, e2, h1, h2, l, h⟩ | ⟨a, b, xs, ys, e1, e2, h1, h2, l, h⟩
    · exact .inl h
    · exact .inr (.inl ⟨a, b, xs, ys, e1, e2, h1.same s, h2.same s, l, fun i x y a b => SmV.same s n (h i x y a b)⟩)
    · exact .inr (.inr ⟨a, b, xs, ys, e1, e2, h1.same s, h2.same s, l, fun i x y a b => SmV.same s n (h i x y a b)⟩)
theorem isi_ty {Q : VK} {x : V} {t n : String} {d : Bool} (h : TyX K H x (.type t)) (e : kitB t n = some d) (q : Q (.bl d) H) : rIsi K [x, .ty n] H Q := rd_isi (.ty n) h (kit_ty e) q
theorem sm_ints {p q : Addr} {ns : List Int} (hp : H p = some (.lst (ns.map V.int))) (hq : H q = some (.lst (ns.map V.int))) : SmV K H 1 (.ref p) (.ref q) :=
  .inr (.inl ⟨p, q, _, _, rfl, rfl, .of hp, .of hq, rfl, fun i x y e1 e2 => by
    rw [e1] at e2
    have e := Option.some.inj e2
    subst e
    rw [List.getElem?_map] at e1
    cases g : ns[i]? with
    | none => rw [g] at e1; cases e1
    | some z => rw [g] at e1; cases e1; exact ⟨rfl, rfl⟩⟩)
end
theorem sm_sc {K : PySem.W.Frag} {H : Hp} {x : V} (h : scalarV x = true) : ∀ {n : Nat}, SmV K H n x x
  | 0 => ⟨rfl, h⟩
  | _ + 1 => .inl ⟨rfl, h⟩
def spSame (K : PySem.W.Frag) (n : Nat) : Sp := fun vs H Q _ => ∃ x y, vs = [x, y] ∧ SmV K H n x y ∧ ∀ H', Same H H' → Q (.bl true) H'
theorem use_same {K : PySem.W.Frag} {n : Nat} {x y : V} {H : Hp} {Q : VK} {E : XK} (h : SmV K H n x y) (q : ∀ H', Same H H' → Q (.bl true) H') : spSame K n ([x, y] ++ []) H Q E := ⟨x, y, rfl, h, q⟩
def spItems (K : PySem.W.Frag) : Sp := fun vs H Q _ => ∃ (a : Addr) (ns : List Int), vs = [.ref a] ∧ SqL K H a (ns.map V.int) ∧ ∀ H', Same H H' → Q .non H'
theorem use_items {K : PySem.W.Frag} {a : Addr} {ns : List Int} {H : Hp} {Q : VK} {E : XK} (h : SqL K H a (ns.map V.int)) (q : ∀ H', Same H H' → Q .non H') : spItems K ([.ref a] ++ []) H Q E := ⟨a, ns, rfl, h, q⟩
def spBlock : Sp := fun vs H Q _ => ∃ (a : Addr) (ns : List Int) (least : Int), vs = [.ref a, .int least] ∧ H a = some (.lst (ns.map V.int)) ∧ least ≤ ns.length ∧ ns.length ≤ 64 ∧ ∀ H', Same H H' → Q .non H'
theorem use_block {a : Addr} {ns : List Int} {least : Int} {H : Hp} {Q : VK} {E : XK} (h : H a = some (.lst (ns.map V.int))) (h1 : least ≤ ns.length) (h2 : ns.length ≤ 64) (q : ∀ H', Same H H' → Q .non H') : spBlock ([.ref a, .int least] ++ []) H Q E := ⟨a, ns, least, rfl, h, h1, h2, q⟩
def codeU (n : Int) : Int := if n ≥ 0 then 2 * n else -2 * n - 1
def spCode : Sp := fun vs H Q _ => ∃ n, vs = [.int n] ∧ Q (.int (codeU n)) H
theorem use_code {n : Int} {H : Hp} {Q : VK} {E : XK} (q : Q (.int (codeU n)) H) : spCode ([.int n] ++ []) H Q E := ⟨n, rfl, q⟩
def markF (ns : List Int) : Int := ns.foldl (fun m n => (m * 31 + codeU n) % 9973) 1
def spMark : Sp := fun vs H Q _ => ∃ (a : Addr) (ns : List Int), vs = [.ref a] ∧ H a = some (.lst (ns.map V.int)) ∧ ns.length ≤ 64 ∧ ∀ H', Same H H' → Q (.int (markF ns)) H'
theorem use_mark {a : Addr} {ns : List Int} {H : Hp} {Q : VK} {E : XK} (h : H a = some (.lst (ns.map V.int))) (h2 : ns.length ≤ 64) (q : ∀ H', Same H H' → Q (.int (markF ns)) H') : spMark ([.ref a] ++ []) H Q E := ⟨a, ns, rfl, h, h2, q⟩
def jx (u v : V) : Bool := match u, v with
  | .int w, .int t => decide (0 < w) || decide (t = 0)
  | _, _ => false
def jt (u v : V) : Bool := inI u 0 8 && (inI v 0 3 && jx u v)
inductive JR (H : Hp) : V → Bool → Prop where
  | flat {x : V} (h : scalarV x = true) : JR H x false
  | lst {a : Addr} {xs : List V} (h : H a = some (.lst xs)) : JR H (.ref a) false
  | tupn {a : Addr} {xs : List V} (h : H a = some (.tup xs)) (n : xs.length ≠ 2) : JR H (.ref a) false
  | tup2 {a : Addr} {u v : V} (h : H a = some (.tup [u, v])) (hu : TyV H u) (hv : TyV H v) : JR H (.ref a) (jt u v)
def spS : List Int → List Int
  | a :: b :: r => ((a + b) / 2) :: spS r
  | r => r
def spD : List Int → List Int
  | a :: b :: r => (a - b) :: spD r
  | _ => []
/-- behind i levels: the sums, and the differences -/
def lvS (ns : List Int) : Nat → List Int
  | 0 => ns
  | i + 1 => spS (lvS ns i)
def lvR (ns : List Int) : Nat → List Int
  | 0 => []
  | i + 1 => spD (lvS ns i) ++ lvR ns i
def splitL (ns : List Int) (i : Nat) : List Int := lvS ns i ++ lvR ns i
theorem cut_from (ns : List Int) (k : Nat) (hk : k ≤ ns.length) : cutV (ns.map V.int) (some (k : Int)) none = (ns.drop k).map V.int := by
  unfold cutV
  rw [show HT.sIx (ns.map V.int).length 0 (some (k : Int)) = min k (ns.map V.int).length from HT.sIx_nat _ 0 k, HT.sIx_none, List.length_map, Nat.min_eq_left hk, ← List.map_drop]
  rw [List.take_of_length_le (by rw [List.length_map, List.length_drop]; exact Nat.le_refl _)]
theorem rg2 (n : Nat) (h : n ≤ 64) : RgC 0 ((n : Int) - 1) 2 (n / 2) := by
  have hs : Builtin.Range.rangeSize 0 ((n : Int) - 1) 2 = ((n / 2 : Nat) : Int) := by
    unfold Builtin.Range.rangeSize
    rw [if_pos (by decide)]
    split <;> omega
  refine ⟨by decide, by decide, ?_, hs⟩
  unfold Builtin.Range.small
  rw [hs]
  simp only [Builtin.Range.rangeFitsLong, Bool.and_eq_true, Bool.or_eq_true, decide_eq_true_eq, beq_iff_eq, show ((2 : Int) > 0) by decide, if_true]
  omega
section
variable {K : PySem.W.Frag} {σ : L2.St} {H : Hp} {Q : VK} {g : TG} {tb : TS} {D : Ends}
theorem rd_for3 {ts : TA} (h : ts σ H fun vs H1 => ∃ (i j c : Int) (n : Nat), vs = [.int i, .int j, .int c] ∧ RgC i j c n ∧ LpW (Itc i c n) g tb D σ H1) : tFor (iRng3 ts) g tb D σ H := h
theorem rd_n3 {n : Nat} {A : Int → Int → Int → Nat → Prop} (h : n ≤ 64) (q : A 0 ((n : Int) - 1) 2 (n / 2)) : ∃ (i j c : Int) (k : Nat), [V.int 0, V.int ((n : Int) - 1), V.int 2] = [.int i, .int j, .int c] ∧ RgC i j c k ∧ A i j c k := ⟨_, _, _, _, rfl, rg2 n h, q⟩
theorem rd_catL {a b : Addr} {xs ys : List Int} (h1 : H a = some (.lst (xs.map V.int))) (h2 : H b = some (.lst (ys.map V.int))) (n : xs.length + ys.length ≤ 1000) (q : ∀ p, H p = none → Q (.ref p) (upd H p (.lst ((xs ++ ys).map V.int)))) : rCat (.ref a) (.ref b) H Q :=
  ⟨a, b, _, _, rfl, rfl, h1, h2, by rw [List.length_map, List.length_map]; exact Nat.le_of_lt (small1000 n), fun p hp => by rw [← List.map_append]; exact q p hp⟩
theorem rd_appI {a : Addr} {xs : List Int} {z : Int} (h : H a = some (.lst (xs.map V.int))) (n : xs.length ≤ 1000) (q : Q .non (upd H a (.lst ((xs ++ [z]).map V.int)))) : rAppend (.ref a) [.int z] H Q :=
  ⟨a, _, _, rfl, rfl, h, by rw [List.length_map]; exact small1000 n, by rw [List.map_append] at q; exact q⟩
theorem rd_sl {te : TE} {tl th : TO} {r : V → Option Int → Option Int → Hp → VK → Prop} (h : te σ H fun x H1 => tl σ H1 fun l H2 => th σ H2 fun u H3 => r x l u H3 Q) : L2.tSl r te tl th σ H Q := h
theorem rd_part {te : TE} {q : Option Int → Hp → Prop} (h : te σ H fun x H1 => ∃ i, x = .int i ∧ q (some i) H1) : tPart te σ H q := h
theorem rd_nopart {q : Option Int → Hp → Prop} (h : q none H) : tNoPart σ H q := h
theorem rd_oneI {i : Int} {P : Int → Prop} (h : P i) : ∃ j, V.int i = .int j ∧ P j := ⟨i, rfl, h⟩
theorem rd_bm {m : V → List V → Hp → VK → Prop} {to : TE} {ts : TA} (h : to σ H fun x H1 => tyV K "list" x H1 ∧ ts σ H1 fun xs H2 => m x xs H2 Q) : tBM K "list" m to ts σ H Q := h
theorem rd_tyL {a : Addr} {xs : List V} {P : Prop} (h : H a = some (.lst xs)) (q : P) : tyV K "list" (.ref a) H ∧ P := ⟨.inl ⟨rfl, _, .inl (.inl h)⟩, q⟩
theorem rd_slF {a : Addr} {ns : List Int} {k : Nat} (h : SqL K H a (ns.map V.int)) (hk : k ≤ ns.length) (q : ∀ p, H p = none → Q (.ref p) (upd H p (.lst ((ns.drop k).map V.int)))) : rSlL K (.ref a) (some (k : Int)) none H Q :=
  ⟨a, _, rfl, h, fun p hp => by rw [cut_from ns k hk]; exact q p hp⟩
end
def spOnce (K : PySem.W.Frag) : Sp := fun vs H Q _ => ∃ (a : Addr) (ns : List Int), vs = [.ref a] ∧ SqL K H a (ns.map V.int) ∧ ns.length ≤ 64 ∧ ∀ p s d H', Same H H' → H' p = some (.tup [.ref s, .ref d]) → H' s = some (.lst ((spS ns).map V.int)) → H' d = some (.lst ((spD ns).map V.int)) → H s = none → Q (.ref p) H'
theorem use_once {K : PySem.W.Frag} {a : Addr} {ns : List Int} {H : Hp} {Q : VK} {E : XK} (h : SqL K H a (ns.map V.int)) (n : ns.length ≤ 64) (q : ∀ p s d H', Same H H' → H' p = some (.tup [.ref s, .ref d]) → H' s = some (.lst ((spS ns).map V.int)) → H' d = some (.lst ((spD ns).map V.int)) → H s = none → Q (.ref p) H') : spOnce K ([.ref a] ++ []) H Q E := ⟨a, ns, rfl, h, n, q⟩
def spSplit : Sp := fun vs H Q _ => ∃ (a : Addr) (ns : List Int) (k : Int), vs = [.ref a, .int k] ∧ H a = some (.lst (ns.map V.int)) ∧ 1 ≤ ns.length ∧ ns.length ≤ 64 ∧ 0 ≤ k ∧ k ≤ 5 ∧ ∀ p H', H p = none → Same H H' → H' p = some (.lst ((splitL ns k.toNat).map V.int)) → Q (.ref p) H'
theorem use_split {a : Addr} {ns : List Int} {k : Int} {H : Hp} {Q : VK} {E : XK} (h : H a = some (.lst (ns.map V.int))) (h1 : 1 ≤ ns.length) (h2 : ns.length ≤ 64) (h3 : 0 ≤ k) (h4 : k ≤ 5) (q : ∀ p H', H p = none → Same H H' → H' p = some (.lst ((splitL ns k.toNat).map V.int)) → Q (.ref p) H') : spSplit ([.ref a, .int k] ++ []) H Q E := ⟨a, ns, k, rfl, h, h1, h2, h3, h4, q⟩
theorem use_splitK {a : Addr} {ns : List Int} {k : Int} {H : Hp} {Q : VK} {E : XK} (h : H a = some (.lst (ns.map V.int))) (h1 : 1 ≤ ns.length) (h2 : ns.length ≤ 64) (h3 : 0 ≤ k) (h4 : k ≤ 5) (q : ∀ p H', H p = none → Same H H' → H' p = some (.lst ((splitL ns k.toNat).map V.int)) → Q (.ref p) H') : spSplit (kg 0 2 [1, 0] [] [.int k, .ref a]) H Q E := ⟨a, ns, k, rfl, h, h1, h2, h3, h4, q⟩
def jn : List Int → List Int → List Int
  | s :: S, d :: D => (s - d / 2 + d) :: (s - d / 2) :: jn S D
  | S, _ => S
/-- how many are coarse -/
def cc (n : Nat) : Nat → Nat
  | 0 => n
  | i + 1 => (cc n i + 1) / 2
/-- the values when j of m levels are joined -/
def wv (ns : List Int) (m : Nat) : Nat → List Int
  | 0 => ns.take (cc ns.length m)
  | j + 1 => jn (wv ns m j) ((ns.drop (cc ns.length (m - j))).take (cc ns.length (m - (j + 1)) - cc ns.length (m - j)))
def joinL (ns : List Int) (m : Nat) : List Int := wv ns m m
theorem cut_to (ns : List Int) (k : Nat) : cutV (ns.map V.int) none (some (k : Int)) = (ns.take k).map V.int := by
  unfold cutV
  rw [HT.sIx_none, show HT.sIx (ns.map V.int).length (ns.map V.int).length (some (k : Int)) = min k (ns.map V.int).length from HT.sIx_nat _ _ k, List.drop_zero, Nat.sub_zero, ← List.map_take]
  rw [List.length_map, show min k ns.length = min k ns.length from rfl, ← List.take_take, List.take_length]
section
variable {K : PySem.W.Frag} {σ : L2.St} {H : Hp} {Q : VK} {g : TG} {tb : TS} {D : Ends}
theorem rd_slT {a : Addr} {ns : List Int} {k : Nat} (h : SqL K H a (ns.map V.int)) (q : ∀ p, H p = none → Q (.ref p) (upd H p (.lst ((ns.take k).map V.int)))) : rSlL K (.ref a) none (some (k : Int)) H Q :=
  ⟨a, _, rfl, h, fun p hp => by rw [cut_to ns k]; exact q p hp⟩
theorem rd_forV {te : TE} (h : te σ H fun x H1 => ∃ n, x = .int n ∧ (-(2 ^ 62) ≤ (0 : Int) ∧ (0 : Int) < 2 ^ 62 ∧ -(2 ^ 62) ≤ n ∧ n < 2 ^ 62 ∧ LpW (Itc (0 + (((n - 0).toNat : Nat) : Int) - 1) (-1) (n - 0).toNat) g tb D σ H1)) : tFor (iRevR (tRg1 te)) g tb D σ H := h
theorem rd_nV {n : Int} {P : Prop} (h1 : -(2 ^ 62) ≤ n) (h2 : n < 2 ^ 62) (q : P) : -(2 ^ 62) ≤ (0 : Int) ∧ (0 : Int) < 2 ^ 62 ∧ -(2 ^ 62) ≤ n ∧ n < 2 ^ 62 ∧ P := ⟨by decide, by decide, h1, h2, q⟩
end
def spCoarse : Sp := fun vs H Q _ => ∃ (n k : Nat), vs = [.int (n : Int), .int (k : Int)] ∧ 1 ≤ n ∧ n ≤ 64 ∧ k ≤ 5 ∧ Q (.int (cc n k : Nat)) H
theorem use_coarse {n k : Nat} {H : Hp} {Q : VK} {E : XK} (h1 : 1 ≤ n) (h2 : n ≤ 64) (h3 : k ≤ 5) (q : Q (.int (cc n k : Nat)) H) : spCoarse ([.int (n : Int), .int (k : Int)] ++ []) H Q E := ⟨n, k, rfl, h1, h2, h3, q⟩
def spJoin1 : Sp := fun vs H Q _ => ∃ (s d : Addr) (S D : List Int), vs = [.ref s, .ref d] ∧ H s = some (.lst (S.map V.int)) ∧ H d = some (.lst (D.map V.int)) ∧ D.length ≤ S.length ∧ S.length ≤ 64 ∧ ∀ p H', Same H H' → H p = none → H' p = some (.lst ((jn S D).map V.int)) → Q (.ref p) H'
theorem use_join1 {s d : Addr} {S D : List Int} {H : Hp} {Q : VK} {E : XK} (h1 : H s = some (.lst (S.map V.int))) (h2 : H d = some (.lst (D.map V.int))) (h3 : D.length ≤ S.length) (h4 : S.length ≤ 64) (q : ∀ p H', Same H H' → H p = none → H' p = some (.lst ((jn S D).map V.int)) → Q (.ref p) H') : spJoin1 ([.ref s, .ref d] ++ []) H Q E := ⟨s, d, S, D, rfl, h1, h2, h3, h4, q⟩
def spJoin : Sp := fun vs H Q _ => ∃ (a : Addr) (ns : List Int) (k : Int), vs = [.ref a, .int k] ∧ H a = some (.lst (ns.map V.int)) ∧ 1 ≤ ns.length ∧ ns.length ≤ 64 ∧ 0 ≤ k ∧ k ≤ 5 ∧ ∀ p H', H p = none → Same H H' → H' p = some (.lst ((joinL ns k.toNat).map V.int)) → Q (.ref p) H'
theorem use_join {a : Addr} {ns : List Int} {k : Int} {H : Hp} {Q : VK} {E : XK} (h : H a = some (.lst (ns.map V.int))) (h1 : 1 ≤ ns.length) (h2 : ns.length ≤ 64) (h3 : 0 ≤ k) (h4 : k ≤ 5) (q : ∀ p H', H p = none → Same H H' → H' p = some (.lst ((joinL ns k.toNat).map V.int)) → Q (.ref p) H') : spJoin ([.ref a, .int k] ++ []) H Q E := ⟨a, ns, k, rfl, h, h1, h2, h3, h4, q⟩
theorem use_joinK {a : Addr} {ns : List Int} {k : Int} {H : Hp} {Q : VK} {E : XK} (h : H a = some (.lst (ns.map V.int))) (h1 : 1 ≤ ns.length) (h2 : ns.length ≤ 64) (h3 : 0 ≤ k) (h4 : k ≤ 5) (q : ∀ p H', H p = none → Same H H' → H' p = some (.lst ((joinL ns k.toNat).map V.int)) → Q (.ref p) H') : spJoin (kg 0 2 [1, 0] [] [.int k, .ref a]) H Q E := ⟨a, ns, k, rfl, h, h1, h2, h3, h4, q⟩
def spInts : Sp := fun vs H Q _ => ∃ (a : Addr) (ns : List Int) (n : Int), vs = [.ref a, .int n] ∧ H a = some (.lst (ns.map V.int)) ∧ (ns.length : Int) = n ∧ Q (.bl true) H
theorem use_ints {a : Addr} {ns : List Int} {n : Int} {H : Hp} {Q : VK} {E : XK} (h : H a = some (.lst (ns.map V.int))) (h1 : (ns.length : Int) = n) (q : Q (.bl true) H) : spInts ([.ref a, .int n] ++ []) H Q E := ⟨a, ns, n, rfl, h, h1, q⟩
section
variable {K : PySem.W.Frag} {σ : L2.St} {H : Hp} {Q : VK} {g : TG}
theorem rd_lcL {ti te : TE} {tt : TT} {vs : List Nat} (h : ti σ H fun x H1 => ∃ a, x = .ref a ∧ (∃ xs, SqL K H1 a xs) ∧ ∀ D, H1 D = none → LcW (Itl K a) g tt te vs Q σ H1 D) : tLc (iList K ti) g tt te vs σ H Q := h
end
structure Dn (K : PySem.W.Frag) (mg : Str → Option Value) (x : Str) (st : Stmt) (ps : List Str) (f : Addr) (fd : FuncData) : Prop where
  F : Fun K x x st f fd
  g : mg x = some (.ref f)
  b : Binds K fd ps []
structure Bi (mg : Str → Option Value) : Prop where
  int_ : mg "int" = none
  bool_ : mg "bool" = none
  str_ : mg "str" = none
  list_ : mg "list" = none
  tuple_ : mg "tuple" = none
  len_ : mg "len" = none
  abs_ : mg "abs" = none
  max_ : mg "max" = none
  min_ : mg "min" = none
  range_ : mg "range" = none
  zip_ : mg "zip" = none
  isinstance_ : mg "isinstance" = none
  enumerate_ : mg "enumerate" = none
  reversed_ : mg "reversed" = none
end Z
namespace Z
open PySem PySem.Spec PyProof.Rows L2
theorem mk_heap {H : Hp} {a d : Addr} {o1 o2 o3 o4 : HO} (ha : H a = none) (hd : d ≠ a) : upd (del (upd (upd (upd H a o1) d o2) a o3) a) d o4 = upd H d o4 := by
  funext b
  by_cases h1 : b = d
  · subst h1; rw [upd_same, upd_same]
  · rw [upd_ne h1, upd_ne h1]
    by_cases h2 : b = a
    · subst h2; rw [del_same, ha]
    · rw [del_ne h2, upd_ne h2, upd_ne h1, upd_ne h2]
/-- an own error class C, its name x, its one field f, its __init__ at fI -/
structure EC (K : PySem.W.Frag) (mg : Str → Option Value) (x f : Str) (C fI : Addr) : Prop where
  o : OexC K C
  xf : XfC K C
  ec : ExcC K C
  g : mg x = some (.ref C)
  noF : PySem.W.findIn K (.ref C) f = some none
  te : PySem.W.exmOne K (.ref C) (.ref C) = some true
  iC : PySem.W.findIn K (.ref C) "__init__" = some (some (.ref fI))
  tI : PySem.W.typeIn K (.ref fI) = some (.type "function")
def spInit (K : PySem.W.Frag) (C : Addr) (f : Str) : Sp := fun vs H Q _ => ∃ (a : Addr) (v : V), vs = [.ref a, v] ∧ H a = some (exo a C none) ∧ ∀ dx, H dx = none → dx ≠ a → Q .non (upd (upd H dx (exd dx [(f, v)])) a (exo a C (some dx)))
/-- the reading of raise C(e) -/
def tRaiseX (K : PySem.W.Frag) (C : Addr) (f : Str) (W : WX) (ta : TA) : TS := fun _ σ H => tMkO C (spInit K C f) [] ta σ H fun cls d H' => W cls d σ H'
section
variable {K : PySem.W.Frag} {σ : L2.St} {H : Hp} {C : Addr} {f : Str} {W : WX} {ta : TA} {D : Ends}
theorem rd_raiseX (h : ta σ H fun vs H1 => ∃ v, vs = [v] ∧ ∀ d, H1 d = none → W (.ref C) (some d) σ (upd H1 d (.xd [(f, v)]))) (hm : ∀ {q q' : List V → Hp → Prop}, (∀ vs H, q vs H → q' vs H) → ta σ H q → ta σ H q') : tRaiseX K C f W ta D σ H := by
  refine hm (fun vs H1 h => ?_) h
  obtain ⟨v, rfl, h⟩ := h
  refine ⟨by simp, fun a ha => ⟨a, v, rfl, upd_same, fun dx hdx hne => ⟨rfl, dx, [(f, v)], upd_same, ?_, ?_, ?_⟩⟩⟩
  · rw [upd_ne hne, upd_same]
  · rw [upd_ne hne] at hdx
    exact hdx
  · rw [mk_heap ha hne]
    rw [upd_ne hne] at hdx
    exact h dx hdx
theorem rd_raise1 {te : TE} (h : te σ H fun v H1 => ∀ d, H1 d = none → W (.ref C) (some d) σ (upd H1 d (.xd [(f, v)]))) (hm : ∀ {q q' : V → Hp → Prop}, (∀ v H, q v H → q' v H) → te σ H q → te σ H q') : tRaiseX K C f W (tCons te tNil) D σ H :=
  rd_raiseX (hm (fun v H1 z => ⟨v, rfl, z⟩) h) fun {q q'} hq hh => hm (fun v H1 z => hq _ _ z) hh
theorem rd_raiseV {i : Nat} {v : V} (e : σ[i]? = some (some v)) (h : ∀ d, H d = none → W (.ref C) (some d) σ (upd H d (.xd [(f, v)]))) : tRaiseX K C f W (tCons (tVar i) tNil) D σ H :=
  rd_raise1 ⟨v, e, h⟩ fun hq ⟨v, e, z⟩ => ⟨v, e, hq _ _ z⟩
theorem rd_raiseC {v : V} (h : ∀ d, H d = none → W (.ref C) (some d) σ (upd H d (.xd [(f, v)]))) : tRaiseX K C f W (tCons (tC v) tNil) D σ H := rd_raise1 (te := tC v) h fun hq z => hq _ _ z
end
/-- how an error leaves: of the class C, the field f holding v -/
def Err (C : Addr) (f : Str) (v : V) (H : Hp) (E : XK) : Prop := ∀ d H', Same H H' → H d = none → H' d = some (.xd [(f, v)]) → E (.ref C) (some d) H'
theorem Err.same {C : Addr} {f : Str} {v : V} {H H' : Hp} {E : XK} (s : Same H H') (h : Err C f v H E) : Err C f v H' E := fun d H2 s2 n e => h d H2 (s.trans s2) (s.free n) e
/-- an own error class with its own __init__, ready to be made -/
def ErrK (P : Program) (w : World) (K : PySem.W.Frag) (mg : Str → Option Value) (base : Heap) (x f : Str) (C : Addr) : Prop :=
  ∃ (fI : Addr) (fd : FuncData), EC K mg x f C fI ∧ FnOk P w K mg base CX0 1 fI fd ["self", f] (spInit K C f) ∧ Binds K fd ["self", f] []
section
variable {P : Program} {w : World} {K : PySem.W.Frag} {mg : Str → Option Value} {base : Heap} {x f : Str} {C : Addr}
theorem ErrK.g (T : ErrK P w K mg base x f C) : mg x = some (.ref C) := let ⟨_, _, t, _⟩ := T; t.g
end
open LamX
def KpN (p : Addr) (H H' : Hp) : Prop := ∀ b o, b ≠ p → H b = some o → (∀ ps, o ≠ .tbl ps) → H' b = some o
section
variable {p q : Addr} {H H' H1 H2 : Hp} {o u : HO}
theorem KpN.refl : KpN p H H := fun _ _ _ h _ => h
theorem KpN.trans (a : KpN p H H1) (b : KpN p H1 H2) : KpN p H H2 := fun c o n h t => b c o n (a c o n h t) t
theorem KpN.ofK (k : Kp p H H') : KpN p H H' := fun a o n h _ => k a o n h
theorem KpN.of (s : Same H H') : KpN p H H' := fun a o _ h _ => s a o h
theorem KpN.ofN (s : ExtN H H') : KpN p H H' := fun a o _ h t => s a o h t
theorem KpN.new (h : H q = none) : KpN p H (upd H q o) := .of (same_new h)
theorem KpN.at : KpN p H (upd H p o) := .ofK Kp.at
theorem lst_ntbl {xs : List V} : ∀ ps, HO.lst xs ≠ .tbl ps := fun _ z => nomatch z
theorem tup_ntbl {xs : List V} : ∀ ps, HO.tup xs ≠ .tbl ps := fun _ z => nomatch z
theorem look_extL {a : Addr} {xs : List V} (s : ExtN H H') (h : H a = some (.lst xs)) : H' a = some (.lst xs) := s _ _ h lst_ntbl
theorem look_extT {a : Addr} {xs : List V} (s : ExtN H H') (h : H a = some (.tup xs)) : H' a = some (.tup xs) := s _ _ h tup_ntbl
theorem Pool.ext (s : ExtN H H') (h : Pool H p) : Pool H' p := by
  obtain ⟨x, y, e, r⟩ := h
  exact ⟨x, y, s _ _ e lst_ntbl, r⟩
theorem Tabs.same {T : List (Addr × Str)} (s : Same H H') (t : Tabs T H) : Tabs T H' := t.ext fun b o h => s b o h
theorem Tabs.new {T : List (Addr × Str)} (n : H q = none) (t : Tabs T H) : Tabs T (upd H q o) := t.ext fun b o h => same_new n b o h
theorem codeO_lst {c : Addr} {q : Str} {xs : List V} : CodeO c q ≠ .lst xs := fun z => by
  unfold CodeO at z
  cases z
theorem Tabs.kp {T : List (Addr × Str)} (hp : Pool H p) (k : Kp p H H') (t : Tabs T H) : Tabs T H' := fun e he => by
  obtain ⟨x, y, hl, _⟩ := hp
  obtain ⟨ps, h1, h2, h3⟩ := t e he
  refine ⟨ps, k _ _ (fun z => by rw [z, hl] at h1; cases h1) h1, h2, fun pos cv hc => ?_⟩
  obtain ⟨c, e1, e2⟩ := h3 pos cv hc
  exact ⟨c, e1, k _ _ (fun z => by rw [z, hl] at e2; exact codeO_lst (Option.some.inj e2).symm) e2⟩
end
def DV (p : Addr) (H : Hp) (v : V) : Prop := scalarV v = true ∨ ∃ a xs, v = .ref a ∧ a ≠ p ∧ (H a = some (.lst xs) ∨ H a = some (.tup xs)) ∧ ∀ x ∈ xs, scalarV x = true
section
variable {p : Addr} {H H' : Hp} {v : V} {K : PySem.W.Frag}
theorem DV.ty (h : DV p H v) : TyV H v := by
  rcases h with h | ⟨a, xs, rfl, _, h | h, _⟩
  · cases v <;> first | exact True.intro | exact Bool.noConfusion h
  · exact .inl ⟨xs, h⟩
  · exact .inr ⟨xs, h⟩
theorem DV.sc (h : scalarV v = true) : DV p H v := .inl h
theorem DV.lst {a : Addr} {xs : List V} (n : a ≠ p) (h : H a = some (.lst xs)) (s : ∀ x ∈ xs, scalarV x = true) : DV p H (.ref a) := .inr ⟨a, xs, rfl, n, .inl h, s⟩
theorem DV.tup {a : Addr} {xs : List V} (n : a ≠ p) (h : H a = some (.tup xs)) (s : ∀ x ∈ xs, scalarV x = true) : DV p H (.ref a) := .inr ⟨a, xs, rfl, n, .inr h, s⟩
end
/-- what the error that told caught becomes: a list of flags and of its field -/
def ErL (C : Addr) (f : Str) (L : V → List V) (Q : VK) : XK := fun cls d H' => cls = .ref C ∧ ∃ dd v, d = some dd ∧ H' dd = some (.xd [(f, v)]) ∧ ∀ p H'', Same H' H'' → H' p = none → H'' p = some (.lst (L v)) → Q (.ref p) H''
/-- try: a() / except C as e: return [.., e.f] / return None -/
def TTnone (C : Addr) (f : Str) (L : V → List V) : (XK → Hp → VK → Prop) → Hp → VK → Prop := fun tl H Q => tl (ErL C f L Q) H (fun _ H' => Q .non H')
section
variable {X : Cx} {K : PySem.W.Frag} {σ : L2.St} {H : Hp} {Q : VK} {D : Ends} {n : L2.St → Hp → Prop} {r : VK} {b c : L2.St → Hp → Prop}
theorem rd_xf {C a : Addr} {cls : Value} {d : Option Addr} {f : Str} {te : TE} (h : te σ H fun x H1 => x = .ref a ∧ cls = .ref C ∧ ∃ (dd : Addr) (fs : List (Str × V)) (v : V), d = some dd ∧ H1 dd = some (.xd fs) ∧ fs.lookup f = some v ∧ Q v H1) : tXf a cls d C f te σ H Q := h
theorem rd_lam {T : List (Addr × Str)} {TT : (XK → Hp → VK → Prop) → Hp → VK → Prop} {t : XK → TE} (h1 : Tabs T H) (h2 : ∀ H1, ExtN H H1 → Tabs T H1 → TT (fun E H' Q' => t E σ H' Q') H1 Q) : tLam T TT t σ H Q := ⟨h1, h2⟩
theorem rd_told {C : Addr} {f : Str} {L : V → List V} {tl : XK → Hp → VK → Prop} (h : tl (ErL C f L Q) H (fun _ H' => Q .non H')) : TTnone C f L tl H Q := h
end
end Z
namespace Z
open PySem PySem.Spec PyProof.Rows L2
def geZ : V → Bool
  | .int i => decide (0 ≤ i)
  | _ => false
def tt (u v : V) : Bool := isI u && (geZ u && inI v 1 15)
inductive TR (H : Hp) : V → Bool → Prop where
  | flat {x : V} (h : scalarV x = true) : TR H x false
  | lst {a : Addr} {xs : List V} (h : H a = some (.lst xs)) : TR H (.ref a) false
  | tupn {a : Addr} {xs : List V} (h : H a = some (.tup xs)) (n : xs.length ≠ 2) : TR H (.ref a) false
  | tup2 {a : Addr} {u v : V} (h : H a = some (.tup [u, v])) (hu : TyV H u) (hv : TyV H v) : TR H (.ref a) (tt u v)
inductive TSR (H : Hp) : V → Bool → Prop where
  | flat {x : V} (h : scalarV x = true) : TSR H x false
  | lst {a : Addr} {xs : List V} (h : H a = some (.lst xs)) : TSR H (.ref a) false
  | tupn {a : Addr} {xs : List V} (h : H a = some (.tup xs)) (n : xs.length ≠ 2) : TSR H (.ref a) false
  | tup2 {a : Addr} {u v : V} {b1 b2 : Bool} (h : H a = some (.tup [u, v])) (hu : TR H u b1) (hv : TR H v b2) : TSR H (.ref a) (b1 && b2)
/-- the parameter of a table -/
def par (t c : Int) : Nat := Builtin.Int.intBits ((if 1 > (t + c - 1) / c then 1 else (t + c - 1) / c) - 1)
theorem par_spec {t c : Int} (ht : 0 ≤ t) (hc : 1 ≤ c) : (∀ j : Nat, j < par t c → c * 2 ^ j < t) ∧ t ≤ c * 2 ^ par t c := by
  have d1 := Int.mul_ediv_self_le (x := t + c - 1) (k := c) (by omega)
  have d2 : t + c - 1 < c * ((t + c - 1) / c) + c := Int.lt_mul_ediv_self_add (by omega)
  unfold par
  generalize (t + c - 1) / c = q at d1 d2 ⊢
  have key : ∃ m : Int, (if 1 > q then 1 else q) - 1 = m ∧ 0 ≤ m ∧ t ≤ c * (m + 1) ∧ (0 < m → c * m < t) := by
    by_cases h : 1 > q
    · rw [if_pos h]
      refine ⟨0, rfl, Int.le_refl _, ?_, fun z => absurd z (by decide)⟩
      have : c * q ≤ 0 := by
        have := Int.mul_le_mul_of_nonneg_left (show q ≤ 0 by omega) (show 0 ≤ c by omega)
        rw [Int.mul_zero] at this
        exact this
      omega
    · rw [if_neg h]
      refine ⟨q - 1, rfl, by omega, ?_, fun _ => ?_⟩
      · rw [show q - 1 + 1 = q by omega]; omega
      · rw [Int.mul_sub, Int.mul_one]; omega
  obtain ⟨m, e, m0, m1, m2⟩ := key
  rw [e]
  obtain ⟨n, rfl⟩ : ∃ n : Nat, m = (n : Int) := ⟨m.toNat, by omega⟩
  refine ⟨fun j hj => ?_, ?_⟩
  · have h1 : ¬ (Builtin.Int.intBits (n : Int) ≤ j) := by omega
    rw [PySem.intBits_le_iff, Int.natAbs_natCast] at h1
    have h2 : (2 ^ j : Nat) ≤ n := by omega
    have h3 : (0 : Nat) < 2 ^ j := Nat.two_pow_pos j
    have h4 : ((2 ^ j : Nat) : Int) ≤ (n : Int) := by exact_mod_cast h2
    have h5 := Int.mul_le_mul_of_nonneg_left h4 (show 0 ≤ c by omega)
    have h6 := m2 (by omega)
    have h7 : ((2 : Int) ^ j) = ((2 ^ j : Nat) : Int) := by norm_cast
    rw [h7]
    omega
  · have h1 := PySem.intBits_le_iff.mp (Nat.le_refl (Builtin.Int.intBits (n : Int)))
    rw [Int.natAbs_natCast] at h1
    generalize Builtin.Int.intBits (n : Int) = k at h1 ⊢
    have h4 : ((n : Int) + 1) ≤ ((2 ^ k : Nat) : Int) := by exact_mod_cast h1
    have h5 := Int.mul_le_mul_of_nonneg_left h4 (show 0 ≤ c by omega)
    have h7 : ((2 : Int) ^ k) = ((2 ^ k : Nat) : Int) := by norm_cast
    rw [h7]
    omega
theorem par_le {t c : Int} (ht : 0 ≤ t) (hc : 1 ≤ c) (hb : t < 10 ^ 60) (hc2 : c ≤ 15) : par t c ≤ 300 := by
  have d1 := Int.mul_ediv_self_le (x := t + c - 1) (k := c) (by omega)
  unfold par
  rw [PySem.intBits_le_iff]
  have e : (10 : Int) ^ 60 + 20 < 2 ^ 300 := by decide
  have q0 : 0 ≤ (t + c - 1) / c := Int.ediv_nonneg (by omega) (by omega)
  have q1 : (t + c - 1) / c ≤ t + c - 1 := Int.ediv_le_self _ (by omega)
  generalize (t + c - 1) / c = q at q0 q1 ⊢
  have e2 : ((2 ^ 300 : Nat) : Int) = 2 ^ 300 := by norm_cast
  split <;> omega
/-- drawn rows: drawn values, their numbers not too long -/
def smallV : V → Prop
  | .int i => i.natAbs < 10 ^ 58
  | _ => True
def RV (p : Addr) (H : Hp) (v : V) : Prop := scalarV v = true ∨ ∃ a xs, v = .ref a ∧ a ≠ p ∧ (H a = some (.lst xs) ∨ H a = some (.tup xs)) ∧ (∀ x ∈ xs, scalarV x = true) ∧ ∀ x ∈ xs, smallV x
section
variable {p : Addr} {H H' : Hp} {v : V}
theorem RV.sc (h : scalarV v = true) : RV p H v := .inl h
theorem RV.lst {a : Addr} {xs : List V} (n : a ≠ p) (h : H a = some (.lst xs)) (s : ∀ x ∈ xs, scalarV x = true) (t : ∀ x ∈ xs, smallV x) : RV p H (.ref a) := .inr ⟨a, xs, rfl, n, .inl h, s, t⟩
theorem RV.tup {a : Addr} {xs : List V} (n : a ≠ p) (h : H a = some (.tup xs)) (s : ∀ x ∈ xs, scalarV x = true) (t : ∀ x ∈ xs, smallV x) : RV p H (.ref a) := .inr ⟨a, xs, rfl, n, .inr h, s, t⟩
theorem RV.ne {a : Addr} (h : RV p H (.ref a)) : a ≠ p := by
  rcases h with h | ⟨b, xs, e, n, _⟩
  · exact Bool.noConfusion h
  · cases e
    exact n
theorem RV.tsr (h : RV p H v) : TSR H v false := by
  rcases h with h | ⟨a, xs, rfl, n, h | h, s, t⟩
  · exact .flat h
  · exact .lst h
  · by_cases hl : xs.length = 2
    · obtain ⟨u, w, rfl⟩ := len2 hl
      exact .tup2 (b1 := false) (b2 := false) h (.flat (s u (by simp))) (.flat (s w (by simp)))
    · exact .tupn h hl
end
def spRow : Sp := fun vs H Q _ => ∃ p, vs = [.ref p] ∧ Pool H p ∧ ∀ v H', RV p H' v → Pool H' p → Kp p H H' → Q v H'
theorem use_row {p : Addr} {H : Hp} {Q : VK} {E : XK} (h : Pool H p) (q : ∀ v H', RV p H' v → Pool H' p → Kp p H H' → Q v H') : spRow ([.ref p] ++ []) H Q E := ⟨p, rfl, h, q⟩
section
variable {K : PySem.W.Frag} {σ : L2.St} {H : Hp} {Q : VK}
theorem rd_bits {te : TE} (h : te σ H fun x H1 => ∃ i, x = .int i ∧ Q (.int (Builtin.Int.intBits i : Nat)) H1) : tBits te σ H Q := h
end
end Z
namespace Z
open PySem PySem.Spec PyProof.Rows L2
/-- joints: place, width, shape -/
abbrev Jo := Nat × Nat × Nat
def JsAt (H : Hp) (vs : List V) (js : List Jo) : Prop := vs.length = js.length ∧ ∀ (i : Nat) (v : V), vs[i]? = some v → ∃ (j : Jo) (a q : Addr), js[i]? = some j ∧ v = .ref a ∧ H a = some (.tup [.int (j.1 : Nat), .ref q]) ∧ H q = some (.tup [.int (j.2.1 : Nat), .int (j.2.2 : Nat)])
theorem JsAt.kp {p : Addr} {H H' : Hp} {vs : List V} {js : List Jo} (k : Kp p H H') (hp : ∃ xs, H p = some (.lst xs)) (h : JsAt H vs js) : JsAt H' vs js := ⟨h.1, fun i v e => by
  obtain ⟨j, a, q, e1, e2, e3, e4⟩ := h.2 i v e
  obtain ⟨xs, hp⟩ := hp
  exact ⟨j, a, q, e1, e2, k _ _ (fun z => by rw [z, hp] at e3; cases e3) e3, k _ _ (fun z => by rw [z, hp] at e4; cases e4) e4⟩⟩
theorem JsAt.same {H H' : Hp} {vs : List V} {js : List Jo} (k : Same H H') (h : JsAt H vs js) : JsAt H' vs js := ⟨h.1, fun i v e => by
  obtain ⟨j, a, q, e1, e2, e3, e4⟩ := h.2 i v e
  exact ⟨j, a, q, e1, e2, k _ _ e3, k _ _ e4⟩⟩
theorem rd_appG {a : Addr} {xs : List V} {v : V} {H : Hp} {Q : VK} (h : H a = some (.lst xs)) (n : xs.length ≤ 1000) (q : Q .non (upd H a (.lst (xs ++ [v])))) : rAppend (.ref a) [v] H Q := ⟨a, _, _, rfl, rfl, h, small1000 n, q⟩
def KpL (l : List Addr) (H H' : Hp) : Prop := ∀ a o, a ∉ l → H a = some o → H' a = some o
section
variable {l : List Addr} {p q : Addr} {H H' H1 H2 : Hp} {o : HO}
theorem KpL.refl : KpL l H H := fun _ _ _ h => h
theorem KpL.trans (a : KpL l H H1) (b : KpL l H1 H2) : KpL l H H2 := fun c o n h => b c o n (a c o n h)
theorem KpL.ofS (s : Same H H') : KpL l H H' := fun a o _ h => s a o h
theorem KpL.ofK (m : p ∈ l) (k : Kp p H H') : KpL l H H' := fun a o n h => k a o (fun z => n (by rw [z]; exact m)) h
theorem KpL.new (n : H q = none) : KpL l H (upd H q o) := .ofS (same_new n)
theorem KpL.at (m : q ∈ l) : KpL l H (upd H q o) := fun a x n h => by
  have ne : a ≠ q := fun z => n (by rw [z]; exact m)
  rw [upd_ne ne]
  exact h
theorem KpL.mono {m : List Addr} (h : ∀ a ∈ l, a ∈ m) (k : KpL l H H') : KpL m H H' := fun a o n e => k a o (fun z => n (h a z)) e
theorem KpL.free (k : KpL l H H') (n : H' q = none) (m : q ∉ l) : H q = none := by
  cases e : H q with
  | none => rfl
  | some o => rw [k _ _ m e] at n; cases n
end
end Z
namespace Z
open PySem PySem.Spec PyProof.Rows L2
def LT (H : Hp) (a : Addr) (xs : List V) : Prop := H a = some (.lst xs) ∨ H a = some (.tup xs)
section
variable {K : PySem.W.Frag} {σ : L2.St} {H H' : Hp} {Q : VK} {g : TG} {tb : TS} {D : Ends} {a : Addr} {xs : List V}
theorem LT.same (s : Same H H') (h : LT H a xs) : LT H' a xs := h.imp (s _ _) (s _ _)
theorem LT.ne {q : Addr} (h : LT H a xs) (n : H q = none) : a ≠ q := by
  rcases h with h | h
  · exact ne_of_none h n
  · exact ne_of_none h n
end
theorem getD_some {xs : List Int} {k : Nat} {z : Int} (h : xs[k]? = some z) : xs.getD k 0 = z := by rw [List.getD_eq_getElem?_getD, h]; rfl
def rToTup (K : PySem.W.Frag) : List V → Hp → VK → Prop := fun xs H Q => ∃ p ys, xs = [.ref p] ∧ ((SqL K H p ys ∧ ∀ l, H l = none → Q (.ref l) (upd H l (.tup ys))) ∨ (SqT K H p ys ∧ Q (.ref p) H))
theorem cTuple {X : Cx} : CallR X (.type "tuple") (rToTup X.K) := call_tuple_of
theorem rd_tupL {K : PySem.W.Frag} {H : Hp} {Q : VK} {p : Addr} {xs : List V} (h : SqL K H p xs) (q : ∀ l, H l = none → Q (.ref l) (upd H l (.tup xs))) : rToTup K [.ref p] H Q := ⟨p, xs, rfl, .inl ⟨h, q⟩⟩
end Z
namespace Z
open PySem PySem.Spec PyProof.Rows L2
/-- the last k binary digits of u, as signs -/
def lowB (u : Nat) : Nat → List Nat
  | 0 => []
  | k + 1 => lowB (u / 2) k ++ [48 + u % 2]
/-- the number of signs -/
def valB (l : List Nat) : Nat := l.foldl (fun a c => 2 * a + (c - 48)) 0
theorem lowB_length (u : Nat) : ∀ k, (lowB u k).length = k
  | 0 => rfl
  | k + 1 => by
    show (lowB (u / 2) k ++ [48 + u % 2]).length = k + 1
    rw [List.length_append, lowB_length (u / 2) k]
    rfl
theorem lowB_bin : ∀ (k u : Nat), ∀ c ∈ lowB u k, c = 48 ∨ c = 49
  | 0, _, c, h => absurd h List.not_mem_nil
  | k + 1, u, c, h => by
    rcases List.mem_append.mp h with h | h
    · exact lowB_bin k (u / 2) c h
    · rw [List.mem_singleton.mp h]
      omega
theorem valB_snoc (l : List Nat) (c : Nat) : valB (l ++ [c]) = 2 * valB l + (c - 48) := by
  unfold valB
  rw [List.foldl_append]
  rfl
/-- how many binary digits -/
def nb (u : Nat) : Nat := if u = 0 then 1 else Nat.log2 u + 1
theorem nb_half {u : Nat} (h : 2 ≤ u) : nb u = nb (u / 2) + 1 := by
  unfold nb
  rw [if_neg (by omega), if_neg (by omega), Nat.log2_def, if_pos h]
theorem nb_lt (u : Nat) : u < 2 ^ nb u := by
  unfold nb
  split
  · omega
  · exact Nat.lt_log2_self
theorem nb_le {u : Nat} (h : u ≠ 0) : 2 ^ (nb u - 1) ≤ u := by
  unfold nb
  rw [if_neg h]
  exact Nat.log2_self_le h
/-- the binary digits, as Python writes them -/
def binB (u : Nat) : List Nat := lowB u (nb u)
theorem toD_two : ∀ u : Nat, (Nat.toDigits 2 u).map Char.toNat = binB u := by
  intro u
  induction u using Nat.strongRecOn with
  | _ u ih =>
    by_cases h : u < 2
    · rcases (show u = 0 ∨ u = 1 by omega) with rfl | rfl
      · decide
      · decide
    · have e : Nat.toDigits 2 u = Nat.toDigits 2 (u / 2) ++ [Nat.digitChar (u % 2)] := by
        have := Nat.toDigits_append_toDigits (b := 2) (n := u / 2) (d := u % 2) (by omega) (by omega) (by omega)
        rw [Nat.div_add_mod] at this
        rw [← this]
        congr 1
        exact Nat.toDigits_of_lt_base (by omega)
      rw [e, List.map_append, ih (u / 2) (by omega)]
      unfold binB
      rw [nb_half (u := u) (by omega)]
      show _ = lowB (u / 2) (nb (u / 2)) ++ [48 + u % 2]
      congr 1
      rcases (show u % 2 = 0 ∨ u % 2 = 1 by omega) with e | e
      · rw [e]; rfl
      · rw [e]; rfl
theorem lowB_drop (a : Nat) : ∀ (k u : Nat), (lowB u (a + k)).drop a = lowB u k
  | 0, u => List.drop_eq_nil_of_le (by rw [lowB_length]; exact Nat.le_refl _)
  | k + 1, u => by
    show (lowB (u / 2) (a + k) ++ [48 + u % 2]).drop a = lowB (u / 2) k ++ [48 + u % 2]
    rw [List.drop_append_of_le_length (by rw [lowB_length]; omega), lowB_drop a k (u / 2)]
theorem lowB_zero : ∀ a : Nat, lowB 0 a = List.replicate a 48
  | 0 => rfl
  | a + 1 => by
    show lowB 0 a ++ [48] = _
    rw [lowB_zero a, List.replicate_succ']
theorem lowB_big (a : Nat) : ∀ (j u : Nat), u < 2 ^ j → lowB u (a + j) = List.replicate a 48 ++ lowB u j
  | 0, u, h => by
    have e : u = 0 := by have : (2 : Nat) ^ 0 = 1 := rfl; omega
    subst e
    rw [lowB_zero]
    exact (List.append_nil _).symm
  | j + 1, u, h => by
    show lowB (u / 2) (a + j) ++ [48 + u % 2] = List.replicate a 48 ++ (lowB (u / 2) j ++ [48 + u % 2])
    rw [lowB_big a j (u / 2) (by rw [Nat.pow_succ] at h; omega), List.append_assoc]
theorem lowB_front : ∀ (k u : Nat), lowB u (k + 1) = (48 + u / 2 ^ k % 2) :: lowB u k
  | 0, u => by
    show [] ++ [48 + u % 2] = [48 + u / 1 % 2]
    rw [Nat.div_one]
    rfl
  | k + 1, u => by
    show lowB (u / 2) (k + 1) ++ [48 + u % 2] = (48 + u / 2 ^ (k + 1) % 2) :: (lowB (u / 2) k ++ [48 + u % 2])
    rw [lowB_front k (u / 2), Nat.div_div_eq_div_mul, Nat.pow_succ, Nat.mul_comm 2 (2 ^ k)]
    rfl
theorem nb_min {u j : Nat} (h : u < 2 ^ j) (hj : 1 ≤ j) : nb u ≤ j := by
  by_cases e : u = 0
  · unfold nb
    rw [if_pos e]
    exact hj
  · have h1 := nb_le e
    have h2 : 2 ^ (nb u - 1) < 2 ^ j := Nat.lt_of_le_of_lt h1 h
    have h3 := (Nat.pow_lt_pow_iff_right (by decide : 1 < 2)).mp h2
    omega
theorem nb_pos (u : Nat) : 1 ≤ nb u := by
  unfold nb
  split <;> omega
theorem binB_length (u : Nat) : (binB u).length = nb u := lowB_length _ _
/-- the last k signs of the digits, filled up with zeros -/
theorem low_fill (u k : Nat) : ((if k ≤ nb u then binB u else List.replicate (k - nb u) 48 ++ binB u).drop ((if k ≤ nb u then binB u else List.replicate (k - nb u) 48 ++ binB u).length - k)) = lowB u k := by
  by_cases h : k ≤ nb u
  · rw [if_pos h, binB_length]
    have e := lowB_drop (nb u - k) k u
    rw [Nat.sub_add_cancel h] at e
    exact e
  · rw [if_neg h, List.length_append, List.length_replicate, binB_length, show k - nb u + nb u - k = 0 by omega, List.drop_zero]
    have e := lowB_big (k - nb u) (nb u) u (nb_lt u)
    rw [show k - nb u + nb u = k by omega] at e
    exact e.symm
theorem low_fill2 (u k j : Nat) (h : u < 2 ^ j) : (List.replicate k 48 ++ lowB u j).drop ((List.replicate k 48 ++ lowB u j).length - k) = lowB u k := by
  rw [← lowB_big k j u h, lowB_length, show k + j - k = j by omega, Nat.add_comm k j]
  exact lowB_drop j k u
/-- the bits of a code number -/
def encB (u k : Nat) : List Nat := if u / 2 ^ k < 20 then List.replicate (u / 2 ^ k) 49 ++ [48] ++ lowB u k else List.replicate (19 + nb u) 49 ++ [48] ++ binB u
theorem encB_len (u k : Nat) : (encB u k).length ≤ 21 + k + 2 * nb u := by
  unfold encB
  split
  · rw [List.length_append, List.length_append, List.length_replicate, lowB_length]
    show _ + 1 + k ≤ _
    omega
  · rw [List.length_append, List.length_append, List.length_replicate, binB_length]
    show _ + 1 + _ ≤ _
    omega
theorem encB_bin (u k : Nat) : ∀ c ∈ encB u k, c = 48 ∨ c = 49 := by
  intro c h
  unfold encB at h
  split at h
  · rcases List.mem_append.mp h with h | h
    · rcases List.mem_append.mp h with h | h
      · exact .inr (List.eq_of_mem_replicate h)
      · exact .inl (List.mem_singleton.mp h)
    · exact lowB_bin _ _ c h
  · rcases List.mem_append.mp h with h | h
    · rcases List.mem_append.mp h with h | h
      · exact .inr (List.eq_of_mem_replicate h)
      · exact .inl (List.mem_singleton.mp h)
    · exact lowB_bin _ _ c h
abbrev Tb := Int × Int
def tbB (t : Tb) (u : Nat) : Tb := if t.2 + 1 > 15 then ((t.1 + (u : Int)) / 2, 8) else (t.1 + (u : Int), t.2 + 1)
def uOf (n : Int) : Nat := (codeU n).toNat
theorem uOf_eq (n : Int) : ((uOf n : Nat) : Int) = codeU n := by
  unfold uOf codeU
  split <;> omega
def wst (ns : List Int) (first : Nat) (T : Tb × Tb) : Nat → List (List Nat) × (Tb × Tb)
  | 0 => ([], T)
  | i + 1 =>
    let s := wst ns first T i
    let u := uOf (ns.getD i 0)
    if i < first then (s.1 ++ [encB u (par s.2.1.1 s.2.1.2)], (tbB s.2.1 u, s.2.2)) else (s.1 ++ [encB u (par s.2.2.1 s.2.2.2)], (s.2.1, tbB s.2.2 u))
/-- a table in its limits, its total at most m -/
def TbOk (m : Int) (t : Tb) : Prop := 0 ≤ t.1 ∧ t.1 ≤ m ∧ 1 ≤ t.2 ∧ t.2 ≤ 15
theorem tbB_ok {m : Int} {t : Tb} {u : Nat} (h : TbOk m t) (hu : (u : Int) ≤ 10 ^ 56) : TbOk (m + 10 ^ 56) (tbB t u) := by
  obtain ⟨h1, h2, h3, h4⟩ := h
  unfold tbB
  split
  · refine ⟨?_, ?_, by show (1 : Int) ≤ 8; decide, by show (8 : Int) ≤ 15; decide⟩
    · show 0 ≤ (t.1 + (u : Int)) / 2
      omega
    · show (t.1 + (u : Int)) / 2 ≤ m + 10 ^ 56
      omega
  · exact ⟨by show 0 ≤ t.1 + (u : Int); omega, by show t.1 + (u : Int) ≤ m + 10 ^ 56; omega, by show 1 ≤ t.2 + 1; omega, by show t.2 + 1 ≤ 15; omega⟩
theorem TbOk.mono {m n : Int} {t : Tb} (h : TbOk m t) (e : m ≤ n) : TbOk n t := ⟨h.1, Int.le_trans h.2.1 e, h.2.2⟩
theorem uOf_le {n : Int} (h : n.natAbs < 10 ^ 55) : ((uOf n : Nat) : Int) ≤ 10 ^ 56 := by
  rw [uOf_eq]
  unfold codeU
  split <;> omega
theorem wst_ok {ns : List Int} {first : Nat} {T : Tb × Tb} (hn : ∀ z ∈ ns, z.natAbs < 10 ^ 55) (h0 : TbOk (10 ^ 58) T.1) (h1 : TbOk (10 ^ 58) T.2) : ∀ i : Nat, i ≤ 64 → TbOk (10 ^ 58 + (i : Int) * 10 ^ 56) (wst ns first T i).2.1 ∧ TbOk (10 ^ 58 + (i : Int) * 10 ^ 56) (wst ns first T i).2.2
  | 0, _ => ⟨h0.mono (by omega), h1.mono (by omega)⟩
  | i + 1, hi => by
    obtain ⟨a, b⟩ := wst_ok (first := first) hn h0 h1 i (by omega)
    have hu : ((uOf (ns.getD i 0) : Nat) : Int) ≤ 10 ^ 56 := uOf_le (by
      rw [List.getD_eq_getElem?_getD]
      cases e : ns[i]? with
      | none => decide
      | some z => exact hn z (List.mem_of_getElem? e))
    show TbOk _ (if i < first then _ else _ : List (List Nat) × (Tb × Tb)).2.1 ∧ TbOk _ (if i < first then _ else _ : List (List Nat) × (Tb × Tb)).2.2
    by_cases c : i < first
    · rw [if_pos c]
      exact ⟨(tbB_ok a hu).mono (by push_cast; omega), b.mono (by push_cast; omega)⟩
    · rw [if_neg c]
      exact ⟨a.mono (by push_cast; omega), (tbB_ok b hu).mono (by push_cast; omega)⟩
theorem wst_len (ns : List Int) (first : Nat) (T : Tb × Tb) : ∀ i, (wst ns first T i).1.length = i
  | 0 => rfl
  | i + 1 => by
    show (if i < first then _ else _ : List (List Nat) × (Tb × Tb)).1.length = i + 1
    split
    · rw [List.length_append, wst_len ns first T i]; rfl
    · rw [List.length_append, wst_len ns first T i]; rfl
end Z
namespace Z
open PySem PySem.Spec PyProof.Rows L2
open SX (S S_len S_cat S_inj)
section
open PySem.Builtin PySem.Builtin.Str PySem.Builtin.Int PySem.Builtin.Float
def binD (n : Nat) : List Nat := (Nat.toDigits 2 n).map Char.toNat
theorem eb : Str.ofString "b" = S [98] := by rfl
theorem pad_no (D : List Nat) (h : D ≠ []) : (⟨(List.replicate (((-1 : Int) - 0 - ((if D.isEmpty then [] else List.replicate ((0 : Int).toNat - D.length) 48 ++ D : List Nat).length : Nat)).toNat) 32 ++ [] ++ [] ++ List.replicate 0 32 ++ (if D.isEmpty then [] else List.replicate ((0 : Int).toNat - D.length) 48 ++ D) ++ [] ++ List.replicate 0 32).toArray⟩ : Str) = S D := by
  have e : (if D.isEmpty then [] else List.replicate ((0 : Int).toNat - D.length) 48 ++ D : List Nat) = D := by
    cases D with
    | nil => exact absurd rfl h
    | cons c r =>
      show List.replicate (0 - _) 48 ++ c :: r = c :: r
      rw [Nat.zero_sub]
      rfl
  rw [e, show ((-1 : Int) - 0 - (D.length : Nat)).toNat = 0 by omega]
  simp
theorem binD_ne (n : Nat) : binD n ≠ [] := by
  unfold binD
  intro h
  have := List.map_eq_nil_iff.mp h
  exact absurd this Nat.toDigits_ne_nil
set_option maxHeartbeats 1000000 in
theorem fmtb_eq (n : Nat) (t u : Tok) : ∃ X, Builtin.«int.__format__» ⟨[.int (n : Int) t, .str (S [98]) u], []⟩ = retStr X ∧ X = S (binD n) := by
  refine ⟨_, rfl, ?_⟩
  exact pad_no _ (binD_ne n)
theorem gives_fmtb (n : Nat) (t u : Tok) : Gives (Builtin.«int.__format__» ⟨[.int (n : Int) t, .str (S [98]) u], []⟩) (.str (S (binD n))) := by
  obtain ⟨X, e, rfl⟩ := fmtb_eq n t u
  rw [e]
  exact .of_eq rfl
end
end Z
namespace Z
open PySem PySem.Spec PyProof.Rows L2
open SX (S S_len S_cat S_inj)
theorem S_add (a b : List Nat) : S a ++ S b = S (a ++ b) := S_cat a b
def rAddT : R2 := fun x y H Q => ∃ a b : List Nat, x = .str (S a) ∧ y = .str (S b) ∧ a.length + b.length ≤ 16777216 ∧ Q (.str (S (a ++ b))) H
theorem op_addT {X : Cx} : OpR X (binaryOp .Add) rAddT := by
  intro pins s σ H x y v u Q I rx ry h
  obtain ⟨a, b, rfl, rfl, hl, q⟩ := h
  exact op_add_str pins s σ H _ _ v u Q I rx ry ⟨S a, S b, rfl, rfl, by rw [S_len, S_len]; exact hl, by rw [S_add]; exact q⟩
theorem fold_app : ∀ (n : Nat) (a acc : Array Nat), (List.replicate n a).foldl (· ++ ·) acc = acc ++ ((List.replicate n a.toList).flatten).toArray
  | 0, a, acc => by simp
  | n + 1, a, acc => by
    rw [List.replicate_succ, List.foldl_cons, fold_app n a, List.replicate_succ, List.flatten_cons]
    refine Array.toList_inj.mp ?_
    rw [Array.toList_append, Array.toList_append, Array.toList_append, List.append_assoc]
/-- a text, so many times -/
def repL (l : List Nat) (n : Nat) : List Nat := (List.replicate n l).flatten
theorem repL_one (c n : Nat) : repL [c] n = List.replicate n c := by
  induction n with
  | zero => rfl
  | succ n ih =>
    unfold repL at ih ⊢
    rw [List.replicate_succ, List.flatten_cons, ih]
    rfl
theorem repL_length (l : List Nat) : ∀ n, (repL l n).length = n * l.length
  | 0 => by simp [repL]
  | n + 1 => by
    have ih := repL_length l n
    unfold repL at ih ⊢
    rw [List.replicate_succ, List.flatten_cons, List.length_append, ih, Nat.succ_mul, Nat.add_comm]
theorem repL_nil : ∀ n, repL [] n = []
  | 0 => rfl
  | n + 1 => by
    have ih := repL_nil n
    unfold repL at ih ⊢
    rw [List.replicate_succ, List.flatten_cons, ih]
    rfl
def rMulT : R2 := fun x y H Q => ∃ (a : List Nat) (k : Int), x = .str (S a) ∧ y = .int k ∧ -1000000 ≤ k ∧ k ≤ 1000000 ∧ a.length * k.toNat ≤ 1000000 ∧ Q (.str (S (repL a k.toNat))) H
theorem tooLong_no {n : Nat} (h : n ≤ 1000000) : Builtin.Str.tooLong n = false := by
  have z : 1000000 < sizeLine := by decide
  unfold Builtin.Str.tooLong
  first
    | exact decide_eq_false (by omega)
    | (simp; omega)
theorem op_mulT {X : Cx} : OpR X (binaryOp .Mult) rMulT := by
  intro pins s σ H x y v u Q I rx ry h
  obtain ⟨a, k, rfl, rfl, h1, h2, hl, q⟩ := h
  obtain ⟨t, rfl⟩ := rx
  obtain ⟨t', rfl⟩ := ry
  refine P.mul_str (by rw [decide_eq_false (by omega), decide_eq_false (by omega)]; rfl) (fun c _ z => ?_) (fun _ _ => tooLong_no (by rw [S_len]; exact hl)) ?_
  · have hk : (1 : Int) ≤ k := by omega
    rw [S_len] at z
    have hl2 : (a.length : Int) * k ≤ 1000000 := by
      obtain ⟨m, rfl⟩ : ∃ m : Nat, k = (m : Int) := ⟨k.toNat, by omega⟩
      rw [Int.toNat_natCast] at hl
      have z0 := Int.ofNat_le.mpr hl
      rw [Int.natCast_mul] at z0
      exact z0
    have z2 : (a.length : Int) ≤ (a.length : Int) * k := by
      have := Int.mul_le_mul_of_nonneg_left hk (show (0 : Int) ≤ a.length by omega)
      rw [Int.mul_one] at this
      exact this
    have z3 : (1000000 : Int) ≤ (2 ^ 63 - 1) / k := (Int.le_ediv_iff_mul_le (by omega)).mpr (Int.le_trans (Int.mul_le_mul_of_nonneg_left h2 (show (0 : Int) ≤ 1000000 by decide)) (by decide))
    omega
  · by_cases c : k < 1
    · rw [if_pos c]
      have e : k.toNat = 0 := by omega
      rw [e] at q
      exact ⟨by decide, ⟨.str Str.empty, H, I.tok _, ⟨_, rfl⟩, q⟩⟩
    · rw [if_neg c]
      cases d : (k == 1 || (S a).length == 0) with
      | true =>
        rw [if_pos rfl]
        have e : repL a k.toNat = a := by
          rw [Bool.or_eq_true, beq_iff_eq, beq_iff_eq, S_len] at d
          rcases d with d | d
          · rw [d]
            exact List.append_nil a
          · rw [List.length_eq_zero_iff] at d
            rw [d]
            exact repL_nil _
        rw [e] at q
        exact ⟨.str (S a), H, I, ⟨t, rfl⟩, q⟩
      | false =>
        rw [if_neg Bool.false_ne_true]
        have e : (⟨(List.replicate k.toNat (S a).cps).foldl (· ++ ·) #[]⟩ : Str) = S (repL a k.toNat) := by
          rw [fold_app]
          exact TL.ext_tl (by
            show (#[] ++ _ : Array Nat).toList = _
            rw [Array.toList_append]
            rfl)
        rw [e]
        exact ⟨by rw [S_len, repL_length, Nat.mul_comm]; exact Nat.le_trans hl (by decide), ⟨.str _, H, I.tok _, ⟨_, rfl⟩, q⟩⟩
theorem e_empty : Str.ofString "" = S [] := by rfl
theorem e_0 : Str.ofString "0" = S [48] := by rfl
theorem e_1 : Str.ofString "1" = S [49] := by rfl
theorem e_01 : Str.ofString "01" = S [48, 49] := by rfl
section
variable {X : Cx}
def tFmtB (te ts : TE) : TE := fun σ H Q => te σ H fun x H1 => ts σ H1 fun y H2 => ∃ n : Nat, x = .int (n : Int) ∧ y = .str (S [98]) ∧ nb n ≤ 16777216 ∧ Q (.str (S (binB n))) H2
theorem pe_fmtb {e spec : Expr} {te ts : TE} {pos : Pos} (he : PE X e te) (hs : PE X spec ts) : PE X (.FormattedValue e (-1) (some spec) pos) (tFmtB te ts) := by
  constructor
  intro pins s σ H Q I h
  refine wpAny_FormattedValue_spec (thn (he.run pins s σ H _ I h) fun v s1 hv => ?_)
  obtain ⟨x, H1, I1, r1, q⟩ := hv
  refine thn (hs.run pins s1 σ H1 _ I1 q) fun r s2 hr2 => ?_
  obtain ⟨y, H2, I2, r2, n, rfl, rfl, hl, q2⟩ := hr2
  obtain ⟨t, rfl⟩ := r1
  obtain ⟨t2, rfl⟩ := r2
  have hb : binD n = binB n := toD_two n
  refine ⟨S [98], t2, rfl, wpAny_formatField_spec (T := "int") rfl (fun s' => typeIs_int s' _ t) F.slot_int_format F.entry_int_format (F.args_int_format_2) (fun u => gives_fmtb n t u) ?_ (by rw [S_len]; decide) (by rw [S_len, hb, binB_length]; exact hl)⟩
  rw [hb]
  exact ⟨.str (S (binB n)), H2, I2.tok _, ⟨_, rfl⟩, q2⟩
def rZf : V → List V → Hp → VK → Prop := fun x xs H Q => ∃ (l : List Nat) (k : Nat), x = .str (S l) ∧ xs = [.int (k : Int)] ∧ k ≤ 100000 ∧ (∀ c ∈ l, c = 48 ∨ c = 49) ∧ Q (.str (S (if k ≤ l.length then l else List.replicate (k - l.length) 48 ++ l))) H
theorem zf_S {l : List Nat} {k : Nat} (h : ∀ c ∈ l, c = 48 ∨ c = 49) : Txt.zfill (S l) (k : Int) = S (if k ≤ l.length then l else List.replicate (k - l.length) 48 ++ l) := by
  unfold Txt.zfill
  by_cases c : k ≤ l.length
  · rw [if_pos c, if_pos (by rw [S_len]; omega)]
  · rw [if_neg c, if_neg (by rw [S_len]; omega), S_len, Int.toNat_natCast]
    have e : ∀ m, Builtin.Str.padded (S l) m 0 48 = S (List.replicate m 48 ++ l) := fun m => TL.ext_tl (by
      show (Array.replicate m 48 ++ l.toArray ++ Array.replicate 0 48).toList = _
      simp)
    unfold zfilled
    split
    · rename_i g
      exfalso
      cases l with
      | nil => simp [S] at g
      | cons d r =>
        have g2 : some d = some 43 := by simpa [S] using g
        have := h d List.mem_cons_self
        have := Option.some.inj g2
        omega
    · rename_i g
      exfalso
      cases l with
      | nil => simp [S] at g
      | cons d r =>
        have g2 : some d = some 45 := by simpa [S] using g
        have := h d List.mem_cons_self
        have := Option.some.inj g2
        omega
    · exact e _
theorem pad_ok {k : Nat} (h : k ≤ 100000) : PadOk (k : Int) = true := by
  unfold PadOk
  have z : (100000 : Nat) ≤ 1000000 := by decide
  rw [Int.toNat_natCast, tooLong_no (Nat.le_trans h z)]
  have e : fitsSsize (k : Int) = true := by
    unfold fitsSsize
    first
      | exact Bool.and_eq_true_iff.mpr ⟨decide_eq_true (by omega), decide_eq_true (by omega)⟩
      | (simp; omega)
  rw [e]
  rfl
theorem mt_zf : MtR X "str.zfill" rZf := by
  intro pins s σ H x xs v us Q I rx rs h
  obtain ⟨l, k, rfl, rfl, hk, hb, q⟩ := h
  exact mt_zfill pins s σ H _ _ v us Q I rx rs ⟨S l, (k : Int), rfl, rfl, pad_ok hk, by rw [zf_S hb]; exact q⟩
end
theorem joinL_flat : ∀ ys : List (List Nat), TL.joinL [] ys = ys.flatten
  | [] => rfl
  | [p] => (List.append_nil p).symm
  | p :: q :: r => by
    show p ++ ([] ++ TL.joinL [] (q :: r)) = p ++ (q :: r).flatten
    rw [joinL_flat (q :: r)]
    rfl
def rJoin (K : PySem.W.Frag) : V → List V → Hp → VK → Prop := fun x xs H Q => ∃ a p, ∃ ys : List Str, x = .str a ∧ xs = [.ref p] ∧ (SqL K H p (ys.map V.str) ∨ SqT K H p (ys.map V.str)) ∧
    (ys.map (·.length)).sum + ys.length * a.length ≤ 16777216 ∧ Q (.str (Txt.join a ys)) H
theorem mt_joinK {X : Cx} : MtR X "str.join" (rJoin X.K) := mt_join
section
variable {K : PySem.W.Frag} {σ : L2.St} {H : Hp} {Q : VK}
theorem rd_addT {a b : List Nat} {x y : Str} (e1 : x = S a) (e2 : y = S b) (hl : a.length + b.length ≤ 16777216) (h : Q (.str (S (a ++ b))) H) : rAddT (.str x) (.str y) H Q := ⟨a, b, congrArg V.str e1, congrArg V.str e2, hl, h⟩
theorem rd_mulT {c : Nat} {x : Str} {k : Nat} (e1 : x = S [c]) (hl : k ≤ 1000000) (h : Q (.str (S (List.replicate k c))) H) : rMulT (.str x) (.int (k : Int)) H Q :=
  ⟨[c], (k : Int), congrArg V.str e1, rfl, by omega, by omega, by rw [Int.toNat_natCast]; show 1 * k ≤ _; omega, by rw [Int.toNat_natCast, repL_one]; exact h⟩
theorem rd_lenS {l : List Nat} (hl : l.length ≤ 16777216) (h : Q (.int (l.length : Nat)) H) : rLen K [.str (S l)] H Q := ⟨.str (S l), l.length, rfl, ⟨by rw [S_len]; exact hl, (S_len l).symm⟩, h⟩
theorem rd_zf {l : List Nat} {k : Nat} (hk : k ≤ 100000) (hb : ∀ c ∈ l, c = 48 ∨ c = 49) (h : Q (.str (S (if k ≤ l.length then l else List.replicate (k - l.length) 48 ++ l))) H) : rZf (.str (S l)) [.int (k : Int)] H Q := ⟨l, k, rfl, rfl, hk, hb, h⟩
theorem rd_slSF {l : List Nat} {k : Nat} (hl : l.length ≤ 16777216) (h : Q (.str (S (l.drop k))) H) : C8.rSlX (.str (S l)) (some (k : Int)) none H Q := ⟨S l, rfl, by rw [S_len]; exact hl, by rw [SX.slice_from (by omega), Int.toNat_natCast]; exact h⟩
theorem rd_slST {l : List Nat} {k : Nat} (hl : l.length ≤ 16777216) (h : Q (.str (S (l.take k))) H) : C8.rSlX (.str (S l)) none (some (k : Int)) H Q := ⟨S l, rfl, by rw [S_len]; exact hl, by rw [SX.slice_to (by omega), Int.toNat_natCast]; exact h⟩
theorem rd_joinS {p : Addr} {ls : List (List Nat)} {x : Str} (e : x = S []) (hp : SqL K H p (ls.map fun l => V.str (S l))) (hl : ls.flatten.length ≤ 16777216) (h : Q (.str (S ls.flatten)) H) : rJoin K (.str x) [.ref p] H Q := by
  refine ⟨S [], p, ls.map S, congrArg V.str e, rfl, .inl ?_, ?_, ?_⟩
  · rw [List.map_map]
    exact hp
  · rw [SX.lens]
    show _ + _ * 0 ≤ _
    rw [Nat.mul_zero, Nat.add_zero, ← List.length_flatten]
    exact hl
  · rw [SX.join_S, joinL_flat]
    exact h
theorem rd_fmtb {te ts : TE} (h : te σ H fun x H1 => ts σ H1 fun y H2 => ∃ n : Nat, x = .int (n : Int) ∧ y = .str (S [98]) ∧ nb n ≤ 16777216 ∧ Q (.str (S (binB n))) H2) : tFmtB te ts σ H Q := h
theorem rd_fmtn {n : Nat} {x : Str} {P : Nat → Prop} (e : x = S [98]) (hl : nb n ≤ 16777216) (h : P n) : ∃ m : Nat, V.int (n : Int) = .int (m : Int) ∧ V.str x = .str (S [98]) ∧ nb m ≤ 16777216 ∧ P m := ⟨n, rfl, congrArg V.str e, hl, h⟩
theorem rd_ixS {l : List Nat} {x : Str} {i c : Nat} (e : x = S l) (hl : l.length ≤ 16777216) (a : l[i]? = some c) (h : Q (.str (S [c])) H) : rIxS (.str x) (.int (i : Int)) H Q := ⟨S l, (i : Int), c, congrArg V.str e, rfl, by rw [S_len]; exact hl, atI_nat a, h⟩
theorem rd_bmS {m : V → List V → Hp → VK → Prop} {to : TE} {ts : TA} (h : to σ H fun x H1 => tyV K "str" x H1 ∧ ts σ H1 fun xs H2 => m x xs H2 Q) : tBM K "str" m to ts σ H Q := h
theorem rd_tyS {x : Str} {P : Prop} (q : P) : tyV K "str" (.str x) H ∧ P := ⟨rfl, q⟩
end
end Z
namespace Z
open PySem PySem.Spec PyProof.Rows L2
open SX (S S_len S_cat S_inj)
def WlN (Pv : Nat → L2.St → Hp → Prop) (N i : Nat) (tb : TS) (D : Ends) (σ : L2.St) (H1 : Hp) : Prop :=
  ∃ Nx : L2.St → Hp → Prop, (∀ σ' H', Nx σ' H' → ∃ m', m' < N - i ∧ ∃ j, m' = N - j ∧ j ≤ N ∧ Pv j σ' H') ∧ tb { D with nx := Nx, ct := Nx, bk := D.nx } σ H1
section
variable {c : TT} {tb : TS} {D : Ends} {σ : L2.St} {H : Hp}
theorem while_n (Pv : Nat → L2.St → Hp → Prop) (N : Nat) (h0 : Pv 0 σ H) (hs : ∀ i σ H, i ≤ N → Pv i σ H → c σ H fun b H1 => if b = true then WlN Pv N i tb D σ H1 else D.nx σ H1) : tWhile c tb D σ H := by
  refine ⟨fun m σ H => ∃ j, m = N - j ∧ j ≤ N ∧ Pv j σ H, ⟨N, 0, rfl, Nat.zero_le _, h0⟩, ?_⟩
  rintro m σ H ⟨j, rfl, hj, p⟩
  exact hs j σ H hj p
theorem while_in {Pv : Nat → L2.St → Hp → Prop} {N i : Nat} (hi : i < N) (h : tb { D with nx := Pv (i + 1), ct := Pv (i + 1), bk := D.nx } σ H) : WlN Pv N i tb D σ H :=
  ⟨Pv (i + 1), fun σ' H' p => ⟨N - (i + 1), by omega, i + 1, rfl, hi, p⟩, h⟩
end
def LK (H H' : Hp) : Prop := ∀ b o, H b = some o → (∀ xs, o ≠ .lst xs) → H' b = some o
section
variable {K : PySem.W.Frag} {H H' H1 : Hp} {a q : Addr} {xs : List V} {o : HO}
theorem LK.refl : LK H H := fun _ _ h _ => h
theorem LK.trans (h : LK H H') (k : LK H' H1) : LK H H1 := fun b o e n => k b o (h b o e n) n
theorem LK.of (s : Same H H') : LK H H' := fun b o e _ => s b o e
theorem LK.new (n : H q = none) : LK H (upd H q o) := .of (same_new n)
theorem LK.at {ys : List V} (n : H q = some (.lst ys)) : LK H (upd H q o) := fun b x e nl => by
  have nb : b ≠ q := fun z => by
    rw [z, n] at e
    exact nl ys (Option.some.inj e).symm
  rw [upd_ne nb]
  exact e
theorem LK.pool {p : Addr} (h : Pool H p) (k : Kp p H H') : LK H H' := fun b x e nl => k b x (fun z => by
  obtain ⟨y1, y2, e2, _⟩ := h
  rw [z, e2] at e
  exact nl _ (Option.some.inj e).symm) e
theorem LK.seqT (s : LK H H') (h : SqT K H a xs) : SqT K H' a xs := by
  rcases h with (h | ⟨o, h⟩) | h
  · exact .inl (.inl (s _ _ h fun _ z => nomatch z))
  · exact .inl (.inr ⟨o, s _ _ h fun _ z => nomatch z⟩)
  · exact .inr h
theorem LK.tyo {t : Value} (ht : t = .type "tuple") (s : LK H H') (h : TyOf K H (.ref a) t) : TyOf K H' (.ref a) t := by
  cases h with
  | lst e => exact absurd ht (by decide)
  | frz e => exact .frz (s _ _ e fun _ z => nomatch z)
  | tup e => exact .tup (s _ _ e fun _ z => nomatch z)
  | dK e => exact .dK (s _ _ e fun _ z => nomatch z)
  | dT e => exact .dT (s _ _ e fun _ z => nomatch z)
  | ins e cl ha hn htk hm => exact .ins (s _ _ e fun _ z => nomatch z) cl ha hn htk hm
theorem LK.tyx (s : LK H H') (h : TyX K H (.ref a) (.type "tuple")) : TyX K H' (.ref a) (.type "tuple") := by
  generalize ht : (Value.type "tuple") = t at h ⊢
  cases h with
  | base b => exact .base (s.tyo ht.symm b)
  | set e => exact .set (s _ _ e fun _ z => nomatch z)
  | kList e c => exact .kList e c
  | kTuple e c => exact .kTuple e c
  | kDict e c => exact .kDict e c
  | fTuple e => exact .fTuple (s _ _ e fun _ z => nomatch z)
  | fDict e => exact .fDict (s _ _ e fun _ z => nomatch z)
theorem TupV.lk (s : LK H H') (h : TupV K H a xs) : TupV K H' a xs := ⟨s.seqT h.1, s.tyx h.2⟩
end
def TbV (K : PySem.W.Frag) (H : Hp) (r : Addr) (t : Tb) : Prop := TupV K H r [.int t.1, .int t.2]
def TbsV (K : PySem.W.Frag) (H : Hp) (a : Addr) (T : Tb × Tb) : Prop := ∃ r0 r1, TupV K H a [.ref r0, .ref r1] ∧ TbV K H r0 T.1 ∧ TbV K H r1 T.2
section
variable {K : PySem.W.Frag} {H H' : Hp} {a p : Addr} {t : Tb} {T : Tb × Tb}
theorem TbV.lk (s : LK H H') (h : TbV K H a t) : TbV K H' a t := TupV.lk s h
theorem TbsV.lk (s : LK H H') (h : TbsV K H a T) : TbsV K H' a T := let ⟨r0, r1, h0, h1, h2⟩ := h; ⟨r0, r1, h0.lk s, h1.lk s, h2.lk s⟩
theorem TbV.of (h : H a = some (.tup [.int t.1, .int t.2])) : TbV K H a t := TupV.of h
def spTblG (K : PySem.W.Frag) : Sp := fun vs H Q _ => ∃ (a : Addr) (t : Tb) (m : Int), vs = [.ref a] ∧ TbV K H a t ∧ TbOk m t ∧ Q (.bl true) H
def spTblsG (K : PySem.W.Frag) : Sp := fun vs H Q _ => ∃ (a : Addr) (T : Tb × Tb) (m : Int), vs = [.ref a] ∧ TbsV K H a T ∧ TbOk m T.1 ∧ TbOk m T.2 ∧ Q (.bl true) H
def spParG (K : PySem.W.Frag) : Sp := fun vs H Q _ => ∃ (a : Addr) (t : Tb) (m : Int), vs = [.ref a] ∧ TbV K H a t ∧ TbOk m t ∧ Q (.int (par t.1 t.2 : Nat)) H
def spBehind (K : PySem.W.Frag) : Sp := fun vs H Q _ => ∃ (a : Addr) (t : Tb) (m : Int) (u : Nat), vs = [.ref a, .int (u : Int)] ∧ TbV K H a t ∧ TbOk m t ∧ ∀ p, H p = none → Q (.ref p) (upd H p (.tup [.int (tbB t u).1, .int (tbB t u).2]))
def spBinary : Sp := fun vs H Q _ => ∃ u : Nat, vs = [.int (u : Int)] ∧ nb u ≤ 100000 ∧ Q (.str (S (if u = 0 then [] else binB u))) H
def spCoding (K : PySem.W.Frag) : Sp := fun vs H Q _ => ∃ (n first : Nat) (a : Addr) (T : Tb × Tb) (m : Int), vs = [.int (n : Int), .int (first : Int), .ref a] ∧ first ≤ n ∧ TbsV K H a T ∧ TbOk m T.1 ∧ TbOk m T.2 ∧ Q .non H
def spWr (K : PySem.W.Frag) : Sp := fun vs H Q _ => ∃ (a : Addr) (ns : List Int) (first : Nat) (b : Addr) (T : Tb × Tb), vs = [.ref a, .int (first : Int), .ref b] ∧ H a = some (.lst (ns.map V.int)) ∧ ns.length ≤ 64 ∧ first ≤ ns.length ∧ (∀ z ∈ ns, z.natAbs < 10 ^ 55) ∧ TbsV K H b T ∧ TbOk (10 ^ 58) T.1 ∧ TbOk (10 ^ 58) T.2 ∧
  ∀ p q H', Same H H' → H p = none → H' p = some (.tup [.str (S (wst ns first T ns.length).1.flatten), .ref q]) → TbsV K H' q (wst ns first T ns.length).2 → Q (.ref p) H'
def spStart (K : PySem.W.Frag) : Sp := fun vs H Q _ => ∃ p, vs = [.ref p] ∧ Pool H p ∧ ∀ a T H', H a = none → TbsV K H' a T → TbOk (10 ^ 56) T.1 → TbOk (10 ^ 56) T.2 → Pool H' p → Kp p H H' → Q (.ref a) H'
end
theorem use_tblG {K : PySem.W.Frag} {H : Hp} {a : Addr} {t : Tb} {m : Int} {Q : VK} {E : XK} (h : TbV K H a t) (ok : TbOk m t) (q : Q (.bl true) H) : spTblG K ([.ref a] ++ []) H Q E := ⟨a, t, m, rfl, h, ok, q⟩
theorem use_tblsG {K : PySem.W.Frag} {H : Hp} {a : Addr} {T : Tb × Tb} {m : Int} {Q : VK} {E : XK} (h : TbsV K H a T) (o1 : TbOk m T.1) (o2 : TbOk m T.2) (q : Q (.bl true) H) : spTblsG K ([.ref a] ++ []) H Q E := ⟨a, T, m, rfl, h, o1, o2, q⟩
theorem use_parG {K : PySem.W.Frag} {H : Hp} {a : Addr} {t : Tb} {m : Int} {Q : VK} {E : XK} (h : TbV K H a t) (ok : TbOk m t) (q : Q (.int (par t.1 t.2 : Nat)) H) : spParG K ([.ref a] ++ []) H Q E := ⟨a, t, m, rfl, h, ok, q⟩
theorem use_behind {K : PySem.W.Frag} {H : Hp} {a : Addr} {t : Tb} {m : Int} {u : Nat} {Q : VK} {E : XK} (h : TbV K H a t) (ok : TbOk m t) (q : ∀ p, H p = none → Q (.ref p) (upd H p (.tup [.int (tbB t u).1, .int (tbB t u).2]))) : spBehind K ([.ref a, .int (u : Int)] ++ []) H Q E := ⟨a, t, m, u, rfl, h, ok, q⟩
theorem use_binary {u : Nat} {H : Hp} {Q : VK} {E : XK} (hu : nb u ≤ 100000) (q : Q (.str (S (if u = 0 then [] else binB u))) H) : spBinary ([.int (u : Int)] ++ []) H Q E := ⟨u, rfl, hu, q⟩
theorem use_coding {K : PySem.W.Frag} {n first : Nat} {a : Addr} {T : Tb × Tb} {m : Int} {H : Hp} {Q : VK} {E : XK} (h1 : first ≤ n) (h2 : TbsV K H a T) (o1 : TbOk m T.1) (o2 : TbOk m T.2) (q : Q .non H) : spCoding K ([.int (n : Int), .int (first : Int), .ref a] ++ []) H Q E := ⟨n, first, a, T, m, rfl, h1, h2, o1, o2, q⟩
theorem use_wr {K : PySem.W.Frag} {a b : Addr} {ns : List Int} {first : Nat} {T : Tb × Tb} {H : Hp} {Q : VK} {E : XK} (h1 : H a = some (.lst (ns.map V.int))) (h2 : ns.length ≤ 64) (h3 : first ≤ ns.length) (h4 : ∀ z ∈ ns, z.natAbs < 10 ^ 55) (h5 : TbsV K H b T) (h6 : TbOk (10 ^ 58) T.1) (h7 : TbOk (10 ^ 58) T.2)
    (q : ∀ p q H', Same H H' → H p = none → H' p = some (.tup [.str (S (wst ns first T ns.length).1.flatten), .ref q]) → TbsV K H' q (wst ns first T ns.length).2 → Q (.ref p) H') : spWr K ([.ref a, .int (first : Int), .ref b] ++ []) H Q E := ⟨a, ns, first, b, T, rfl, h1, h2, h3, h4, h5, h6, h7, q⟩
theorem use_start {K : PySem.W.Frag} {p : Addr} {H : Hp} {Q : VK} {E : XK} (h : Pool H p) (q : ∀ a T H', H a = none → TbsV K H' a T → TbOk (10 ^ 56) T.1 → TbOk (10 ^ 56) T.2 → Pool H' p → Kp p H H' → Q (.ref a) H') : spStart K ([.ref p] ++ []) H Q E := ⟨p, rfl, h, q⟩
theorem par_leG {m : Int} {t : Tb} (h : TbOk m t) (hm : m < 10 ^ 60) : par t.1 t.2 ≤ 300 := par_le h.1 h.2.2.1 (Int.lt_of_le_of_lt h.2.1 hm) h.2.2.2
theorem nb_small {u : Nat} (h : (u : Int) ≤ 10 ^ 56) : nb u ≤ 200 := by
  refine nb_min (j := 200) ?_ (by decide)
  have e : (10 : Nat) ^ 56 < 2 ^ 200 := by decide
  have h2 : u ≤ 10 ^ 56 := by
    have z : ((10 ^ 56 : Nat) : Int) = 10 ^ 56 := by norm_cast
    omega
  exact Nat.lt_of_le_of_lt h2 e
theorem shr_nat (u k : Nat) : ((u : Int) / 2 ^ ((k : Int)).toNat) = ((u / 2 ^ k : Nat) : Int) := by
  rw [Int.toNat_natCast]
  norm_cast
theorem rd_shr {u k : Nat} {H : Hp} {Q : VK} (h : Q (.int ((u / 2 ^ k : Nat) : Int)) H) : rI (fun _ j => 0 ≤ j) (fun i j => V.int (i / 2 ^ j.toNat)) (.int (u : Int)) (.int (k : Int)) H Q := ⟨(u : Int), (k : Int), rfl, rfl, by omega, by show Q (V.int ((u : Int) / 2 ^ ((k : Int)).toNat)) H; rw [shr_nat]; exact h⟩
theorem rd_bit {m : Nat} {H : Hp} {Q : VK} (h : Q (.str (S [48 + m % 2])) H) : rIxS (.str (Str.ofString "01")) (.int ((m : Int) % 2)) H Q := by
  rcases (show m % 2 = 0 ∨ m % 2 = 1 by omega) with e | e
  · rw [e] at h
    have e2 : (m : Int) % 2 = ((0 : Nat) : Int) := by omega
    rw [e2]
    exact rd_ixS e_01 (by decide) rfl h
  · rw [e] at h
    have e2 : (m : Int) % 2 = ((1 : Nat) : Int) := by omega
    rw [e2]
    exact rd_ixS e_01 (by decide) rfl h
theorem rd_listQ {K : PySem.W.Frag} {H : Hp} {Q : VK} {a : Addr} {xs : List V} (h : SqT K H a xs) (q : ∀ l, H l = none → Q (.ref l) (upd H l (.lst xs))) : rToList K [.ref a] H Q := ⟨a, xs, rfl, .inr h, q⟩
theorem half_nat (u : Nat) : ((u : Int) / 2) = ((u / 2 : Nat) : Int) := by omega
theorem wst_lo {ns : List Int} {first : Nat} {T : Tb × Tb} {i : Nat} (h : i < first) : wst ns first T (i + 1) = ((wst ns first T i).1 ++ [encB (uOf (ns.getD i 0)) (par (wst ns first T i).2.1.1 (wst ns first T i).2.1.2)], (tbB (wst ns first T i).2.1 (uOf (ns.getD i 0)), (wst ns first T i).2.2)) := if_pos h
theorem wst_hi {ns : List Int} {first : Nat} {T : Tb × Tb} {i : Nat} (h : ¬ i < first) : wst ns first T (i + 1) = ((wst ns first T i).1 ++ [encB (uOf (ns.getD i 0)) (par (wst ns first T i).2.2.1 (wst ns first T i).2.2.2)], ((wst ns first T i).2.1, tbB (wst ns first T i).2.2 (uOf (ns.getD i 0)))) := if_neg h
theorem uOf_getD {ns : List Int} (hn : ∀ z ∈ ns, z.natAbs < 10 ^ 55) (i : Nat) : ((uOf (ns.getD i 0) : Nat) : Int) ≤ 10 ^ 56 := uOf_le (by
  rw [List.getD_eq_getElem?_getD]
  cases e : ns[i]? with
  | none => decide
  | some z => exact hn z (List.mem_of_getElem? e))
theorem wst_flat {ns : List Int} {first : Nat} {T : Tb × Tb} (hn : ∀ z ∈ ns, z.natAbs < 10 ^ 55) (h0 : TbOk (10 ^ 58) T.1) (h1 : TbOk (10 ^ 58) T.2) : ∀ i : Nat, i ≤ 64 → (wst ns first T i).1.flatten.length ≤ 1000 * i
  | 0, _ => Nat.zero_le _
  | i + 1, hi => by
    have ih := wst_flat (first := first) hn h0 h1 i (by omega)
    obtain ⟨a, b⟩ := wst_ok (first := first) hn h0 h1 i (by omega)
    have hu := nb_small (uOf_getD hn i)
    have bnd : (10 ^ 58 + (i : Int) * 10 ^ 56) < 10 ^ 60 := by omega
    have pa := par_leG a bnd
    have pb := par_leG b bnd
    by_cases c : i < first
    · rw [wst_lo c]
      have e := encB_len (uOf (ns.getD i 0)) (par (wst ns first T i).2.1.1 (wst ns first T i).2.1.2)
      rw [List.flatten_append, List.length_append, List.flatten_cons, List.flatten_nil, List.append_nil]
      omega
    · rw [wst_hi c]
      have e := encB_len (uOf (ns.getD i 0)) (par (wst ns first T i).2.2.1 (wst ns first T i).2.2.2)
      rw [List.flatten_append, List.length_append, List.flatten_cons, List.flatten_nil, List.append_nil]
      omega
theorem par_cond {m : Int} {t : Tb} (h : TbOk m t) {i : Nat} (hi : i ≤ par t.1 t.2) : (t.2 * 2 ^ i < t.1 ↔ i < par t.1 t.2) := by
  obtain ⟨h1, h2⟩ := par_spec h.1 h.2.2.1
  constructor
  · intro c
    by_cases e : i = par t.1 t.2
    · subst e
      omega
    · omega
  · exact h1 i
theorem sm_tb {K : PySem.W.Frag} {H : Hp} {a b : Addr} {t : Tb} (h : TbV K H a t) (g : TbV K H b t) : SmV K H 1 (.ref a) (.ref b) :=
  .inr (.inr ⟨a, b, _, _, rfl, rfl, h, g, rfl, fun i x y e1 e2 => by
    rw [e1] at e2
    have e := Option.some.inj e2
    subst e
    rcases i with _ | _ | i
    · cases e1; exact ⟨rfl, rfl⟩
    · cases e1; exact ⟨rfl, rfl⟩
    · simp at e1⟩)
theorem sm_tbs {K : PySem.W.Frag} {H : Hp} {a b : Addr} {T : Tb × Tb} (h : TbsV K H a T) (g : TbsV K H b T) : SmV K H 2 (.ref a) (.ref b) := by
  obtain ⟨r0, r1, h0, h1, h2⟩ := h
  obtain ⟨s0, s1, g0, g1, g2⟩ := g
  refine .inr (.inr ⟨a, b, _, _, rfl, rfl, h0, g0, rfl, fun i x y e1 e2 => ?_⟩)
  rcases i with _ | _ | i
  · cases e1; cases e2; exact sm_tb h1 g1
  · cases e1; cases e2; exact sm_tb h2 g2
  · simp at e1
theorem sm_wr {K : PySem.W.Frag} {H : Hp} {p q a b : Addr} {z : Str} {T : Tb × Tb} (hp : H p = some (.tup [.str z, .ref a])) (hq : H q = some (.tup [.str z, .ref b])) (h : TbsV K H a T) (g : TbsV K H b T) : SmV K H 3 (.ref p) (.ref q) := by
  refine .inr (.inr ⟨p, q, _, _, rfl, rfl, .of hp, .of hq, rfl, fun i x y e1 e2 => ?_⟩)
  rcases i with _ | _ | i
  · cases e1; cases e2; exact .inl ⟨rfl, rfl⟩
  · cases e1; cases e2; exact sm_tbs h g
  · simp at e1
end Z
namespace Z
open PySem PySem.Spec PyProof.Rows L2
open SX (S S_len S_cat S_inj)
section
open PySem.NumText PySem.Calls Hx
def IsB (c : Nat) : Prop := c = 48 ∨ c = 49
theorem IsB.hex {c : Nat} (h : IsB c) : IsHex c := by
  unfold IsB at h
  unfold IsHex
  omega
theorem hv_b {c : Nat} (h : IsB c) : hv c = c - 48 := by
  unfold IsB at h
  unfold hv
  rw [if_pos (by omega)]
theorem step_b {ds : Array Nat} {b : Bool} {c : Nat} (h : IsB c) : PySem.NumText.step 2 (ds, b) c = some (ds.push (c - 48), true) := by
  have hr := hex_rng h.hex
  unfold PySem.NumText.step
  rw [if_neg (by rw [beq_iff_eq]; exact hr.2.2), digit_hex h.hex, hv_b h]
  exact if_pos (by unfold IsB at h; omega)
theorem foldl_b : ∀ (cs : List Nat) (ds : Array Nat), (∀ c ∈ cs, IsB c) → cs.foldlM (PySem.NumText.step 2) (ds, true) = some (cs.foldl (fun acc c => acc.push (c - 48)) ds, true)
  | [], _, _ => rfl
  | c :: cs, ds, h => by
    rw [List.foldlM_cons, step_b (h c (List.mem_cons_self ..))]
    show cs.foldlM (PySem.NumText.step 2) (ds.push (c - 48), true) = _
    exact foldl_b cs (ds.push (c - 48)) fun d hd => h d (List.mem_cons_of_mem _ hd)
theorem digits_b {cs : List Nat} (h : ∀ c ∈ cs, IsB c) (hne : cs ≠ []) : digits? 2 cs = some (cs.foldl (fun acc c => acc.push (c - 48)) #[]) := by
  cases cs with
  | nil => exact absurd rfl hne
  | cons c cs =>
    unfold digits?
    rw [List.foldlM_cons, step_b (h c (List.mem_cons_self ..))]
    show (cs.foldlM (PySem.NumText.step 2) ((#[] : Array Nat).push (c - 48), true)).bind _ = _
    rw [foldl_b cs _ fun d hd => h d (List.mem_cons_of_mem _ hd)]
    rfl
theorem push_b : ∀ (cs : List Nat) (ds : Array Nat), (cs.foldl (fun acc c => acc.push (c - 48)) ds).foldl (fun acc d => acc * 2 + d) 0 = cs.foldl (fun a c => a * 2 + (c - 48)) (ds.foldl (fun acc d => acc * 2 + d) 0)
  | [], _ => rfl
  | c :: cs, ds => by
    rw [List.foldl_cons, push_b cs (ds.push (c - 48)), List.foldl_cons]
    congr 1
    simp
theorem based_b : ∀ {cs : List Nat}, (∀ c ∈ cs, IsB c) → based 2 cs = (2, false, cs)
  | [], _ => rfl
  | [a], h => by
    rcases h a List.mem_cons_self with rfl | rfl <;> rfl
  | a :: c :: r, h => by
    rcases h a List.mem_cons_self with rfl | rfl <;> rcases h c (List.mem_cons_of_mem _ List.mem_cons_self) with rfl | rfl <;> rfl
theorem valB_two (l : List Nat) : l.foldl (fun a c => a * 2 + (c - 48)) 0 = valB l := by
  unfold valB
  congr 1
  funext a c
  rw [Nat.mul_comm]
end
def onesL : List Nat → Nat
  | [] => 0
  | c :: r => if c = 48 then 0 else onesL r + 1
theorem onesL_le : ∀ m : List Nat, onesL m ≤ m.length
  | [] => Nat.le_refl _
  | c :: r => by
    unfold onesL
    split
    · exact Nat.zero_le _
    · exact Nat.succ_le_succ (onesL_le r)
theorem onesL_lt : ∀ (m : List Nat) (i : Nat), i < onesL m → m[i]? ≠ some 48
  | [], i, h => absurd h (Nat.not_lt_zero _)
  | c :: r, i, h => by
    unfold onesL at h
    split at h
    · exact absurd h (Nat.not_lt_zero _)
    · rename_i e
      rcases i with _ | i
      · intro z
        exact e (Option.some.inj z)
      · exact onesL_lt r i (by omega)
theorem onesL_at : ∀ m : List Nat, onesL m < m.length → m[onesL m]? = some 48
  | [], h => absurd h (Nat.not_lt_zero _)
  | c :: r, h => by
    by_cases e : c = 48
    · have z : onesL (c :: r) = 0 := if_pos e
      rw [z, e]
      rfl
    · have z : onesL (c :: r) = onesL r + 1 := if_neg e
      rw [z] at h ⊢
      exact onesL_at r (by simpa using h)
theorem onesL_rep (n : Nat) (r : List Nat) : onesL (List.replicate n 49 ++ 48 :: r) = n := by
  induction n with
  | zero => rfl
  | succ n ih =>
    show (if (49 : Nat) = 48 then 0 else onesL (List.replicate n 49 ++ 48 :: r) + 1) = n + 1
    rw [if_neg (by decide), ih]
def fzI (l : List Nat) (pl : Nat) : Int := if pl + onesL (l.drop pl) < l.length then ((pl + onesL (l.drop pl) : Nat) : Int) else -1
theorem S_get (l : List Nat) (v : Nat) (hv : v < l.length) : (S l).cps.getD v 0 = 48 ↔ l[v]? = some 48 :=
  ⟨fun h => PySem.StrLaws.getElem?_of_getD (x := S l) (by rw [S_len]; exact hv) h, fun h => PySem.StrLaws.getD_of_getElem? (x := S l) h⟩
theorem find_S (l : List Nat) (pl : Nat) (hpl : pl ≤ l.length) : Txt.find3 (S l) (S [48]) (pl : Int) = fzI l pl := by
  have fi : fromIndex (S l).length (pl : Int) = pl := by
    unfold fromIndex
    omega
  have hd : ∀ v, pl ≤ v → l[v]? = (l.drop pl)[v - pl]? := fun v hv => by rw [List.getElem?_drop]; congr 1; omega
  have hol := onesL_le (l.drop pl)
  rw [List.length_drop] at hol
  rcases PySem.StrLaws.find3_spec (S l) 48 (pl : Int) with ⟨e, hn⟩ | ⟨k, e, h1, h2, h3, h4⟩
  · rw [fi] at hn
    have hlt : ¬ pl + onesL (l.drop pl) < l.length := fun hlt => by
      have a := onesL_at (l.drop pl) (by rw [List.length_drop]; omega)
      refine hn (pl + onesL (l.drop pl)) (by omega) (by rw [S_len]; exact hlt) ((S_get l _ hlt).mpr ?_)
      rw [hd _ (by omega), show pl + onesL (l.drop pl) - pl = onesL (l.drop pl) by omega]
      exact a
    unfold fzI
    rw [if_neg hlt]
    exact e
  · rw [fi] at h1 h4
    rw [S_len] at h2
    have hk := (S_get l k h2).mp h3
    rw [hd k h1] at hk
    have a1 : ¬ k - pl < onesL (l.drop pl) := fun z => onesL_lt _ _ z hk
    have a2 : ¬ onesL (l.drop pl) < k - pl := fun z => by
      have a := onesL_at (l.drop pl) (by rw [List.length_drop]; omega)
      refine h4 (pl + onesL (l.drop pl)) (by omega) (by omega) ((S_get l _ (by omega)).mpr ?_)
      rw [hd _ (by omega), show pl + onesL (l.drop pl) - pl = onesL (l.drop pl) by omega]
      exact a
    have e2 : k = pl + onesL (l.drop pl) := by omega
    unfold fzI
    rw [if_pos (by omega), ← e2]
    exact e
def rdC (l : List Nat) (pl k : Nat) : Option (Nat × Nat) :=
  if pl + onesL (l.drop pl) < l.length then
    if l.length < pl + onesL (l.drop pl) + 1 + (if onesL (l.drop pl) < 20 then k else onesL (l.drop pl) - 19) then none
    else if onesL (l.drop pl) < 20 then some (onesL (l.drop pl) * 2 ^ k + valB ((l.drop (pl + onesL (l.drop pl) + 1)).take k), pl + onesL (l.drop pl) + 1 + k)
    else if (l.drop (pl + onesL (l.drop pl) + 1))[0]? = some 48 ∨ valB ((l.drop (pl + onesL (l.drop pl) + 1)).take (onesL (l.drop pl) - 19)) / 2 ^ k < 20 then none
    else some (valB ((l.drop (pl + onesL (l.drop pl) + 1)).take (onesL (l.drop pl) - 19)), pl + onesL (l.drop pl) + 1 + (onesL (l.drop pl) - 19))
  else none
theorem binB_head {u : Nat} (h : u ≠ 0) : (binB u)[0]? = some 49 := by
  unfold binB
  obtain ⟨m, hm⟩ : ∃ m, nb u = m + 1 := ⟨nb u - 1, by have := nb_pos u; omega⟩
  have h1 := nb_le h
  have h2 := nb_lt u
  rw [hm] at h1 h2 ⊢
  rw [lowB_front]
  have e : u / 2 ^ m = 1 := by
    have h3 : 2 ^ m ≤ u := h1
    rw [Nat.pow_succ] at h2
    have a := (Nat.le_div_iff_mul_le (Nat.two_pow_pos m)).mpr (show 1 * 2 ^ m ≤ u by omega)
    have b := (Nat.div_lt_iff_lt_mul (Nat.two_pow_pos m)).mpr (show u < 2 * 2 ^ m by omega)
    omega
  rw [e]
  rfl
def unU (u : Nat) : Int := if u % 2 = 0 then ((u / 2 : Nat) : Int) else -((u / 2 : Nat) : Int) - 1
theorem tw_all (p : Nat → Bool) : ∀ l : List Nat, (∀ c ∈ l, p c = true) → l.takeWhile p = l
  | [], _ => rfl
  | c :: r, h => by
    rw [List.takeWhile_cons, if_pos (h c List.mem_cons_self), tw_all p r fun d hd => h d (List.mem_cons_of_mem _ hd)]
theorem strip_B {l : List Nat} (h : ∀ c ∈ l, IsB c) : Txt.stripChars (S l) (S [48, 49]) = S [] := by
  have hc : ∀ c ∈ l, (S [48, 49]).cps.contains c = true := fun c hc => by
    rcases h c hc with e | e
    · rw [e]; decide +kernel
    · rw [e]; decide +kernel
  have tw : l.takeWhile (S [48, 49]).cps.contains = l := tw_all _ l hc
  have lo : stripLo (S [48, 49]).cps.contains true (S l) = l.length := by
    unfold stripLo
    rw [if_pos rfl]
    show (l.takeWhile _).length = _
    rw [tw]
  have hi : stripHi (S [48, 49]).cps.contains true (S l) l.length = l.length := by
    unfold stripHi
    rw [if_pos rfl]
    show (S l).length - ((l.drop l.length).reverse.takeWhile _).length = _
    rw [List.drop_length, S_len]
    rfl
  unfold Txt.stripChars Txt.stripBy
  cases hs : stripSame (S [48, 49]).cps.contains true true (S l) with
  | true =>
    rw [if_pos rfl]
    unfold stripSame at hs
    rw [lo, Bool.and_eq_true, beq_iff_eq] at hs
    rw [List.length_eq_zero_iff.mp hs.1]
  | false =>
    rw [if_neg Bool.false_ne_true]
    unfold stripped
    rw [lo, hi]
    refine TL.ext_tl ?_
    rw [TL.tl_strSub]
    simp
def rFind3 : V → List V → Hp → VK → Prop := fun x xs H Q => ∃ (a b : Str) (i : Int), x = .str a ∧ xs = [.str b, .int i] ∧ Q (.int (Txt.find3 a b i)) H
theorem mt_find3K {X : Cx} : MtR X "str.find" rFind3 := mt_find3
def rStripC : V → List V → Hp → VK → Prop := fun x xs H Q => ∃ a b, x = .str a ∧ xs = [.str b] ∧ a.length ≤ sizeLine ∧ Q (.str (Txt.stripChars a b)) H
theorem mt_stripK {X : Cx} : MtR X "str.strip" rStripC := mt_stripChars
section
variable {H : Hp} {Q : VK}
theorem rd_find {l : List Nat} {x : Str} {pl : Nat} (e : x = S [48]) (hpl : pl ≤ l.length) (h : Q (.int (fzI l pl)) H) : rFind3 (.str (S l)) [.str x, .int (pl : Int)] H Q := ⟨S l, x, (pl : Int), rfl, rfl, by rw [e, find_S l pl hpl]; exact h⟩
theorem rd_strip {l : List Nat} {x : Str} (e : x = S [48, 49]) (hl : l.length ≤ 16777216) (hb : ∀ c ∈ l, IsB c) (h : Q (.str (S [])) H) : rStripC (.str (S l)) [.str x] H Q := ⟨S l, x, rfl, rfl, by rw [S_len]; exact hl, by rw [e, strip_B hb]; exact h⟩
theorem rd_slSM {l : List Nat} {a b : Nat} (ha : a ≤ l.length) (hb : b ≤ l.length) (hl : l.length ≤ 16777216) (h : Q (.str (S ((l.drop a).take (b - a)))) H) : C8.rSlX (.str (S l)) (some (a : Int)) (some (b : Int)) H Q := by
  refine ⟨S l, rfl, by rw [S_len]; exact hl, ?_⟩
  rw [← C8.cutS_slice]
  unfold cutS
  rw [S_len, HT.sIx_nat, HT.sIx_nat, Nat.min_eq_left ha, Nat.min_eq_left hb]
  exact h
end
theorem valB_zero (l : List Nat) : valB (48 :: l) = valB l := rfl
def spNumW : Sp := fun vs H Q _ => ∃ u : Nat, vs = [.int (u : Int)] ∧ Q (.int (unU u)) H
theorem use_numW {u : Nat} {H : Hp} {Q : VK} {E : XK} (q : Q (.int (unU u)) H) : spNumW ([.int (u : Int)] ++ []) H Q E := ⟨u, rfl, q⟩
theorem wst_bin (ns : List Int) (first : Nat) (T : Tb × Tb) : ∀ i, ∀ c ∈ (wst ns first T i).1.flatten, IsB c
  | 0, c, h => absurd h List.not_mem_nil
  | i + 1, c, h => by
    by_cases d : i < first
    · rw [wst_lo d, List.flatten_append] at h
      rcases List.mem_append.mp h with h | h
      · exact wst_bin ns first T i c h
      · rw [List.flatten_cons, List.flatten_nil, List.append_nil] at h
        exact encB_bin _ _ c h
    · rw [wst_hi d, List.flatten_append] at h
      rcases List.mem_append.mp h with h | h
      · exact wst_bin ns first T i c h
      · rw [List.flatten_cons, List.flatten_nil, List.append_nil] at h
        exact encB_bin _ _ c h
theorem sm_ints2 {K : PySem.W.Frag} {H : Hp} {p q : Addr} {ns : List Int} (hp : H p = some (.lst (ns.map V.int))) (hq : H q = some (.lst (ns.map V.int))) : SmV K H 2 (.ref p) (.ref q) :=
  .inr (.inl ⟨p, q, _, _, rfl, rfl, .of hp, .of hq, rfl, fun i x y e1 e2 => by
    rw [e1] at e2
    have e := Option.some.inj e2
    subst e
    rw [List.getElem?_map] at e1
    cases g : ns[i]? with
    | none => rw [g] at e1; cases e1
    | some z => rw [g] at e1; cases e1; exact .inl ⟨rfl, rfl⟩⟩)
theorem sm_rd {K : PySem.W.Frag} {H : Hp} {p q m m2 a b : Addr} {ns : List Int} {T : Tb × Tb} (hp : H p = some (.tup [.ref m, .ref a])) (hq : H q = some (.tup [.ref m2, .ref b])) (h1 : H m = some (.lst (ns.map V.int))) (h2 : H m2 = some (.lst (ns.map V.int))) (h : TbsV K H a T) (g : TbsV K H b T) : SmV K H 3 (.ref p) (.ref q) := by
  refine .inr (.inr ⟨p, q, _, _, rfl, rfl, .of hp, .of hq, rfl, fun i x y e1 e2 => ?_⟩)
  rcases i with _ | _ | i
  · cases e1; cases e2; exact sm_ints2 h1 h2
  · cases e1; cases e2; exact sm_tbs h g
  · simp at e1
theorem rd_notBl {a : Bool} {H : Hp} {Q : VK} (h : Q (.bl (!decide (a = true))) H) : rNotB (.bl a) (.bl true) H Q := by
  first
    | exact ⟨a, true, rfl, rfl, h⟩
    | (refine ⟨_, _, rfl, rfl, ?_⟩; cases a <;> exact h)
end Z
namespace Z
open PySem PySem.Spec PyProof.Rows L2
open SX (S S_len S_cat S_inj)
def bitsOf (z : Str) : Bool := decide (V.str (Txt.stripChars z (S [48, 49])) = V.str (Str.ofString ""))
inductive BitR (H : Hp) : V → Bool → Prop where
  | str {z : Str} (h : z.length ≤ 1000) : BitR H (.str z) (bitsOf z)
  | non : BitR H .non false
  | int {i : Int} : BitR H (.int i) false
  | lst {a : Addr} {xs : List V} (h : H a = some (.lst xs)) : BitR H (.ref a) false
def layB (ln : V) (b : Bool) (lv st : V) : Bool := (inI ln 1 64 && b) && (inI lv 0 5 && inI st 1 64)
def frB (v0 ln : V) (b : Bool) (lv st mk : V) (c : Bool) : Bool := decide (v0 = V.str (Str.ofString "frame")) && (layB ln b lv st && (inI mk 0 9972 && c))
inductive RecR (H : Hp) : V → Bool → Prop where
  | flat {x : V} (h : scalarV x = true) : RecR H x false
  | lst {a : Addr} {xs : List V} (h : H a = some (.lst xs)) : RecR H (.ref a) false
  | tupn {a : Addr} {xs : List V} (h : H a = some (.tup xs)) (n : xs.length ≠ 2) (m : xs.length ≠ 7) : RecR H (.ref a) false
  | st {a : Addr} {s : Str} {v : V} {b : Bool} (h : H a = some (.tup [.str s, v])) (hv : TSR H v b) : RecR H (.ref a) (decide (V.str s = V.str (Str.ofString "state")) && b)
  | fr {a : Addr} {v0 ln jt lv st mk bt : V} {b c : Bool} (h : H a = some (.tup [v0, ln, jt, lv, st, mk, bt])) (h0 : scalarV v0 = true) (hl : TyV H ln) (hj : JR H jt b) (h3 : TyV H lv) (h4 : TyV H st) (h5 : TyV H mk) (hb : BitR H bt c) : RecR H (.ref a) (frB v0 ln b lv st mk c)
section
variable {H H' : Hp} {x : V} {b : Bool}
theorem tyv_same (s : Same H H') (h : TyV H x) : TyV H' x := by
  cases x with
  | ref a =>
    rcases h with ⟨xs, h⟩ | ⟨xs, h⟩
    · exact .inl ⟨xs, s _ _ h⟩
    · exact .inr ⟨xs, s _ _ h⟩
  | _ => exact h
theorem JR.same (s : Same H H') (h : JR H x b) : JR H' x b := by
  cases h with
  | flat h => exact .flat h
  | lst h => exact .lst (s _ _ h)
  | tupn h n => exact .tupn (s _ _ h) n
  | tup2 h hu hv => exact .tup2 (s _ _ h) (tyv_same s hu) (tyv_same s hv)
theorem TR.same (s : Same H H') (h : TR H x b) : TR H' x b := by
  cases h with
  | flat h => exact .flat h
  | lst h => exact .lst (s _ _ h)
  | tupn h n => exact .tupn (s _ _ h) n
  | tup2 h hu hv => exact .tup2 (s _ _ h) (tyv_same s hu) (tyv_same s hv)
theorem TSR.same (s : Same H H') (h : TSR H x b) : TSR H' x b := by
  cases h with
  | flat h => exact .flat h
  | lst h => exact .lst (s _ _ h)
  | tupn h n => exact .tupn (s _ _ h) n
  | tup2 h hu hv => exact .tup2 (s _ _ h) (hu.same s) (hv.same s)
theorem BitR.same (s : Same H H') (h : BitR H x b) : BitR H' x b := by
  cases h with
  | str h => exact .str h
  | non => exact .non
  | int => exact .int
  | lst h => exact .lst (s _ _ h)
theorem RecR.same (s : Same H H') (h : RecR H x b) : RecR H' x b := by
  cases h with
  | flat h => exact .flat h
  | lst h => exact .lst (s _ _ h)
  | tupn h n m => exact .tupn (s _ _ h) n m
  | st h hv => exact .st (s _ _ h) (hv.same s)
  | fr h h0 hl hj h3 h4 h5 hb => exact .fr (s _ _ h) h0 (tyv_same s hl) (hj.same s) (tyv_same s h3) (tyv_same s h4) (tyv_same s h5) (hb.same s)
end
inductive GR (H : Hp) (a : Addr) : Nat → Prop where
  | st {v : V} (h : H a = some (.tup [.str (Str.ofString "state"), v])) (hv : TSR H v true) : GR H a 80
  | fr {ln lv st mk : Int} {jt : V} {l : List Nat} (h : H a = some (.tup [.str (Str.ofString "frame"), .int ln, jt, .int lv, .int st, .int mk, .str (S l)])) (hj : JR H jt true) (h1 : inI (.int ln) 1 64 = true) (h2 : inI (.int lv) 0 5 = true) (h3 : inI (.int st) 1 64 = true) (h4 : inI (.int mk) 0 9972 = true) (hl : l.length ≤ 1000) (hb : ∀ c ∈ l, IsB c) : GR H a (40 + l.length)
theorem bits_ok {l : List Nat} (h : ∀ c ∈ l, IsB c) : bitsOf (S l) = true := by
  unfold bitsOf
  rw [strip_B h]
  exact decide_eq_true (congrArg V.str e_empty.symm)
theorem GR.same {H H' : Hp} {a : Addr} {n : Nat} (s : Same H H') (h : GR H a n) : GR H' a n := by
  cases h with
  | st h hv => exact .st (s _ _ h) (hv.same s)
  | fr h hj h1 h2 h3 h4 hl hb => exact .fr (s _ _ h) (hj.same s) h1 h2 h3 h4 hl hb
theorem GR.tup {H : Hp} {a : Addr} {n : Nat} (h : GR H a n) : ∃ xs, H a = some (.tup xs) := by
  cases h with
  | st h _ => exact ⟨_, h⟩
  | fr h _ _ _ _ _ _ _ => exact ⟨_, h⟩
/-- what spoils a frame at a place -/
def Bad (H : Hp) : Nat → V → Prop
  | 0, v => scalarV v = true ∧ v ≠ V.str (Str.ofString "frame")
  | 1, v => TyV H v ∧ inI v 1 64 = false
  | 2, v => JR H v false
  | 3, v => TyV H v ∧ inI v 0 5 = false
  | 4, v => TyV H v ∧ inI v 1 64 = false
  | 5, v => TyV H v ∧ inI v 0 9972 = false
  | 6, v => BitR H v false
  | _, _ => False
theorem Bad.same {H H' : Hp} (s : Same H H') : ∀ {n : Nat} {v : V}, Bad H n v → Bad H' n v
  | 0, _, h => h
  | 1, _, h => ⟨tyv_same s h.1, h.2⟩
  | 2, _, h => JR.same s h
  | 3, _, h => ⟨tyv_same s h.1, h.2⟩
  | 4, _, h => ⟨tyv_same s h.1, h.2⟩
  | 5, _, h => ⟨tyv_same s h.1, h.2⟩
  | 6, _, h => BitR.same s h
  | _ + 7, _, h => h
def frL (j : Addr) : List V := [.str (Str.ofString "frame"), .int 4, .ref j, .int 2, .int 1, .int 7, .str (Str.ofString "010")]
def msk (p : Addr) (H : Hp) : Hp := fun a => if a = p then none else H a
section
variable {p a : Addr} {H H' : Hp} {o : HO}
theorem msk_same (s : Same H H') : Same (msk p H) (msk p H') := fun b x e => by
  unfold msk at e ⊢
  split at e
  · cases e
  · rename_i n
    rw [if_neg n]
    exact s _ _ e
end
/-- the tables and the frame of the law's bad records -/
def OS (p tl fr j : Addr) (xs : List V) (G : Hp) : Prop := msk p G tl = some (.lst xs) ∧ xs.length ≤ 20 ∧ (∀ v ∈ xs, TSR (msk p G) v false) ∧ msk p G fr = some (.lst (frL j)) ∧ msk p G j = some (.tup [.int 1, .int 2])
theorem OS.same {p tl fr j : Addr} {xs : List V} {G G' : Hp} (s : Same G G') (h : OS p tl fr j xs G) : OS p tl fr j xs G' := ⟨msk_same s _ _ h.1, h.2.1, fun v hv => (h.2.2.1 v hv).same (msk_same s), msk_same s _ _ h.2.2.2.1, msk_same s _ _ h.2.2.2.2⟩
def Fld (G : Hp) (i : Nat) (v : V) : Prop := ∃ a xs, v = .ref a ∧ G a = some (.lst xs) ∧ xs.length ≤ 10 ∧ ∀ x ∈ xs, Bad G i x
theorem Fld.same {G G' : Hp} (s : Same G G') {i : Nat} {v : V} (h : Fld G i v) : Fld G' i v := let ⟨a, xs, e, e1, n, b⟩ := h; ⟨a, xs, e, s _ _ e1, n, fun x hx => (b x hx).same s⟩
def FldL (G : Hp) (fs : List V) : Prop := ∀ (i : Nat) v, fs[i]? = some v → Fld G i v
theorem FldL.same {G G' : Hp} (s : Same G G') {fs : List V} (h : FldL G fs) : FldL G' fs := fun i v e => (h i v e).same s
theorem FldL.nil {G : Hp} : FldL G [] := fun i v e => by simp at e
end Z
namespace Z
open PySem PySem.Spec PyProof.Rows L2
open SX (S S_len S_cat S_inj)
section
open PySem.NumText PySem.Calls Hx
theorem read_bL {cs : List Nat} (lim : Nat) (h : ∀ c ∈ cs, IsB c) (hne : cs ≠ []) : (int_private% "readNumeral") lim 2 cs = (int_private% "Numeral.value") ((valB cs : Nat) : Int) := by
  have hr : ∀ c ∈ cs.reverse, IsB c := fun c hc => h c (List.mem_reverse.mp hc)
  refine (readNumeral_eq lim 2 cs).trans ?_
  rw [dropB (fun c hc => (h c hc).hex), signH (fun c hc => (h c hc).hex)]
  show judge lim false (based 2 cs).1 (based 2 cs).2.1 (digits? (based 2 cs).1 (((based 2 cs).2.2.reverse.dropWhile blank).reverse)) = _
  rw [based_b h]
  show judge lim false 2 false (digits? 2 ((cs.reverse.dropWhile blank).reverse)) = _
  rw [dropB (fun c hc => (hr c hc).hex), List.reverse_reverse, digits_b h hne]
  show (int_private% "Numeral.value") (((cs.foldl (fun acc c => acc.push (c - 48)) (#[] : Array Nat)).foldl (fun acc d => acc * 2 + d) 0 : Nat) : Int) = _
  have z : (#[] : Array Nat).foldl (fun acc d => acc * 2 + d) 0 = 0 := by first | rfl | simp
  rw [push_b, z, valB_two]
theorem wp_textL {M : Model} {A : Around} {E : Value → Shared → Prop} {s : Shared} {Q : Value → Shared → Prop} {v : Value} {text : List Nat} {n : Int} (hd : s.heap.NoDigits)
    (hr : ∀ lim, (int_private% "readNumeral") lim 2 (text.takeWhile (· != 0)) = (int_private% "Numeral.value") n)
    (ha : ((text.takeWhile (· != 0)).length == text.length) = true) (h : Q (.int n s.toks) { s with toks := s.toks + 1 }) :
    wpAny M A ((int_private% "intFromText") v text 2) Q E s := by
  by_cases hs : (text.takeWhile (· != 0)).length ≤ 640
  · exact wp_textB hs (hr 0) ha h
  · obtain ⟨mc, hns, hnone⟩ := hd
    show wpAny M A (do
      let limit ← if (text.takeWhile (· != 0)).length ≤ 640 then pure 0 else Builtin.intMaxStrDigits
      _) Q E s
    rw [if_neg hs]
    unfold Builtin.intMaxStrDigits
    refine wpAny_bind (wpAny_bind (wpAny_nsGet hns ?_))
    rw [hnone]
    refine wpAny_pure ?_
    simp only [hr]
    obtain ⟨hp, g, d, tk, os⟩ := s
    repeat (any_goals (first
      | assumption
      | (with_reducible refine wpAny_ite_true (decide_eq_true ha) ?_)
      | (with_reducible refine wpAny_ite_true ha ?_)
      | wp_step))
set_option maxHeartbeats 4000000 in
theorem meets_bL {x : PySem.Str} {u t : Tok} (h : ∀ c ∈ x.cps.toList, IsB c) (hne : x.cps.toList ≠ []) :
    Meets (Builtin.«int.__new__» ⟨[.type "int", .str x u, .int 2 t], []⟩) (fun _ R s => s.heap.NoDigits ∧ R (.ok (.ret (.int ((valB x.cps.toList : Nat) : Int) s.toks))) { s with toks := s.toks + 1 }) :=
  .of_wp fun prog w A R s hQ => by
    obtain ⟨hp, g, d, tk, os⟩ := s
    obtain ⟨hd, hQ⟩ := hQ
    have f1 := F.conv_sub_int
    have f2 := F.madeHere_int
    have f6 : typeOf (.str x u) = pure (.type "str") := rfl
    obtain ⟨e1, e2⟩ := seen_hex (fun c hc => (h c hc).hex)
    have hr : ∀ lim, (int_private% "readNumeral") lim 2 (numSeenOf x) = (int_private% "Numeral.value") ((valB x.cps.toList : Nat) : Int) := fun lim => by
      rw [e2]
      exact read_bL lim h hne
    have ha : ((numSeenOf x).length == (numTextOf x).length) = true := by
      rw [e1, e2]
      exact beq_self_eq_true _
    have hk := Hid.mk (And.intro hd (And.intro hr ha))
    clear hr ha e1 e2 hne h hd
    repeat (any_goals (first
      | assumption
      | ((with_reducible show wpAny _ _ ((int_private% "intFromText") _ _ _) _ _ _); refine wp_textL hk.out.1 hk.out.2.1 hk.out.2.2 ?_)
      | wp_step))
    all_goals first | exact ⟨_, rfl, hQ⟩ | skip
theorem call_bL {prog : Program} {w : World} {A : Around} {E : Value → Shared → Prop} {s : Shared} {Q : Value → Shared → Prop} {x : PySem.Str} {u t : Tok} (hd : s.heap.NoDigits) (h : ∀ c ∈ x.cps.toList, IsB c) (hne : x.cps.toList ≠ [])
    (hQ : Q (.int ((valB x.cps.toList : Nat) : Int) s.toks) { s with toks := s.toks + 1 }) : wpAny (model prog w) A (call (.type "int") [.str x u, .int 2 t]) Q E s :=
  callType_new F.called_int F.newNe_int (typeCall_int_2 _ _) (newCall_int_2 _ _) (fun obj => F.initArgs_range_2 obj _ _) F.entry_int_new (meets_bL h hne) ⟨hd, rfl, hQ⟩
end
def rIntL : List V → Hp → VK → Prop := fun xs H Q => ∃ l : List Nat, xs = [.str (S l), .int 2] ∧ l ≠ [] ∧ (∀ c ∈ l, IsB c) ∧ Q (.int ((valB l : Nat) : Int)) H
/-- the limit on digits has not been set -/
def DgK (K : PySem.W.Frag) : Prop := PySem.W.nsOkIn K cStatics = true ∧ PySem.W.nsIn K cStatics "sys.int_max_str_digits" = some none
theorem call_intL {X : Cx} (z : DgK X.K) : CallR X (.type "int") rIntL := by
  intro pins s σ H xs us Q I r h
  obtain ⟨l, rfl, hne, hx, q⟩ := h
  obtain ⟨u, w', rfl, r1, r2⟩ := vals2 r
  obtain ⟨t1, rfl⟩ := r1
  obtain ⟨t2, rfl⟩ := r2
  have hd : s.heap.NoDigits := by
    have G := Heap.Ns.of_isNs (PySem.W.isNs_of_in I.kIn z.1)
    exact ⟨_, G, PySem.W.ns_none_of I.kIn G z.2⟩
  exact call_bL (x := S l) hd hx hne ⟨.int ((valB l : Nat) : Int), H, I.tok _, ⟨_, rfl⟩, q⟩
theorem rd_intL {l : List Nat} {H : Hp} {Q : VK} (hne : l ≠ []) (hb : ∀ c ∈ l, IsB c) (h : Q (.int ((valB l : Nat) : Int)) H) : rIntL [.str (S l), .int 2] H Q := ⟨l, rfl, hne, hb, h⟩
theorem par_leB {t c : Int} {b : Nat} (ht : 0 ≤ t) (hc : 1 ≤ c) (hb : t < 2 ^ b) : par t c ≤ b := by
  rcases Nat.lt_or_ge b (par t c) with h | h
  · have h1 := (par_spec ht hc).1 b h
    have h2 : 1 * (2 : Int) ^ b ≤ c * 2 ^ b := Int.mul_le_mul_of_nonneg_right hc (Int.le_of_lt (Int.pow_pos (by decide)))
    omega
  · exact h
theorem par_two {t c : Int} (ht : 0 ≤ t) (hc : 1 ≤ c) : (2 : Int) ^ par t c ≤ 2 * t + 1 := by
  rcases e : par t c with _ | j
  · show (1 : Int) ≤ _
    omega
  · have h1 := (par_spec ht hc).1 j (by omega)
    have h2 : 1 * (2 : Int) ^ j ≤ c * 2 ^ j := Int.mul_le_mul_of_nonneg_right hc (Int.le_of_lt (Int.pow_pos (by decide)))
    rw [Int.pow_succ]
    omega
theorem valB_goB (l : List Nat) (h : ∀ c ∈ l, IsB c) : ∀ a : Nat, l.foldl (fun a c => 2 * a + (c - 48)) a < (a + 1) * 2 ^ l.length := by
  induction l with
  | nil => intro a; show a < (a + 1) * 1; omega
  | cons c r ih =>
    intro a
    have hc := h c List.mem_cons_self
    have h1 := ih (fun d hd => h d (List.mem_cons_of_mem _ hd)) (2 * a + (c - 48))
    rw [List.foldl_cons, List.length_cons, Nat.pow_succ]
    have h2 : (2 * a + (c - 48) + 1) * 2 ^ r.length ≤ (2 * a + 2) * 2 ^ r.length := Nat.mul_le_mul_right _ (by unfold IsB at hc; omega)
    have h3 : (2 * a + 2) * 2 ^ r.length = (a + 1) * (2 ^ r.length * 2) := by
      rw [show 2 * a + 2 = (a + 1) * 2 by omega, Nat.mul_assoc, Nat.mul_comm 2]
    omega
theorem valB_ltB {l : List Nat} (h : ∀ c ∈ l, IsB c) : valB l < 2 ^ l.length := by
  have := valB_goB l h 0
  rw [Nat.zero_add, Nat.one_mul] at this
  exact this
def rdN (l : List Nat) (first : Nat) (T : Tb × Tb) : Nat → Option (List Int × (Tb × Tb) × Nat)
  | 0 => some ([], T, 0)
  | i + 1 => match rdN l first T i with
    | none => none
    | some (ns, T', pl) =>
      if i < first then
        match rdC l pl (par T'.1.1 T'.1.2) with
        | none => none
        | some (u, e) => some (ns ++ [unU u], (tbB T'.1 u, T'.2), e)
      else
        match rdC l pl (par T'.2.1 T'.2.2) with
        | none => none
        | some (u, e) => some (ns ++ [unU u], (T'.1, tbB T'.2 u), e)
def rdA (l : List Nat) (n first : Nat) (T : Tb × Tb) : Option (List Int × (Tb × Tb)) := match rdN l first T n with
  | none => none
  | some (ns, T', pl) => if pl = l.length then some (ns, T') else none
theorem rdC_bd {l : List Nat} {pl k u e : Nat} (hb : ∀ c ∈ l, IsB c) (h : rdC l pl k = some (u, e)) : pl < e ∧ e ≤ l.length ∧ (u < 20 * 2 ^ k ∨ u < 2 ^ l.length) := by
  unfold rdC at h
  generalize onesL (l.drop pl) = o at h
  have vlt : ∀ m n : Nat, valB ((l.drop m).take n) < 2 ^ n := fun m n => by
    refine Nat.lt_of_lt_of_le (valB_ltB fun c hc => hb c (List.mem_of_mem_drop (List.mem_of_mem_take hc))) (Nat.pow_le_pow_right (by decide) ?_)
    rw [List.length_take]
    omega
  split at h
  · rename_i hz
    by_cases c : o < 20
    · rw [if_pos c] at h
      split at h
      · cases h
      · rename_i hl
        cases h
        refine ⟨by omega, by omega, .inl ?_⟩
        have := vlt (pl + o + 1) k
        have h1 : o * 2 ^ k ≤ 19 * 2 ^ k := Nat.mul_le_mul_right _ (by omega)
        omega
    · rw [if_neg c] at h
      split at h
      · cases h
      · rename_i hl
        split at h
        · cases h
        · cases h
          refine ⟨by omega, by omega, .inr ?_⟩
          exact Nat.lt_of_lt_of_le (vlt (pl + o + 1) (o - 19)) (Nat.pow_le_pow_right (by decide) (by omega))
  · cases h
/-- a table whose total is below 2 ^ b -/
def TbB (b : Nat) (t : Tb) : Prop := TbOk (2 ^ b) t ∧ t.1 < 2 ^ b
theorem two_mono {b c : Nat} (h : b ≤ c) : (2 : Int) ^ b ≤ 2 ^ c := by exact_mod_cast Nat.pow_le_pow_right (n := 2) (by decide) h
theorem TbB.mono {b c : Nat} {t : Tb} (h : TbB b t) (k : b ≤ c) : TbB c t := by
  have := two_mono k
  exact ⟨h.1.mono this, by have := h.2; omega⟩
theorem TbB.par {b : Nat} {t : Tb} (h : TbB b t) : Z.par t.1 t.2 ≤ b := par_leB h.1.1 h.1.2.2.1 h.2
theorem TbB.next {b m u : Nat} {t : Tb} (h : TbB b t) (hm : m ≤ b) (h5 : 5 ≤ b) (hu : u < 20 * 2 ^ Z.par t.1 t.2 ∨ u < 2 ^ m) : TbB (b + 7) (tbB t u) := by
  obtain ⟨⟨a1, a2, a3, a4⟩, a5⟩ := h
  have p2 := par_two a1 a3
  have e7 : (2 : Int) ^ (b + 7) = 128 * 2 ^ b := by rw [Int.pow_add]; omega
  have b32 : (32 : Int) ≤ 2 ^ b := by have := two_mono h5; omega
  have hu' : (u : Int) ≤ 41 * 2 ^ b := by
    rcases hu with hu | hu
    · have hu : (u : Int) < 20 * 2 ^ Z.par t.1 t.2 := by exact_mod_cast hu
      omega
    · have hu : (u : Int) < 2 ^ m := by exact_mod_cast hu
      have := two_mono hm
      omega
  have hu0 : (0 : Int) ≤ u := by omega
  unfold tbB
  split
  · refine ⟨⟨?_, ?_, ?_, ?_⟩, ?_⟩ <;> dsimp only <;> omega
  · rename_i c
    refine ⟨⟨?_, ?_, ?_, ?_⟩, ?_⟩ <;> dsimp only <;> omega
/-- what is known while bits are read -/
theorem rdN_bd {l : List Nat} {first : Nat} {T : Tb × Tb} {b : Nat} (hb : ∀ c ∈ l, IsB c) (hl : l.length ≤ b) (h5 : 5 ≤ b) (h1 : TbB b T.1) (h2 : TbB b T.2) : ∀ (i : Nat) (ns : List Int) (T' : Tb × Tb) (pl : Nat), rdN l first T i = some (ns, T', pl) → ns.length = i ∧ pl ≤ l.length ∧ TbB (b + 7 * i) T'.1 ∧ TbB (b + 7 * i) T'.2
  | 0, ns, T', pl, h => by
    cases h
    exact ⟨rfl, Nat.zero_le _, h1, h2⟩
  | i + 1, ns, T', pl, h => by
    unfold rdN at h
    cases g : rdN l first T i with
    | none => rw [g] at h; cases h
    | some r =>
      obtain ⟨ms, S', q⟩ := r
      obtain ⟨k1, k2, k3, k4⟩ := rdN_bd hb hl h5 h1 h2 i ms S' q g
      rw [g] at h
      dsimp only at h
      split at h
      · cases g2 : rdC l q (par S'.1.1 S'.1.2) with
        | none => rw [g2] at h; cases h
        | some r2 =>
          obtain ⟨u, e⟩ := r2
          rw [g2] at h
          cases h
          obtain ⟨m1, m2, m3⟩ := rdC_bd hb g2
          exact ⟨by rw [List.length_append, k1]; rfl, m2, k3.next (m := l.length) (by omega) (by omega) m3, k4.mono (by omega)⟩
      · cases g2 : rdC l q (par S'.2.1 S'.2.2) with
        | none => rw [g2] at h; cases h
        | some r2 =>
          obtain ⟨u, e⟩ := r2
          rw [g2] at h
          cases h
          obtain ⟨m1, m2, m3⟩ := rdC_bd hb g2
          exact ⟨by rw [List.length_append, k1]; rfl, m2, k3.mono (by omega), k4.next (m := l.length) (by omega) (by omega) m3⟩
end Z
namespace Z
open PySem PySem.Spec PyProof.Rows L2
open SX (S S_len S_cat S_inj)
theorem lowB_modB : ∀ (k u : Nat), lowB (u % 2 ^ k) k = lowB u k
  | 0, u => rfl
  | k + 1, u => by
    rw [lowB_front, lowB_front]
    have h1 : u % 2 ^ (k + 1) / 2 ^ k % 2 = u / 2 ^ k % 2 := by
      rw [Nat.pow_succ, Nat.mod_mul_right_div_self]
      omega
    have h2 : lowB (u % 2 ^ (k + 1)) k = lowB u k := by
      rw [← lowB_modB k (u % 2 ^ (k + 1)), ← lowB_modB k u, Nat.mod_mod_of_dvd u (Nat.pow_dvd_pow 2 (Nat.le_succ k))]
    rw [h1, h2]
theorem lowB_valB : ∀ (n : Nat) (d : List Nat), d.length = n → (∀ c ∈ d, IsB c) → lowB (valB d) n = d := by
  intro n
  induction n with
  | zero =>
    intro d hl _
    rw [List.length_eq_zero_iff.mp hl]
    rfl
  | succ n ih =>
    intro d hl hb
    obtain ⟨r, c, rfl⟩ : ∃ r c, d = r ++ [c] := ⟨d.dropLast, d.getLast (fun z => by rw [z] at hl; cases hl), (List.dropLast_concat_getLast _).symm⟩
    have hc := hb c (List.mem_append_right _ List.mem_cons_self)
    rw [List.length_append, List.length_singleton] at hl
    show lowB (valB (r ++ [c]) / 2) n ++ [48 + valB (r ++ [c]) % 2] = r ++ [c]
    rw [valB_snoc]
    unfold IsB at hc
    rw [show (2 * valB r + (c - 48)) / 2 = valB r by omega, show 48 + (2 * valB r + (c - 48)) % 2 = c by omega, ih r (by omega) fun x hx => hb x (List.mem_append_left _ hx)]
theorem ones_split : ∀ (m : List Nat), (∀ c ∈ m, IsB c) → onesL m < m.length → m = List.replicate (onesL m) 49 ++ 48 :: m.drop (onesL m + 1)
  | [], _, h => absurd h (Nat.not_lt_zero _)
  | c :: r, hb, h => by
    by_cases e : c = 48
    · have z : onesL (c :: r) = 0 := if_pos e
      rw [z, e]
      rfl
    · have z : onesL (c :: r) = onesL r + 1 := if_neg e
      have hc := hb c List.mem_cons_self
      have c9 : c = 49 := by unfold IsB at hc; omega
      rw [z] at h ⊢
      rw [List.replicate_succ, List.cons_append, ← c9]
      congr 1
      exact c9 ▸ ones_split r (fun x hx => hb x (List.mem_cons_of_mem _ hx)) (by simpa using h)
theorem take_reps (o n : Nat) (d : List Nat) : (List.replicate o 49 ++ 48 :: d).take (o + 1 + n) = List.replicate o 49 ++ 48 :: d.take n := by
  have e : (List.replicate o 49 ++ 48 :: d : List Nat).take ((List.replicate o 49 : List Nat).length + (1 + n)) = List.replicate o 49 ++ (48 :: d).take (1 + n) := List.take_length_add_append _
  rw [List.length_replicate, ← Nat.add_assoc, Nat.add_comm 1 n] at e
  exact e
theorem long_nb {d : List Nat} (hb : ∀ c ∈ d, IsB c) (h0 : d[0]? ≠ some 48) (hn : d ≠ []) : nb (valB d) = d.length ∧ binB (valB d) = d := by
  cases d with
  | nil => exact absurd rfl hn
  | cons c r =>
    have hc := hb c List.mem_cons_self
    have c9 : c = 49 := by
      unfold IsB at hc
      have : c ≠ 48 := fun z => h0 (by rw [z]; rfl)
      omega
    have hlt := valB_ltB hb
    have hge : 2 ^ r.length ≤ valB (c :: r) := by
      subst c9
      have key : ∀ (m : List Nat) (a : Nat), a * 2 ^ m.length ≤ m.foldl (fun a c => 2 * a + (c - 48)) a := by
        intro m
        induction m with
        | nil => intro a; show a * 1 ≤ a; omega
        | cons x t ih =>
          intro a
          rw [List.foldl_cons, List.length_cons, Nat.pow_succ]
          have h1 := ih (2 * a + (x - 48))
          have h2 : (2 * a) * 2 ^ t.length ≤ (2 * a + (x - 48)) * 2 ^ t.length := Nat.mul_le_mul_right _ (by omega)
          have h3 : (2 * a) * 2 ^ t.length = a * (2 ^ t.length * 2) := by rw [Nat.mul_comm 2 a, Nat.mul_assoc, Nat.mul_comm 2]
          omega
      have := key r 1
      rw [Nat.one_mul] at this
      exact this
    have e : nb (valB (c :: r)) = (c :: r).length := by
      have h1 := nb_min hlt (by rw [List.length_cons]; omega)
      have h2 := nb_lt (valB (c :: r))
      rcases Nat.lt_or_ge (nb (valB (c :: r))) (c :: r).length with z | z
      · have : 2 ^ nb (valB (c :: r)) ≤ 2 ^ r.length := Nat.pow_le_pow_right (by decide) (by rw [List.length_cons] at z; omega)
        omega
      · omega
    refine ⟨e, ?_⟩
    unfold binB
    rw [e]
    exact lowB_valB _ _ rfl hb
/-- what is read was written so -/
theorem rdC_enc {l : List Nat} {pl k u e : Nat} (hb : ∀ c ∈ l, IsB c) (h : rdC l pl k = some (u, e)) : (l.drop pl).take (e - pl) = encB u k := by
  have hbd : ∀ c ∈ l.drop pl, IsB c := fun c hc => hb c (List.mem_of_mem_drop hc)
  have hsp := ones_split (l.drop pl) hbd
  have hld : (l.drop pl).length = l.length - pl := List.length_drop ..
  have hdd : (l.drop pl).drop (onesL (l.drop pl) + 1) = l.drop (pl + onesL (l.drop pl) + 1) := by rw [List.drop_drop]; rfl
  unfold rdC at h
  rw [hdd] at hsp
  generalize onesL (l.drop pl) = o at h hsp
  split at h
  · rename_i hz
    have hsp := hsp (by omega)
    have hdl : (l.drop (pl + o + 1)).length = l.length - (pl + o + 1) := List.length_drop ..
    have hb2 : ∀ c ∈ l.drop (pl + o + 1), IsB c := fun c hc => hb c (List.mem_of_mem_drop hc)
    generalize l.drop (pl + o + 1) = d0 at h hsp hdl hb2
    by_cases c : o < 20
    · rw [if_pos c] at h
      split at h
      · cases h
      · rename_i hl
        have hk : (d0.take k).length = k := by rw [List.length_take]; omega
        have hb3 : ∀ c ∈ d0.take k, IsB c := fun c hc => hb2 c (List.mem_of_mem_take hc)
        have hv : valB (d0.take k) < 2 ^ k := by have := valB_ltB hb3; rw [hk] at this; exact this
        have h := Option.some.inj h
        obtain ⟨rfl, rfl⟩ : o * 2 ^ k + valB (d0.take k) = u ∧ pl + o + 1 + k = e := ⟨congrArg Prod.fst h, congrArg Prod.snd h⟩
        have hq : (o * 2 ^ k + valB (d0.take k)) / 2 ^ k = o := by rw [Nat.mul_comm, Nat.mul_add_div (Nat.two_pow_pos k), Nat.div_eq_of_lt hv, Nat.add_zero]
        have hm : (o * 2 ^ k + valB (d0.take k)) % 2 ^ k = valB (d0.take k) := by rw [Nat.mul_comm, Nat.mul_add_mod, Nat.mod_eq_of_lt hv]
        unfold encB
        rw [hq, if_pos c, hsp, show pl + o + 1 + k - pl = o + 1 + k by omega, take_reps, ← lowB_modB, hm, lowB_valB k _ hk hb3, List.append_assoc]
        rfl
    · rw [if_neg c] at h
      split at h
      · cases h
      · rename_i hl
        split at h
        · cases h
        · rename_i hz2
          have h := Option.some.inj h
          obtain ⟨rfl, rfl⟩ : valB (d0.take (o - 19)) = u ∧ pl + o + 1 + (o - 19) = e := ⟨congrArg Prod.fst h, congrArg Prod.snd h⟩
          have hk : (d0.take (o - 19)).length = o - 19 := by rw [List.length_take]; omega
          have hb3 : ∀ c ∈ d0.take (o - 19), IsB c := fun c hc => hb2 c (List.mem_of_mem_take hc)
          have h0 : (d0.take (o - 19))[0]? = d0[0]? := by rw [List.getElem?_take, if_pos (by omega)]
          obtain ⟨e1, e2⟩ := long_nb hb3 (by rw [h0]; exact fun z => hz2 (.inl z)) (fun z => by rw [z] at hk; simp at hk; omega)
          unfold encB
          rw [if_neg (fun z => hz2 (.inr z)), e1, e2, hk, hsp, show pl + o + 1 + (o - 19) - pl = o + 1 + (o - 19) by omega, take_reps, show 19 + (o - 19) = o by omega, List.append_assoc]
          rfl
  · cases h
theorem uOf_unU (u : Nat) : uOf (unU u) = u := by
  have e := uOf_eq (unU u)
  rcases Nat.mod_two_eq_zero_or_one u with z | z
  · have h : unU u = ((u / 2 : Nat) : Int) := if_pos z
    rw [h] at e ⊢
    unfold codeU at e
    split at e <;> omega
  · have h : unU u = -((u / 2 : Nat) : Int) - 1 := if_neg (by omega)
    rw [h] at e ⊢
    unfold codeU at e
    split at e <;> omega
/-- the longer form: whether what stands there is the code of its value -/
theorem long_iff {l : List Nat} {pl k : Nat} (hb : ∀ c ∈ l, IsB c) (hz : pl + onesL (l.drop pl) < l.length) (c : ¬ onesL (l.drop pl) < 20) (hl : ¬ l.length < pl + onesL (l.drop pl) + 1 + (onesL (l.drop pl) - 19)) :
    encB (valB ((l.drop (pl + onesL (l.drop pl) + 1)).take (onesL (l.drop pl) - 19))) k = (l.drop pl).take (onesL (l.drop pl) + 1 + (onesL (l.drop pl) - 19)) ↔ ¬ ((l.drop (pl + onesL (l.drop pl) + 1))[0]? = some 48 ∨ valB ((l.drop (pl + onesL (l.drop pl) + 1)).take (onesL (l.drop pl) - 19)) / 2 ^ k < 20) := by
  have hbd : ∀ c ∈ l.drop pl, IsB c := fun c hc => hb c (List.mem_of_mem_drop hc)
  have hld : (l.drop pl).length = l.length - pl := List.length_drop ..
  have hsp := ones_split (l.drop pl) hbd (by omega)
  have hdd : (l.drop pl).drop (onesL (l.drop pl) + 1) = l.drop (pl + onesL (l.drop pl) + 1) := by rw [List.drop_drop]; rfl
  rw [hdd] at hsp
  generalize onesL (l.drop pl) = o at *
  have hdl : (l.drop (pl + o + 1)).length = l.length - (pl + o + 1) := List.length_drop ..
  have hb2 : ∀ c ∈ l.drop (pl + o + 1), IsB c := fun c hc => hb c (List.mem_of_mem_drop hc)
  generalize l.drop (pl + o + 1) = d0 at *
  have hk : (d0.take (o - 19)).length = o - 19 := by rw [List.length_take]; omega
  have hb3 : ∀ c ∈ d0.take (o - 19), IsB c := fun c hc => hb2 c (List.mem_of_mem_take hc)
  have h0 : (d0.take (o - 19))[0]? = d0[0]? := by rw [List.getElem?_take, if_pos (by omega)]
  rw [hsp, take_reps]
  generalize d0.take (o - 19) = d at *
  constructor
  · intro e
    have o2 : onesL (List.replicate o 49 ++ 48 :: d) = o := onesL_rep _ _
    by_cases c2 : valB d / 2 ^ k < 20
    · have e1 : encB (valB d) k = List.replicate (valB d / 2 ^ k) 49 ++ 48 :: lowB (valB d) k := by
        unfold encB
        rw [if_pos c2, List.append_assoc]
        rfl
      rw [← e, e1, onesL_rep] at o2
      omega
    · have e1 : encB (valB d) k = List.replicate (19 + nb (valB d)) 49 ++ 48 :: binB (valB d) := by
        unfold encB
        rw [if_neg c2, List.append_assoc]
        rfl
      rw [← e, e1, onesL_rep] at o2
      rw [e1, o2] at e
      have e3 : binB (valB d) = d := by
        have := List.append_cancel_left e
        exact (List.cons.inj this).2
      rintro (z | z)
      · have hne : valB d ≠ 0 := fun y => c2 (by rw [y, Nat.zero_div]; decide)
        have := binB_head hne
        rw [e3, h0, z] at this
        cases this
      · exact c2 z
  · intro hn
    obtain ⟨e1, e2⟩ := long_nb hb3 (by rw [h0]; exact fun z => hn (.inl z)) (fun z => by rw [z] at hk; simp at hk; omega)
    unfold encB
    rw [if_neg (fun z => hn (.inr z)), e1, e2, hk, show 19 + (o - 19) = o by omega, List.append_assoc]
    rfl
theorem rdN_wst {l : List Nat} {first : Nat} {T : Tb × Tb} (hb : ∀ c ∈ l, IsB c) : ∀ (i : Nat) (ns : List Int) (T' : Tb × Tb) (pl : Nat), rdN l first T i = some (ns, T', pl) → ns.length = i ∧ ∀ post, (wst (ns ++ post) first T i).1.flatten = l.take pl ∧ (wst (ns ++ post) first T i).2 = T'
  | 0, ns, T', pl, h => by
    cases h
    exact ⟨rfl, fun post => ⟨rfl, rfl⟩⟩
  | i + 1, ns, T', pl, h => by
    unfold rdN at h
    cases g : rdN l first T i with
    | none => rw [g] at h; cases h
    | some r =>
      obtain ⟨ms, S', q⟩ := r
      obtain ⟨k1, k2⟩ := rdN_wst hb i ms S' q g
      rw [g] at h
      dsimp only at h
      have tk : ∀ u e k, rdC l q k = some (u, e) → l.take e = l.take q ++ encB u k := fun u e k hr => by
        obtain ⟨m1, m2, _⟩ := rdC_bd hb hr
        rw [← rdC_enc hb hr, show e = q + (e - q) by omega, List.take_add, show q + (e - q) - q = e - q by omega]
      have gd : ∀ u post, (ms ++ [unU u] ++ post).getD i 0 = unU u := fun u post => by
        rw [List.getD_eq_getElem?_getD, List.append_assoc, List.getElem?_append_right (by omega), k1, Nat.sub_self]
        rfl
      split at h
      · rename_i c
        cases g2 : rdC l q (par S'.1.1 S'.1.2) with
        | none => rw [g2] at h; cases h
        | some r2 =>
          obtain ⟨u, e⟩ := r2
          rw [g2] at h
          cases h
          refine ⟨by rw [List.length_append, k1]; rfl, fun post => ?_⟩
          have k3 := k2 ([unU u] ++ post)
          rw [← List.append_assoc] at k3
          rw [wst_lo c, k3.2, gd, uOf_unU]
          refine ⟨?_, rfl⟩
          show ((wst (ms ++ [unU u] ++ post) first T i).1 ++ [encB u (par S'.1.1 S'.1.2)]).flatten = _
          rw [List.flatten_append, k3.1, tk u pl _ g2]
          simp
      · rename_i c
        cases g2 : rdC l q (par S'.2.1 S'.2.2) with
        | none => rw [g2] at h; cases h
        | some r2 =>
          obtain ⟨u, e⟩ := r2
          rw [g2] at h
          cases h
          refine ⟨by rw [List.length_append, k1]; rfl, fun post => ?_⟩
          have k3 := k2 ([unU u] ++ post)
          rw [← List.append_assoc] at k3
          rw [wst_hi c, k3.2, gd, uOf_unU]
          refine ⟨?_, rfl⟩
          show ((wst (ms ++ [unU u] ++ post) first T i).1 ++ [encB u (par S'.2.1 S'.2.2)]).flatten = _
          rw [List.flatten_append, k3.1, tk u pl _ g2]
          simp
/-- the numbers before the i-th one -/
theorem rdN_pre {l : List Nat} {first : Nat} {T : Tb × Tb} : ∀ (n : Nat) (ns : List Int) (T' : Tb × Tb) (pl : Nat), rdN l first T n = some (ns, T', pl) → ∀ i, i ≤ n → ∃ ms S' q post, rdN l first T i = some (ms, S', q) ∧ ns = ms ++ post
  | 0, ns, T', pl, h, i, hi => by
    obtain rfl : i = 0 := by omega
    exact ⟨ns, T', pl, [], h, (List.append_nil _).symm⟩
  | n + 1, ns, T', pl, h, i, hi => by
    by_cases e : i = n + 1
    · subst e
      exact ⟨ns, T', pl, [], h, (List.append_nil _).symm⟩
    · unfold rdN at h
      cases g : rdN l first T n with
      | none => rw [g] at h; cases h
      | some r =>
        obtain ⟨ms, S', q⟩ := r
        obtain ⟨ms2, S2, q2, post, h1, h2⟩ := rdN_pre n ms S' q g i (by omega)
        rw [g] at h
        dsimp only at h
        split at h
        · cases g2 : rdC l q (par S'.1.1 S'.1.2) with
          | none => rw [g2] at h; cases h
          | some r2 => rw [g2] at h; cases h; exact ⟨ms2, S2, q2, post ++ [unU r2.1], h1, by rw [h2, List.append_assoc]⟩
        · cases g2 : rdC l q (par S'.2.1 S'.2.2) with
          | none => rw [g2] at h; cases h
          | some r2 => rw [g2] at h; cases h; exact ⟨ms2, S2, q2, post ++ [unU r2.1], h1, by rw [h2, List.append_assoc]⟩
theorem rdA_wst {l : List Nat} {n first b : Nat} {T T' : Tb × Tb} {ns : List Int} (hb : ∀ c ∈ l, IsB c) (hl : l.length ≤ b) (h5 : 5 ≤ b) (h1 : TbB b T.1) (h2 : TbB b T.2) (h : rdA l n first T = some (ns, T')) :
    ns.length = n ∧ (wst ns first T ns.length).1.flatten = l ∧ (wst ns first T ns.length).2 = T' ∧ ∀ i, i ≤ n → TbB (b + 7 * n) (wst ns first T i).2.1 ∧ TbB (b + 7 * n) (wst ns first T i).2.2 := by
  unfold rdA at h
  cases g : rdN l first T n with
  | none => rw [g] at h; cases h
  | some r =>
    obtain ⟨ms, S', q⟩ := r
    rw [g] at h
    dsimp only at h
    split at h
    · rename_i e
      cases h
      obtain ⟨k1, k2⟩ := rdN_wst hb n ns T' q g
      have k3 := k2 []
      rw [List.append_nil] at k3
      refine ⟨k1, by rw [k1, k3.1, e, List.take_length], by rw [k1]; exact k3.2, fun i hi => ?_⟩
      obtain ⟨ms2, S2, q2, post, g2, e2⟩ := rdN_pre n ns T' q g i hi
      obtain ⟨_, m2⟩ := rdN_wst hb i ms2 S2 q2 g2
      obtain ⟨_, _, m3, m4⟩ := rdN_bd hb hl h5 h1 h2 i ms2 S2 q2 g2
      rw [e2, (m2 post).2]
      exact ⟨m3.mono (by omega), m4.mono (by omega)⟩
    · cases h
theorem tw_lt (p : Nat → Bool) : ∀ l : List Nat, (∃ c ∈ l, p c = false) → (l.takeWhile p).length < l.length
  | [], h => by obtain ⟨c, hc, _⟩ := h; exact absurd hc List.not_mem_nil
  | c :: r, h => by
    rw [List.takeWhile_cons]
    cases e : p c with
    | false => rw [if_neg Bool.false_ne_true]; exact Nat.succ_pos _
    | true =>
      rw [if_pos rfl]
      obtain ⟨d, hd, h2⟩ := h
      rcases List.mem_cons.mp hd with z | z
      · rw [z, e] at h2; cases h2
      · exact Nat.succ_lt_succ (tw_lt p r ⟨d, z, h2⟩)
theorem tw_drop (p : Nat → Bool) : ∀ l : List Nat, (∃ c ∈ l, p c = false) → ∃ c r, l.drop (l.takeWhile p).length = c :: r ∧ p c = false
  | [], h => by obtain ⟨c, hc, _⟩ := h; exact absurd hc List.not_mem_nil
  | c :: r, h => by
    rw [List.takeWhile_cons]
    cases e : p c with
    | false => rw [if_neg Bool.false_ne_true]; exact ⟨c, r, rfl, e⟩
    | true =>
      rw [if_pos rfl]
      obtain ⟨d, hd, h2⟩ := h
      rcases List.mem_cons.mp hd with z | z
      · rw [z, e] at h2; cases h2
      · exact tw_drop p r ⟨d, z, h2⟩
theorem strip_no {l : List Nat} (h : ∃ c ∈ l, (S [48, 49]).cps.contains c = false) : Txt.stripChars (S l) (S [48, 49]) ≠ S [] := by
  have a1 := tw_lt _ l h
  obtain ⟨c0, r0, e0, p0⟩ := tw_drop _ l h
  have lo : stripLo (S [48, 49]).cps.contains true (S l) = (l.takeWhile (S [48, 49]).cps.contains).length := rfl
  have hi : stripHi (S [48, 49]).cps.contains true (S l) (l.takeWhile (S [48, 49]).cps.contains).length = l.length - ((l.drop (l.takeWhile (S [48, 49]).cps.contains).length).reverse.takeWhile (S [48, 49]).cps.contains).length := by
    unfold stripHi
    rw [if_pos rfl]
    show (S l).length - _ = _
    rw [S_len]
  have a2 := tw_lt (S [48, 49]).cps.contains (l.drop (l.takeWhile (S [48, 49]).cps.contains).length).reverse ⟨c0, List.mem_reverse.mpr (by rw [e0]; exact List.mem_cons_self), p0⟩
  rw [List.length_reverse, List.length_drop] at a2
  intro z
  have z2 := congrArg Str.length z
  unfold Txt.stripChars Txt.stripBy at z2
  rw [S_len] at z2
  cases hs : stripSame (S [48, 49]).cps.contains true true (S l) with
  | true =>
    rw [hs, if_pos rfl, S_len] at z2
    simp only [List.length_nil] at z2
    omega
  | false =>
    rw [hs, if_neg Bool.false_ne_true] at z2
    unfold stripped at z2
    rw [lo, hi] at z2
    have z3 : ((S l).cps.extract (l.takeWhile (S [48, 49]).cps.contains).length (l.length - ((l.drop (l.takeWhile (S [48, 49]).cps.contains).length).reverse.takeWhile (S [48, 49]).cps.contains).length)).size = 0 := z2
    rw [Array.size_extract] at z3
    have z4 : (S l).cps.size = l.length := S_len l
    omega
theorem isB_con {c : Nat} : (S [48, 49]).cps.contains c = true ↔ IsB c := by
  unfold IsB
  show (#[48, 49] : Array Nat).contains c = true ↔ _
  rw [Array.contains_iff]
  simp
theorem bits_iff {l : List Nat} : bitsOf (S l) = true ↔ ∀ c ∈ l, IsB c := by
  constructor
  · intro h
    by_cases e : ∃ c ∈ l, (S [48, 49]).cps.contains c = false
    · exact absurd (V.str.inj (of_decide_eq_true h)) (by rw [e_empty]; exact strip_no e)
    · intro c hc
      refine isB_con.mp ?_
      cases e2 : (S [48, 49]).cps.contains c with
      | true => rfl
      | false => exact absurd ⟨c, hc, e2⟩ e
  · exact bits_ok
inductive BtR (H : Hp) : V → Option (List Nat) → Prop where
  | good {l : List Nat} (hb : ∀ c ∈ l, IsB c) (hl : l.length ≤ 15000) : BtR H (.str (S l)) (some l)
  | odd {l : List Nat} (hb : ¬ ∀ c ∈ l, IsB c) (hl : l.length ≤ 15000) (hc : ∀ c ∈ l, c < 1114112) : BtR H (.str (S l)) none
  | non : BtR H .non none
  | bl {k : Bool} : BtR H (.bl k) none
  | int {i : Int} : BtR H (.int i) none
  | lst {a : Addr} {xs : List V} (h : H a = some (.lst xs)) : BtR H (.ref a) none
  | tup {a : Addr} {xs : List V} (h : H a = some (.tup xs)) : BtR H (.ref a) none
theorem BtR.same {H H' : Hp} {x : V} {o : Option (List Nat)} (s : Same H H') (h : BtR H x o) : BtR H' x o := by
  cases h with
  | good hb hl => exact .good hb hl
  | odd hb hl hc => exact .odd hb hl hc
  | non => exact .non
  | bl => exact .bl
  | int => exact .int
  | lst h => exact .lst (s _ _ h)
  | tup h => exact .tup (s _ _ h)
theorem bt_str {H : Hp} {l : List Nat} (hl : l.length ≤ 15000) (hc : ∀ c ∈ l, c < 1114112) : ∃ o, BtR H (.str (S l)) o := by
  by_cases h : ∀ c ∈ l, IsB c
  · exact ⟨_, .good h hl⟩
  · exact ⟨_, .odd h hl hc⟩
def spRdL : Sp := fun vs H Q _ => ∃ (l : List Nat) (pl k : Nat), vs = [.str (S l), .int (pl : Int), .int (k : Int)] ∧ (∀ c ∈ l, IsB c) ∧ l.length ≤ 15000 ∧ pl ≤ l.length ∧ k ≤ 16000 ∧ (rdC l pl k = none → Q .non H) ∧
  ∀ u e, rdC l pl k = some (u, e) → ∀ p, H p = none → Q (.ref p) (upd H p (.tup [.int ((u : Nat) : Int), .int ((e : Nat) : Int)]))
theorem use_rdL {l : List Nat} {pl k : Nat} {H : Hp} {Q : VK} {E : XK} (h1 : ∀ c ∈ l, IsB c) (h2 : l.length ≤ 15000) (h3 : pl ≤ l.length) (h4 : k ≤ 16000) (q1 : rdC l pl k = none → Q .non H)
    (q2 : ∀ u e, rdC l pl k = some (u, e) → ∀ p, H p = none → Q (.ref p) (upd H p (.tup [.int ((u : Nat) : Int), .int ((e : Nat) : Int)]))) : spRdL ([.str (S l), .int (pl : Int), .int (k : Int)] ++ []) H Q E := ⟨l, pl, k, rfl, h1, h2, h3, h4, q1, q2⟩
def rdV (o : Option (List Nat)) (n first : Nat) (T : Tb × Tb) : Option (List Int × (Tb × Tb)) := match o with
  | none => none
  | some l => rdA l n first T
def spRdV (K : PySem.W.Frag) : Sp := fun vs H Q _ => ∃ (x : V) (o : Option (List Nat)) (n first : Nat) (b : Addr) (T : Tb × Tb), vs = [x, .int (n : Nat), .int (first : Int), .ref b] ∧ BtR H x o ∧ n ≤ 64 ∧ first ≤ n ∧ TbsV K H b T ∧ TbB 15000 T.1 ∧ TbB 15000 T.2 ∧ (rdV o n first T = none → ∀ H', Same H H' → Q .non H') ∧
  ∀ ns T', rdV o n first T = some (ns, T') → ∀ p m q H', Same H H' → H p = none → H m = none → H' p = some (.tup [.ref m, .ref q]) → H' m = some (.lst (ns.map V.int)) → TbsV K H' q T' → Q (.ref p) H'
theorem use_rdV {K : PySem.W.Frag} {x : V} {o : Option (List Nat)} {n first : Nat} {b : Addr} {T : Tb × Tb} {H : Hp} {Q : VK} {E : XK} (h : BtR H x o) (h1 : n ≤ 64) (h2 : first ≤ n) (h3 : TbsV K H b T) (h4 : TbB 15000 T.1) (h5 : TbB 15000 T.2) (q1 : rdV o n first T = none → ∀ H', Same H H' → Q .non H')
    (q2 : ∀ ns T', rdV o n first T = some (ns, T') → ∀ p m q H', Same H H' → H p = none → H m = none → H' p = some (.tup [.ref m, .ref q]) → H' m = some (.lst (ns.map V.int)) → TbsV K H' q T' → Q (.ref p) H') : spRdV K ([x, .int (n : Nat), .int (first : Int), .ref b] ++ []) H Q E := ⟨x, o, n, first, b, T, rfl, h, h1, h2, h3, h4, h5, q1, q2⟩
def spBitsL : Sp := fun vs H Q _ => ∃ u k : Nat, vs = [.int (u : Int), .int (k : Int)] ∧ k ≤ 16000 ∧ nb u ≤ 100000 ∧ Q (.str (S (encB u k))) H
theorem use_bitsL {u k : Nat} {H : Hp} {Q : VK} {E : XK} (hk : k ≤ 16000) (hu : nb u ≤ 100000) (q : Q (.str (S (encB u k))) H) : spBitsL ([.int (u : Int), .int (k : Int)] ++ []) H Q E := ⟨u, k, rfl, hk, hu, q⟩
def spOnes : Sp := fun vs H Q _ => ∃ (l : List Nat) (pl m : Nat), vs = [.str (S l), .int (pl : Int), .int (m : Int)] ∧ (∀ c ∈ l, IsB c) ∧ l.length ≤ 15000 ∧ pl ≤ l.length ∧ Q (.int ((min (onesL (l.drop pl)) m : Nat) : Int)) H
theorem use_ones {l : List Nat} {pl m : Nat} {H : Hp} {Q : VK} {E : XK} (h1 : ∀ c ∈ l, IsB c) (h2 : l.length ≤ 15000) (h3 : pl ≤ l.length) (q : Q (.int ((min (onesL (l.drop pl)) m : Nat) : Int)) H) : spOnes ([.str (S l), .int (pl : Int), .int (m : Int)] ++ []) H Q E := ⟨l, pl, m, rfl, h1, h2, h3, q⟩
def spVal : Sp := fun vs H Q _ => ∃ l : List Nat, vs = [.str (S l)] ∧ (∀ c ∈ l, IsB c) ∧ Q (.int ((valB l : Nat) : Int)) H
theorem use_val {l : List Nat} {H : Hp} {Q : VK} {E : XK} (h1 : ∀ c ∈ l, IsB c) (q : Q (.int ((valB l : Nat) : Int)) H) : spVal ([.str (S l)] ++ []) H Q E := ⟨l, rfl, h1, q⟩
/-- numbers written, whatever they are -/
def spWrB (K : PySem.W.Frag) : Sp := fun vs H Q _ => ∃ (a : Addr) (ns : List Int) (first : Nat) (b : Addr) (T : Tb × Tb), vs = [.ref a, .int (first : Int), .ref b] ∧ H a = some (.lst (ns.map V.int)) ∧ ns.length ≤ 64 ∧ first ≤ ns.length ∧ (∀ z ∈ ns, nb (uOf z) ≤ 15000) ∧ TbsV K H b T ∧ (∀ i, i ≤ ns.length → TbB 16000 (wst ns first T i).2.1 ∧ TbB 16000 (wst ns first T i).2.2) ∧ (wst ns first T ns.length).1.flatten.length ≤ 15000 ∧
  ∀ p q H', Same H H' → H p = none → H' p = some (.tup [.str (S (wst ns first T ns.length).1.flatten), .ref q]) → TbsV K H' q (wst ns first T ns.length).2 → Q (.ref p) H'
theorem use_wrB {K : PySem.W.Frag} {a b : Addr} {ns : List Int} {first : Nat} {T : Tb × Tb} {H : Hp} {Q : VK} {E : XK} (h1 : H a = some (.lst (ns.map V.int))) (h2 : ns.length ≤ 64) (h3 : first ≤ ns.length) (h4 : ∀ z ∈ ns, nb (uOf z) ≤ 15000) (h5 : TbsV K H b T) (h6 : ∀ i, i ≤ ns.length → TbB 16000 (wst ns first T i).2.1 ∧ TbB 16000 (wst ns first T i).2.2) (h7 : (wst ns first T ns.length).1.flatten.length ≤ 15000)
    (q : ∀ p q H', Same H H' → H p = none → H' p = some (.tup [.str (S (wst ns first T ns.length).1.flatten), .ref q]) → TbsV K H' q (wst ns first T ns.length).2 → Q (.ref p) H') : spWrB K ([.ref a, .int (first : Int), .ref b] ++ []) H Q E := ⟨a, ns, first, b, T, rfl, h1, h2, h3, h4, h5, h6, h7, q⟩
theorem rdN_none {l : List Nat} {first : Nat} {T : Tb × Tb} {i : Nat} (h : rdN l first T i = none) : ∀ n, i ≤ n → rdN l first T n = none := by
  intro n hn
  induction n with
  | zero => obtain rfl : i = 0 := by omega
            exact h
  | succ n ih =>
    by_cases e : i = n + 1
    · subst e; exact h
    · unfold rdN
      rw [ih (by omega)]
theorem rdN_lo {l : List Nat} {first i : Nat} {T S' : Tb × Tb} {ms : List Int} {q : Nat} (c : i < first) (h : rdN l first T i = some (ms, S', q)) : rdN l first T (i + 1) = match rdC l q (par S'.1.1 S'.1.2) with | none => none | some (u, e) => some (ms ++ [unU u], (tbB S'.1 u, S'.2), e) := by
  show (match rdN l first T i with | none => none | some (ns, T', pl) => if i < first then (match rdC l pl (par T'.1.1 T'.1.2) with | none => none | some (u, e) => some (ns ++ [unU u], (tbB T'.1 u, T'.2), e)) else (match rdC l pl (par T'.2.1 T'.2.2) with | none => none | some (u, e) => some (ns ++ [unU u], (T'.1, tbB T'.2 u), e))) = _
  rw [h]
  exact if_pos c
theorem rdN_hi {l : List Nat} {first i : Nat} {T S' : Tb × Tb} {ms : List Int} {q : Nat} (c : ¬ i < first) (h : rdN l first T i = some (ms, S', q)) : rdN l first T (i + 1) = match rdC l q (par S'.2.1 S'.2.2) with | none => none | some (u, e) => some (ms ++ [unU u], (S'.1, tbB S'.2 u), e) := by
  show (match rdN l first T i with | none => none | some (ns, T', pl) => if i < first then (match rdC l pl (par T'.1.1 T'.1.2) with | none => none | some (u, e) => some (ns ++ [unU u], (tbB T'.1 u, T'.2), e)) else (match rdC l pl (par T'.2.1 T'.2.2) with | none => none | some (u, e) => some (ns ++ [unU u], (T'.1, tbB T'.2 u), e))) = _
  rw [h]
  exact if_neg c
end Z
namespace Z
open PySem PySem.Spec PyProof.Rows L2
open SX (S S_len S_cat S_inj)
theorem for_signsB {x : Str} {g : TG} {tb : TS} {D : Ends} {σ : L2.St} {H : Hp} (Pv : Nat → L2.St → Hp → Prop) (h0 : Pv 0 σ H)
    (hs : ∀ i c σ H, x.cps[i]? = some c → Pv i σ H → g (.str ⟨#[c]⟩) σ H fun σ2 H2 => tb { D with nx := Pv (i + 1), ct := Pv (i + 1), bk := D.nx } σ2 H2) (hd : ∀ σ H, Pv x.cps.size σ H → D.nx σ H) : LpW (Its x) g tb D σ H := by
  refine ⟨fun i m σ H => m = x.cps.size - i ∧ i ≤ x.cps.size ∧ Pv i σ H, ⟨x.cps.size, by simp, Nat.zero_le _, h0⟩, ?_⟩
  rintro i m σ H ⟨rfl, hi, p⟩
  by_cases hlt : i < x.cps.size
  · refine .inr ⟨hlt, Pv (i + 1), fun σ' H' p' => ⟨x.cps.size - (i + 1), by omega, rfl, hlt, p'⟩, fun v H' y => ?_⟩
    obtain ⟨rfl, c, e, rfl⟩ := y
    exact hs i c σ _ e p
  · have e : i = x.cps.size := by omega
    subst e
    exact .inl ⟨Nat.le_refl _, hd σ H p⟩
theorem rd_forB {te : TE} {g : TG} {tb : TS} {D : Ends} {σ : L2.St} {H : Hp} (h : te σ H fun v H1 => ∃ x, v = .str x ∧ LpW (Its x) g tb D σ H1) : tFor (iStr te) g tb D σ H := h
theorem cut_any (l : List Nat) (a b : Nat) : (l.drop (min a l.length)).take (min b l.length - min a l.length) = (l.drop a).take (b - a) := by
  by_cases h : a ≤ l.length
  · rw [Nat.min_eq_left h]
    by_cases h2 : b ≤ l.length
    · rw [Nat.min_eq_left h2]
    · rw [Nat.min_eq_right (by omega)]
      have e : (l.drop a).length = l.length - a := List.length_drop ..
      rw [List.take_of_length_le (by omega), List.take_of_length_le (by omega)]
  · rw [Nat.min_eq_right (show l.length ≤ a by omega), List.drop_length, List.drop_of_length_le (show l.length ≤ a by omega)]
    simp
theorem rd_slSA {l : List Nat} {a b : Nat} {H : Hp} {Q : VK} (hl : l.length ≤ 16777216) (h : Q (.str (S ((l.drop a).take (b - a)))) H) : C8.rSlX (.str (S l)) (some (a : Int)) (some (b : Int)) H Q := by
  refine ⟨S l, rfl, by rw [S_len]; exact hl, ?_⟩
  rw [← C8.cutS_slice]
  unfold cutS
  rw [S_len, HT.sIx_nat, HT.sIx_nat, cut_any]
  exact h
theorem ones_step {l : List Nat} {pl i : Nat} (hb : ∀ c ∈ l, IsB c) (hi : i ≤ onesL (l.drop pl)) : (l.drop (pl + i)).take 1 = [49] ↔ i < onesL (l.drop pl) := by
  have e1 : (l.drop (pl + i)).take 1 = (match (l.drop pl)[i]? with | some c => [c] | none => []) := by
    rw [List.getElem?_drop]
    cases e : l[pl + i]? with
    | none => rw [List.drop_of_length_le (List.getElem?_eq_none_iff.mp e)]; rfl
    | some c =>
      obtain ⟨h1, h2⟩ := List.getElem?_eq_some_iff.mp e
      rw [List.drop_eq_getElem_cons h1, h2]
      rfl
  rw [e1]
  have hl := onesL_le (l.drop pl)
  constructor
  · intro h
    rcases Nat.lt_or_ge i (onesL (l.drop pl)) with z | z
    · exact z
    · obtain rfl : i = onesL (l.drop pl) := by omega
      by_cases c : onesL (l.drop pl) < (l.drop pl).length
      · rw [onesL_at _ c] at h
        cases h
      · rw [List.getElem?_eq_none_iff.mpr (by omega)] at h
        cases h
  · intro h
    have h2 := onesL_lt _ _ h
    have h3 : i < (l.drop pl).length := by omega
    rw [List.getElem?_eq_getElem h3] at h2 ⊢
    have hc := hb _ (List.mem_of_mem_drop (List.getElem_mem h3))
    unfold IsB at hc
    rcases hc with z | z
    · exact absurd (congrArg some z) h2
    · rw [z]
theorem ones_drop {l : List Nat} {pl n : Nat} (hb : ∀ c ∈ l, IsB c) (h : n ≤ onesL (l.drop pl)) : onesL (l.drop (pl + n)) = onesL (l.drop pl) - n := by
  induction n with
  | zero => rfl
  | succ n ih =>
    have e := ih (by omega)
    have h1 : n < onesL (l.drop pl) := by omega
    have h2 := (ones_step hb (by omega)).mpr h1
    have h3 : ∃ r, l.drop (pl + n) = 49 :: r := by
      cases z : l.drop (pl + n) with
      | nil => rw [z] at h2; cases h2
      | cons c r =>
        rw [z] at h2
        exact ⟨r, by rw [(List.cons.inj h2).1]⟩
    obtain ⟨r, h3⟩ := h3
    have h4 : l.drop (pl + (n + 1)) = r := by
      rw [← Nat.add_assoc, ← List.drop_drop, h3]
      rfl
    rw [h3] at e
    have h5 : onesL (49 :: r) = onesL r + 1 := if_neg (by decide)
    rw [h4]
    omega
/-- a comprehension over the signs of a text, with a test -/
theorem lc_signs {σ : L2.St} {Q : VK} {vs : List Nat} {k : Nat} {D : Addr} {l : List Nat} {H1 : Hp} {tt : TT} {te : TE} (f : Nat → Bool) (hn : l.length ≤ 100000) (hw : ∀ v, wipe ((wipe σ vs).set k (some v)) vs = wipe σ vs) (hD : H1 D = none)
    (turn : ∀ (c : Nat) (H : Hp) (q : Bool → Hp → Prop), Same H1 H → q (f c) H → tt ((wipe σ vs).set k (some (.str (S [c])))) H q)
    (el : ∀ (c : Nat) (H : Hp) (Q' : VK), Q' (.str (S [c])) H → te ((wipe σ vs).set k (some (.str (S [c])))) H Q')
    (q : ∀ H', Same H1 H' → H' D = some (.lst ((l.filter f).map fun c => V.str (S [c]))) → Q (.ref D) H') : LcW (Its (S l)) (gName k) tt te vs Q σ H1 D := by
  refine ⟨fun i m H => m = l.length - i ∧ i ≤ l.length ∧ Same H1 H ∧ H D = some (.lst (((l.take i).filter f).map fun c => V.str (S [c]))), ⟨l.length, by simp, Nat.zero_le _, same_new hD, upd_same⟩, ?_⟩
  rintro i m H ⟨rfl, hi, hs, hd⟩
  by_cases hlt : i < l.length
  · refine .inr ⟨hlt, fun H' => Same H1 H' ∧ H' D = some (.lst (((l.take (i + 1)).filter f).map fun c => V.str (S [c]))), fun H' p' => ⟨l.length - (i + 1), by omega, rfl, hlt, p'.1, p'.2⟩, fun v H' y => ?_⟩
    obtain ⟨rfl, c, e, rfl⟩ := y
    have e : l[i]? = some c := by rw [← e]; show _ = (Array.mk l)[i]?; simp
    refine ⟨hw _, ?_⟩
    refine turn c _ _ hs ?_
    have et : l.take (i + 1) = l.take i ++ [c] := by rw [List.take_add_one, e]; rfl
    rw [et, List.filter_append]
    cases ef : f c with
    | true =>
      rw [if_pos rfl]
      refine el c _ _ ⟨_, hd, ?_, fun b x e => ?_, ?_⟩
      · have h1 := List.length_filter_le f (l.take i)
        rw [List.length_take] at h1
        rw [List.length_map]
        exact Nat.lt_of_le_of_lt (show _ ≤ 100000 by omega) (by unfold sizeLine; decide)
      · rw [upd_ne (ne_of_none e hD)]
        exact hs _ _ e
      · rw [upd_same, List.filter_cons_of_pos ef, List.map_append]
        rfl
    | false =>
      rw [if_neg Bool.false_ne_true, List.filter_cons_of_neg (by rw [ef]; exact Bool.false_ne_true), List.filter_nil, List.append_nil]
      exact ⟨hs, hd⟩
  · obtain rfl : i = l.length := by omega
    rw [List.take_length] at hd
    exact .inl ⟨Nat.le_refl _, q H hs hd⟩
theorem rd_neStr {K : PySem.W.Frag} {H : Hp} {Q : VK} {p q : Addr} {l : List Nat} (hp : SqL K H p (l.map fun c => V.str (S [c]))) (hq : SqL K H q []) (hx : ∀ c ∈ l, c < 1114112) (h : Q (.bl (!decide (l = []))) H) : rNeD K (.ref p) (.ref q) H Q := by
  have da : ∀ m : List Nat, DpAll K H (m.map fun c => V.str (S [c])) (m.map fun c => PyData.str (S [c])) := fun m => by
    induction m with
    | nil => exact .nil
    | cons c r ih => exact .cons (.str _) ih
  have hc : ∀ m : List Nat, (∀ c ∈ m, c < 1114112) → PyData.canLayAll0 (m.map fun c => PyData.str (S [c])) = true := fun m => by
    induction m with
    | nil => intro _; rfl
    | cons c r ih =>
      intro hm
      show (PyData.canLay0 (.str (S [c])) && PyData.canLayAll0 (r.map fun c => PyData.str (S [c]))) = true
      rw [ih fun x hx => hm x (List.mem_cons_of_mem _ hx), Bool.and_true]
      show (#[c] : Array Nat).all (fun x => decide (x < 0x110000)) = true
      simp
      have := hm c List.mem_cons_self
      omega
  have hd : ∀ m : List Nat, PyData.depthAll (m.map fun c => PyData.str (S [c])) ≤ 60 := fun m => by
    induction m with
    | nil => exact Nat.zero_le _
    | cons c r ih =>
      show max (PyData.depth (.str (S [c]))) (PyData.depthAll (r.map fun c => PyData.str (S [c]))) ≤ 60
      exact Nat.max_le.mpr ⟨by unfold PyData.depth; exact Nat.zero_le _, ih⟩
  have sh : SeqAt.shaped (.list (l.map fun c => PyData.str (S [c]))) = true := by
    show (PyData.canLayAll0 _ && decide (PyData.depthAll _ + 1 ≤ 64)) = true
    rw [hc l hx, decide_eq_true (by have := hd l; omega)]
    rfl
  refine ⟨_, _, .lst hp (da l), .lst hq .nil, sh, rfl, ?_⟩
  cases l with
  | nil => exact h
  | cons c r => exact h
theorem mem_bits {c : Nat} : c ∈ (S [48, 49]).cps.toList ↔ IsB c := by
  show c ∈ ([48, 49] : List Nat) ↔ _
  unfold IsB
  simp
theorem filt_no {l : List Nat} (hb : ∀ c ∈ l, IsB c) : l.filter (fun c => !decide (c ∈ (S [48, 49]).cps.toList)) = [] := by
  refine List.filter_eq_nil_iff.mpr fun c hc => ?_
  rw [decide_eq_true (mem_bits.mpr (hb c hc))]
  decide
theorem filt_ne {l : List Nat} (hb : ¬ ∀ c ∈ l, IsB c) : ¬ l.filter (fun c => !decide (c ∈ (S [48, 49]).cps.toList)) = [] := by
  intro z
  refine hb fun c hc => ?_
  have := List.filter_eq_nil_iff.mp z c hc
  by_cases h : c ∈ (S [48, 49]).cps.toList
  · exact mem_bits.mp h
  · rw [decide_eq_false h] at this
    exact absurd rfl this
theorem rd_lcX {te : TE} {g : TG} {tt : TT} {tl : TE} {vs : List Nat} {σ : L2.St} {H : Hp} {Q : VK} (h : te σ H fun v H1 => ∃ x, v = .str x ∧ ∀ D, H1 D = none → LcW (Its x) g tt tl vs Q σ H1 D) : tLc (iStr te) g tt tl vs σ H Q := h
theorem unU_e {u : Nat} (c : V.int ((u : Int) % 2) = V.int 0) : (u : Int) / 2 = unU u := by
  have e : unU u = ((u / 2 : Nat) : Int) := if_pos (by have := V.int.inj c; omega)
  rw [e]
  omega
theorem unU_o {u : Nat} (c : ¬ V.int ((u : Int) % 2) = V.int 0) : -((u : Int) / 2) - 1 = unU u := by
  have e : unU u = -((u / 2 : Nat) : Int) - 1 := if_neg (fun z => c (congrArg V.int (by omega)))
  rw [e]
  omega
def spBtsL (K : PySem.W.Frag) : Sp := fun vs H Q _ => ∃ (p : Addr) (n first : Nat) (b : Addr) (T : Tb × Tb), vs = [.ref p, .int (n : Nat), .int (first : Int), .ref b] ∧ Pool H p ∧ n ≤ 12 ∧ first ≤ n ∧ TbsV K H b T ∧ TbOk (10 ^ 56) T.1 ∧ TbOk (10 ^ 56) T.2 ∧
  ∀ v o H', BtR H' v o → Pool H' p → Kp p H H' → Q v H'
theorem use_btsL {K : PySem.W.Frag} {p : Addr} {n first : Nat} {b : Addr} {T : Tb × Tb} {H : Hp} {Q : VK} {E : XK} (h : Pool H p) (h1 : n ≤ 12) (h2 : first ≤ n) (h3 : TbsV K H b T) (h4 : TbOk (10 ^ 56) T.1) (h5 : TbOk (10 ^ 56) T.2)
    (q : ∀ v o H', BtR H' v o → Pool H' p → Kp p H H' → Q v H') : spBtsL K ([.ref p, .int (n : Nat), .int (first : Int), .ref b] ++ []) H Q E := ⟨p, n, first, b, T, rfl, h, h1, h2, h3, h4, h5, q⟩
/-- a comprehension of drawn bits -/
theorem lc_bits {σ : L2.St} {Q : VK} {vs : List Nat} {k : Nat} {p D : Addr} {n : Nat} {H1 : Hp} {te : TE} (hw : ∀ v, wipe ((wipe σ vs).set k (some v)) vs = wipe σ vs) (hP : Pool H1 p) (hD : H1 D = none) (hn : n ≤ 1000)
    (turn : ∀ (i : Nat) (H : Hp) (Q' : VK), Pool H p → Kp p H1 H → (∀ c H', IsB c → Pool H' p → Kp p H H' → Q' (.str (S [c])) H') → te ((wipe σ vs).set k (some (.int (0 + (i : Int))))) H Q')
    (q : ∀ (ls : List (List Nat)) H', ls.length = n → (∀ l ∈ ls, ∃ c, l = [c] ∧ IsB c) → Pool H' p → Kp p H1 H' → H' D = some (.lst (ls.map fun l => V.str (S l))) → Q (.ref D) H') :
    LcW (Itr 0 n) (gName k) tYes te vs Q σ H1 D := by
  have hDp : D ≠ p := hP.ne hD
  refine lc_range (Pv := fun j H => ∃ ls : List (List Nat), ls.length = j ∧ (∀ l ∈ ls, ∃ c, l = [c] ∧ IsB c) ∧ Pool H p ∧ Kp p H1 H ∧ H D = some (.lst (ls.map fun l => V.str (S l)))) ⟨[], rfl, List.forall_mem_nil _, hP.new hD, Kp.new hD, upd_same⟩ (fun j H hj hI => ?_) (fun H hI => ?_)
  · obtain ⟨ls, hl, hb, hP', hK, hd⟩ := hI
    refine ⟨hw _, rd_yes ?_⟩
    refine turn j H _ hP' hK fun c H' hc hP2 hK2 => ?_
    have hd2 := hK2 _ _ hDp hd
    refine ⟨_, hd2, small1000 (by rw [List.length_map]; omega), ls ++ [[c]], by rw [List.length_append, hl]; rfl, ?_, ?_, kp_app hD hK hK2, ?_⟩
    · intro l hm
      rcases List.mem_append.mp hm with hm | hm
      · exact hb l hm
      · exact ⟨c, List.mem_singleton.mp hm, hc⟩
    · obtain ⟨x, y, e, r⟩ := hP2
      exact ⟨x, y, by rw [upd_ne hDp.symm]; exact e, r⟩
    · rw [upd_same, List.map_append]
      rfl
  · obtain ⟨ls, hl, hb, hP', hK, hd⟩ := hI
    exact q ls H hl hb hP' hK hd
theorem bin_app {a b : List Nat} (h : ∀ c ∈ a, IsB c) (k : ∀ c ∈ b, IsB c) : ∀ c ∈ a ++ b, IsB c := fun c hc => (List.mem_append.mp hc).elim (h c) (k c)
theorem bin_take {a : List Nat} (h : ∀ c ∈ a, IsB c) (n : Nat) : ∀ c ∈ a.take n, IsB c := fun c hc => h c (List.mem_of_mem_take hc)
theorem bin_drop {a : List Nat} (h : ∀ c ∈ a, IsB c) (n : Nat) : ∀ c ∈ a.drop n, IsB c := fun c hc => h c (List.mem_of_mem_drop hc)
theorem bin_one {c : Nat} (h : IsB c) : ∀ x ∈ [c], IsB x := fun x hx => by rw [List.mem_singleton.mp hx]; exact h
theorem bin_rep (n : Nat) : ∀ c ∈ List.replicate n 49, IsB c := fun c hc => by rw [List.eq_of_mem_replicate hc]; exact .inr rfl
theorem e_sp : Str.ofString " " = S [32] := by rfl
theorem e_2 : Str.ofString "2" = S [50] := by rfl
theorem e_0a : Str.ofString "0a" = S [48, 97] := by rfl
theorem binO_le {u : Nat} (h : u < 200) : (if u = 0 then [] else binB u).length ≤ 8 ∧ ∀ c ∈ (if u = 0 then [] else binB u), IsB c := by
  split
  · exact ⟨by decide, fun c hc => absurd hc List.not_mem_nil⟩
  · refine ⟨?_, fun c hc => lowB_bin _ _ c hc⟩
    rw [binB_length]
    exact nb_min (Nat.lt_of_lt_of_le h (by decide)) (by decide)
theorem rd_mulA {a : List Nat} {x : Str} {k : Int} {H : Hp} {Q : VK} (e : x = S a) (h0 : -1000000 ≤ k) (h1 : k ≤ 1000000) (hl : a.length * k.toNat ≤ 1000000) (h : Q (.str (S (repL a k.toNat))) H) : rMulT (.str x) (.int k) H Q := ⟨a, k, congrArg V.str e, rfl, h0, h1, hl, h⟩
theorem bin_repL {a : List Nat} (h : ∀ c ∈ a, IsB c) (n : Nat) : ∀ c ∈ repL a n, IsB c := fun c hc => by
  obtain ⟨l, hl, h2⟩ := List.mem_flatten.mp hc
  rw [List.eq_of_mem_replicate hl] at h2
  exact h c h2
def BinS (v : V) : Prop := ∃ l : List Nat, v = .str (S l) ∧ (∀ c ∈ l, IsB c) ∧ l.length ≤ 100
theorem binS_of {l : List Nat} (h : ∀ c ∈ l, IsB c) (hl : l.length ≤ 100) : BinS (.str (S l)) := ⟨l, rfl, h, hl⟩
theorem b0 : ∀ c ∈ [48], IsB c := bin_one (.inl rfl)
theorem b1 : ∀ c ∈ [49], IsB c := bin_one (.inr rfl)
theorem b01 : ∀ c ∈ [48, 49], IsB c := bin_app (a := [48]) (b := [49]) b0 b1
theorem tbB_of {t : Tb} (h : TbOk (10 ^ 56) t) : TbB 15000 t := by
  have e : (10 : Int) ^ 56 < 2 ^ 200 := by decide
  have e2 := two_mono (show 200 ≤ 15000 by decide)
  generalize (2 : Int) ^ 15000 = b at *
  obtain ⟨h1, h2, h3, h4⟩ := h
  have key : ∀ c : Int, 10 ^ 56 < c → TbOk c t ∧ t.1 < c := fun c hc => ⟨⟨h1, by omega, h3, h4⟩, by omega⟩
  exact key _ (Int.lt_of_lt_of_le e (two_mono (by decide)))
theorem lc_filtB {K : PySem.W.Frag} {σ : L2.St} {Q : VK} {vs : List Nat} {k : Nat} {a D : Addr} {xs : List Int} {H1 : Hp} {tt : TT} {te : TE} (f : Int → Bool) (hS : SqL K H1 a (xs.map V.int)) (hn : xs.length ≤ 10000) (hw : ∀ v, wipe ((wipe σ vs).set k (some v)) vs = wipe σ vs) (hD : H1 D = none)
    (turn : ∀ (x : Int) (H : Hp) (q : Bool → Hp → Prop), Same H1 H → q (f x) H → tt ((wipe σ vs).set k (some (.int x))) H q)
    (el : ∀ (x : Int) (H : Hp) (Q' : VK), Q' (.int x) H → te ((wipe σ vs).set k (some (.int x))) H Q')
    (q : ∀ H', Same H1 H' → H' D = some (.lst ((xs.filter f).map V.int)) → Q (.ref D) H') : LcW (Itl K a) (gName k) tt te vs Q σ H1 D := by
  refine lc_list (xs := xs.map V.int) (Pv := fun j H => Same H1 H ∧ H D = some (.lst (((xs.take j).filter f).map V.int))) ⟨same_new hD, upd_same⟩ (fun j H _ hI => hI.1.seq hS) (fun j v H hv hI => ?_) (fun H hI => ?_)
  · obtain ⟨hs, hd⟩ := hI
    rw [List.getElem?_map] at hv
    cases ez : xs[j]? with
    | none => rw [ez] at hv; cases hv
    | some z =>
      rw [ez] at hv
      obtain rfl := (Option.some.inj hv).symm
      refine ⟨hw _, ?_⟩
      refine turn z _ _ hs ?_
      have et : xs.take (j + 1) = xs.take j ++ [z] := by rw [List.take_add_one, ez]; rfl
      rw [et, List.filter_append]
      cases e : f z with
      | true =>
        rw [if_pos rfl]
        refine el _ _ _ ⟨_, hd, ?_, fun b x e => ?_, ?_⟩
        · have h1 := List.length_filter_le f (xs.take j)
          rw [List.length_take] at h1
          rw [List.length_map]
          exact (Nat.lt_of_le_of_lt (show _ ≤ 10000 by omega) (by unfold sizeLine; decide))
        · rw [upd_ne (ne_of_none e hD)]
          exact hs _ _ e
        · rw [upd_same, List.filter_cons_of_pos e, List.map_append]
          rfl
      | false =>
        rw [if_neg Bool.false_ne_true, List.filter_cons_of_neg (by rw [e]; exact Bool.false_ne_true), List.filter_nil, List.append_nil]
        exact ⟨hs, hd⟩
  · obtain ⟨hs, hd⟩ := hI
    rw [List.length_map, List.take_length] at hd
    exact q H hs hd
theorem nb_sm {z : Int} (h : z.natAbs < 10 ^ 60) : nb (uOf z) ≤ 15000 := by
  have e : (10 : Nat) ^ 60 < 2 ^ 200 := by decide
  have h2 := uOf_eq z
  have h3 : uOf z < 2 ^ 202 := by
    have e3 : (2 : Nat) ^ 202 = 4 * 2 ^ 200 := by rw [show 202 = 200 + 2 from rfl, Nat.pow_add, Nat.mul_comm]
    generalize (10 : Nat) ^ 60 = A at *
    generalize (2 : Nat) ^ 202 = B at *
    generalize (2 : Nat) ^ 200 = C at *
    unfold codeU at h2
    split at h2 <;> omega
  exact Nat.le_trans (nb_min h3 (by decide)) (by decide)
end Z
namespace Z
open PySem PySem.Spec PyProof.Rows L2
def topS (i : Nat) : Stmt := PySem.Challenge.pw_framejoins_k17_whole_bits_that_are_none.main.body.getD i (.Pass ⟨0, 0, 0, 0⟩)
local macro_rules | `(tactic| walk_at "hg") => `(tactic| first
  | assumption
  | (with_reducible exact upd_same)
  | ((with_reducible refine' look_new ?k1 ?k2); (case k1 => assumption); (case k2 => walk_at "hg"))
  | ((with_reducible refine' look_same ?k1 ?k2); (case k1 => assumption); (case k2 => walk_at "hg"))
  | ((with_reducible refine' look_kp ?k1 ?k2 ?k3); (case k1 => assumption); (case k2 => walk_at "ne"); (case k3 => walk_at "hg"))
  | ((with_reducible refine' look_upd ?k1 ?k2); (case k1 => assumption); (case k2 => walk_at "hg"))
  | fail)
local macro_rules | `(tactic| walk_at "ne") => `(tactic| first
  | assumption
  | ((with_reducible refine' Pool.ne' ?k1 ?k2); (case k1 => assumption); (case k2 => walk_at "pl"))
  | fail)
local macro_rules | `(tactic| walk_at "r1") => `(tactic| first
  | (with_reducible refine rd_seq ?_) | (with_reducible refine rd_asg ?_) | (with_reducible refine rd_gname ?_) | (with_reducible refine rd_ret ?_) | (with_reducible refine rd_ifs ?_)
  | ((with_reducible refine' rd_var ?k1 ?_); (case k1 => exact rfl))
  | ((with_reducible refine' rd_ixL ?k1 ?k2 ?_); (case k1 => walk_at "sq"); (case k2 => walk_at "at"))
  | ((with_reducible refine' rd_ixT ?k1 ?k2 ?_); (case k1 => walk_at "sqt"); (case k2 => walk_at "at"))
  | ((with_reducible refine' rd_setL ?k1 ?k2 ?_); (case k1 => walk_at "hg"); (case k2 => walk_at "ixn"))
  | ((with_reducible refine' rd_lenL ?k1 ?_); (case k1 => walk_at "sq"))
  | ((with_reducible refine' rd_listL ?k1 fun _ _ => ?_); (case k1 => walk_at "sq"))
  | ((with_reducible refine' rd_lenT ?k1 ?_); (case k1 => walk_at "sqt"))
  | ((with_reducible refine' rd_gtup ?k1 ?k2 ?_); (case k1 => walk_at "sqt"); (case k2 => exact rfl))
  | (with_reducible refine rd_gcons ?_) | (with_reducible refine rd_gnil ?_) | (with_reducible refine rd_forT ?_) | (with_reducible refine rd_forL ?_) | (with_reducible refine rd_for2 ?_)
  | ((with_reducible refine' rd_neT2 ?k1 ?k2 ?k3 ?k4 ?_); (case k1 => walk_at "sqt"); (case k2 => walk_at "sqt"); (case k3 => walk_at "f1"); (case k4 => walk_at "f2"))
  | ((with_reducible refine rd_n1 ?k1 ?k2 ?_); (case k1 => omega); (case k2 => omega))
  | ((with_reducible refine rd_n2 ?k1 ?_); (case k1 => exact ⟨by omega, by omega, by omega, by omega⟩))
  | (with_reducible refine rd_lcD fun _ _ => ?_)
  | ((with_reducible refine' lc_numbers ?k1 ?k2 ?k3 ?k4 ?k5 fun _ _ _ _ _ _ _ => ?_); (case k1 => exact fun _ => rfl); (case k2 => exact fun _ => rfl); (case k3 => walk_at "pl"); (case k4 => assumption); (case k5 => walk_at "sd"))
  | (with_reducible refine rd_for3 ?_) | (with_reducible refine rd_bm ?_)
  | ((with_reducible refine rd_n3 ?k1 ?_); (case k1 => walk_at "sd"))
  | ((with_reducible refine' rd_tyL ?k1 ?_); (case k1 => walk_at "hg"))
  | ((with_reducible refine' rd_catL ?k1 ?k2 ?k3 fun _ _ => ?_); (case k1 => walk_at "hg"); (case k2 => walk_at "hg"); (case k3 => walk_at "sd"))
  | ((with_reducible refine' rd_appI ?k1 ?k2 ?_); (case k1 => walk_at "hg"); (case k2 => walk_at "sd"))
  | ((with_reducible refine' use_once ?k1 ?k2 fun _ _ _ _ _ _ _ _ _ => ?_); (case k1 => walk_at "sq"); (case k2 => walk_at "sd"))
  | ((with_reducible refine' use_split ?k1 ?k2 ?k3 ?k4 ?k5 fun _ _ _ _ _ => ?_); (case k1 => walk_at "hg"); (case k2 => walk_at "sd"); (case k3 => walk_at "sd"); (case k4 => walk_at "sd"); (case k5 => walk_at "sd"))
  | ((with_reducible refine' use_splitK ?k1 ?k2 ?k3 ?k4 ?k5 fun _ _ _ _ _ => ?_); (case k1 => walk_at "hg"); (case k2 => walk_at "sd"); (case k3 => walk_at "sd"); (case k4 => walk_at "sd"); (case k5 => walk_at "sd"))
  | (with_reducible refine rd_sl ?_) | (with_reducible refine rd_part ?_) | (with_reducible refine rd_nopart ?_) | (with_reducible refine rd_oneI ?_)
  | (with_reducible refine rd_lcL ?_)
  | (with_reducible refine rd_forV ?_)
  | ((with_reducible refine rd_nV ?k1 ?k2 ?_); (case k1 => omega); (case k2 => omega))
  | ((with_reducible refine' use_join1 ?k1 ?k2 ?k3 ?k4 fun _ _ _ _ _ => ?_); (case k1 => walk_at "hg"); (case k2 => walk_at "hg"); (case k3 => walk_at "sd"); (case k4 => walk_at "sd"))
  | ((with_reducible refine' use_join ?k1 ?k2 ?k3 ?k4 ?k5 fun _ _ _ _ _ => ?_); (case k1 => walk_at "hg"); (case k2 => walk_at "sd"); (case k3 => walk_at "sd"); (case k4 => walk_at "sd"); (case k5 => walk_at "sd"))
  | ((with_reducible refine' use_joinK ?k1 ?k2 ?k3 ?k4 ?k5 fun _ _ _ _ _ => ?_); (case k1 => walk_at "hg"); (case k2 => walk_at "sd"); (case k3 => walk_at "sd"); (case k4 => walk_at "sd"); (case k5 => walk_at "sd"))
  | ((with_reducible refine' use_ints ?k1 ?k2 ?_); (case k1 => walk_at "hg"); (case k2 => walk_at "sd"))
  | (with_reducible refine rd_isN ?_) | (with_reducible refine rd_lc1 ?_) | (with_reducible refine rd_forE ?_) | (with_reducible refine rd_forZ ?_)
  | ((with_reducible refine' rd_neL ?k1 ?k2 ?_); (case k1 => walk_at "sq"); (case k2 => walk_at "sq"))
  | ((with_reducible refine' rd_eqL ?k1 ?k2 ?_); (case k1 => walk_at "sq"); (case k2 => walk_at "sq"))
  | ((with_reducible refine' rd_neN ?k1 ?k2 ?_); (case k1 => walk_at "sq"); (case k2 => walk_at "sq"))
  | (with_reducible refine rd_c ?_) | (with_reducible refine rd_op ?_) | (with_reducible refine rd_un ?_) | (with_reducible refine rd_i0 ?_)
  | ((with_reducible refine rd_i ?k1 ?_); (case k1 => walk_at "side"))
  | (with_reducible refine rd_u ?_)
  | (with_reducible refine rd_eq rfl ?_) | (with_reducible refine rd_ne rfl ?_) | (with_reducible refine rd_test ?_) | (with_reducible refine rd_b ?_) | (with_reducible refine rd_bl ?_)
  | (with_reducible refine rd_not ?_) | (with_reducible refine rd_and ?_) | (with_reducible refine rd_or ?_) | (with_reducible refine rd_andV ?_) | (with_reducible refine rd_orV ?_) | (with_reducible refine rd_notV ?_)
  | (with_reducible refine rd_if ?_) | (with_reducible refine rd_chain ?_) | (with_reducible refine rd_call ?_) | (with_reducible refine rd_callK ?_) | (with_reducible refine rd_cb ?_)
  | (with_reducible refine rd_cons ?_) | (with_reducible refine rd_nil ?_) | (with_reducible refine rd_next ?_) | (with_reducible refine rd_drop ?_) | (with_reducible refine rd_gsub ?_)
  | (with_reducible refine rd_int ?_) | (with_reducible refine rd_intb ?_) | (with_reducible refine rd_abs ?_) | (with_reducible refine rd_max ?_) | (with_reducible refine rd_min ?_)
  | (with_reducible refine rd_par ?_) | (with_reducible refine rd_par3 ?_) | (with_reducible refine rd_two ?_) | (with_reducible refine rd_three ?_)
  | (with_reducible refine rd_retn ?_) | (with_reducible refine rd_tup ?_) | (with_reducible refine rd_lst ?_) | (with_reducible refine rd_for1 ?_) | (with_reducible refine rd_one ?_)
  | ((with_reducible refine rd_all ?k1 fun _ _ => ?_); (case k1 => exact Nat.le_of_ble_eq_true rfl))
  | ((with_reducible refine use_take ?k1 ?k2 ?k3 fun _ _ _ _ _ _ => ?_); (case k1 => walk_at "pl"); (case k2 => walk_at "sd"); (case k3 => walk_at "sd"))
  | ((with_reducible refine use_number ?k1 fun _ _ _ _ _ => ?_); (case k1 => walk_at "pl"))
  | ((with_reducible refine' use_pool ?k1 ?k2 ?k3 ?k4 fun _ _ _ _ _ => ?_); (case k1 => walk_at "sq"); (case k2 => assumption); (case k3 => walk_at "sd"); (case k4 => walk_at "sd"))
  | ((with_reducible refine use_ckp ?k1 ?k2 ?_); (case k1 => walk_at "sd"); (case k2 => walk_at "sd"))
  | ((with_reducible refine use_pair ?k1 ?k2 fun _ _ => ?_); (case k1 => walk_at "sd"); (case k2 => walk_at "sd"))
  | ((with_reducible refine use_lfold ?k1 ?k2 fun _ _ _ _ => ?_); (case k1 => walk_at "sd"); (case k2 => walk_at "sd"))
  | ((with_reducible refine' use_ispair ?k1 ?_); (case k1 => walk_at "hg"))
  | ((with_reducible refine' use_items ?k1 fun _ _ => ?_); (case k1 => walk_at "sq"))
  | ((with_reducible refine' use_block ?k1 ?k2 ?k3 fun _ _ => ?_); (case k1 => walk_at "hg"); (case k2 => walk_at "sd"); (case k3 => walk_at "sd"))
  | ((with_reducible refine' use_mark ?k1 ?k2 fun _ _ => ?_); (case k1 => walk_at "hg"); (case k2 => walk_at "sd"))
  | (with_reducible refine use_code ?_)
  | ((with_reducible refine' use_same ?k1 fun _ _ => ?_); (case k1 => walk_at "smv"))
  | ((with_reducible refine use_quant ?k1 ?k2 ?_); (case k1 => walk_at "sd"); (case k2 => walk_at "sd"))
  | ((with_reducible refine use_quantK ?k1 ?k2 ?_); (case k1 => walk_at "sd"); (case k2 => walk_at "sd"))
  | (with_reducible refine use_isi_int ?_) | (with_reducible refine use_within_int ?_) | (with_reducible refine use_cki ?_)
  | ((with_reducible refine use_ckw ?k1 ?k2 ?_); (case k1 => walk_at "sd"); (case k2 => walk_at "sd"))
  | (with_reducible refine iteT ?_) | (with_reducible refine iteF ?_)
  | (with_reducible refine iteNT ?_) | (with_reducible refine iteNF ?_)
  | (walk_at "isi")
  | fail)
local macro_rules | `(tactic| walk_at "isi") => `(tactic| first
  | (with_reducible refine isi_int_int ?_)
  | (with_reducible refine isi_int_bool ?_)
  | (with_reducible refine isi_int_str ?_)
  | (with_reducible refine isi_int_list ?_)
  | (with_reducible refine isi_int_tuple ?_)
  | (with_reducible refine isi_bl_int ?_)
  | (with_reducible refine isi_bl_bool ?_)
  | (with_reducible refine isi_bl_str ?_)
  | (with_reducible refine isi_bl_list ?_)
  | (with_reducible refine isi_bl_tuple ?_)
  | (with_reducible refine isi_non_int ?_)
  | (with_reducible refine isi_non_bool ?_)
  | (with_reducible refine isi_non_str ?_)
  | (with_reducible refine isi_non_list ?_)
  | (with_reducible refine isi_non_tuple ?_)
  | (with_reducible refine isi_str_int ?_)
  | (with_reducible refine isi_str_bool ?_)
  | (with_reducible refine isi_str_str ?_)
  | (with_reducible refine isi_str_list ?_)
  | (with_reducible refine isi_str_tuple ?_)
  | ((with_reducible refine' isi_lst_int ?k1 ?_); (case k1 => walk_at "hg"))
  | ((with_reducible refine' isi_lst_bool ?k1 ?_); (case k1 => walk_at "hg"))
  | ((with_reducible refine' isi_lst_str ?k1 ?_); (case k1 => walk_at "hg"))
  | ((with_reducible refine' isi_lst_list ?k1 ?_); (case k1 => walk_at "hg"))
  | ((with_reducible refine' isi_lst_tuple ?k1 ?_); (case k1 => walk_at "hg"))
  | ((with_reducible refine' isi_tup_int ?k1 ?_); (case k1 => walk_at "hg"))
  | ((with_reducible refine' isi_tup_bool ?k1 ?_); (case k1 => walk_at "hg"))
  | ((with_reducible refine' isi_tup_str ?k1 ?_); (case k1 => walk_at "hg"))
  | ((with_reducible refine' isi_tup_list ?k1 ?_); (case k1 => walk_at "hg"))
  | ((with_reducible refine' isi_tup_tuple ?k1 ?_); (case k1 => walk_at "hg"))
  | fail)
local macro_rules | `(tactic| walk_at "side") => `(tactic| first
  | (show (0 : Int) < _; omega)
  | exact ⟨by omega, by omega⟩
  | exact .inl ⟨by omega, by omega⟩
  | exact .inr ⟨by omega, by omega⟩
  | exact .inr ⟨by decide, by decide⟩
  | exact ⟨by decide, by decide, by decide⟩
  | decide
  | fail)
local macro_rules | `(tactic| walk_at "rd") => `(tactic| (repeat walk_at "r1"))
local macro_rules | `(tactic| walk_at "sq") => `(tactic| first
  | assumption
  | ((with_reducible refine' SqL.of ?k1); (case k1 => walk_at "hg"))
  | ((with_reducible refine' sqL_new ?k1 ?k2); (case k1 => assumption); (case k2 => walk_at "sq"))
  | ((with_reducible refine' sqL_same ?k1 ?k2); (case k1 => assumption); (case k2 => walk_at "sq"))
  | fail)
local macro_rules | `(tactic| walk_at "sqt") => `(tactic| first
  | assumption
  | exact by_all (by assumption)
  | ((with_reducible refine' SqT.of ?k1); (case k1 => walk_at "hg"))
  | fail)
local macro_rules | `(tactic| walk_at "at") => `(tactic| first | assumption | exact atI_nat (j := 0) rfl | exact atI_nat (j := 1) rfl | exact atI_nat (j := 2) rfl | exact atI_nat (j := 3) rfl | fail)
local macro_rules | `(tactic| walk_at "ixn") => `(tactic| first | assumption | rfl | fail)
local macro_rules | `(tactic| walk_at "sd") => `(tactic| first | omega | decide +kernel | fail)
local macro_rules | `(tactic| walk_at "pl") => `(tactic| first
  | assumption
  | ((with_reducible refine' Pool.new' ?k1 ?k2); (case k1 => assumption); (case k2 => walk_at "pl"))
  | ((with_reducible refine' Pool.same' ?k1 ?k2); (case k1 => assumption); (case k2 => walk_at "pl"))
  | fail)
local macro_rules | `(tactic| walk_at "allm") => `(tactic| ((repeat (refine List.forall_mem_cons.mpr ⟨⟨_, rfl, by first | decide | omega, by first | decide | omega⟩, ?_⟩)); exact List.forall_mem_nil _))
local macro_rules | `(tactic| walk_at "kp") => `(tactic| first
  | assumption
  | exact Kp.refl
  | ((with_reducible refine' Kp.trans ?k1 (Kp.new ?k2)); (case k2 => assumption); walk_at "kp")
  | (refine' Kp.trans ?k1 ?k2; (case k2 => assumption); walk_at "kp")
  | (refine' Kp.trans ?k1 (Kp.of ?k2); (case k2 => assumption); walk_at "kp")
  | ((with_reducible refine' Kp.trans ?k1 Kp.at); walk_at "kp")
  | fail)
local macro_rules | `(tactic| walk_at "ct") => `(tactic| (refine' close_turn ?k1 ?k2 ?k3 ?k4; (case k1 => assumption); (case k2 => assumption); (case k3 => assumption); (case k4 => walk_at "kp")))
local macro_rules | `(tactic| walk_at "sm") => `(tactic| first
  | (with_reducible assumption)
  | (with_reducible exact Same.refl _)
  | ((with_reducible refine' Same.trans ?k1 (same_new ?k2)); (case k2 => assumption); walk_at "sm")
  | ((with_reducible refine' Same.trans ?k1 ?k2); (case k2 => (with_reducible assumption)); walk_at "sm")
  | fail)
local macro_rules | `(tactic| walk_at "f1") => `(tactic| first | rfl | exact congrArg Prod.fst (fold_unfold _ _ _) | exact congrArg Prod.fst (unfold_fold _ _ _) | fail)
local macro_rules | `(tactic| walk_at "f2") => `(tactic| first | rfl | exact congrArg Prod.snd (fold_unfold _ _ _) | exact congrArg Prod.snd (unfold_fold _ _ _) | fail)
local macro_rules | `(tactic| walk_at "smv") => `(tactic| first
  | (with_reducible assumption)
  | ((with_reducible refine sm_sc ?k1); (case k1 => exact rfl))
  | ((with_reducible refine' sm_ints ?k1 ?k2); (case k1 => walk_at "hg"); (case k2 => walk_at "hg"))
  | fail)
local macro_rules | `(tactic| walk_at "kp2") => `(tactic| first
  | exact Kp2.refl
  | exact Kp2.at
  | ((with_reducible refine' Kp2.trans ?k1 Kp2.at); walk_at "kp2")
  | ((with_reducible refine' Kp2.trans ?k1 (Kp2.new ?k2)); (case k2 => assumption); walk_at "kp2")
  | (refine' Kp2.trans ?k1 (Kp2.ofK ?k2); (case k2 => assumption); walk_at "kp2")
  | (refine' Kp2.trans ?k1 (Kp2.ofS ?k2); (case k2 => assumption); walk_at "kp2")
  | fail)
local macro_rules | `(tactic| walk_at "ty") => `(tactic| first
  | exact True.intro
  | ((refine' Or.inl ⟨_, ?k1⟩); (case k1 => walk_at "hg"))
  | ((refine' Or.inr ⟨_, ?k1⟩); (case k1 => walk_at "hg"))
  | fail)
local macro_rules | `(tactic| walk_at "jr") => `(tactic| first
  | exact ⟨_, JR.flat rfl⟩
  | ((refine' ⟨_, JR.tup2 ?k1 ?k2 ?k3⟩); (case k1 => walk_at "hg"); (case k2 => walk_at "ty"); (case k3 => walk_at "ty"))
  | ((refine' ⟨_, JR.tupn ?k1 ?k2⟩); (case k1 => walk_at "hg"); (case k2 => simp))
  | ((refine' ⟨_, JR.lst ?k1⟩); (case k1 => walk_at "hg"))
  | fail)
local macro_rules | `(tactic| walk_at "jr1") => `(tactic| ((refine' List.forall_mem_cons.mpr ⟨?k1, ?_⟩); (case k1 => walk_at "jr")))
local macro_rules | `(tactic| walk_at "alljr") => `(tactic| ((repeat walk_at "jr1"); exact List.forall_mem_nil _))
local macro_rules | `(tactic| walk_at "r1") => `(tactic| first
  | ((with_reducible refine' rd_raiseV ?k1 ?_); (case k1 => exact rfl))
  | (with_reducible refine rd_raiseC ?_)
  | ((with_reducible refine' rd_lam ?k1 fun _ _ _ => ?_); (case k1 => walk_at "tb"))
  | (with_reducible refine rd_told ?_)
  | (with_reducible refine rd_xf ?_)
  | fail)
local macro_rules | `(tactic| walk_at "tb") => `(tactic| first
  | assumption
  | ((with_reducible refine' Tabs.new ?k1 ?k2); (case k1 => assumption); (case k2 => walk_at "tb"))
  | ((with_reducible refine' Tabs.same ?k1 ?k2); (case k1 => assumption); (case k2 => walk_at "tb"))
  | ((with_reducible refine' Tabs.kp ?k0 ?k1 ?k2); (case k1 => assumption); (case k0 => walk_at "pl"); (case k2 => walk_at "tb"))
  | fail)
local macro_rules | `(tactic| walk_at "kpn") => `(tactic| first
  | assumption
  | exact KpN.refl
  | ((with_reducible refine' KpN.trans ?k1 (KpN.new ?k2)); (case k2 => assumption); walk_at "kpn")
  | ((with_reducible refine' KpN.trans ?k1 ?k2); (case k2 => assumption); walk_at "kpn")
  | ((with_reducible refine' KpN.trans ?k1 (KpN.ofK ?k2)); (case k2 => assumption); walk_at "kpn")
  | ((with_reducible refine' KpN.trans ?k1 (KpN.of ?k2)); (case k2 => assumption); walk_at "kpn")
  | ((with_reducible refine' KpN.trans ?k1 (KpN.ofN ?k2)); (case k2 => assumption); walk_at "kpn")
  | ((with_reducible refine' KpN.trans ?k1 KpN.at); walk_at "kpn")
  | fail)
local macro_rules | `(tactic| walk_at "hg") => `(tactic| first
  | ((with_reducible refine' look_extL ?k1 ?k2); (case k1 => assumption); (case k2 => walk_at "hg"))
  | ((with_reducible refine' look_extT ?k1 ?k2); (case k1 => assumption); (case k2 => walk_at "hg"))
  | fail)
local macro_rules | `(tactic| walk_at "als") => `(tactic| ((repeat (refine List.forall_mem_cons.mpr ⟨rfl, ?_⟩)); exact List.forall_mem_nil _))
local macro_rules | `(tactic| walk_at "dv1") => `(tactic| first
  | exact DV.sc rfl
  | ((refine' DV.lst ?n ?e ?s); (case n => walk_at "ne"); (case e => walk_at "hg"); (case s => walk_at "als"))
  | ((refine' DV.tup ?n ?e ?s); (case n => walk_at "ne"); (case e => walk_at "hg"); (case s => walk_at "als"))
  | fail)
local macro_rules | `(tactic| walk_at "dvm1") => `(tactic| ((refine' List.forall_mem_cons.mpr ⟨⟨?d, ?i⟩, ?_⟩); (case d => walk_at "dv1"); (case i => first | rfl | decide)))
local macro_rules | `(tactic| walk_at "dvm") => `(tactic| ((repeat walk_at "dvm1"); exact List.forall_mem_nil _))
local macro_rules | `(tactic| walk_at "r1") => `(tactic| first
  | (with_reducible refine rd_bits ?_)
  | ((with_reducible refine' use_row ?k1 fun _ _ _ _ _ => ?_); (case k1 => walk_at "pl"))
  | fail)
local macro_rules | `(tactic| walk_at "smm1") => `(tactic| ((refine' List.forall_mem_cons.mpr ⟨?a, ?_⟩); (case a => first | exact True.intro | (show Int.natAbs _ < _; omega) | (show Int.natAbs _ < _; decide))))
local macro_rules | `(tactic| walk_at "smm") => `(tactic| ((repeat walk_at "smm1"); exact List.forall_mem_nil _))
local macro_rules | `(tactic| walk_at "rv1") => `(tactic| first
  | exact RV.sc rfl
  | ((refine' RV.lst ?n ?e ?s ?t); (case n => walk_at "ne"); (case e => walk_at "hg"); (case s => walk_at "als"); (case t => walk_at "smm"))
  | ((refine' RV.tup ?n ?e ?s ?t); (case n => walk_at "ne"); (case e => walk_at "hg"); (case s => walk_at "als"); (case t => walk_at "smm"))
  | fail)
local macro_rules | `(tactic| walk_at "rvm1") => `(tactic| ((refine' List.forall_mem_cons.mpr ⟨?d, ?_⟩); (case d => walk_at "rv1")))
local macro_rules | `(tactic| walk_at "rvm") => `(tactic| ((repeat walk_at "rvm1"); exact List.forall_mem_nil _))
local macro_rules | `(tactic| walk_at "tsr1") => `(tactic| first
  | exact TSR.flat rfl
  | ((refine' TSR.lst ?e); (case e => walk_at "hg"))
  | ((refine' TSR.tupn ?e ?n); (case e => walk_at "hg"); (case n => simp))
  | exact RV.tsr (by assumption)
  | fail)
local macro_rules | `(tactic| walk_at "tsrm1") => `(tactic| ((refine' List.forall_mem_cons.mpr ⟨?d, ?_⟩); (case d => walk_at "tsr1")))
local macro_rules | `(tactic| walk_at "tsrm") => `(tactic| ((repeat walk_at "tsrm1"); exact List.forall_mem_nil _))
local macro_rules | `(tactic| walk_at "sl") => `(tactic| first
  | (with_reducible exact e_0)
  | (with_reducible exact e_1)
  | (with_reducible exact e_01)
  | (with_reducible exact e_empty)
  | (with_reducible exact eb)
  | (with_reducible exact rfl)
  | fail)
local macro_rules | `(tactic| walk_at "sdl") => `(tactic| first
  | assumption
  | omega
  | (simp only [List.length_append, List.length_replicate, lowB_length, binB_length, List.length_cons, List.length_nil, List.length_map, List.length_drop, List.length_take]; omega)
  | fail)
local macro_rules | `(tactic| walk_at "r1") => `(tactic| first
  | ((with_reducible refine' rd_addT ?k1 ?k2 ?k3 ?_); (case k1 => walk_at "sl"); (case k2 => walk_at "sl"); (case k3 => walk_at "sdl"))
  | ((with_reducible refine' rd_mulT ?k1 ?k2 ?_); (case k1 => walk_at "sl"); (case k2 => walk_at "sdl"))
  | ((with_reducible refine' rd_lenS ?k1 ?_); (case k1 => walk_at "sdl"))
  | ((with_reducible refine' rd_slSF ?k1 ?_); (case k1 => walk_at "sdl"))
  | ((with_reducible refine' rd_slST ?k1 ?_); (case k1 => walk_at "sdl"))
  | ((with_reducible refine' rd_joinS ?k1 ?k2 ?k3 ?_); (case k1 => walk_at "sl"); (case k2 => walk_at "sq"); (case k3 => walk_at "sdl"))
  | (with_reducible refine rd_bit ?_)
  | ((with_reducible refine' rd_tupL ?k1 fun _ _ => ?_); (case k1 => walk_at "sq"))
  | (with_reducible refine rd_fmtb ?_) | (with_reducible refine rd_shr ?_)
  | ((with_reducible refine' rd_fmtn ?k1 ?k2 ?_); (case k1 => walk_at "sl"); (case k2 => walk_at "sdl"))
  | (with_reducible refine rd_bmS ?_) | (with_reducible refine rd_tyS ?_)
  | ((with_reducible refine' use_start ?k1 fun _ _ _ _ _ _ _ _ _ => ?_); (case k1 => walk_at "pl"))
  | fail)
local macro_rules | `(tactic| walk_at "r1") => `(tactic| first
  | (with_reducible refine use_numW ?_) | (with_reducible refine rd_notBl ?_)
  | ((with_reducible refine' rd_find ?k1 ?k2 ?_); (case k1 => walk_at "sl"); (case k2 => walk_at "sdl"))
  | ((with_reducible refine' rd_strip ?k1 ?k2 ?k3 ?_); (case k1 => walk_at "sl"); (case k2 => walk_at "sdl"); (case k3 => assumption))
  | fail)
local macro_rules | `(tactic| walk_at "r1") => `(tactic| first
  | ((with_reducible refine' rd_slT ?k1 fun _ _ => ?_); (case k1 => walk_at "sq"))
  | ((with_reducible refine' rd_slF ?k1 ?k2 fun _ _ => ?_); (case k1 => walk_at "sq"); (case k2 => walk_at "sd"))
  | ((with_reducible refine use_coarse ?k1 ?k2 ?k3 ?_); (case k1 => walk_at "sd"); (case k2 => walk_at "sd"); (case k3 => walk_at "sd"))
  | fail)
abbrev s_is_integer : Stmt := topS 7
theorem sc_is_integer : FnScope ["value"] ["value"] (defScope s_is_integer) := ⟨rfl, rfl, rfl, by decide +kernel, rfl, by decide +kernel, by decide +kernel⟩
abbrev s_is_within : Stmt := topS 8
theorem sc_is_within : FnScope ["value", "low", "high"] ["value", "low", "high"] (defScope s_is_within) := ⟨rfl, rfl, rfl, by decide +kernel, rfl, by decide +kernel, by decide +kernel⟩
abbrev s_check_within : Stmt := topS 9
theorem sc_check_within : FnScope ["value", "low", "high"] ["value", "low", "high"] (defScope s_check_within) := ⟨rfl, rfl, rfl, by decide +kernel, rfl, by decide +kernel, by decide +kernel⟩
abbrev s_check_items : Stmt := topS 10
theorem sc_check_items : FnScope ["values", "index", "value"] ["values"] (defScope s_check_items) := ⟨rfl, rfl, rfl, by decide +kernel, rfl, by decide +kernel, by decide +kernel⟩
abbrev s_check_block : Stmt := topS 11
theorem sc_check_block : FnScope ["values", "least"] ["values", "least"] (defScope s_check_block) := ⟨rfl, rfl, rfl, by decide +kernel, rfl, by decide +kernel, by decide +kernel⟩
abbrev s_is_table : Stmt := topS 16
theorem sc_is_table : FnScope ["value", "total", "count"] ["value"] (defScope s_is_table) := ⟨rfl, rfl, rfl, by decide +kernel, rfl, by decide +kernel, by decide +kernel⟩
abbrev s_is_tables : Stmt := topS 17
theorem sc_is_tables : FnScope ["value"] ["value"] (defScope s_is_tables) := ⟨rfl, rfl, rfl, by decide +kernel, rfl, by decide +kernel, by decide +kernel⟩
abbrev s_parameter : Stmt := topS 18
theorem sc_parameter : FnScope ["table", "total", "count", "least"] ["table"] (defScope s_parameter) := ⟨rfl, rfl, rfl, by decide +kernel, rfl, by decide +kernel, by decide +kernel⟩
abbrev s_table_behind : Stmt := topS 19
theorem sc_table_behind : FnScope ["table", "code", "total", "count"] ["table", "code"] (defScope s_table_behind) := ⟨rfl, rfl, rfl, by decide +kernel, rfl, by decide +kernel, by decide +kernel⟩
abbrev s_code_number : Stmt := topS 20
theorem sc_code_number : FnScope ["number"] ["number"] (defScope s_code_number) := ⟨rfl, rfl, rfl, by decide +kernel, rfl, by decide +kernel, by decide +kernel⟩
abbrev s_number_with : Stmt := topS 21
theorem sc_number_with : FnScope ["code"] ["code"] (defScope s_number_with) := ⟨rfl, rfl, rfl, by decide +kernel, rfl, by decide +kernel, by decide +kernel⟩
abbrev s_code_bits : Stmt := topS 22
theorem sc_code_bits : FnScope ["code", "k", "digits", "ones", "padded"] ["code", "k"] (defScope s_code_bits) := ⟨rfl, rfl, rfl, by decide +kernel, rfl, by decide +kernel, by decide +kernel⟩
abbrev s_write_numbers : Stmt := topS 23
theorem sc_write_numbers : FnScope ["numbers", "coarse", "tables", "now", "words", "at", "number", "which", "code"] ["numbers", "coarse", "tables"] (defScope s_write_numbers) := ⟨rfl, rfl, rfl, by decide +kernel, rfl, by decide +kernel, by decide +kernel⟩
abbrev s_read_numbers : Stmt := topS 24
theorem sc_read_numbers : FnScope ["bits", "length", "coarse", "tables", "now", "numbers", "place", "at", "which", "found", "code"] ["bits", "length", "coarse", "tables"] (defScope s_read_numbers) := ⟨rfl, rfl, rfl, by decide +kernel, rfl, by decide +kernel, by decide +kernel⟩
abbrev s_check_coding : Stmt := topS 25
theorem sc_check_coding : FnScope ["length", "coarse", "tables"] ["length", "coarse", "tables"] (defScope s_check_coding) := ⟨rfl, rfl, rfl, by decide +kernel, rfl, by decide +kernel, by decide +kernel⟩
abbrev s_read_code : Stmt := topS 26
theorem sc_read_code : FnScope ["bits", "place", "k", "zero", "ones", "many", "end", "digits", "low"] ["bits", "place", "k"] (defScope s_read_code) := ⟨rfl, rfl, rfl, by decide +kernel, rfl, by decide +kernel, by decide +kernel⟩
abbrev s_pool : Stmt := topS 28
theorem sc_pool : FnScope ["_law_script", "_law_k", "_law_cell", "_law_great", "_law_seed"] ["_law_script", "_law_k"] (defScope s_pool) := ⟨rfl, rfl, rfl, by decide +kernel, rfl, by decide +kernel, by decide +kernel⟩
abbrev s_take : Stmt := topS 29
theorem sc_take : FnScope ["_law_pool_here", "_law_many", "_law_found"] ["_law_pool_here", "_law_many"] (defScope s_take) := ⟨rfl, rfl, rfl, by decide +kernel, rfl, by decide +kernel, by decide +kernel⟩
abbrev s_same : Stmt := topS 30
theorem sc_same : FnScope ["_law_actual", "_law_due", "_law_one", "_law_other"] ["_law_actual", "_law_due"] (defScope s_same) := ⟨rfl, rfl, rfl, by decide +kernel, rfl, by decide +kernel, by decide +kernel⟩
abbrev s_number : Stmt := topS 31
theorem sc_number : FnScope ["_law_pool_here", "_law_found", "_law_turn"] ["_law_pool_here"] (defScope s_number) := ⟨rfl, rfl, rfl, by decide +kernel, rfl, by decide +kernel, by decide +kernel⟩
abbrev s_start : Stmt := topS 32
theorem sc_start : FnScope ["_law_pool_here", "_law_found", "_law_turn", "_law_total"] ["_law_pool_here"] (defScope s_start) := ⟨rfl, rfl, rfl, by decide +kernel, rfl, by decide +kernel, by decide +kernel⟩
abbrev s_binary : Stmt := topS 33
theorem sc_binary : FnScope ["_law_u_here", "_law_found"] ["_law_u_here"] (defScope s_binary) := ⟨rfl, rfl, rfl, by decide +kernel, rfl, by decide +kernel, by decide +kernel⟩
abbrev s_l_parameter : Stmt := topS 34
theorem sc_l_parameter : FnScope ["_law_row", "_law_k", "_law_product"] ["_law_row"] (defScope s_l_parameter) := ⟨rfl, rfl, rfl, by decide +kernel, rfl, by decide +kernel, by decide +kernel⟩
abbrev s_code : Stmt := topS 35
theorem sc_code : FnScope ["_law_u_here", "_law_k", "_law_head", "_law_digits", "_law_turn", "_law_padded"] ["_law_u_here", "_law_k"] (defScope s_code) := ⟨rfl, rfl, rfl, by decide +kernel, rfl, by decide +kernel, by decide +kernel⟩
abbrev s_behind : Stmt := topS 36
theorem sc_behind : FnScope ["_law_row", "_law_u_here", "_law_total", "_law_count"] ["_law_row", "_law_u_here"] (defScope s_behind) := ⟨rfl, rfl, rfl, by decide +kernel, rfl, by decide +kernel, by decide +kernel⟩
abbrev s_u : Stmt := topS 37
theorem sc_u : FnScope ["_law_number_here"] ["_law_number_here"] (defScope s_u) := ⟨rfl, rfl, rfl, by decide +kernel, rfl, by decide +kernel, by decide +kernel⟩
abbrev s_written : Stmt := topS 38
theorem sc_written : FnScope ["_law_some", "_law_first", "_law_start_here", "_law_found", "_law_current", "_law_at", "_law_number_here", "_law_which"] ["_law_some", "_law_first", "_law_start_here"] (defScope s_written) := ⟨rfl, rfl, rfl, by decide +kernel, rfl, by decide +kernel, by decide +kernel⟩
abbrev s_ones : Stmt := topS 39
theorem sc_ones : FnScope ["_law_text", "_law_at", "_law_most", "_law_many"] ["_law_text", "_law_at", "_law_most"] (defScope s_ones) := ⟨rfl, rfl, rfl, by decide +kernel, rfl, by decide +kernel, by decide +kernel⟩
abbrev s_value : Stmt := topS 40
theorem sc_value : FnScope ["_law_text", "_law_found", "_law_sign"] ["_law_text"] (defScope s_value) := ⟨rfl, rfl, rfl, by decide +kernel, rfl, by decide +kernel, by decide +kernel⟩
abbrev s_code_at : Stmt := topS 41
theorem sc_code_at : FnScope ["_law_text", "_law_at", "_law_k", "_law_head", "_law_end", "_law_u_here", "_law_turn", "_law_many", "_law_start_here"] ["_law_text", "_law_at", "_law_k"] (defScope s_code_at) := ⟨rfl, rfl, rfl, by decide +kernel, rfl, by decide +kernel, by decide +kernel⟩
abbrev s_read : Stmt := topS 42
theorem sc_read : FnScope ["_law_text", "_law_size", "_law_first", "_law_start_here", "_law_sign", "_law_some", "_law_current", "_law_at", "_law_index", "_law_which", "_law_found", "_law_u_here"] ["_law_text", "_law_size", "_law_first", "_law_start_here"] (defScope s_read) := ⟨rfl, rfl, rfl, by decide +kernel, rfl, by decide +kernel, by decide +kernel⟩
abbrev s_bits : Stmt := topS 43
theorem sc_bits : FnScope ["_law_pool_here", "_law_size", "_law_first", "_law_start_here", "_law_way", "_law_at", "_law_text", "_law_sign", "_law_short"] ["_law_pool_here", "_law_size", "_law_first", "_law_start_here"] (defScope s_bits) := ⟨rfl, rfl, rfl, by decide +kernel, rfl, by decide +kernel, by decide +kernel⟩
abbrev s_law : Stmt := topS 44
theorem sc_law : FnScope ["_law_script", "_law_k", "_law_pool_here", "_law_size", "_law_first", "_law_start_here", "_law_text", "_law_actual", "_law_one", "_law_again"] ["_law_script"] (defScope s_law) := ⟨rfl, rfl, rfl, by decide +kernel, rfl, by decide +kernel, by decide +kernel⟩
section
variable {P : Program} {w : World} {K : PySem.W.Frag} {mg : Str → Option Value} {base : Heap}
theorem ok_take {f : Addr} {fd : FuncData}     (D : Dn K mg "_law_take" s_take ["_law_pool_here", "_law_many"] f fd) (bi : Bi mg)      : FnOk P w K mg base CX0 1 f fd ["_law_pool_here", "_law_many"] spTake := by
  refine lt_out ?_
  simp (disch := with_unfolding_all
    refine D.F.ok sc_take (fun vs H Q E h => ?_) (fun cdv A outer s H vs Q E hr h => ?_)
    · obtain ⟨p, m, rfl, _⟩ := h
      rfl
    · obtain ⟨p, m, rfl, ⟨x, y, hp, hx, hy0, hy1⟩, hm0, hm1, q⟩ := h
      refine ⟨_, (pss_cons (ps_if (pt_cmpR op_gt (pe_ix ix_list (pv 0) pe_int (fun _ _ => rfl)) pe_int (nomark _))
   (pss_cons (ps_set (i := 2) sc_take.nd rfl (Or.inl rfl) (pe_op op_mod (pe_callTy cInt (by rfl) bi.int_ (by decide +kernel) (pa_cons (pe_ix ix_list (pv 0) pe_int (fun _ _ => rfl)) pa_nil)) (pv 1)))
   (pss_cons (ps_asg (pe_op op_fdiv (pe_callTy cInt (by rfl) bi.int_ (by decide +kernel) (pa_cons (pe_ix ix_list (pv 0) pe_int (fun _ _ => rfl)) pa_nil)) (pv 1)) (pg_sub (pv 0) pe_int set_list))
   (pss_one (ps_ret (pv 2)))))
   pss_nil)
   (pss_cons (ps_asg (pe_op op_mod (pe_callTy cInt (by rfl) bi.int_ (by decide +kernel) (pa_cons (pe_op op_add (pe_op op_mul (pe_ix ix_list (pv 0) pe_int (fun _ _ => rfl)) pe_int) pe_int) pa_nil)) pe_int) (pg_sub (pv 0) pe_int set_list))
   (pss_one (ps_ret (pe_op op_mod (pe_op op_fdiv (pe_op op_mod (pe_callTy cInt (by rfl) bi.int_ (by decide +kernel) (pa_cons (pe_op op_mul (pe_ix ix_list (pv 0) pe_int (fun _ _ => rfl)) (pe_ix ix_list (pv 0) pe_int (fun _ _ => rfl))) pa_nil)) pe_int) pe_int) (pv 1)))))), ?_⟩
      refine rd_start (σ := [some (.ref p), some (.int m), none]) rfl ?_
      walk_at "rd"
      refine rd_iteD (fun c => ?_) (fun c => ?_)
      · walk_at "rd"
        exact q _ _ (Int.emod_nonneg _ (by omega)) (Int.emod_lt_of_pos _ hm0) ⟨x / m, y, upd_same, Int.ediv_nonneg hx (by omega), hy0, hy1⟩ Kp.at
      · have e0 := Int.emod_nonneg (y * 48271 + 11) (show (2147483647 : Int) ≠ 0 by decide)
        have e1 := Int.emod_lt_of_pos (y * 48271 + 11) (show (0 : Int) < 2147483647 by decide)
        walk_at "rd"
        exact q _ _ (Int.emod_nonneg _ (by omega)) (Int.emod_lt_of_pos _ hm0) ⟨x, (y * 48271 + 11) % 2147483647, upd_same, hx, e0, e1⟩ Kp.at
    ) only [↓lt_eq]
theorem ok_pool {f : Addr} {fd : FuncData}     (D : Dn K mg "_law_pool" s_pool ["_law_script", "_law_k"] f fd) (bi : Bi mg)      : FnOk P w K mg base CX0 1 f fd ["_law_script", "_law_k"] (spPool K) := by
  refine lt_out ?_
  simp (disch := with_unfolding_all
    refine D.F.ok sc_pool (fun vs H Q E h => ?_) (fun cdv A outer s H vs Q E hr h => ?_)
    · obtain ⟨a, ns, k, rfl, _⟩ := h
      rfl
    · obtain ⟨a, ns, k, rfl, hS, hl, hk0, hk1, q⟩ := h
      refine ⟨_, (pss_cons (ps_set (i := 2) sc_pool.nd rfl (Or.inl rfl) pe_int)
   (pss_cons (ps_if (pt_cmpR op_lt (pv 1) (pe_callB cLen (by rfl) bi.len_ (by decide +kernel) (pa_cons (pv 0) pa_nil)) (nomark _))
   (pss_one (ps_set (i := 2) sc_pool.nd rfl (Or.inl rfl) (pe_callTy cInt (by rfl) bi.int_ (by decide +kernel) (pa_cons (pe_ix ix_list (pv 0) (pv 1) (fun _ _ => rfl)) pa_nil))))
   pss_nil)
   (pss_cons (ps_set (i := 3) sc_pool.nd rfl (Or.inl rfl) (pe_callB cAbs (by rfl) bi.abs_ (by decide +kernel) (pa_cons (pv 2) pa_nil)))
   (pss_cons (ps_set (i := 4) sc_pool.nd rfl (Or.inl rfl) (pe_op op_add (pe_op op_add (pe_op op_mod (pe_callTy cInt (by rfl) bi.int_ (by decide +kernel) (pa_cons (pv 2) pa_nil)) pe_int) (pe_op op_mul pe_int (pv 1))) pe_int))
   (pss_one (ps_ret (pe_lst (pa_cons (pe_op op_mul (pv 3) (pe_callTy cInt (by rfl) bi.int_ (by decide +kernel) (pa_cons (pe_cmpR op_ge (pv 3) (pe_op op_pow pe_int pe_int) (nomark _)) pa_nil))) (pa_cons (pe_op op_mod (pe_callTy cInt (by rfl) bi.int_ (by decide +kernel) (pa_cons (pe_op op_add (pe_op op_mul (pe_op op_mul (pv 4) (pv 4)) (pv 4)) (pe_op op_mul pe_int (pv 1))) pa_nil)) pe_int) pa_nil))))))))), ?_⟩
      refine rd_start (σ := [some (.ref a), some (.int k), none, none, none]) rfl ?_
      have hS' : SqL (cxOf CX0 P w K mg base ["_law_script", "_law_k", "_law_cell", "_law_great", "_law_seed"] "_law_pool" (defScope s_pool) f cdv A outer s H E).nox.K H a (ns.map V.int) := hS
      walk_at "rd"
      refine rd_iteD (fun c => ?_) (fun c => ?_)
      · rw [List.length_map] at c
        obtain ⟨j, rfl⟩ : ∃ j : Nat, k = (j : Int) := ⟨k.toNat, by omega⟩
        have hj : j < ns.length := by omega
        have hat : atI (ns.map V.int) (j : Int) = some (.int ns[j]) := atI_nat (by rw [List.getElem?_map, List.getElem?_eq_getElem hj]; rfl)
        have e0 := Int.emod_nonneg ns[j] (show (2147483629 : Int) ≠ 0 by decide)
        have e1 := Int.emod_lt_of_pos ns[j] (show (0 : Int) < 2147483629 by decide)
        walk_at "rd"
        rename_i p hp
        exact q _ _ hp (same_new hp) ⟨_, _, upd_same, great_nn _ _, Int.emod_nonneg _ (by decide), Int.emod_lt_of_pos _ (by decide)⟩
      · walk_at "rd"
        rename_i p hp
        exact q _ _ hp (same_new hp) ⟨_, _, upd_same, great_nn 0 _, Int.emod_nonneg _ (by decide), Int.emod_lt_of_pos _ (by decide)⟩
    ) only [↓lt_eq]
theorem ok_number {f : Addr} {fd : FuncData} {f_take : Addr} {fd_take : FuncData}    (D : Dn K mg "_law_number" s_number ["_law_pool_here"] f fd) (bi : Bi mg) (G_take : FnOk P w K mg base CX0 1 f_take fd_take ["_law_pool_here", "_law_many"] spTake) (D_take : Dn K mg "_law_take" s_take ["_law_pool_here", "_law_many"] f_take fd_take)     : FnOk P w K mg base CX0 2 f fd ["_law_pool_here"] spNumber := by
  refine lt_out ?_
  simp (disch := with_unfolding_all
    refine D.F.ok sc_number (fun vs H Q E h => ?_) (fun cdv A outer s H vs Q E hr h => ?_)
    · obtain ⟨p, rfl, _⟩ := h
      rfl
    · obtain ⟨p, rfl, hP, q⟩ := h
      refine ⟨_, (pss_cons (ps_set (i := 1) sc_number.nd rfl (Or.inl rfl) (pe_call G_take (hr.mono (by first | decide | exact Nat.le_refl _)) (by rfl) D_take.g D_take.F.kp D_take.b .nil pass0 (pa_cons (pv 0) (pa_cons pe_int pa_nil))))
   (pss_cons (ps_for PassesOwn.never rfl (pi_range1 (by rfl) bi.range_ (pa_cons (pe_ix ix_list (pe_lst (pa_cons pe_int (pa_cons pe_int (pa_cons pe_int (pa_cons pe_int (pa_cons pe_int (pa_cons pe_int (pa_cons pe_int pa_nil)))))))) (pe_call G_take (hr.mono (by first | decide | exact Nat.le_refl _)) (by rfl) D_take.g D_take.F.kp D_take.b .nil pass0 (pa_cons (pv 0) (pa_cons pe_int pa_nil))) (fun _ _ => rfl)) pa_nil)) (pg_name (i := 2) sc_number.nd rfl (Or.inl rfl))
   (pss_one (ps_set (i := 1) sc_number.nd rfl (Or.inl rfl) (pe_op op_add (pe_op op_mul (pv 1) (pe_op op_pow pe_int pe_int)) (pe_call G_take (hr.mono (by first | decide | exact Nat.le_refl _)) (by rfl) D_take.g D_take.F.kp D_take.b .nil pass0 (pa_cons (pv 0) (pa_cons (pe_op op_pow pe_int pe_int) pa_nil)))))))
   (pss_one (ps_ret (pe_op op_mul (pv 1) (pe_ix ix_list (pe_lst (pa_cons pe_int (pa_cons (pe_un un_neg pe_int) pa_nil))) (pe_call G_take (hr.mono (by first | decide | exact Nat.le_refl _)) (by rfl) D_take.g D_take.F.kp D_take.b .nil pass0 (pa_cons (pv 0) (pa_cons pe_int pa_nil))) (fun _ _ => rfl))))))), ?_⟩
      refine rd_start (σ := [some (.ref p), none, none]) rfl ?_
      walk_at "rd"
      refine' rd_ixP (fun v => ∃ j : Int, v = .int j ∧ 0 ≤ j ∧ j ≤ 9) ?e ?h0 ?h1 ?hP fun v hv => ?_
      (case e => exact SqL.of (by walk_at "hg"))
      (case h0 => assumption)
      (case h1 => assumption)
      (case hP => walk_at "allm")
      obtain ⟨j, rfl, hj0, hj9⟩ := hv
      walk_at "rd"
      rename_i r1 H1 hr0 hr1 hP1 hK1 p2 hp2 r2 H2 hs0 hs1 hP2 hK2
      refine for_range (lo := 0) (n := j.toNat) (fun i σ H' => ∃ (z : Int) (t : Option V), σ = [some (.ref p), some (.int z), t] ∧ Pool H' p ∧ Kp p H H' ∧ 0 ≤ z ∧ z < 10 * 1000000 ^ i) ⟨r1, none, rfl, hP2, hK1.trans ((Kp.new hp2).trans hK2), hr0, by omega⟩ (fun i σ H3 hi hI => ?_) (fun σ H3 hI => ?_)
      · obtain ⟨z, t, rfl, hP3, hK3, hz0, hz1⟩ := hI
        walk_at "rd"
        rename_i r4 H4 hu0 hu1 hP4 hK4
        have e6 : (10 : Int) ^ Int.toNat 6 = 1000000 := by decide
        rw [e6] at hu1
        refine ⟨_, _, rfl, hP4, hK3.trans hK4, ?_, ?_⟩
        · rw [e6]; omega
        · rw [e6, Int.pow_succ]
          generalize (1000000 : Int) ^ i = X at hz1 ⊢
          omega
      · obtain ⟨z, t, rfl, hP3, hK3, hz0, hz1⟩ := hI
        walk_at "rd"
        rename_i p4 hp4 r4 H4 hu0 hu1 hP4 hK4
        refine' rd_ixP (fun v => ∃ j : Int, v = .int j ∧ (j = 1 ∨ j = -1) ∧ True) ?e ?h0 ?h1 ?hP fun v hv => ?_
        (case e => exact SqL.of (by walk_at "hg"))
        (case h0 => assumption)
        (case h1 => assumption)
        (case hP => walk_at "allm")
        obtain ⟨u, rfl, hu, _⟩ := hv
        walk_at "rd"
        refine q _ _ ?_ hP4 (hK3.trans ((Kp.new hp4).trans hK4))
        have e9 : (1000000 : Int) ^ j.toNat ≤ 1000000 ^ 9 := pow9 _ (by omega)
        have e10 : (10 : Int) * 1000000 ^ 9 = 10 ^ 55 := by decide
        rcases hu with rfl | rfl
        · omega
        · omega
    ) only [↓lt_eq]
theorem ok_same0 {f : Addr} {fd : FuncData} (D_same : Dn K mg "_law_same" s_same ["_law_actual", "_law_due"] f fd) (bi : Bi mg) : FnOk P w K mg base CX0 1 f fd ["_law_actual", "_law_due"] (spSame K 0) := by
  refine lt_out ?_
  simp (disch := with_unfolding_all
    refine D_same.F.ok sc_same (fun vs H Q E h => ?_) (fun cdv A outer s H vs Q E hr h => ?_)
    · obtain ⟨x, y, rfl, _⟩ := h
      rfl
    · obtain ⟨x, y, rfl, HS, q⟩ := h
      obtain ⟨rfl, hx⟩ := HS
      refine ⟨_, (pss_cons (ps_if (pt_cmpR cIsN (pv 1) pe_non (nomark _))
   (pss_one (ps_ret (pe_cmpR cIsN (pv 0) pe_non (nomark _))))
   pss_nil)
   (pss_cons (ps_if (pt_val (pe_callB call_isi (by rfl) bi.isinstance_ (by decide +kernel) (pa_cons (pv 1) (pa_cons (pe_bltn (v := .ty "bool") (by rfl) bi.bool_ (by decide +kernel) rfl) pa_nil))))
   (pss_one (ps_ret (pe_and (pe_callB call_isi (by rfl) bi.isinstance_ (by decide +kernel) (pa_cons (pv 0) (pa_cons (pe_bltn (v := .ty "bool") (by rfl) bi.bool_ (by decide +kernel) rfl) pa_nil))) (pe_one (pe_cmpR op_eq (pv 0) (pv 1) (nomark _))))))
   pss_nil)
   (pss_cons (ps_if (pt_val (pe_callB call_isi (by rfl) bi.isinstance_ (by decide +kernel) (pa_cons (pv 1) (pa_cons (pe_bltn (v := .ty "int") (by rfl) bi.int_ (by decide +kernel) rfl) pa_nil))))
   (pss_one (ps_ret (pe_and (pe_callB call_isi (by rfl) bi.isinstance_ (by decide +kernel) (pa_cons (pv 0) (pa_cons (pe_bltn (v := .ty "int") (by rfl) bi.int_ (by decide +kernel) rfl) pa_nil))) (pe_and (pe_not (pe_callB call_isi (by rfl) bi.isinstance_ (by decide +kernel) (pa_cons (pv 0) (pa_cons (pe_bltn (v := .ty "bool") (by rfl) bi.bool_ (by decide +kernel) rfl) pa_nil)))) (pe_one (pe_cmpR op_eq (pv 0) (pv 1) (nomark _)))))))
   pss_nil)
   (pss_cons (ps_if (pt_val (pe_callB call_isi (by rfl) bi.isinstance_ (by decide +kernel) (pa_cons (pv 1) (pa_cons (pe_bltn (v := .ty "str") (by rfl) bi.str_ (by decide +kernel) rfl) pa_nil))))
   (pss_one (ps_ret (pe_and (pe_callB call_isi (by rfl) bi.isinstance_ (by decide +kernel) (pa_cons (pv 0) (pa_cons (pe_bltn (v := .ty "str") (by rfl) bi.str_ (by decide +kernel) rfl) pa_nil))) (pe_one (pe_cmpR op_eq (pv 0) (pv 1) (nomark _))))))
   pss_nil)
   pss_never)))), ?_⟩
      refine rd_start (σ := [some x, some x, none, none]) rfl ?_
      have hQ := q H (Same.refl _)
      cases x with
      | non =>
        walk_at "rd"
        refine if_yesD rfl ?_
        walk_at "rd"
        rw [show decide (V.non = V.non) = true from decide_eq_true rfl]
        exact hQ
      | bl b =>
        walk_at "rd"
        refine if_noD (fun z => V.noConfusion z) ?_
        walk_at "rd"
        rw [show decide (V.bl b = V.bl b) = true from decide_eq_true rfl]
        exact hQ
      | int b =>
        walk_at "rd"
        refine if_noD (fun z => V.noConfusion z) ?_
        walk_at "rd"
        rw [show decide (V.int b = V.int b) = true from decide_eq_true rfl]
        exact hQ
      | str b =>
        walk_at "rd"
        refine if_noD (fun z => V.noConfusion z) ?_
        walk_at "rd"
        rw [show decide (V.str b = V.str b) = true from decide_eq_true rfl]
        exact hQ
      | ref _ => exact Bool.noConfusion hx
      | byt _ => exact Bool.noConfusion hx
      | flt _ => exact Bool.noConfusion hx
      | ty _ => exact Bool.noConfusion hx
    ) only [↓lt_eq]
theorem ok_sameS {f : Addr} {fd : FuncData} {n k : Nat} (D_same : Dn K mg "_law_same" s_same ["_law_actual", "_law_due"] f fd) (bi : Bi mg) (G_same : FnOk P w K mg base CX0 (k + 1) f fd ["_law_actual", "_law_due"] (spSame K n)) : FnOk P w K mg base CX0 (k + 2) f fd ["_law_actual", "_law_due"] (spSame K (n + 1)) := by
  refine lt_out ?_
  simp (disch := with_unfolding_all
    refine D_same.F.ok sc_same (fun vs H Q E h => ?_) (fun cdv A outer s H vs Q E hr h => ?_)
    · obtain ⟨x, y, rfl, _⟩ := h
      rfl
    · obtain ⟨x, y, rfl, HS, q⟩ := h
      rcases HS with HS | ⟨a, b, xs, ys, rfl, rfl, h1, h2, hl, HI⟩ | ⟨a, b, xs, ys, rfl, rfl, h1, h2, hl, HI⟩
      · obtain ⟨rfl, hx⟩ := HS
        refine ⟨_, (pss_cons (ps_if (pt_cmpR cIsN (pv 1) pe_non (nomark _))
   (pss_one (ps_ret (pe_cmpR cIsN (pv 0) pe_non (nomark _))))
   pss_nil)
   (pss_cons (ps_if (pt_val (pe_callB call_isi (by rfl) bi.isinstance_ (by decide +kernel) (pa_cons (pv 1) (pa_cons (pe_bltn (v := .ty "bool") (by rfl) bi.bool_ (by decide +kernel) rfl) pa_nil))))
   (pss_one (ps_ret (pe_and (pe_callB call_isi (by rfl) bi.isinstance_ (by decide +kernel) (pa_cons (pv 0) (pa_cons (pe_bltn (v := .ty "bool") (by rfl) bi.bool_ (by decide +kernel) rfl) pa_nil))) (pe_one (pe_cmpR op_eq (pv 0) (pv 1) (nomark _))))))
   pss_nil)
   (pss_cons (ps_if (pt_val (pe_callB call_isi (by rfl) bi.isinstance_ (by decide +kernel) (pa_cons (pv 1) (pa_cons (pe_bltn (v := .ty "int") (by rfl) bi.int_ (by decide +kernel) rfl) pa_nil))))
   (pss_one (ps_ret (pe_and (pe_callB call_isi (by rfl) bi.isinstance_ (by decide +kernel) (pa_cons (pv 0) (pa_cons (pe_bltn (v := .ty "int") (by rfl) bi.int_ (by decide +kernel) rfl) pa_nil))) (pe_and (pe_not (pe_callB call_isi (by rfl) bi.isinstance_ (by decide +kernel) (pa_cons (pv 0) (pa_cons (pe_bltn (v := .ty "bool") (by rfl) bi.bool_ (by decide +kernel) rfl) pa_nil)))) (pe_one (pe_cmpR op_eq (pv 0) (pv 1) (nomark _)))))))
   pss_nil)
   (pss_cons (ps_if (pt_val (pe_callB call_isi (by rfl) bi.isinstance_ (by decide +kernel) (pa_cons (pv 1) (pa_cons (pe_bltn (v := .ty "str") (by rfl) bi.str_ (by decide +kernel) rfl) pa_nil))))
   (pss_one (ps_ret (pe_and (pe_callB call_isi (by rfl) bi.isinstance_ (by decide +kernel) (pa_cons (pv 0) (pa_cons (pe_bltn (v := .ty "str") (by rfl) bi.str_ (by decide +kernel) rfl) pa_nil))) (pe_one (pe_cmpR op_eq (pv 0) (pv 1) (nomark _))))))
   pss_nil)
   pss_never)))), ?_⟩
        refine rd_start (σ := [some x, some x, none, none]) rfl ?_
        have hQ := q H (Same.refl _)
        cases x with
        | non =>
          walk_at "rd"
          refine if_yesD rfl ?_
          walk_at "rd"
          rw [show decide (V.non = V.non) = true from decide_eq_true rfl]
          exact hQ
        | bl b =>
          walk_at "rd"
          refine if_noD (fun z => V.noConfusion z) ?_
          walk_at "rd"
          rw [show decide (V.bl b = V.bl b) = true from decide_eq_true rfl]
          exact hQ
        | int b =>
          walk_at "rd"
          refine if_noD (fun z => V.noConfusion z) ?_
          walk_at "rd"
          rw [show decide (V.int b = V.int b) = true from decide_eq_true rfl]
          exact hQ
        | str b =>
          walk_at "rd"
          refine if_noD (fun z => V.noConfusion z) ?_
          walk_at "rd"
          rw [show decide (V.str b = V.str b) = true from decide_eq_true rfl]
          exact hQ
        | ref _ => exact Bool.noConfusion hx
        | byt _ => exact Bool.noConfusion hx
        | flt _ => exact Bool.noConfusion hx
        | ty _ => exact Bool.noConfusion hx

      · refine ⟨_, (pss_cons (ps_if (pt_cmpR cIsN (pv 1) pe_non (nomark _))
   (pss_one (ps_ret (pe_cmpR cIsN (pv 0) pe_non (nomark _))))
   pss_nil)
   (pss_cons (ps_if (pt_val (pe_callB call_isi (by rfl) bi.isinstance_ (by decide +kernel) (pa_cons (pv 1) (pa_cons (pe_bltn (v := .ty "bool") (by rfl) bi.bool_ (by decide +kernel) rfl) pa_nil))))
   (pss_one (ps_ret (pe_and (pe_callB call_isi (by rfl) bi.isinstance_ (by decide +kernel) (pa_cons (pv 0) (pa_cons (pe_bltn (v := .ty "bool") (by rfl) bi.bool_ (by decide +kernel) rfl) pa_nil))) (pe_one (pe_cmpR op_eq (pv 0) (pv 1) (nomark _))))))
   pss_nil)
   (pss_cons (ps_if (pt_val (pe_callB call_isi (by rfl) bi.isinstance_ (by decide +kernel) (pa_cons (pv 1) (pa_cons (pe_bltn (v := .ty "int") (by rfl) bi.int_ (by decide +kernel) rfl) pa_nil))))
   (pss_one (ps_ret (pe_and (pe_callB call_isi (by rfl) bi.isinstance_ (by decide +kernel) (pa_cons (pv 0) (pa_cons (pe_bltn (v := .ty "int") (by rfl) bi.int_ (by decide +kernel) rfl) pa_nil))) (pe_and (pe_not (pe_callB call_isi (by rfl) bi.isinstance_ (by decide +kernel) (pa_cons (pv 0) (pa_cons (pe_bltn (v := .ty "bool") (by rfl) bi.bool_ (by decide +kernel) rfl) pa_nil)))) (pe_one (pe_cmpR op_eq (pv 0) (pv 1) (nomark _)))))))
   pss_nil)
   (pss_cons (ps_if (pt_val (pe_callB call_isi (by rfl) bi.isinstance_ (by decide +kernel) (pa_cons (pv 1) (pa_cons (pe_bltn (v := .ty "str") (by rfl) bi.str_ (by decide +kernel) rfl) pa_nil))))
   (pss_one (ps_ret (pe_and (pe_callB call_isi (by rfl) bi.isinstance_ (by decide +kernel) (pa_cons (pv 0) (pa_cons (pe_bltn (v := .ty "str") (by rfl) bi.str_ (by decide +kernel) rfl) pa_nil))) (pe_one (pe_cmpR op_eq (pv 0) (pv 1) (nomark _))))))
   pss_nil)
   (pss_cons (ps_if (PW.pt (pw_and (pt_val (pe_callB call_isi (by rfl) bi.isinstance_ (by decide +kernel) (pa_cons (pv 1) (pa_cons (pe_bltn (v := .ty "list") (by rfl) bi.list_ (by decide +kernel) rfl) pa_nil)))) (pw_and1 (pt_not (pt_val (pe_callB call_isi (by rfl) bi.isinstance_ (by decide +kernel) (pa_cons (pv 0) (pa_cons (pe_bltn (v := .ty "list") (by rfl) bi.list_ (by decide +kernel) rfl) pa_nil))))))))
   (pss_one (ps_ret pe_bl))
   pss_nil)
   (pss_cons (ps_if (PW.pt (pw_and (pt_val (pe_callB call_isi (by rfl) bi.isinstance_ (by decide +kernel) (pa_cons (pv 1) (pa_cons (pe_bltn (v := .ty "tuple") (by rfl) bi.tuple_ (by decide +kernel) rfl) pa_nil)))) (pw_and1 (pt_not (pt_val (pe_callB call_isi (by rfl) bi.isinstance_ (by decide +kernel) (pa_cons (pv 0) (pa_cons (pe_bltn (v := .ty "tuple") (by rfl) bi.tuple_ (by decide +kernel) rfl) pa_nil))))))))
   (pss_one (ps_ret pe_bl))
   pss_nil)
   (pss_cons (ps_if (pt_cmpR op_ne (pe_callB cLen (by rfl) bi.len_ (by decide +kernel) (pa_cons (pv 0) pa_nil)) (pe_callB cLen (by rfl) bi.len_ (by decide +kernel) (pa_cons (pv 1) pa_nil)) (nomark _))
   (pss_one (ps_ret pe_bl))
   pss_nil)
   (pss_cons (ps_for PassesOwn.never rfl (RZ.pi_zipA (by rfl) bi.zip_ (pa_cons (pv 0) (pa_cons (pv 1) pa_nil))) (pg_tup rfl (pgs_cons (pg_name (i := 2) sc_same.nd rfl (Or.inl rfl)) (pgs_cons (pg_name (i := 3) sc_same.nd rfl (Or.inl rfl)) pgs_nil)))
   (pss_one (ps_if (pt_not (pt_val (pe_call G_same (hr.mono (by first | decide | exact Nat.le_refl _)) (by rfl) D_same.g D_same.F.kp D_same.b .nil pass0 (pa_cons (pv 2) (pa_cons (pv 3) pa_nil)))))
   (pss_one (ps_ret pe_bl))
   pss_nil)))
   (pss_one (ps_ret pe_bl)))))))))), ?_⟩
        refine rd_start (σ := [some (.ref a), some (.ref b), none, none]) rfl ?_
        have L1 := h1.1
        have L2 := h2.1
        walk_at "rd"
        refine if_noD (fun z => V.noConfusion z) ?_
        walk_at "rd"
        refine isi_ty h2.2 (d := false) (by decide +kernel) ?_
        walk_at "rd"
        refine isi_ty h2.2 (d := false) (by decide +kernel) ?_
        walk_at "rd"
        refine isi_ty h2.2 (d := false) (by decide +kernel) ?_
        walk_at "rd"
        refine isi_ty h2.2 (d := true) (by decide +kernel) ?_
        walk_at "rd"
        refine isi_ty h1.2 (d := true) (by decide +kernel) ?_
        walk_at "rd"
        refine isi_ty h2.2 (d := false) (by decide +kernel) ?_
        walk_at "rd"
        refine if_noN (by rw [hl]) ?_
        walk_at "rd"
        refine ⟨a, b, xs, ys, rfl, .inl ⟨L1, L2, ?_⟩⟩
        refine for_zip hl (fun i σ H' => ∃ t u, σ = [some (.ref a), some (.ref b), t, u] ∧ Same H H') ⟨none, none, rfl, Same.refl _⟩ (fun i σ H1 _ hI => ?_) (fun i v u σ H1 T hv hu hI hT => ?_) (fun σ H1 hI => ?_)
        · obtain ⟨t, u, rfl, hs⟩ := hI
          exact ⟨hs.seq L1, hs.seq L2⟩
        · obtain ⟨t, u', rfl, hs⟩ := hI
          walk_at "rd"
          refine use_same (.same (hs.trans (same_new hT)) _ (HI i v u hv hu)) fun H2 hs2 => ?_
          walk_at "rd"
          exact ⟨_, _, rfl, (hs.trans (same_new hT)).trans hs2⟩
        · obtain ⟨t, u, rfl, hs⟩ := hI
          walk_at "rd"
          exact q _ hs
      · refine ⟨_, (pss_cons (ps_if (pt_cmpR cIsN (pv 1) pe_non (nomark _))
   (pss_one (ps_ret (pe_cmpR cIsN (pv 0) pe_non (nomark _))))
   pss_nil)
   (pss_cons (ps_if (pt_val (pe_callB call_isi (by rfl) bi.isinstance_ (by decide +kernel) (pa_cons (pv 1) (pa_cons (pe_bltn (v := .ty "bool") (by rfl) bi.bool_ (by decide +kernel) rfl) pa_nil))))
   (pss_one (ps_ret (pe_and (pe_callB call_isi (by rfl) bi.isinstance_ (by decide +kernel) (pa_cons (pv 0) (pa_cons (pe_bltn (v := .ty "bool") (by rfl) bi.bool_ (by decide +kernel) rfl) pa_nil))) (pe_one (pe_cmpR op_eq (pv 0) (pv 1) (nomark _))))))
   pss_nil)
   (pss_cons (ps_if (pt_val (pe_callB call_isi (by rfl) bi.isinstance_ (by decide +kernel) (pa_cons (pv 1) (pa_cons (pe_bltn (v := .ty "int") (by rfl) bi.int_ (by decide +kernel) rfl) pa_nil))))
   (pss_one (ps_ret (pe_and (pe_callB call_isi (by rfl) bi.isinstance_ (by decide +kernel) (pa_cons (pv 0) (pa_cons (pe_bltn (v := .ty "int") (by rfl) bi.int_ (by decide +kernel) rfl) pa_nil))) (pe_and (pe_not (pe_callB call_isi (by rfl) bi.isinstance_ (by decide +kernel) (pa_cons (pv 0) (pa_cons (pe_bltn (v := .ty "bool") (by rfl) bi.bool_ (by decide +kernel) rfl) pa_nil)))) (pe_one (pe_cmpR op_eq (pv 0) (pv 1) (nomark _)))))))
   pss_nil)
   (pss_cons (ps_if (pt_val (pe_callB call_isi (by rfl) bi.isinstance_ (by decide +kernel) (pa_cons (pv 1) (pa_cons (pe_bltn (v := .ty "str") (by rfl) bi.str_ (by decide +kernel) rfl) pa_nil))))
   (pss_one (ps_ret (pe_and (pe_callB call_isi (by rfl) bi.isinstance_ (by decide +kernel) (pa_cons (pv 0) (pa_cons (pe_bltn (v := .ty "str") (by rfl) bi.str_ (by decide +kernel) rfl) pa_nil))) (pe_one (pe_cmpR op_eq (pv 0) (pv 1) (nomark _))))))
   pss_nil)
   (pss_cons (ps_if (PW.pt (pw_and (pt_val (pe_callB call_isi (by rfl) bi.isinstance_ (by decide +kernel) (pa_cons (pv 1) (pa_cons (pe_bltn (v := .ty "list") (by rfl) bi.list_ (by decide +kernel) rfl) pa_nil)))) (pw_and1 (pt_not (pt_val (pe_callB call_isi (by rfl) bi.isinstance_ (by decide +kernel) (pa_cons (pv 0) (pa_cons (pe_bltn (v := .ty "list") (by rfl) bi.list_ (by decide +kernel) rfl) pa_nil))))))))
   (pss_one (ps_ret pe_bl))
   pss_nil)
   (pss_cons (ps_if (PW.pt (pw_and (pt_val (pe_callB call_isi (by rfl) bi.isinstance_ (by decide +kernel) (pa_cons (pv 1) (pa_cons (pe_bltn (v := .ty "tuple") (by rfl) bi.tuple_ (by decide +kernel) rfl) pa_nil)))) (pw_and1 (pt_not (pt_val (pe_callB call_isi (by rfl) bi.isinstance_ (by decide +kernel) (pa_cons (pv 0) (pa_cons (pe_bltn (v := .ty "tuple") (by rfl) bi.tuple_ (by decide +kernel) rfl) pa_nil))))))))
   (pss_one (ps_ret pe_bl))
   pss_nil)
   (pss_cons (ps_if (pt_cmpR op_ne (pe_callB cLen (by rfl) bi.len_ (by decide +kernel) (pa_cons (pv 0) pa_nil)) (pe_callB cLen (by rfl) bi.len_ (by decide +kernel) (pa_cons (pv 1) pa_nil)) (nomark _))
   (pss_one (ps_ret pe_bl))
   pss_nil)
   (pss_cons (ps_for PassesOwn.never rfl (RZ.pi_zipA (by rfl) bi.zip_ (pa_cons (pv 0) (pa_cons (pv 1) pa_nil))) (pg_tup rfl (pgs_cons (pg_name (i := 2) sc_same.nd rfl (Or.inl rfl)) (pgs_cons (pg_name (i := 3) sc_same.nd rfl (Or.inl rfl)) pgs_nil)))
   (pss_one (ps_if (pt_not (pt_val (pe_call G_same (hr.mono (by first | decide | exact Nat.le_refl _)) (by rfl) D_same.g D_same.F.kp D_same.b .nil pass0 (pa_cons (pv 2) (pa_cons (pv 3) pa_nil)))))
   (pss_one (ps_ret pe_bl))
   pss_nil)))
   (pss_one (ps_ret pe_bl)))))))))), ?_⟩
        refine rd_start (σ := [some (.ref a), some (.ref b), none, none]) rfl ?_
        have L1 := h1.1
        have L2 := h2.1
        walk_at "rd"
        refine if_noD (fun z => V.noConfusion z) ?_
        walk_at "rd"
        refine isi_ty h2.2 (d := false) (by decide +kernel) ?_
        walk_at "rd"
        refine isi_ty h2.2 (d := false) (by decide +kernel) ?_
        walk_at "rd"
        refine isi_ty h2.2 (d := false) (by decide +kernel) ?_
        walk_at "rd"
        refine isi_ty h2.2 (d := false) (by decide +kernel) ?_
        walk_at "rd"
        refine isi_ty h2.2 (d := true) (by decide +kernel) ?_
        walk_at "rd"
        refine isi_ty h1.2 (d := true) (by decide +kernel) ?_
        walk_at "rd"
        refine if_noN (by rw [hl]) ?_
        walk_at "rd"
        refine ⟨a, b, xs, ys, rfl, .inr ⟨L1, L2, ?_⟩⟩
        refine for_zipT hl (fun i σ H' => ∃ t u, σ = [some (.ref a), some (.ref b), t, u] ∧ Same H H') ⟨none, none, rfl, Same.refl _⟩ (fun i σ H1 _ hI => ?_) (fun i v u σ H1 T hv hu hI hT => ?_) (fun σ H1 hI => ?_)
        · obtain ⟨t, u, rfl, hs⟩ := hI
          exact ⟨same_seqT hs L1, same_seqT hs L2⟩
        · obtain ⟨t, u', rfl, hs⟩ := hI
          walk_at "rd"
          refine use_same (.same (hs.trans (same_new hT)) _ (HI i v u hv hu)) fun H2 hs2 => ?_
          walk_at "rd"
          exact ⟨_, _, rfl, (hs.trans (same_new hT)).trans hs2⟩
        · obtain ⟨t, u, rfl, hs⟩ := hI
          walk_at "rd"
          exact q _ hs
    ) only [↓lt_eq]
theorem ok_is_integer {f : Addr} {fd : FuncData}     (D : Dn K mg "is_integer" s_is_integer ["value"] f fd) (bi : Bi mg)      : FnOk P w K mg base CX0 1 f fd ["value"] spIsI := by
  refine lt_out ?_
  simp (disch := with_unfolding_all
    refine D.F.ok sc_is_integer (fun vs H Q E h => ?_) (fun cdv A outer s H vs Q E hr h => ?_)
    · obtain ⟨x, rfl, _⟩ := h
      rfl
    · obtain ⟨x, rfl, t, q⟩ := h
      refine ⟨_, (pss_one (ps_ret (pe_and (pe_callB call_isi (by rfl) bi.isinstance_ (by decide +kernel) (pa_cons (pv 0) (pa_cons (pe_bltn (v := .ty "int") (by rfl) bi.int_ (by decide +kernel) rfl) pa_nil))) (pe_one (pe_not (pe_callB call_isi (by rfl) bi.isinstance_ (by decide +kernel) (pa_cons (pv 0) (pa_cons (pe_bltn (v := .ty "bool") (by rfl) bi.bool_ (by decide +kernel) rfl) pa_nil)))))))), ?_⟩
      refine rd_start (σ := [some x]) rfl ?_
      cases x with
      | non => walk_at "rd"; exact q
      | bl _ => walk_at "rd"; exact q
      | int _ => walk_at "rd"; exact q
      | str _ => walk_at "rd"; exact q
      | ref a =>
        rcases t with ⟨xs, t⟩ | ⟨xs, t⟩
        · walk_at "rd"; exact q
        · walk_at "rd"; exact q
      | byt _ => exact t.elim
      | flt _ => exact t.elim
      | ty _ => exact t.elim
    ) only [↓lt_eq]
theorem ok_is_within {f : Addr} {fd : FuncData} {f_is_integer : Addr} {fd_is_integer : FuncData}    (D : Dn K mg "is_within" s_is_within ["value", "low", "high"] f fd) (bi : Bi mg) (G_is_integer : FnOk P w K mg base CX0 1 f_is_integer fd_is_integer ["value"] spIsI) (D_is_integer : Dn K mg "is_integer" s_is_integer ["value"] f_is_integer fd_is_integer)     : FnOk P w K mg base CX0 2 f fd ["value", "low", "high"] spWithin := by
  refine lt_out ?_
  simp (disch := with_unfolding_all
    refine D.F.ok sc_is_within (fun vs H Q E h => ?_) (fun cdv A outer s H vs Q E hr h => ?_)
    · obtain ⟨x, lo, hi, rfl, _⟩ := h
      rfl
    · obtain ⟨x, lo, hi, rfl, t, q⟩ := h
      refine ⟨_, (pss_one (ps_ret (pe_and (pe_call G_is_integer (hr.mono (by first | decide | exact Nat.le_refl _)) (by rfl) D_is_integer.g D_is_integer.F.kp D_is_integer.b .nil pass0 (pa_cons (pv 0) pa_nil)) (pe_one (pe_chain op_le op_le (pv 1) (pv 0) (pv 2)))))), ?_⟩
      refine rd_start (σ := [some x, some (.int lo), some (.int hi)]) rfl ?_
      walk_at "rd"
      refine use_isi t (rd_bl ?_)
      cases x with
      | int i =>
        refine if_yes (c := isI (V.int i)) rfl ?_
        walk_at "rd"
        refine rd_iteD (p := lo ≤ i) (fun c => ?_) (fun c => ?_)
        · walk_at "rd"
          have e : inI (.int i) lo hi = decide (i ≤ hi) := by simp [inI, c]
          rw [e] at q
          exact q
        · have e : inI (.int i) lo hi = false := by simp [inI, c]
          rw [e] at q
          exact q
      | non => exact iteF q
      | bl _ => exact iteF q
      | str _ => exact iteF q
      | ref _ => exact iteF q
      | byt _ => exact iteF q
      | flt _ => exact iteF q
      | ty _ => exact iteF q
    ) only [↓lt_eq]
theorem ok_check_within {f : Addr} {fd : FuncData} {f_is_within : Addr} {fd_is_within : FuncData}    (D : Dn K mg "check_within" s_check_within ["value", "low", "high"] f fd) (bi : Bi mg) (G_is_within : FnOk P w K mg base CX0 2 f_is_within fd_is_within ["value", "low", "high"] spWithin) (D_is_within : Dn K mg "is_within" s_is_within ["value", "low", "high"] f_is_within fd_is_within)     : FnOk P w K mg base CX0 3 f fd ["value", "low", "high"] spCkW := by
  refine lt_out ?_
  simp (disch := with_unfolding_all
    refine D.F.ok sc_check_within (fun vs H Q E h => ?_) (fun cdv A outer s H vs Q E hr h => ?_)
    · obtain ⟨i, lo, hi, rfl, _⟩ := h
      rfl
    · obtain ⟨i, lo, hi, rfl, h1, h2, q⟩ := h
      refine ⟨_, (pss_one (ps_if (pt_not (pt_val (pe_call G_is_within (hr.mono (by first | decide | exact Nat.le_refl _)) (by rfl) D_is_within.g D_is_within.F.kp D_is_within.b .nil pass0 (pa_cons (pv 0) (pa_cons (pv 1) (pa_cons (pv 2) pa_nil))))))
   (pss_one ps_never)
   pss_nil)), ?_⟩
      refine rd_start (σ := [some (.int i), some (.int lo), some (.int hi)]) rfl ?_
      walk_at "rd"
      refine rd_iteN (p := lo ≤ i ∧ i ≤ hi) (fun c => (c ⟨h1, h2⟩).elim) (fun c => ?_)
      exact q
    ) only [↓lt_eq]
theorem ok_check_items {f : Addr} {fd : FuncData} {f_is_integer : Addr} {fd_is_integer : FuncData}    (D : Dn K mg "check_items" s_check_items ["values"] f fd) (bi : Bi mg) (G_is_integer : FnOk P w K mg base CX0 1 f_is_integer fd_is_integer ["value"] spIsI) (D_is_integer : Dn K mg "is_integer" s_is_integer ["value"] f_is_integer fd_is_integer)     : FnOk P w K mg base CX0 2 f fd ["values"] (spItems K) := by
  refine lt_out ?_
  simp (disch := with_unfolding_all
    refine D.F.ok sc_check_items (fun vs H Q E h => ?_) (fun cdv A outer s H vs Q E hr h => ?_)
    · obtain ⟨a, ns, rfl, _⟩ := h
      rfl
    · obtain ⟨a, ns, rfl, hS, q⟩ := h
      refine ⟨_, (pss_one (ps_for PassesOwn.never rfl (pi_enum (by rfl) bi.enumerate_ (pa_cons (pv 0) pa_nil)) (pg_tup rfl (pgs_cons (pg_name (i := 1) sc_check_items.nd rfl (Or.inl rfl)) (pgs_cons (pg_name (i := 2) sc_check_items.nd rfl (Or.inl rfl)) pgs_nil)))
   (pss_one (ps_if (pt_not (pt_val (pe_call G_is_integer (hr.mono (by first | decide | exact Nat.le_refl _)) (by rfl) D_is_integer.g D_is_integer.F.kp D_is_integer.b .nil pass0 (pa_cons (pv 2) pa_nil))))
   (pss_one ps_never)
   pss_nil)))), ?_⟩
      refine rd_start (σ := [some (.ref a), none, none]) rfl ?_
      walk_at "rd"
      refine rd_lpE hS ?_
      refine for_enum (xs := ns.map V.int) (fun i σ H' => ∃ t u, σ = [some (.ref a), t, u] ∧ Same H H') ⟨none, none, rfl, Same.refl _⟩ (fun i σ H1 _ hI => ?_) (fun i v σ H1 T hv hI hT => ?_) (fun σ H1 hI => ?_)
      · obtain ⟨t, u, rfl, hs⟩ := hI
        exact hs.seq hS
      · obtain ⟨t, u, rfl, hs⟩ := hI
        obtain ⟨z, rfl⟩ : ∃ z, v = .int z := by
          rw [List.getElem?_map] at hv
          cases g : ns[i]? with
          | none => rw [g] at hv; cases hv
          | some z => rw [g] at hv; exact ⟨z, (Option.some.inj hv).symm⟩
        walk_at "rd"
        exact ⟨_, _, rfl, hs.trans (same_new hT)⟩
      · obtain ⟨t, u, rfl, hs⟩ := hI
        walk_at "rd"
        exact q _ hs
    ) only [↓lt_eq]
theorem ok_check_block {f : Addr} {fd : FuncData} {f_check_items : Addr} {fd_check_items : FuncData}    (D : Dn K mg "check_block" s_check_block ["values", "least"] f fd) (bi : Bi mg) (G_check_items : FnOk P w K mg base CX0 2 f_check_items fd_check_items ["values"] (spItems K)) (D_check_items : Dn K mg "check_items" s_check_items ["values"] f_check_items fd_check_items)    (g_BLOCK_LIMIT : ∃ t, mg "BLOCK_LIMIT" = some (.int 64 t)) : FnOk P w K mg base CX0 3 f fd ["values", "least"] spBlock := by
  refine lt_out ?_
  simp (disch := with_unfolding_all
    refine D.F.ok sc_check_block (fun vs H Q E h => ?_) (fun cdv A outer s H vs Q E hr h => ?_)
    · obtain ⟨a, ns, least, rfl, _⟩ := h
      rfl
    · obtain ⟨a, ns, least, rfl, hS, h1, h2, q⟩ := h
      obtain ⟨t64, g_BLOCK_LIMIT⟩ := g_BLOCK_LIMIT
      refine ⟨_, (pss_cons (ps_if (PW.pt (pw_or (pt_not (pt_val (pe_callB call_isi (by rfl) bi.isinstance_ (by decide +kernel) (pa_cons (pv 0) (pa_cons (pe_bltn (v := .ty "list") (by rfl) bi.list_ (by decide +kernel) rfl) pa_nil))))) (pw_or1 (pt_not (pt_chain op_le op_le (pv 1) (pe_callB cLen (by rfl) bi.len_ (by decide +kernel) (pa_cons (pv 0) pa_nil)) (pe_glob (v := .int 64) (by rfl) g_BLOCK_LIMIT ⟨_, rfl⟩))))))
   (pss_one ps_never)
   pss_nil)
   (pss_one (ps_expr (pe_call G_check_items (hr.mono (by first | decide | exact Nat.le_refl _)) (by rfl) D_check_items.g D_check_items.F.kp D_check_items.b .nil pass0 (pa_cons (pv 0) pa_nil))))), ?_⟩
      refine rd_start (σ := [some (.ref a), some (.int least)]) rfl ?_
      walk_at "rd"
      refine if_yesD (by rw [List.length_map]; exact h1) ?_
      walk_at "rd"
      refine if_noN (by rw [List.length_map]; omega) ?_
      walk_at "rd"
      exact q _ (by assumption)
    ) only [↓lt_eq]
theorem ok_is_table {f : Addr} {fd : FuncData} {f_is_integer : Addr} {fd_is_integer : FuncData} {f_is_within : Addr} {fd_is_within : FuncData}    (D : Dn K mg "is_table" s_is_table ["value"] f fd) (bi : Bi mg) (G_is_integer : FnOk P w K mg base CX0 1 f_is_integer fd_is_integer ["value"] spIsI) (D_is_integer : Dn K mg "is_integer" s_is_integer ["value"] f_is_integer fd_is_integer) (G_is_within : FnOk P w K mg base CX0 2 f_is_within fd_is_within ["value", "low", "high"] spWithin) (D_is_within : Dn K mg "is_within" s_is_within ["value", "low", "high"] f_is_within fd_is_within)    (g_COUNT_LIMIT : ∃ t, mg "COUNT_LIMIT" = some (.int 15 t)) : FnOk P w K mg base CX0 3 f fd ["value"] (spTblG K) := by
  refine lt_out ?_
  simp (disch := with_unfolding_all
    refine D.F.ok sc_is_table (fun vs H Q E h => ?_) (fun cdv A outer s H vs Q E hr h => ?_)
    · obtain ⟨a, t, m, rfl, _⟩ := h
      rfl
    · obtain ⟨a, t, m, rfl, h1, ok, q⟩ := h
      obtain ⟨t1, g_COUNT_LIMIT⟩ := g_COUNT_LIMIT
      have L1 := h1.1
      obtain ⟨o1, o2, o3, o4⟩ := ok
      refine ⟨_, (pss_cons (ps_if (PW.pt (pw_or (pt_not (pt_val (pe_callB call_isi (by rfl) bi.isinstance_ (by decide +kernel) (pa_cons (pv 0) (pa_cons (pe_bltn (v := .ty "tuple") (by rfl) bi.tuple_ (by decide +kernel) rfl) pa_nil))))) (pw_or1 (pt_cmpR op_ne (pe_callB cLen (by rfl) bi.len_ (by decide +kernel) (pa_cons (pv 0) pa_nil)) pe_int (nomark _)))))
   (pss_one (ps_ret pe_bl))
   pss_nil)
   (pss_cons (ps_asg (pv 0) (pg_tup rfl (pgs_cons (pg_name (i := 1) sc_is_table.nd rfl (Or.inl rfl)) (pgs_cons (pg_name (i := 2) sc_is_table.nd rfl (Or.inl rfl)) pgs_nil))))
   (pss_one (ps_ret (pe_and (pe_call G_is_integer (hr.mono (by first | decide | exact Nat.le_refl _)) (by rfl) D_is_integer.g D_is_integer.F.kp D_is_integer.b .nil pass0 (pa_cons (pv 1) pa_nil)) (pe_and (pe_cmpR op_ge (pv 1) pe_int (nomark _)) (pe_one (pe_call G_is_within (hr.mono (by first | decide | exact Nat.le_refl _)) (by rfl) D_is_within.g D_is_within.F.kp D_is_within.b .nil pass0 (pa_cons (pv 2) (pa_cons pe_int (pa_cons (pe_glob (v := .int 15) (by rfl) g_COUNT_LIMIT ⟨_, rfl⟩) pa_nil))))))))))), ?_⟩
      refine rd_start (σ := [some (.ref a), none, none]) rfl ?_
      walk_at "rd"
      refine isi_ty h1.2 (d := true) (by decide +kernel) ?_
      walk_at "rd"
      refine if_noN rfl ?_
      walk_at "rd"
      rw [decide_eq_true (show t.1 ≥ 0 from o1)]
      walk_at "rd"
      rw [decide_eq_true (show 1 ≤ t.2 ∧ t.2 ≤ 15 from ⟨o3, o4⟩)]
      exact q
    ) only [↓lt_eq]
theorem ok_is_tables {f : Addr} {fd : FuncData} {f_is_table : Addr} {fd_is_table : FuncData}    (D : Dn K mg "is_tables" s_is_tables ["value"] f fd) (bi : Bi mg) (G_is_table : FnOk P w K mg base CX0 3 f_is_table fd_is_table ["value"] (spTblG K)) (D_is_table : Dn K mg "is_table" s_is_table ["value"] f_is_table fd_is_table)     : FnOk P w K mg base CX0 4 f fd ["value"] (spTblsG K) := by
  refine lt_out ?_
  simp (disch := with_unfolding_all
    refine D.F.ok sc_is_tables (fun vs H Q E h => ?_) (fun cdv A outer s H vs Q E hr h => ?_)
    · obtain ⟨a, T, m, rfl, _⟩ := h
      rfl
    · obtain ⟨a, T, m, rfl, ⟨r0, r1, h0, h1, h2⟩, o1, o2, q⟩ := h
      have L1 := h0.1
      refine ⟨_, (pss_one (ps_ret (pe_and (pe_callB call_isi (by rfl) bi.isinstance_ (by decide +kernel) (pa_cons (pv 0) (pa_cons (pe_bltn (v := .ty "tuple") (by rfl) bi.tuple_ (by decide +kernel) rfl) pa_nil))) (pe_and (pe_cmpR op_eq (pe_callB cLen (by rfl) bi.len_ (by decide +kernel) (pa_cons (pv 0) pa_nil)) pe_int (nomark _)) (pe_and (pe_call G_is_table (hr.mono (by first | decide | exact Nat.le_refl _)) (by rfl) D_is_table.g D_is_table.F.kp D_is_table.b .nil pass0 (pa_cons (pe_ix ix_tup (pv 0) pe_int (fun _ _ => rfl)) pa_nil)) (pe_one (pe_call G_is_table (hr.mono (by first | decide | exact Nat.le_refl _)) (by rfl) D_is_table.g D_is_table.F.kp D_is_table.b .nil pass0 (pa_cons (pe_ix ix_tup (pv 0) pe_int (fun _ _ => rfl)) pa_nil)))))))), ?_⟩
      refine rd_start (σ := [some (.ref a)]) rfl ?_
      walk_at "rd"
      refine isi_ty h0.2 (d := true) (by decide +kernel) ?_
      walk_at "rd"
      refine if_yesD rfl ?_
      walk_at "rd"
      refine use_tblG h1 o1 ?_
      walk_at "rd"
      refine use_tblG h2 o2 ?_
      exact q
    ) only [↓lt_eq]
theorem ok_parameter {f : Addr} {fd : FuncData} {f_is_table : Addr} {fd_is_table : FuncData}    (D : Dn K mg "parameter" s_parameter ["table"] f fd) (bi : Bi mg) (G_is_table : FnOk P w K mg base CX0 3 f_is_table fd_is_table ["value"] (spTblG K)) (D_is_table : Dn K mg "is_table" s_is_table ["value"] f_is_table fd_is_table)     : FnOk P w K mg base CX0 4 f fd ["table"] (spParG K) := by
  refine lt_out ?_
  simp (disch := with_unfolding_all
    refine D.F.ok sc_parameter (fun vs H Q E h => ?_) (fun cdv A outer s H vs Q E hr h => ?_)
    · obtain ⟨a, t, m, rfl, _⟩ := h
      rfl
    · obtain ⟨a, t, m, rfl, h1, ok, q⟩ := h
      have L1 := h1.1
      refine ⟨_, (pss_cons (ps_if (pt_not (pt_val (pe_call G_is_table (hr.mono (by first | decide | exact Nat.le_refl _)) (by rfl) D_is_table.g D_is_table.F.kp D_is_table.b .nil pass0 (pa_cons (pv 0) pa_nil))))
   (pss_one ps_never)
   pss_nil)
   (pss_cons (ps_asg (pv 0) (pg_tup rfl (pgs_cons (pg_name (i := 1) sc_parameter.nd rfl (Or.inl rfl)) (pgs_cons (pg_name (i := 2) sc_parameter.nd rfl (Or.inl rfl)) pgs_nil))))
   (pss_cons (ps_set (i := 3) sc_parameter.nd rfl (Or.inl rfl) (pe_op op_fdiv (pe_op op_sub (pe_op op_add (pv 1) (pv 2)) pe_int) (pv 2)))
   (pss_one (ps_ret (pe_bits (pe_op op_sub (pe_callB (cMax rfl) (by rfl) bi.max_ (by decide +kernel) (pa_cons (pv 3) (pa_cons pe_int pa_nil))) pe_int))))))), ?_⟩
      refine rd_start (σ := [some (.ref a), none, none, none]) rfl ?_
      walk_at "rd"
      refine use_tblG h1 ok ?_
      obtain ⟨o1, o2, o3, o4⟩ := ok
      walk_at "rd"
      exact q
    ) only [↓lt_eq]
theorem ok_table_behind {f : Addr} {fd : FuncData}     (D : Dn K mg "table_behind" s_table_behind ["table", "code"] f fd) (bi : Bi mg)     (g_COUNT_LIMIT : ∃ t, mg "COUNT_LIMIT" = some (.int 15 t)) (g_HALVED_COUNT : ∃ t, mg "HALVED_COUNT" = some (.int 8 t)) : FnOk P w K mg base CX0 1 f fd ["table", "code"] (spBehind K) := by
  refine lt_out ?_
  simp (disch := with_unfolding_all
    refine D.F.ok sc_table_behind (fun vs H Q E h => ?_) (fun cdv A outer s H vs Q E hr h => ?_)
    · obtain ⟨a, t, m, u, rfl, _⟩ := h
      rfl
    · obtain ⟨a, t, m, u, rfl, h1, ok, q⟩ := h
      obtain ⟨t1, g_COUNT_LIMIT⟩ := g_COUNT_LIMIT
      obtain ⟨t2, g_HALVED_COUNT⟩ := g_HALVED_COUNT
      have L1 := h1.1
      refine ⟨_, (pss_cons (ps_par (i := 2) (j := 3) rfl sc_table_behind.nd rfl rfl (by decide) rfl rfl (pa_cons (pe_op op_add (pe_ix ix_tup (pv 0) pe_int (fun _ _ => rfl)) (pv 1)) (pa_cons (pe_op op_add (pe_ix ix_tup (pv 0) pe_int (fun _ _ => rfl)) pe_int) pa_nil)) rfl)
   (pss_cons (ps_if (pt_cmpR op_gt (pv 3) (pe_glob (v := .int 15) (by rfl) g_COUNT_LIMIT ⟨_, rfl⟩) (nomark _))
   (pss_one (ps_ret (pe_tup (pa_cons (pe_op op_fdiv (pv 2) pe_int) (pa_cons (pe_glob (v := .int 8) (by rfl) g_HALVED_COUNT ⟨_, rfl⟩) pa_nil)))))
   pss_nil)
   (pss_one (ps_ret (pe_tup (pa_cons (pv 2) (pa_cons (pv 3) pa_nil))))))), ?_⟩
      refine rd_start (σ := [some (.ref a), some (.int (u : Int)), none, none]) rfl ?_
      walk_at "rd"
      refine rd_iteD (fun c => ?_) (fun c => ?_)
      · walk_at "rd"
        rename_i p hp
        have e : tbB t u = ((t.1 + (u : Int)) / 2, 8) := if_pos c
        rw [e] at q
        exact q p hp
      · walk_at "rd"
        rename_i p hp
        have e : tbB t u = (t.1 + (u : Int), t.2 + 1) := if_neg c
        rw [e] at q
        exact q p hp
    ) only [↓lt_eq]
theorem ok_code_number {f : Addr} {fd : FuncData}     (D : Dn K mg "code_number" s_code_number ["number"] f fd) (bi : Bi mg)      : FnOk P w K mg base CX0 1 f fd ["number"] spCode := by
  refine lt_out ?_
  simp (disch := with_unfolding_all
    refine D.F.ok sc_code_number (fun vs H Q E h => ?_) (fun cdv A outer s H vs Q E hr h => ?_)
    · obtain ⟨n, rfl, _⟩ := h
      rfl
    · obtain ⟨n, rfl, q⟩ := h
      refine ⟨_, (pss_one (ps_ret (pe_ifExp (pt_cmpR op_ge (pv 0) pe_int (nomark _)) (pe_op op_mul pe_int (pv 0)) (pe_op op_sub (pe_op op_mul (pe_un un_neg pe_int) (pv 0)) pe_int)))), ?_⟩
      refine rd_start (σ := [some (.int n)]) rfl ?_
      walk_at "rd"
      refine rd_iteD (fun c => ?_) (fun c => ?_)
      · walk_at "rd"
        have e : codeU n = 2 * n := if_pos c
        rw [e] at q
        exact q
      · walk_at "rd"
        have e : codeU n = -2 * n - 1 := if_neg c
        rw [e] at q
        exact q
    ) only [↓lt_eq]
theorem ok_number_with {f : Addr} {fd : FuncData}     (D : Dn K mg "number_with" s_number_with ["code"] f fd) (bi : Bi mg)      : FnOk P w K mg base CX0 1 f fd ["code"] spNumW := by
  refine lt_out ?_
  simp (disch := with_unfolding_all
    refine D.F.ok sc_number_with (fun vs H Q E h => ?_) (fun cdv A outer s H vs Q E hr h => ?_)
    · obtain ⟨u, rfl, _⟩ := h
      rfl
    · obtain ⟨u, rfl, q⟩ := h
      refine ⟨_, (pss_one (ps_ret (pe_ifExp (pt_cmpR op_eq (pe_op op_mod (pv 0) pe_int) pe_int (nomark _)) (pe_op op_fdiv (pv 0) pe_int) (pe_op op_sub (pe_un un_neg (pe_op op_fdiv (pv 0) pe_int)) pe_int)))), ?_⟩
      refine rd_start (σ := [some (.int (u : Int))]) rfl ?_
      walk_at "rd"
      refine rd_iteD (fun c => ?_) (fun c => ?_)
      · have e : unU u = ((u / 2 : Nat) : Int) := if_pos (by have := V.int.inj c; omega)
        rw [e, ← half_nat] at q
        walk_at "rd"
        exact q
      · have e : unU u = -((u / 2 : Nat) : Int) - 1 := if_neg (fun z => c (congrArg V.int (by omega)))
        rw [e, ← half_nat] at q
        walk_at "rd"
        exact q
    ) only [↓lt_eq]
theorem ok_code_bits {f : Addr} {fd : FuncData}     (D : Dn K mg "code_bits" s_code_bits ["code", "k"] f fd) (bi : Bi mg)     (g_LONG_FORM : ∃ t, mg "LONG_FORM" = some (.int 20 t)) : FnOk P w K mg base CX0 1 f fd ["code", "k"] spBitsL := by
  refine lt_out ?_
  simp (disch := with_unfolding_all
    refine D.F.ok sc_code_bits (fun vs H Q E h => ?_) (fun cdv A outer s H vs Q E hr h => ?_)
    · obtain ⟨u, k, rfl, _⟩ := h
      rfl
    · obtain ⟨u, k, rfl, hk, hu, q⟩ := h
      obtain ⟨t1, g_LONG_FORM⟩ := g_LONG_FORM
      refine ⟨_, (pss_cons (ps_set (i := 2) sc_code_bits.nd rfl (Or.inl rfl) (pe_joined1 (pe_fmtb (pv 0) (pe_joined1 pe_str))))
   (pss_cons (ps_set (i := 3) sc_code_bits.nd rfl (Or.inl rfl) (pe_op op_shr (pv 0) (pv 1)))
   (pss_cons (ps_if (pt_cmpR op_lt (pv 3) (pe_glob (v := .int 20) (by rfl) g_LONG_FORM ⟨_, rfl⟩) (nomark _))
   (pss_cons (ps_set (i := 4) sc_code_bits.nd rfl (Or.inl rfl) (pe_bm PySem.F.plainAttrs_str PySem.F.slot_str_zfill PySem.F.type_str_zfill mt_zf (pv 2) (pa_cons (pv 1) pa_nil)))
   (pss_one (ps_ret (pe_op op_addT (pe_op op_addT (pe_op op_mulT pe_str (pv 3)) pe_str) (pe_slice C8.sl_txt (pv 4) (po_some (pe_op op_sub (pe_callB cLen (by rfl) bi.len_ (by decide +kernel) (pa_cons (pv 4) pa_nil)) (pv 1))) po_none)))))
   pss_nil)
   (pss_one (ps_ret (pe_op op_addT (pe_op op_addT (pe_op op_mulT pe_str (pe_op op_sub (pe_op op_add (pe_glob (v := .int 20) (by rfl) g_LONG_FORM ⟨_, rfl⟩) (pe_callB cLen (by rfl) bi.len_ (by decide +kernel) (pa_cons (pv 2) pa_nil))) pe_int)) pe_str) (pv 2))))))), ?_⟩
      refine rd_start (σ := [some (.int (u : Int)), some (.int (k : Int)), none, none, none]) rfl ?_
      walk_at "rd"
      refine rd_iteD (fun c => ?_) (fun c => ?_)
      · have c2 : u / 2 ^ k < 20 := Int.ofNat_lt.mp c
        have e : encB u k = List.replicate (u / 2 ^ k) 49 ++ [48] ++ lowB u k := if_pos c2
        rw [e] at q
        clear c e
        generalize u / 2 ^ k = g at c2 q ⊢
        walk_at "rd"
        refine rd_zf (by omega) (lowB_bin _ _) ?_
        rw [binB_length]
        have hd := low_fill u k
        have hk2 : k ≤ (if k ≤ nb u then binB u else List.replicate (k - nb u) 48 ++ binB u).length := by
          split
          · rw [binB_length]; omega
          · rw [List.length_append, List.length_replicate, binB_length]; omega
        have hl2 : (if k ≤ nb u then binB u else List.replicate (k - nb u) 48 ++ binB u).length ≤ 200000 := by
          split
          · rw [binB_length]; omega
          · rw [List.length_append, List.length_replicate, binB_length]; omega
        generalize (if k ≤ nb u then binB u else List.replicate (k - nb u) 48 ++ binB u) = P at hd hk2 hl2 ⊢
        walk_at "rd"
        rw [show ((P.length : Nat) : Int) - (k : Int) = ((P.length - k : Nat) : Int) by omega]
        walk_at "rd"
        rw [hd]
        exact q
      · have c2 : ¬ u / 2 ^ k < 20 := fun z => c (Int.ofNat_lt.mpr z)
        have e : encB u k = List.replicate (19 + nb u) 49 ++ [48] ++ binB u := if_neg c2
        rw [e] at q
        have hbl := binB_length u
        walk_at "rd"
        rw [hbl, show (20 : Int) + (nb u : Nat) - 1 = ((19 + nb u : Nat) : Int) by omega]
        walk_at "rd"
        exact q
    ) only [↓lt_eq]
theorem ok_check_coding {f : Addr} {fd : FuncData} {f_check_within : Addr} {fd_check_within : FuncData} {f_is_tables : Addr} {fd_is_tables : FuncData}    (D : Dn K mg "check_coding" s_check_coding ["length", "coarse", "tables"] f fd) (bi : Bi mg) (G_check_within : FnOk P w K mg base CX0 3 f_check_within fd_check_within ["value", "low", "high"] spCkW) (D_check_within : Dn K mg "check_within" s_check_within ["value", "low", "high"] f_check_within fd_check_within) (G_is_tables : FnOk P w K mg base CX0 4 f_is_tables fd_is_tables ["value"] (spTblsG K)) (D_is_tables : Dn K mg "is_tables" s_is_tables ["value"] f_is_tables fd_is_tables)     : FnOk P w K mg base CX0 5 f fd ["length", "coarse", "tables"] (spCoding K) := by
  refine lt_out ?_
  simp (disch := with_unfolding_all
    refine D.F.ok sc_check_coding (fun vs H Q E h => ?_) (fun cdv A outer s H vs Q E hr h => ?_)
    · obtain ⟨n, first, a, T, m, rfl, _⟩ := h
      rfl
    · obtain ⟨n, first, a, T, m, rfl, h1, h2, o1, o2, q⟩ := h
      refine ⟨_, (pss_cons (ps_expr (pe_call G_check_within (hr.mono (by first | decide | exact Nat.le_refl _)) (by rfl) D_check_within.g D_check_within.F.kp D_check_within.b .nil pass0 (pa_cons (pv 1) (pa_cons pe_int (pa_cons (pv 0) pa_nil)))))
   (pss_one (ps_if (pt_not (pt_val (pe_call G_is_tables (hr.mono (by first | decide | exact Nat.le_refl _)) (by rfl) D_is_tables.g D_is_tables.F.kp D_is_tables.b .nil pass0 (pa_cons (pv 2) pa_nil))))
   (pss_one ps_never)
   pss_nil))), ?_⟩
      refine rd_start (σ := [some (.int (n : Int)), some (.int (first : Int)), some (.ref a)]) rfl ?_
      walk_at "rd"
      refine use_tblsG h2 o1 o2 ?_
      walk_at "rd"
      exact q
    ) only [↓lt_eq]
theorem ok_write_numbers {f : Addr} {fd : FuncData} {f_check_block : Addr} {fd_check_block : FuncData} {f_check_coding : Addr} {fd_check_coding : FuncData} {f_code_number : Addr} {fd_code_number : FuncData} {f_code_bits : Addr} {fd_code_bits : FuncData} {f_parameter : Addr} {fd_parameter : FuncData} {f_table_behind : Addr} {fd_table_behind : FuncData}    (D : Dn K mg "write_numbers" s_write_numbers ["numbers", "coarse", "tables"] f fd) (bi : Bi mg) (G_check_block : FnOk P w K mg base CX0 3 f_check_block fd_check_block ["values", "least"] spBlock) (D_check_block : Dn K mg "check_block" s_check_block ["values", "least"] f_check_block fd_check_block) (G_check_coding : FnOk P w K mg base CX0 5 f_check_coding fd_check_coding ["length", "coarse", "tables"] (spCoding K)) (D_check_coding : Dn K mg "check_coding" s_check_coding ["length", "coarse", "tables"] f_check_coding fd_check_coding) (G_code_number : FnOk P w K mg base CX0 1 f_code_number fd_code_number ["number"] spCode) (D_code_number : Dn K mg "code_number" s_code_number ["number"] f_code_number fd_code_number) (G_code_bits : FnOk P w K mg base CX0 1 f_code_bits fd_code_bits ["code", "k"] spBitsL) (D_code_bits : Dn K mg "code_bits" s_code_bits ["code", "k"] f_code_bits fd_code_bits) (G_parameter : FnOk P w K mg base CX0 4 f_parameter fd_parameter ["table"] (spParG K)) (D_parameter : Dn K mg "parameter" s_parameter ["table"] f_parameter fd_parameter) (G_table_behind : FnOk P w K mg base CX0 1 f_table_behind fd_table_behind ["table", "code"] (spBehind K)) (D_table_behind : Dn K mg "table_behind" s_table_behind ["table", "code"] f_table_behind fd_table_behind)     : FnOk P w K mg base CX0 6 f fd ["numbers", "coarse", "tables"] (spWrB K) := by
  refine lt_out ?_
  simp (disch := with_unfolding_all
    refine D.F.ok sc_write_numbers (fun vs H Q E h => ?_) (fun cdv A outer s H vs Q E hr h => ?_)
    · obtain ⟨a, ns, first, b, T, rfl, _⟩ := h
      rfl
    · obtain ⟨a, ns, first, b, T, rfl, e1, hl, hf, hn, hT, ok, hfz, q⟩ := h
      refine ⟨_, (pss_cons (ps_expr (pe_call G_check_block (hr.mono (by first | decide | exact Nat.le_refl _)) (by rfl) D_check_block.g D_check_block.F.kp D_check_block.b .nil pass0 (pa_cons (pv 0) (pa_cons pe_int pa_nil))))
   (pss_cons (ps_expr (pe_call G_check_coding (hr.mono (by first | decide | exact Nat.le_refl _)) (by rfl) D_check_coding.g D_check_coding.F.kp D_check_coding.b .nil pass0 (pa_cons (pe_callB cLen (by rfl) bi.len_ (by decide +kernel) (pa_cons (pv 0) pa_nil)) (pa_cons (pv 1) (pa_cons (pv 2) pa_nil)))))
   (pss_cons (ps_set (i := 3) sc_write_numbers.nd rfl (Or.inl rfl) (pe_callTy cList (by rfl) bi.list_ (by decide +kernel) (pa_cons (pv 2) pa_nil)))
   (pss_cons (ps_set (i := 4) sc_write_numbers.nd rfl (Or.inl rfl) (pe_lst pa_nil))
   (pss_cons (ps_for PassesOwn.never rfl (pi_enum (by rfl) bi.enumerate_ (pa_cons (pv 0) pa_nil)) (pg_tup rfl (pgs_cons (pg_name (i := 5) sc_write_numbers.nd rfl (Or.inl rfl)) (pgs_cons (pg_name (i := 6) sc_write_numbers.nd rfl (Or.inl rfl)) pgs_nil)))
   (pss_cons (ps_set (i := 7) sc_write_numbers.nd rfl (Or.inl rfl) (pe_ifExp (pt_cmpR op_lt (pv 5) (pv 1) (nomark _)) pe_int pe_int))
   (pss_cons (ps_set (i := 8) sc_write_numbers.nd rfl (Or.inl rfl) (pe_call G_code_number (hr.mono (by first | decide | exact Nat.le_refl _)) (by rfl) D_code_number.g D_code_number.F.kp D_code_number.b .nil pass0 (pa_cons (pv 6) pa_nil)))
   (pss_cons (ps_expr (pe_bm PySem.F.plainAttrs_list PySem.F.slot_list_append PySem.F.type_list_append mt_append (pv 4) (pa_cons (pe_call G_code_bits (hr.mono (by first | decide | exact Nat.le_refl _)) (by rfl) D_code_bits.g D_code_bits.F.kp D_code_bits.b .nil pass0 (pa_cons (pv 8) (pa_cons (pe_call G_parameter (hr.mono (by first | decide | exact Nat.le_refl _)) (by rfl) D_parameter.g D_parameter.F.kp D_parameter.b .nil pass0 (pa_cons (pe_ix ix_list (pv 3) (pv 7) (fun _ _ => rfl)) pa_nil)) pa_nil))) pa_nil)))
   (pss_one (ps_asg (pe_call G_table_behind (hr.mono (by first | decide | exact Nat.le_refl _)) (by rfl) D_table_behind.g D_table_behind.F.kp D_table_behind.b .nil pass0 (pa_cons (pe_ix ix_list (pv 3) (pv 7) (fun _ _ => rfl)) (pa_cons (pv 8) pa_nil))) (pg_sub (pv 3) (pv 7) set_list)))))))
   (pss_one (ps_ret (pe_tup (pa_cons (pe_bm PySem.F.plainAttrs_str PySem.F.slot_str_join PySem.F.type_str_join mt_joinK pe_str (pa_cons (pv 4) pa_nil)) (pa_cons (pe_callTy cTuple (by rfl) bi.tuple_ (by decide +kernel) (pa_cons (pv 3) pa_nil)) pa_nil)))))))))), ?_⟩
      refine rd_start (σ := [some (.ref a), some (.int (first : Int)), some (.ref b), none, none, none, none, none, none]) rfl ?_
      walk_at "rd"
      rename_i H1 hs1
      rw [List.length_map]
      obtain ⟨⟨o1, _⟩, ⟨o2, _⟩⟩ := ok 0 (Nat.zero_le _)
      refine use_coding hf (hT.lk (.of hs1)) o1 o2 ?_
      obtain ⟨r0, r1, h0, h1, h2⟩ := hT.lk (.of hs1)
      walk_at "rd"
      refine rd_listQ h0.1 fun p hp => ?_
      walk_at "rd"
      rename_i w hw
      have hs2 : Same H (upd (upd H1 p (.lst [.ref r0, .ref r1])) w (.lst [])) := (hs1.trans (same_new hp)).trans (same_new hw)
      have hpn : H p = none := hs1.free hp
      have hwn : H w = none := (hs1.trans (same_new hp)).free hw
      have hpw : p ≠ w := ne_of_none upd_same hw
      have hwp := hpw.symm
      refine rd_lpE (SqL.of (hs2 _ _ e1)) ?_
      refine for_enum (xs := ns.map V.int) (fun i σ H' => ∃ r0 r1 x5 x6 x7 x8, σ = [some (.ref a), some (.int (first : Int)), some (.ref b), some (.ref p), some (.ref w), x5, x6, x7, x8] ∧ H' p = some (.lst [.ref r0, .ref r1]) ∧ H' w = some (.lst ((wst ns first T i).1.map fun l => V.str (SX.S l))) ∧ TbV K H' r0 (wst ns first T i).2.1 ∧ TbV K H' r1 (wst ns first T i).2.2 ∧ Same H H') ⟨r0, r1, none, none, none, none, rfl, look_new hw upd_same, upd_same, (h1.lk (.new hp)).lk (.new hw), (h2.lk (.new hp)).lk (.new hw), hs2⟩ (fun i σ H' _ hI => ?_) (fun i v σ H' t hv hI ht => ?_) (fun σ H' hI => ?_)
      · obtain ⟨r0, r1, x5, x6, x7, x8, rfl, h3, h3w, h4, h5, hs⟩ := hI
        exact SqL.of (hs _ _ e1)
      · obtain ⟨r0, r1, x5, x6, x7, x8, rfl, h3, h3w, h4, h5, hs⟩ := hI
        have hil : i < ns.length := by
          have z := (List.getElem?_eq_some_iff.mp hv).1
          rw [List.length_map] at z
          exact z
        obtain ⟨z, rfl, hz⟩ : ∃ z, v = .int z ∧ ns.getD i 0 = z := by
          rw [List.getElem?_map] at hv
          cases g : ns[i]? with
          | none => rw [g] at hv; cases hv
          | some z => rw [g] at hv; exact ⟨z, (Option.some.inj hv).symm, getD_some g⟩
        obtain ⟨kk1, kk2⟩ := ok i (by omega)
        have k1 := kk1.1
        have k2 := kk2.1
        have hu : nb (uOf z) ≤ 15000 := hn z (by rw [← hz, List.getD_eq_getElem?_getD, List.getElem?_eq_getElem hil]; exact List.getElem_mem hil)
        have hwl := wst_len ns first T i
        have t4 : TbV K (upd H' t (.tup [.int (i : Nat), .int z])) r0 (wst ns first T i).2.1 := h4.lk (.new ht)
        have t5 : TbV K (upd H' t (.tup [.int (i : Nat), .int z])) r1 (wst ns first T i).2.2 := h5.lk (.new ht)
        have u3 := look_new (o := .tup [.int (i : Nat), .int z]) ht h3
        have u3w := look_new (o := .tup [.int (i : Nat), .int z]) ht h3w
        have hst : Same H (upd H' t (.tup [.int (i : Nat), .int z])) := hs.trans (same_new ht)
        have utt : upd H' t (.tup [.int (i : Nat), .int z]) t = some (.tup [.int (i : Nat), .int z]) := upd_same
        generalize upd H' t (.tup [.int (i : Nat), .int z]) = Ht at t4 t5 u3 u3w hst utt ⊢
        walk_at "rd"
        refine rd_iteD (fun c => ?_) (fun c => ?_)
        · have c := Int.ofNat_lt.mp c
          walk_at "rd"
          rw [← uOf_eq]
          refine use_parG t4 k1 ?_
          walk_at "rd"
          refine use_bitsL (by have := kk1.par; omega) (by omega) ?_
          walk_at "rd"
          refine rd_appG u3w (by rw [List.length_map]; omega) ?_
          have v3 := look_upd (o := .lst ((wst ns first T i).1.map (fun l => V.str (SX.S l)) ++ [.str (SX.S (encB (uOf z) (par (wst ns first T i).2.1.1 (wst ns first T i).2.1.2)))])) hpw u3
          have v4 := TbV.lk (LK.at (o := .lst ((wst ns first T i).1.map (fun l => V.str (SX.S l)) ++ [.str (SX.S (encB (uOf z) (par (wst ns first T i).2.1.1 (wst ns first T i).2.1.2)))])) u3w) t4
          have v5 := TbV.lk (LK.at (o := .lst ((wst ns first T i).1.map (fun l => V.str (SX.S l)) ++ [.str (SX.S (encB (uOf z) (par (wst ns first T i).2.1.1 (wst ns first T i).2.1.2)))])) u3w) t5
          walk_at "rd"
          skip
          refine use_behind v4 k1 fun p2 hp2 => ?_
          walk_at "rd"
          have n2p : p2 ≠ p := (ne_of_none v3 hp2).symm
          rw [wst_lo c]
          refine ⟨p2, r1, _, _, _, _, rfl, upd_same, ?_, ?_, ?_, ?_⟩
          · rw [upd_ne hwp, upd_ne (ne_of_none upd_same hp2), upd_same, List.map_append, hz]
            rfl
          · exact TbV.lk (LK.at (look_new hp2 v3)) (by rw [hz]; exact TbV.of upd_same)
          · exact TbV.lk (LK.at (look_new hp2 v3)) (TbV.lk (LK.new hp2) v5)
          · intro b2 x e
            rw [upd_ne (ne_of_none e hpn)]
            refine look_new hp2 ?_
            rw [upd_ne (ne_of_none e hwn)]
            exact hst _ _ e

        · have c : ¬ i < first := fun z => c (Int.ofNat_lt.mpr z)
          walk_at "rd"
          rw [← uOf_eq]
          refine use_parG t5 k2 ?_
          walk_at "rd"
          refine use_bitsL (by have := kk2.par; omega) (by omega) ?_
          walk_at "rd"
          refine rd_appG u3w (by rw [List.length_map]; omega) ?_
          have v3 := look_upd (o := .lst ((wst ns first T i).1.map (fun l => V.str (SX.S l)) ++ [.str (SX.S (encB (uOf z) (par (wst ns first T i).2.2.1 (wst ns first T i).2.2.2)))])) hpw u3
          have v4 := TbV.lk (LK.at (o := .lst ((wst ns first T i).1.map (fun l => V.str (SX.S l)) ++ [.str (SX.S (encB (uOf z) (par (wst ns first T i).2.2.1 (wst ns first T i).2.2.2)))])) u3w) t4
          have v5 := TbV.lk (LK.at (o := .lst ((wst ns first T i).1.map (fun l => V.str (SX.S l)) ++ [.str (SX.S (encB (uOf z) (par (wst ns first T i).2.2.1 (wst ns first T i).2.2.2)))])) u3w) t5
          walk_at "rd"
          skip
          refine use_behind v5 k2 fun p2 hp2 => ?_
          walk_at "rd"
          have n2p : p2 ≠ p := (ne_of_none v3 hp2).symm
          rw [wst_hi c]
          refine ⟨r0, p2, _, _, _, _, rfl, upd_same, ?_, ?_, ?_, ?_⟩
          · rw [upd_ne hwp, upd_ne (ne_of_none upd_same hp2), upd_same, List.map_append, hz]
            rfl
          · exact TbV.lk (LK.at (look_new hp2 v3)) (TbV.lk (LK.new hp2) v4)
          · exact TbV.lk (LK.at (look_new hp2 v3)) (by rw [hz]; exact TbV.of upd_same)
          · intro b2 x e
            rw [upd_ne (ne_of_none e hpn)]
            refine look_new hp2 ?_
            rw [upd_ne (ne_of_none e hwn)]
            exact hst _ _ e

      · obtain ⟨r0, r1, x5, x6, x7, x8, rfl, h3, h3w, h4, h5, hs⟩ := hI
        rw [List.length_map] at h3w h4 h5
        have hfl2 : (wst ns first T ns.length).1.flatten.length ≤ 16777216 := by omega
        walk_at "rd"
        rename_i q1 hq1 p1 hp1
        refine q p1 q1 _ ((hs.trans (same_new hq1)).trans (same_new hp1)) ((hs.trans (same_new hq1)).free hp1) upd_same ⟨r0, r1, .of (look_new hp1 upd_same), (h4.lk (.new hq1)).lk (.new hp1), (h5.lk (.new hq1)).lk (.new hp1)⟩
    ) only [↓lt_eq]
theorem ok_read_code {f : Addr} {fd : FuncData}     (D : Dn K mg "read_code" s_read_code ["bits", "place", "k"] f fd) (bi : Bi mg)     (g_LONG_FORM : ∃ t, mg "LONG_FORM" = some (.int 20 t)) (zdg : DgK K) : FnOk P w K mg base CX0 1 f fd ["bits", "place", "k"] spRdL := by
  refine lt_out ?_
  simp (disch := with_unfolding_all
    refine D.F.ok sc_read_code (fun vs H Q E h => ?_) (fun cdv A outer s H vs Q E hr h => ?_)
    · obtain ⟨l, pl, k, rfl, _⟩ := h
      rfl
    · obtain ⟨l, pl, k, rfl, hb, hl, hpl, hk, q1, q2⟩ := h
      obtain ⟨t1, g_LONG_FORM⟩ := g_LONG_FORM
      refine ⟨_, (pss_cons (ps_set (i := 3) sc_read_code.nd rfl (Or.inl rfl) (pe_bm PySem.F.plainAttrs_str PySem.F.slot_str_find PySem.F.type_str_find mt_find3K (pv 0) (pa_cons pe_str (pa_cons (pv 1) pa_nil))))
   (pss_cons (ps_if (pt_cmpR op_lt (pv 3) pe_int (nomark _))
   (pss_one (ps_ret pe_non))
   pss_nil)
   (pss_cons (ps_set (i := 4) sc_read_code.nd rfl (Or.inl rfl) (pe_op op_sub (pv 3) (pv 1)))
   (pss_cons (ps_set (i := 5) sc_read_code.nd rfl (Or.inl rfl) (pe_ifExp (pt_cmpR op_lt (pv 4) (pe_glob (v := .int 20) (by rfl) g_LONG_FORM ⟨_, rfl⟩) (nomark _)) (pv 2) (pe_op op_add (pe_op op_sub (pv 4) (pe_glob (v := .int 20) (by rfl) g_LONG_FORM ⟨_, rfl⟩)) pe_int)))
   (pss_cons (ps_set (i := 6) sc_read_code.nd rfl (Or.inl rfl) (pe_op op_add (pe_op op_add (pv 3) pe_int) (pv 5)))
   (pss_cons (ps_if (pt_cmpR op_gt (pv 6) (pe_callB cLen (by rfl) bi.len_ (by decide +kernel) (pa_cons (pv 0) pa_nil)) (nomark _))
   (pss_one (ps_ret pe_non))
   pss_nil)
   (pss_cons (ps_set (i := 7) sc_read_code.nd rfl (Or.inl rfl) (pe_slice C8.sl_txt (pv 0) (po_some (pe_op op_add (pv 3) pe_int)) (po_some (pv 6))))
   (pss_cons (ps_set (i := 8) sc_read_code.nd rfl (Or.inl rfl) (pe_callTy (call_intL zdg) (by rfl) bi.int_ (by decide +kernel) (pa_cons (pe_op op_addT pe_str (pv 7)) (pa_cons pe_int pa_nil))))
   (pss_cons (ps_if (pt_cmpR op_lt (pv 4) (pe_glob (v := .int 20) (by rfl) g_LONG_FORM ⟨_, rfl⟩) (nomark _))
   (pss_one (ps_ret (pe_tup (pa_cons (pe_op op_add (pe_op op_shl (pv 4) (pv 2)) (pv 8)) (pa_cons (pv 6) pa_nil)))))
   pss_nil)
   (pss_cons (ps_if (PW.pt (pw_or (pt_cmpR op_eq (pe_ix ix_str (pv 7) pe_int (fun _ _ => rfl)) pe_str (nomark _)) (pw_or1 (pt_cmpR op_lt (pe_op op_shr (pv 8) (pv 2)) (pe_glob (v := .int 20) (by rfl) g_LONG_FORM ⟨_, rfl⟩) (nomark _)))))
   (pss_one (ps_ret pe_non))
   pss_nil)
   (pss_one (ps_ret (pe_tup (pa_cons (pv 8) (pa_cons (pv 6) pa_nil))))))))))))))), ?_⟩
      refine rd_start (σ := [some (.str (SX.S l)), some (.int (pl : Int)), some (.int (k : Int)), none, none, none, none, none, none]) rfl ?_
      walk_at "rd"
      unfold rdC at q1 q2
      unfold fzI
      generalize onesL (l.drop pl) = o at q1 q2 ⊢
      by_cases hz : pl + o < l.length
      · rw [if_pos hz] at q1 q2 ⊢
        walk_at "rd"
        refine if_noD (by omega) ?_
        walk_at "rd"
        have eo : ((pl + o : Nat) : Int) - (pl : Int) = ((o : Nat) : Int) := by omega
        rw [eo]
        by_cases c : o < 20
        · rw [if_pos c] at q1 q2
          refine if_yesD (by omega) ?_
          walk_at "rd"
          rw [show ((pl + o : Nat) : Int) + 1 + (k : Int) = ((pl + o + 1 + k : Nat) : Int) by omega]
          by_cases d : l.length < pl + o + 1 + k
          · refine if_yesD (by omega) ?_
            walk_at "rd"
            exact q1 (by rw [if_pos d])
          · rw [if_neg d, if_pos c] at q2
            refine if_noD (by omega) ?_
            walk_at "rd"
            rw [show ((pl + o : Nat) : Int) + 1 = ((pl + o + 1 : Nat) : Int) by omega]
            refine rd_slSM (by omega) (by omega) (by omega) ?_
            rw [show pl + o + 1 + k - (pl + o + 1) = k by omega]
            have hdb : ∀ x ∈ (l.drop (pl + o + 1)).take k, IsB x := fun x hx => hb x (List.mem_of_mem_drop (List.mem_of_mem_take hx))
            have hdl : ((l.drop (pl + o + 1)).take k).length ≤ 16000 := by rw [List.length_take]; omega
            generalize (l.drop (pl + o + 1)).take k = dg at q2 hdb hdl ⊢
            walk_at "rd"
            refine rd_intL (l := [48] ++ dg) (by simp) (fun x hx => ?_) ?_
            · rcases List.mem_append.mp hx with hx | hx
              · exact .inl (List.mem_singleton.mp hx)
              · exact hdb x hx
            rw [show valB ([48] ++ dg) = valB dg from valB_zero dg]
            walk_at "rd"
            refine if_yesD (by omega) ?_
            walk_at "rd"
            rename_i p hp
            rw [Int.toNat_natCast, show (o : Int) * 2 ^ k + (valB dg : Nat) = ((o * 2 ^ k + valB dg : Nat) : Int) by norm_cast]
            exact q2 _ _ rfl p hp
        · rw [if_neg c] at q1 q2
          refine if_noD (by omega) ?_
          walk_at "rd"
          rw [show ((pl + o : Nat) : Int) + 1 + ((o : Nat) - 20 + 1) = ((pl + o + 1 + (o - 19) : Nat) : Int) by omega]
          by_cases d : l.length < pl + o + 1 + (o - 19)
          · refine if_yesD (by omega) ?_
            walk_at "rd"
            exact q1 (by rw [if_pos d])
          · rw [if_neg d, if_neg c] at q1 q2
            refine if_noD (by omega) ?_
            walk_at "rd"
            rw [show ((pl + o : Nat) : Int) + 1 = ((pl + o + 1 : Nat) : Int) by omega]
            refine rd_slSM (by omega) (by omega) (by omega) ?_
            rw [show pl + o + 1 + (o - 19) - (pl + o + 1) = o - 19 by omega]
            have hdb : ∀ x ∈ (l.drop (pl + o + 1)).take (o - 19), IsB x := fun x hx => hb x (List.mem_of_mem_drop (List.mem_of_mem_take hx))
            have hdl : ((l.drop (pl + o + 1)).take (o - 19)).length ≤ 16000 := by rw [List.length_take]; omega
            have hln : 0 < (l.drop (pl + o + 1)).length := by rw [List.length_drop]; omega
            have h0 : ((l.drop (pl + o + 1)).take (o - 19))[0]? = (l.drop (pl + o + 1))[0]? := by rw [List.getElem?_take, if_pos (by omega)]
            obtain ⟨ch, hch⟩ : ∃ ch, (l.drop (pl + o + 1))[0]? = some ch := ⟨_, List.getElem?_eq_getElem hln⟩
            rw [hch] at h0 q1 q2
            generalize (l.drop (pl + o + 1)).take (o - 19) = dg at q1 q2 hdb hdl h0 ⊢
            walk_at "rd"
            refine rd_intL (l := [48] ++ dg) (by simp) (fun x hx => ?_) ?_
            · rcases List.mem_append.mp hx with hx | hx
              · exact .inl (List.mem_singleton.mp hx)
              · exact hdb x hx
            rw [show valB ([48] ++ dg) = valB dg from valB_zero dg]
            walk_at "rd"
            refine if_noD (by omega) ?_
            walk_at "rd"
            refine rd_ixS (i := 0) rfl (by omega) h0 ?_
            walk_at "rd"
            by_cases z : ch = 48
            · subst z
              refine if_yesD (congrArg V.str e_0.symm) ?_
              walk_at "rd"
              exact q1 (by rw [if_pos (.inl rfl)])
            · have z2 : ¬ V.str (SX.S [ch]) = V.str (Str.ofString "0") := fun e => z (by
                rw [e_0] at e
                exact (List.cons.inj (SX.S_inj (V.str.inj e))).1)
              refine if_noD z2 ?_
              walk_at "rd"
              by_cases y : valB dg / 2 ^ k < 20
              · refine if_yesD (by omega) ?_
                walk_at "rd"
                exact q1 (by rw [if_pos (.inr y)])
              · refine if_noD (by omega) ?_
                walk_at "rd"
                rename_i p hp
                rw [if_neg (by rintro (e | e); exact z (Option.some.inj e); exact y e)] at q2
                exact q2 _ _ rfl p hp
      · rw [if_neg hz] at q1 ⊢
        walk_at "rd"
        refine if_yesD (by decide) ?_
        walk_at "rd"
        exact q1 rfl
    ) only [↓lt_eq]
theorem ok_read_numbers {f : Addr} {fd : FuncData} {f_check_within : Addr} {fd_check_within : FuncData} {f_check_coding : Addr} {fd_check_coding : FuncData} {f_parameter : Addr} {fd_parameter : FuncData} {f_read_code : Addr} {fd_read_code : FuncData} {f_number_with : Addr} {fd_number_with : FuncData} {f_table_behind : Addr} {fd_table_behind : FuncData}    (D : Dn K mg "read_numbers" s_read_numbers ["bits", "length", "coarse", "tables"] f fd) (bi : Bi mg) (G_check_within : FnOk P w K mg base CX0 3 f_check_within fd_check_within ["value", "low", "high"] spCkW) (D_check_within : Dn K mg "check_within" s_check_within ["value", "low", "high"] f_check_within fd_check_within) (G_check_coding : FnOk P w K mg base CX0 5 f_check_coding fd_check_coding ["length", "coarse", "tables"] (spCoding K)) (D_check_coding : Dn K mg "check_coding" s_check_coding ["length", "coarse", "tables"] f_check_coding fd_check_coding) (G_parameter : FnOk P w K mg base CX0 4 f_parameter fd_parameter ["table"] (spParG K)) (D_parameter : Dn K mg "parameter" s_parameter ["table"] f_parameter fd_parameter) (G_read_code : FnOk P w K mg base CX0 1 f_read_code fd_read_code ["bits", "place", "k"] spRdL) (D_read_code : Dn K mg "read_code" s_read_code ["bits", "place", "k"] f_read_code fd_read_code) (G_number_with : FnOk P w K mg base CX0 1 f_number_with fd_number_with ["code"] spNumW) (D_number_with : Dn K mg "number_with" s_number_with ["code"] f_number_with fd_number_with) (G_table_behind : FnOk P w K mg base CX0 1 f_table_behind fd_table_behind ["table", "code"] (spBehind K)) (D_table_behind : Dn K mg "table_behind" s_table_behind ["table", "code"] f_table_behind fd_table_behind)    (g_BLOCK_LIMIT : ∃ t, mg "BLOCK_LIMIT" = some (.int 64 t)) : FnOk P w K mg base CX0 6 f fd ["bits", "length", "coarse", "tables"] (spRdV K) := by
  refine lt_out ?_
  simp (disch := with_unfolding_all
    refine D.F.ok sc_read_numbers (fun vs H Q E h => ?_) (fun cdv A outer s H vs Q E hr h => ?_)
    · obtain ⟨x, o, n, first, b, T, rfl, _⟩ := h
      rfl
    · obtain ⟨x, o, n, first, b, T, rfl, hx, hn64, hf, hT, o1, o2, q1, q2⟩ := h
      obtain ⟨t64, g_BLOCK_LIMIT⟩ := g_BLOCK_LIMIT
      refine ⟨_, (pss_cons (ps_expr (pe_call G_check_within (hr.mono (by first | decide | exact Nat.le_refl _)) (by rfl) D_check_within.g D_check_within.F.kp D_check_within.b .nil pass0 (pa_cons (pv 1) (pa_cons pe_int (pa_cons (pe_glob (v := .int 64) (by rfl) g_BLOCK_LIMIT ⟨_, rfl⟩) pa_nil)))))
   (pss_cons (ps_expr (pe_call G_check_coding (hr.mono (by first | decide | exact Nat.le_refl _)) (by rfl) D_check_coding.g D_check_coding.F.kp D_check_coding.b .nil pass0 (pa_cons (pv 1) (pa_cons (pv 2) (pa_cons (pv 3) pa_nil)))))
   (pss_cons (ps_if (PW.pt (pw_or (pt_not (pt_val (pe_callB call_isi (by rfl) bi.isinstance_ (by decide +kernel) (pa_cons (pv 0) (pa_cons (pe_bltn (v := .ty "str") (by rfl) bi.str_ (by decide +kernel) rfl) pa_nil))))) (pw_or1 (pt_cmpR op_ne (pe_bm PySem.F.plainAttrs_str PySem.F.slot_str_strip PySem.F.type_str_strip mt_stripK (pv 0) (pa_cons pe_str pa_nil)) pe_str (nomark _)))))
   (pss_one (ps_ret pe_non))
   pss_nil)
   (pss_cons (ps_set (i := 4) sc_read_numbers.nd rfl (Or.inl rfl) (pe_callTy cList (by rfl) bi.list_ (by decide +kernel) (pa_cons (pv 3) pa_nil)))
   (pss_cons (ps_set (i := 5) sc_read_numbers.nd rfl (Or.inl rfl) (pe_lst pa_nil))
   (pss_cons (ps_set (i := 6) sc_read_numbers.nd rfl (Or.inl rfl) pe_int)
   (pss_cons (ps_for PassesOwn.never rfl (pi_range1 (by rfl) bi.range_ (pa_cons (pv 1) pa_nil)) (pg_name (i := 7) sc_read_numbers.nd rfl (Or.inl rfl))
   (pss_cons (ps_set (i := 8) sc_read_numbers.nd rfl (Or.inl rfl) (pe_ifExp (pt_cmpR op_lt (pv 7) (pv 2) (nomark _)) pe_int pe_int))
   (pss_cons (ps_set (i := 9) sc_read_numbers.nd rfl (Or.inl rfl) (pe_call G_read_code (hr.mono (by first | decide | exact Nat.le_refl _)) (by rfl) D_read_code.g D_read_code.F.kp D_read_code.b .nil pass0 (pa_cons (pv 0) (pa_cons (pv 6) (pa_cons (pe_call G_parameter (hr.mono (by first | decide | exact Nat.le_refl _)) (by rfl) D_parameter.g D_parameter.F.kp D_parameter.b .nil pass0 (pa_cons (pe_ix ix_list (pv 4) (pv 8) (fun _ _ => rfl)) pa_nil)) pa_nil)))))
   (pss_cons (ps_if (pt_cmpR cIsN (pv 9) pe_non (nomark _))
   (pss_one (ps_ret pe_non))
   pss_nil)
   (pss_cons (ps_asg (pv 9) (pg_tup rfl (pgs_cons (pg_name (i := 10) sc_read_numbers.nd rfl (Or.inl rfl)) (pgs_cons (pg_name (i := 6) sc_read_numbers.nd rfl (Or.inl rfl)) pgs_nil))))
   (pss_cons (ps_expr (pe_bm PySem.F.plainAttrs_list PySem.F.slot_list_append PySem.F.type_list_append mt_append (pv 5) (pa_cons (pe_call G_number_with (hr.mono (by first | decide | exact Nat.le_refl _)) (by rfl) D_number_with.g D_number_with.F.kp D_number_with.b .nil pass0 (pa_cons (pv 10) pa_nil)) pa_nil)))
   (pss_one (ps_asg (pe_call G_table_behind (hr.mono (by first | decide | exact Nat.le_refl _)) (by rfl) D_table_behind.g D_table_behind.F.kp D_table_behind.b .nil pass0 (pa_cons (pe_ix ix_list (pv 4) (pv 8) (fun _ _ => rfl)) (pa_cons (pv 10) pa_nil))) (pg_sub (pv 4) (pv 8) set_list)))))))))
   (pss_cons (ps_if (pt_cmpR op_ne (pv 6) (pe_callB cLen (by rfl) bi.len_ (by decide +kernel) (pa_cons (pv 0) pa_nil)) (nomark _))
   (pss_one (ps_ret pe_non))
   pss_nil)
   (pss_one (ps_ret (pe_tup (pa_cons (pv 5) (pa_cons (pe_callTy cTuple (by rfl) bi.tuple_ (by decide +kernel) (pa_cons (pv 4) pa_nil)) pa_nil))))))))))))), ?_⟩
      refine rd_start (σ := [some x, some (.int (n : Nat)), some (.int (first : Int)), some (.ref b), none, none, none, none, none, none, none]) rfl ?_
      walk_at "rd"
      refine use_coding hf hT o1.1 o2.1 ?_
      obtain ⟨r0, r1, h0, h1, h2⟩ := hT
      cases hx with
      | non => walk_at "rd"; exact q1 rfl _ (Same.refl _)
      | bl => walk_at "rd"; exact q1 rfl _ (Same.refl _)
      | int => walk_at "rd"; exact q1 rfl _ (Same.refl _)
      | lst hL => walk_at "rd"; exact q1 rfl _ (Same.refl _)
      | tup hL => walk_at "rd"; exact q1 rfl _ (Same.refl _)
      | @odd l hb hl hcc =>
        have hbf : bitsOf (SX.S l) = false := by
          cases e : bitsOf (SX.S l) with
          | false => rfl
          | true => exact absurd (bits_iff.mp e) hb
        have hbf2 : ¬ V.str (Txt.stripChars (SX.S l) (SX.S [48, 49])) = V.str (Str.ofString "") := of_decide_eq_false hbf
        walk_at "rd"
        refine ⟨SX.S l, _, rfl, rfl, by rw [SX.S_len]; exact Nat.le_trans hl (by unfold sizeLine; decide), ?_⟩
        walk_at "rd"
        refine if_yesN hbf2 ?_
        walk_at "rd"
        exact q1 rfl _ (Same.refl _)
      | @good l hb hl =>
        have hl5 : l.length ≤ 16777216 := by omega
        have nR : ∀ {i : Nat}, rdN l first T i = none → i ≤ n → rdV (some l) n first T = none := fun {i} h hi => by
          show rdA l n first T = none
          unfold rdA
          rw [rdN_none h n hi]
        walk_at "rd"
        refine if_noN (congrArg V.str e_empty.symm) ?_
        walk_at "rd"
        refine rd_listQ h0.1 fun p hp => ?_
        walk_at "rd"
        rename_i w hw
        have hs2 : Same H (upd (upd H p (.lst [.ref r0, .ref r1])) w (.lst [])) := (same_new hp).trans (same_new hw)
        have hwn : H w = none := (same_new hp).free hw
        have hpw : p ≠ w := ne_of_none upd_same hw
        have hwp := hpw.symm
        refine for_range (lo := 0) (n := ((n : Nat) : Int).toNat) (fun i σ H' => ∃ r0 r1 S0 ns pl x7 x8 x9 x10, σ = [some (.str (SX.S l)), some (.int (n : Nat)), some (.int (first : Int)), some (.ref b), some (.ref p), some (.ref w), some (.int ((pl : Nat) : Int)), x7, x8, x9, x10] ∧ rdN l first T i = some (ns, S0, pl) ∧ H' p = some (.lst [.ref r0, .ref r1]) ∧ H' w = some (.lst ((ns : List Int).map V.int)) ∧ TbV K H' r0 S0.1 ∧ TbV K H' r1 S0.2 ∧ Same H H') ⟨r0, r1, T, [], 0, none, none, none, none, rfl, rfl, look_new hw upd_same, upd_same, (h1.lk (.new hp)).lk (.new hw), (h2.lk (.new hp)).lk (.new hw), hs2⟩ (fun i σ H' hi hI => ?_) (fun σ H' hI => ?_)
        · obtain ⟨r0, r1, S0, ns, pl, x7, x8, x9, x10, rfl, hrN, h3, h3w, h4, h5, hs⟩ := hI
          rw [Int.toNat_natCast] at hi
          obtain ⟨hnl, hpl, k1, k2⟩ := rdN_bd (b := 15000) hb hl (by decide) o1 o2 i ns S0 pl hrN
          have nR := fun h => nR (i := i + 1) h (by omega)
          rw [show (0 : Int) + (i : Int) = ((i : Nat) : Int) by omega]
          walk_at "rd"
          refine rd_iteD (fun c => ?_) (fun c => ?_)
          · have c := Int.ofNat_lt.mp c
            walk_at "rd"
            refine use_parG h4 k1.1 ?_
            walk_at "rd"
            have hpp := k1.par
            refine use_rdL hb (by omega) hpl (by omega) (fun hno => ?_) (fun u e hyes p1 hp1 => ?_)
            · have hN := rdN_lo c hrN
              rw [hno] at hN
              walk_at "rd"
              exact q1 (nR hN) _ hs
            · have hN := rdN_lo c hrN
              rw [hyes] at hN
              obtain ⟨hep, hel, hu⟩ := rdC_bd hb hyes
              have hlt : ns.length ≤ 1000 := by omega
              walk_at "rd"
              refine if_noD (fun z => V.noConfusion z) ?_
              have u3 := look_new (o := .tup [.int ((u : Nat) : Int), .int ((e : Nat) : Int)]) hp1 h3
              have u3w := look_new (o := .tup [.int ((u : Nat) : Int), .int ((e : Nat) : Int)]) hp1 h3w
              walk_at "rd"
              have v3 := look_upd (o := .lst ((ns ++ [unU u]).map V.int)) hpw u3
              have v4 : TbV K _ r0 S0.1 := TbV.lk (LK.at (o := .lst ((ns ++ [unU u]).map V.int)) u3w) (h4.lk (.new hp1))
              have v5 : TbV K _ r1 S0.2 := TbV.lk (LK.at (o := .lst ((ns ++ [unU u]).map V.int)) u3w) (h5.lk (.new hp1))
              refine use_behind v4 k1.1 fun p2 hp2 => ?_
              walk_at "rd"
              refine ⟨p2, r1, (tbB S0.1 u, S0.2), ns ++ [unU u], e, _, _, _, _, rfl, hN, upd_same, ?_, ?_, ?_, ?_⟩
              · rw [upd_ne hwp, upd_ne (ne_of_none upd_same hp2), upd_same]
              · exact TbV.lk (LK.at (look_new hp2 v3)) (TbV.of upd_same)
              · exact TbV.lk (LK.at (look_new hp2 v3)) (TbV.lk (LK.new hp2) v5)
              · intro b2 x e
                rw [upd_ne (ne_of_none e hp)]
                refine look_new hp2 ?_
                rw [upd_ne (ne_of_none e hwn)]
                exact look_new hp1 (hs _ _ e)
          · have c : ¬ i < first := fun z => c (Int.ofNat_lt.mpr z)
            walk_at "rd"
            refine use_parG h5 k2.1 ?_
            walk_at "rd"
            have hpp := k2.par
            refine use_rdL hb (by omega) hpl (by omega) (fun hno => ?_) (fun u e hyes p1 hp1 => ?_)
            · have hN := rdN_hi c hrN
              rw [hno] at hN
              walk_at "rd"
              exact q1 (nR hN) _ hs
            · have hN := rdN_hi c hrN
              rw [hyes] at hN
              obtain ⟨hep, hel, hu⟩ := rdC_bd hb hyes
              have hlt : ns.length ≤ 1000 := by omega
              walk_at "rd"
              refine if_noD (fun z => V.noConfusion z) ?_
              have u3 := look_new (o := .tup [.int ((u : Nat) : Int), .int ((e : Nat) : Int)]) hp1 h3
              have u3w := look_new (o := .tup [.int ((u : Nat) : Int), .int ((e : Nat) : Int)]) hp1 h3w
              walk_at "rd"
              have v3 := look_upd (o := .lst ((ns ++ [unU u]).map V.int)) hpw u3
              have v4 : TbV K _ r0 S0.1 := TbV.lk (LK.at (o := .lst ((ns ++ [unU u]).map V.int)) u3w) (h4.lk (.new hp1))
              have v5 : TbV K _ r1 S0.2 := TbV.lk (LK.at (o := .lst ((ns ++ [unU u]).map V.int)) u3w) (h5.lk (.new hp1))
              refine use_behind v5 k2.1 fun p2 hp2 => ?_
              walk_at "rd"
              refine ⟨r0, p2, (S0.1, tbB S0.2 u), ns ++ [unU u], e, _, _, _, _, rfl, hN, upd_same, ?_, ?_, ?_, ?_⟩
              · rw [upd_ne hwp, upd_ne (ne_of_none upd_same hp2), upd_same]
              · exact TbV.lk (LK.at (look_new hp2 v3)) (TbV.lk (LK.new hp2) v4)
              · exact TbV.lk (LK.at (look_new hp2 v3)) (TbV.of upd_same)
              · intro b2 x e
                rw [upd_ne (ne_of_none e hp)]
                refine look_new hp2 ?_
                rw [upd_ne (ne_of_none e hwn)]
                exact look_new hp1 (hs _ _ e)
        · obtain ⟨r0, r1, S0, ns, pl, x7, x8, x9, x10, rfl, hrN, h3, h3w, h4, h5, hs⟩ := hI
          rw [Int.toNat_natCast] at hrN
          have e1 : rdV (some l) n first T = if pl = l.length then some (ns, S0) else none := by
            show rdA l n first T = _
            unfold rdA
            rw [hrN]
          walk_at "rd"
          refine rd_iteN (fun c => ?_) (fun c => ?_)
          · walk_at "rd"
            exact q1 (by rw [e1, if_neg (fun z => c (by rw [z]))]) _ hs
          · walk_at "rd"
            rename_i g1 hg1 p1 hp1
            refine q2 ns S0 (by rw [e1, if_pos (by have := V.int.inj c; omega)]) p1 w g1 _ ((hs.trans (same_new hg1)).trans (same_new hp1)) ((hs.trans (same_new hg1)).free hp1) hwn upd_same (look_new hp1 (look_new hg1 h3w)) ⟨r0, r1, .of (look_new hp1 upd_same), (h4.lk (.new hg1)).lk (.new hp1), (h5.lk (.new hg1)).lk (.new hp1)⟩
    ) only [↓lt_eq]
theorem ok_binary {f : Addr} {fd : FuncData}     (D : Dn K mg "_law_binary" s_binary ["_law_u_here"] f fd) (bi : Bi mg)      : FnOk P w K mg base CX0 1 f fd ["_law_u_here"] spBinary := by
  refine lt_out ?_
  simp (disch := with_unfolding_all
    refine D.F.ok sc_binary (fun vs H Q E h => ?_) (fun cdv A outer s H vs Q E hr h => ?_)
    · obtain ⟨u, rfl, _⟩ := h
      rfl
    · obtain ⟨u, rfl, hu, q⟩ := h
      refine ⟨_, (pss_cons (ps_set (i := 1) sc_binary.nd rfl (Or.inl rfl) pe_str)
   (pss_cons (ps_while PassesOwn.never (pt_cmpR op_gt (pv 0) pe_int (nomark _))
   (pss_cons (ps_set (i := 1) sc_binary.nd rfl (Or.inl rfl) (pe_op op_addT (pe_ix ix_str pe_str (pe_op op_mod (pe_callTy cInt (by rfl) bi.int_ (by decide +kernel) (pa_cons (pv 0) pa_nil)) pe_int) (fun _ _ => rfl)) (pv 1)))
   (pss_one (ps_set (i := 0) sc_binary.nd rfl (Or.inl rfl) (pe_op op_fdiv (pv 0) pe_int)))))
   (pss_one (ps_ret (pv 1))))), ?_⟩
      refine rd_start (σ := [some (.int (u : Int)), none]) rfl ?_
      walk_at "rd"
      refine while_n (fun i σ H' => σ = [some (.int ((u / 2 ^ i : Nat) : Int)), some (.str (SX.S (lowB u i)))] ∧ H' = H) (if u = 0 then 0 else nb u) ⟨by rw [Nat.pow_zero, Nat.div_one]; rfl, rfl⟩ (fun i σ H' hi hI => ?_)
      obtain ⟨rfl, rfl⟩ := hI
      walk_at "rd"
      have hii : i ≤ nb u := by split at hi <;> omega
      refine rd_iteD (fun c => ?_) (fun c => ?_)
      · refine while_in ?_ ?_
        · have c' : 0 < u / 2 ^ i := by omega
          by_cases z : u = 0
          · subst z
            rw [Nat.zero_div] at c'
            omega
          · rw [if_neg z] at hi ⊢
            by_cases e : i = nb u
            · subst e
              rw [Nat.div_eq_of_lt (nb_lt u)] at c'
              omega
            · omega
        · walk_at "rd"
          refine ⟨?_, rfl⟩
          rw [half_nat, Nat.div_div_eq_div_mul, ← Nat.pow_succ, lowB_front]
          rfl
      · walk_at "rd"
        have c' : ¬ 0 < u / 2 ^ i := fun z => c (by omega)
        have hlt : u < 2 ^ i := by
          rcases Nat.lt_or_ge u (2 ^ i) with z | z
          · exact z
          · exact absurd (Nat.div_pos z (Nat.two_pow_pos i)) c'
        by_cases z : u = 0
        · rw [if_pos z] at hi q
          obtain rfl : i = 0 := by omega
          exact q
        · rw [if_neg z] at hi q
          have hi1 : 1 ≤ i := by
            rcases i with _ | i
            · have : (2 : Nat) ^ 0 = 1 := rfl
              omega
            · omega
          have e := nb_min hlt hi1
          obtain rfl : i = nb u := by omega
          exact q
    ) only [↓lt_eq]
theorem ok_l_parameter {f : Addr} {fd : FuncData}     (D : Dn K mg "_law_parameter" s_l_parameter ["_law_row"] f fd) (bi : Bi mg)      : FnOk P w K mg base CX0 1 f fd ["_law_row"] (spParG K) := by
  refine lt_out ?_
  simp (disch := with_unfolding_all
    refine D.F.ok sc_l_parameter (fun vs H Q E h => ?_) (fun cdv A outer s H vs Q E hr h => ?_)
    · obtain ⟨a, t, m, rfl, _⟩ := h
      rfl
    · obtain ⟨a, t, m, rfl, h1, ok, q⟩ := h
      have L1 := h1.1
      refine ⟨_, (pss_cons (ps_par (i := 1) (j := 2) rfl sc_l_parameter.nd rfl rfl (by decide) rfl rfl (pa_cons pe_int (pa_cons (pe_ix ix_tup (pv 0) pe_int (fun _ _ => rfl)) pa_nil)) rfl)
   (pss_cons (ps_while PassesOwn.never (pt_cmpR op_lt (pv 2) (pe_ix ix_tup (pv 0) pe_int (fun _ _ => rfl)) (nomark _))
   (pss_cons (ps_set (i := 2) sc_l_parameter.nd rfl (Or.inl rfl) (pe_op op_mul (pv 2) pe_int))
   (pss_one (ps_set (i := 1) sc_l_parameter.nd rfl (Or.inl rfl) (pe_op op_add (pv 1) pe_int)))))
   (pss_one (ps_ret (pv 1))))), ?_⟩
      refine rd_start (σ := [some (.ref a), none, none]) rfl ?_
      walk_at "rd"
      refine while_n (fun i σ H' => σ = [some (.ref a), some (.int ((i : Nat) : Int)), some (.int (t.2 * 2 ^ i))] ∧ H' = H) (par t.1 t.2) ⟨by rw [Int.pow_zero, Int.mul_one]; rfl, rfl⟩ (fun i σ H' hi hI => ?_)
      obtain ⟨rfl, rfl⟩ := hI
      walk_at "rd"
      refine rd_iteD (fun c => ?_) (fun c => ?_)
      · refine while_in ((par_cond ok hi).mp c) ?_
        walk_at "rd"
        refine ⟨?_, rfl⟩
        rw [Int.pow_succ, ← Int.mul_assoc]
        rfl
      · have e : i = par t.1 t.2 := by
          have z : ¬ i < par t.1 t.2 := fun z => c ((par_cond ok hi).mpr z)
          omega
        subst e
        walk_at "rd"
        exact q
    ) only [↓lt_eq]
theorem ok_code {f : Addr} {fd : FuncData} {f_binary : Addr} {fd_binary : FuncData}    (D : Dn K mg "_law_code" s_code ["_law_u_here", "_law_k"] f fd) (bi : Bi mg) (G_binary : FnOk P w K mg base CX0 1 f_binary fd_binary ["_law_u_here"] spBinary) (D_binary : Dn K mg "_law_binary" s_binary ["_law_u_here"] f_binary fd_binary)     : FnOk P w K mg base CX0 2 f fd ["_law_u_here", "_law_k"] spBitsL := by
  refine lt_out ?_
  simp (disch := with_unfolding_all
    refine D.F.ok sc_code (fun vs H Q E h => ?_) (fun cdv A outer s H vs Q E hr h => ?_)
    · obtain ⟨u, k, rfl, _⟩ := h
      rfl
    · obtain ⟨u, k, rfl, hk, hu, q⟩ := h
      refine ⟨_, (pss_cons (ps_par (i := 2) (j := 3) rfl sc_code.nd rfl rfl (by decide) rfl rfl (pa_cons (pv 0) (pa_cons (pe_call G_binary (hr.mono (by first | decide | exact Nat.le_refl _)) (by rfl) D_binary.g D_binary.F.kp D_binary.b .nil pass0 (pa_cons (pv 0) pa_nil)) pa_nil)) rfl)
   (pss_cons (ps_for PassesOwn.never rfl (pi_range1 (by rfl) bi.range_ (pa_cons (pv 1) pa_nil)) (pg_name (i := 4) sc_code.nd rfl (Or.inl rfl))
   (pss_one (ps_set (i := 2) sc_code.nd rfl (Or.inl rfl) (pe_op op_fdiv (pv 2) pe_int))))
   (pss_cons (ps_if (pt_cmpR op_lt (pv 2) pe_int (nomark _))
   (pss_cons (ps_set (i := 5) sc_code.nd rfl (Or.inl rfl) (pe_op op_addT (pe_op op_mulT pe_str (pv 1)) (pv 3)))
   (pss_one (ps_ret (pe_op op_addT (pe_op op_addT (pe_op op_mulT pe_str (pv 2)) pe_str) (pe_slice C8.sl_txt (pv 5) (po_some (pe_op op_sub (pe_callB cLen (by rfl) bi.len_ (by decide +kernel) (pa_cons (pv 5) pa_nil)) (pv 1))) po_none)))))
   pss_nil)
   (pss_one (ps_ret (pe_op op_addT (pe_op op_addT (pe_op op_mulT pe_str (pe_op op_add pe_int (pe_callB cLen (by rfl) bi.len_ (by decide +kernel) (pa_cons (pv 3) pa_nil)))) pe_str) (pv 3))))))), ?_⟩
      refine rd_start (σ := [some (.int (u : Int)), some (.int (k : Int)), none, none, none, none]) rfl ?_
      walk_at "rd"
      refine use_binary hu ?_
      have hdg : ∃ j, j ≤ nb u ∧ u < 2 ^ j ∧ (if u = 0 then [] else binB u) = lowB u j := by
        by_cases z : u = 0
        · refine ⟨0, Nat.zero_le _, ?_, ?_⟩
          · rw [z]; decide
          · rw [if_pos z]; rfl
        · exact ⟨nb u, Nat.le_refl _, nb_lt u, if_neg z⟩
      have hbig : ¬ u / 2 ^ k < 20 → (if u = 0 then [] else binB u) = binB u := fun z => if_neg (fun e => z (by rw [e, Nat.zero_div]; decide))
      generalize (if u = 0 then [] else binB u) = dg at hdg hbig ⊢
      obtain ⟨j, hj, hlt, ej⟩ := hdg
      have hdl : dg.length = j := by rw [ej, lowB_length]
      walk_at "rd"
      refine for_range (lo := 0) (n := ((k : Nat) : Int).toNat) (fun i σ H' => ∃ x4, σ = [some (.int (u : Int)), some (.int (k : Int)), some (.int ((u / 2 ^ i : Nat) : Int)), some (.str (SX.S dg)), x4, none] ∧ H' = H) ⟨none, by rw [Nat.pow_zero, Nat.div_one]; rfl, rfl⟩ (fun i σ H' hi hI => ?_) (fun σ H' hI => ?_)
      · obtain ⟨x4, rfl, rfl⟩ := hI
        walk_at "rd"
        refine ⟨some (.int (0 + (i : Int))), ?_, rfl⟩
        rw [half_nat, Nat.div_div_eq_div_mul, ← Nat.pow_succ]
        rfl
      · obtain ⟨x4, rfl, rfl⟩ := hI
        rw [Int.toNat_natCast]
        walk_at "rd"
        refine rd_iteD (fun c => ?_) (fun c => ?_)
        · have c2 : u / 2 ^ k < 20 := Int.ofNat_lt.mp c
          have e : encB u k = List.replicate (u / 2 ^ k) 49 ++ [48] ++ lowB u k := if_pos c2
          rw [e] at q
          clear c e hbig
          generalize u / 2 ^ k = g at c2 q ⊢
          walk_at "rd"
          have hd := low_fill2 u k j hlt
          rw [← ej] at hd
          have hl2 : (List.replicate k 48 ++ dg).length = k + j := by rw [List.length_append, List.length_replicate, hdl]
          generalize List.replicate k 48 ++ dg = P at hd hl2 ⊢
          walk_at "rd"
          rw [show ((P.length : Nat) : Int) - (k : Int) = ((P.length - k : Nat) : Int) by omega]
          walk_at "rd"
          rw [hd]
          exact q
        · have c2 : ¬ u / 2 ^ k < 20 := fun z => c (Int.ofNat_lt.mpr z)
          have e : encB u k = List.replicate (19 + nb u) 49 ++ [48] ++ binB u := if_neg c2
          rw [e] at q
          have eb2 := hbig c2
          subst eb2
          have hbl := binB_length u
          walk_at "rd"
          rw [hbl, show (19 : Int) + (nb u : Nat) = ((19 + nb u : Nat) : Int) by omega]
          walk_at "rd"
          exact q
    ) only [↓lt_eq]
theorem ok_behind {f : Addr} {fd : FuncData}     (D : Dn K mg "_law_behind" s_behind ["_law_row", "_law_u_here"] f fd) (bi : Bi mg)      : FnOk P w K mg base CX0 1 f fd ["_law_row", "_law_u_here"] (spBehind K) := by
  refine lt_out ?_
  simp (disch := with_unfolding_all
    refine D.F.ok sc_behind (fun vs H Q E h => ?_) (fun cdv A outer s H vs Q E hr h => ?_)
    · obtain ⟨a, t, m, u, rfl, _⟩ := h
      rfl
    · obtain ⟨a, t, m, u, rfl, h1, ok, q⟩ := h
      have L1 := h1.1
      obtain ⟨o1, o2, o3, o4⟩ := ok
      refine ⟨_, (pss_cons (ps_par (i := 2) (j := 3) rfl sc_behind.nd rfl rfl (by decide) rfl rfl (pa_cons (pe_op op_add (pe_ix ix_tup (pv 0) pe_int (fun _ _ => rfl)) (pv 1)) (pa_cons (pe_op op_add (pe_ix ix_tup (pv 0) pe_int (fun _ _ => rfl)) pe_int) pa_nil)) rfl)
   (pss_one (ps_ret (pe_ifExp (pt_cmpR op_eq (pv 3) pe_int (nomark _)) (pe_tup (pa_cons (pe_op op_fdiv (pv 2) pe_int) (pa_cons pe_int pa_nil))) (pe_tup (pa_cons (pv 2) (pa_cons (pv 3) pa_nil))))))), ?_⟩
      refine rd_start (σ := [some (.ref a), some (.int (u : Int)), none, none]) rfl ?_
      walk_at "rd"
      refine rd_iteD (fun c => ?_) (fun c => ?_)
      · walk_at "rd"
        rename_i p hp
        have e : tbB t u = ((t.1 + (u : Int)) / 2, 8) := if_pos (by have := V.int.inj c; omega)
        rw [e] at q
        exact q p hp
      · walk_at "rd"
        rename_i p hp
        have e : tbB t u = (t.1 + (u : Int), t.2 + 1) := if_neg (fun z => c (congrArg V.int (by omega)))
        rw [e] at q
        exact q p hp
    ) only [↓lt_eq]
theorem ok_u {f : Addr} {fd : FuncData}     (D : Dn K mg "_law_u" s_u ["_law_number_here"] f fd) (bi : Bi mg)      : FnOk P w K mg base CX0 1 f fd ["_law_number_here"] spCode := by
  refine lt_out ?_
  simp (disch := with_unfolding_all
    refine D.F.ok sc_u (fun vs H Q E h => ?_) (fun cdv A outer s H vs Q E hr h => ?_)
    · obtain ⟨n, rfl, _⟩ := h
      rfl
    · obtain ⟨n, rfl, q⟩ := h
      refine ⟨_, (pss_one (ps_ret (pe_ifExp (pt_cmpR op_ge (pv 0) pe_int (nomark _)) (pe_op op_mul pe_int (pv 0)) (pe_op op_sub (pe_op op_mul (pe_un un_neg pe_int) (pv 0)) pe_int)))), ?_⟩
      refine rd_start (σ := [some (.int n)]) rfl ?_
      walk_at "rd"
      refine rd_iteD (fun c => ?_) (fun c => ?_)
      · walk_at "rd"
        have e : codeU n = 2 * n := if_pos c
        rw [e] at q
        exact q
      · walk_at "rd"
        have e : codeU n = -2 * n - 1 := if_neg c
        rw [e] at q
        exact q
    ) only [↓lt_eq]
theorem ok_written {f : Addr} {fd : FuncData} {f_code : Addr} {fd_code : FuncData} {f_u : Addr} {fd_u : FuncData} {f_l_parameter : Addr} {fd_l_parameter : FuncData} {f_behind : Addr} {fd_behind : FuncData}    (D : Dn K mg "_law_written" s_written ["_law_some", "_law_first", "_law_start_here"] f fd) (bi : Bi mg) (G_code : FnOk P w K mg base CX0 2 f_code fd_code ["_law_u_here", "_law_k"] spBitsL) (D_code : Dn K mg "_law_code" s_code ["_law_u_here", "_law_k"] f_code fd_code) (G_u : FnOk P w K mg base CX0 1 f_u fd_u ["_law_number_here"] spCode) (D_u : Dn K mg "_law_u" s_u ["_law_number_here"] f_u fd_u) (G_l_parameter : FnOk P w K mg base CX0 1 f_l_parameter fd_l_parameter ["_law_row"] (spParG K)) (D_l_parameter : Dn K mg "_law_parameter" s_l_parameter ["_law_row"] f_l_parameter fd_l_parameter) (G_behind : FnOk P w K mg base CX0 1 f_behind fd_behind ["_law_row", "_law_u_here"] (spBehind K)) (D_behind : Dn K mg "_law_behind" s_behind ["_law_row", "_law_u_here"] f_behind fd_behind)     : FnOk P w K mg base CX0 3 f fd ["_law_some", "_law_first", "_law_start_here"] (spWr K) := by
  refine lt_out ?_
  simp (disch := with_unfolding_all
    refine D.F.ok sc_written (fun vs H Q E h => ?_) (fun cdv A outer s H vs Q E hr h => ?_)
    · obtain ⟨a, ns, first, b, T, rfl, _⟩ := h
      rfl
    · obtain ⟨a, ns, first, b, T, rfl, e1, hl, hf, hn, hT, o1, o2, q⟩ := h
      refine ⟨_, (pss_cons (ps_par (i := 3) (j := 4) rfl sc_written.nd rfl rfl (by decide) rfl rfl (pa_cons (pe_lst pa_nil) (pa_cons (pe_callTy cList (by rfl) bi.list_ (by decide +kernel) (pa_cons (pv 2) pa_nil)) pa_nil)) rfl)
   (pss_cons (ps_for PassesOwn.never rfl (pi_enum (by rfl) bi.enumerate_ (pa_cons (pv 0) pa_nil)) (pg_tup rfl (pgs_cons (pg_name (i := 5) sc_written.nd rfl (Or.inl rfl)) (pgs_cons (pg_name (i := 6) sc_written.nd rfl (Or.inl rfl)) pgs_nil)))
   (pss_cons (ps_set (i := 7) sc_written.nd rfl (Or.inl rfl) (pe_callTy cInt (by rfl) bi.int_ (by decide +kernel) (pa_cons (pe_cmpR op_ge (pv 5) (pv 1) (nomark _)) pa_nil)))
   (pss_cons (ps_expr (pe_bm PySem.F.plainAttrs_list PySem.F.slot_list_append PySem.F.type_list_append mt_append (pv 3) (pa_cons (pe_call G_code (hr.mono (by first | decide | exact Nat.le_refl _)) (by rfl) D_code.g D_code.F.kp D_code.b .nil pass0 (pa_cons (pe_call G_u (hr.mono (by first | decide | exact Nat.le_refl _)) (by rfl) D_u.g D_u.F.kp D_u.b .nil pass0 (pa_cons (pv 6) pa_nil)) (pa_cons (pe_call G_l_parameter (hr.mono (by first | decide | exact Nat.le_refl _)) (by rfl) D_l_parameter.g D_l_parameter.F.kp D_l_parameter.b .nil pass0 (pa_cons (pe_ix ix_list (pv 4) (pv 7) (fun _ _ => rfl)) pa_nil)) pa_nil))) pa_nil)))
   (pss_one (ps_asg (pe_call G_behind (hr.mono (by first | decide | exact Nat.le_refl _)) (by rfl) D_behind.g D_behind.F.kp D_behind.b .nil pass0 (pa_cons (pe_ix ix_list (pv 4) (pv 7) (fun _ _ => rfl)) (pa_cons (pe_call G_u (hr.mono (by first | decide | exact Nat.le_refl _)) (by rfl) D_u.g D_u.F.kp D_u.b .nil pass0 (pa_cons (pv 6) pa_nil)) pa_nil))) (pg_sub (pv 4) (pv 7) set_list))))))
   (pss_one (ps_ret (pe_tup (pa_cons (pe_bm PySem.F.plainAttrs_str PySem.F.slot_str_join PySem.F.type_str_join mt_joinK pe_str (pa_cons (pv 3) pa_nil)) (pa_cons (pe_callTy cTuple (by rfl) bi.tuple_ (by decide +kernel) (pa_cons (pv 4) pa_nil)) pa_nil))))))), ?_⟩
      refine rd_start (σ := [some (.ref a), some (.int (first : Int)), some (.ref b), none, none, none, none, none]) rfl ?_
      obtain ⟨r0, r1, h0, h1, h2⟩ := hT
      walk_at "rd"
      rename_i w hw
      refine rd_listQ (LK.seqT (.new hw) h0.1) fun p hp => ?_
      walk_at "rd"
      have hs2 : Same H (upd (upd H w (.lst [])) p (.lst [.ref r0, .ref r1])) := (same_new hw).trans (same_new hp)
      have hwn : H w = none := hw
      have hpn : H p = none := (same_new hw).free hp
      have hwp : w ≠ p := ne_of_none upd_same hp
      have hpw := hwp.symm
      refine rd_lpE (SqL.of (hs2 _ _ e1)) ?_
      refine for_enum (xs := ns.map V.int) (fun i σ H' => ∃ r0 r1 x5 x6 x7, σ = [some (.ref a), some (.int (first : Int)), some (.ref b), some (.ref w), some (.ref p), x5, x6, x7] ∧ H' p = some (.lst [.ref r0, .ref r1]) ∧ H' w = some (.lst ((wst ns first T i).1.map fun l => V.str (SX.S l))) ∧ TbV K H' r0 (wst ns first T i).2.1 ∧ TbV K H' r1 (wst ns first T i).2.2 ∧ Same H H') ⟨r0, r1, none, none, none, rfl, upd_same, look_new hp upd_same, (h1.lk (.new hw)).lk (.new hp), (h2.lk (.new hw)).lk (.new hp), hs2⟩ (fun i σ H' _ hI => ?_) (fun i v σ H' t hv hI ht => ?_) (fun σ H' hI => ?_)
      · obtain ⟨r0, r1, x5, x6, x7, rfl, h3, h3w, h4, h5, hs⟩ := hI
        exact SqL.of (hs _ _ e1)
      · obtain ⟨r0, r1, x5, x6, x7, rfl, h3, h3w, h4, h5, hs⟩ := hI
        have hil : i < ns.length := by
          have z := (List.getElem?_eq_some_iff.mp hv).1
          rw [List.length_map] at z
          exact z
        obtain ⟨z, rfl, hz⟩ : ∃ z, v = .int z ∧ ns.getD i 0 = z := by
          rw [List.getElem?_map] at hv
          cases g : ns[i]? with
          | none => rw [g] at hv; cases hv
          | some z => rw [g] at hv; exact ⟨z, (Option.some.inj hv).symm, getD_some g⟩
        obtain ⟨k1, k2⟩ := wst_ok (first := first) hn o1 o2 i (by omega)
        have bnd : (10 ^ 58 + (i : Int) * 10 ^ 56) < 10 ^ 60 := by omega
        have hu := nb_small (uOf_getD hn i)
        rw [hz] at hu
        have hwl := wst_len ns first T i
        have t4 : TbV K (upd H' t (.tup [.int (i : Nat), .int z])) r0 (wst ns first T i).2.1 := h4.lk (.new ht)
        have t5 : TbV K (upd H' t (.tup [.int (i : Nat), .int z])) r1 (wst ns first T i).2.2 := h5.lk (.new ht)
        have u3 := look_new (o := .tup [.int (i : Nat), .int z]) ht h3
        have u3w := look_new (o := .tup [.int (i : Nat), .int z]) ht h3w
        have hst : Same H (upd H' t (.tup [.int (i : Nat), .int z])) := hs.trans (same_new ht)
        have utt : upd H' t (.tup [.int (i : Nat), .int z]) t = some (.tup [.int (i : Nat), .int z]) := upd_same
        generalize upd H' t (.tup [.int (i : Nat), .int z]) = Ht at t4 t5 u3 u3w hst utt ⊢
        walk_at "rd"
        by_cases c : i < first
        · rw [show (if decide ((i : Int) ≥ (first : Int)) = true then (1 : Int) else 0) = 0 from by rw [decide_eq_false (by omega)]; rfl]
          walk_at "rd"
          rw [← uOf_eq]
          refine use_parG t4 k1 ?_
          walk_at "rd"
          refine use_bitsL (by have := par_leG k1 bnd; omega) (by omega) ?_
          walk_at "rd"
          refine rd_appG u3w (by rw [List.length_map]; omega) ?_
          have v3 := look_upd (o := .lst ((wst ns first T i).1.map (fun l => V.str (SX.S l)) ++ [.str (SX.S (encB (uOf z) (par (wst ns first T i).2.1.1 (wst ns first T i).2.1.2)))])) hpw u3
          have v4 := TbV.lk (LK.at (o := .lst ((wst ns first T i).1.map (fun l => V.str (SX.S l)) ++ [.str (SX.S (encB (uOf z) (par (wst ns first T i).2.1.1 (wst ns first T i).2.1.2)))])) u3w) t4
          have v5 := TbV.lk (LK.at (o := .lst ((wst ns first T i).1.map (fun l => V.str (SX.S l)) ++ [.str (SX.S (encB (uOf z) (par (wst ns first T i).2.1.1 (wst ns first T i).2.1.2)))])) u3w) t5
          walk_at "rd"
          rw [← uOf_eq]
          refine use_behind v4 k1 fun p2 hp2 => ?_
          walk_at "rd"
          have n2p : p2 ≠ p := (ne_of_none v3 hp2).symm
          rw [wst_lo c]
          refine ⟨p2, r1, _, _, _, rfl, upd_same, ?_, ?_, ?_, ?_⟩
          · rw [upd_ne hwp, upd_ne (ne_of_none upd_same hp2), upd_same, List.map_append, hz]
            rfl
          · exact TbV.lk (LK.at (look_new hp2 v3)) (by rw [hz]; exact TbV.of upd_same)
          · exact TbV.lk (LK.at (look_new hp2 v3)) (TbV.lk (LK.new hp2) v5)
          · intro b2 x e
            rw [upd_ne (ne_of_none e hpn)]
            refine look_new hp2 ?_
            rw [upd_ne (ne_of_none e hwn)]
            exact hst _ _ e

        · rw [show (if decide ((i : Int) ≥ (first : Int)) = true then (1 : Int) else 0) = 1 from by rw [decide_eq_true (by omega)]; rfl]
          walk_at "rd"
          rw [← uOf_eq]
          refine use_parG t5 k2 ?_
          walk_at "rd"
          refine use_bitsL (by have := par_leG k2 bnd; omega) (by omega) ?_
          walk_at "rd"
          refine rd_appG u3w (by rw [List.length_map]; omega) ?_
          have v3 := look_upd (o := .lst ((wst ns first T i).1.map (fun l => V.str (SX.S l)) ++ [.str (SX.S (encB (uOf z) (par (wst ns first T i).2.2.1 (wst ns first T i).2.2.2)))])) hpw u3
          have v4 := TbV.lk (LK.at (o := .lst ((wst ns first T i).1.map (fun l => V.str (SX.S l)) ++ [.str (SX.S (encB (uOf z) (par (wst ns first T i).2.2.1 (wst ns first T i).2.2.2)))])) u3w) t4
          have v5 := TbV.lk (LK.at (o := .lst ((wst ns first T i).1.map (fun l => V.str (SX.S l)) ++ [.str (SX.S (encB (uOf z) (par (wst ns first T i).2.2.1 (wst ns first T i).2.2.2)))])) u3w) t5
          walk_at "rd"
          rw [← uOf_eq]
          refine use_behind v5 k2 fun p2 hp2 => ?_
          walk_at "rd"
          have n2p : p2 ≠ p := (ne_of_none v3 hp2).symm
          rw [wst_hi c]
          refine ⟨r0, p2, _, _, _, rfl, upd_same, ?_, ?_, ?_, ?_⟩
          · rw [upd_ne hwp, upd_ne (ne_of_none upd_same hp2), upd_same, List.map_append, hz]
            rfl
          · exact TbV.lk (LK.at (look_new hp2 v3)) (TbV.lk (LK.new hp2) v4)
          · exact TbV.lk (LK.at (look_new hp2 v3)) (by rw [hz]; exact TbV.of upd_same)
          · intro b2 x e
            rw [upd_ne (ne_of_none e hpn)]
            refine look_new hp2 ?_
            rw [upd_ne (ne_of_none e hwn)]
            exact hst _ _ e

      · obtain ⟨r0, r1, x5, x6, x7, rfl, h3, h3w, h4, h5, hs⟩ := hI
        rw [List.length_map] at h3w h4 h5
        have hfl := wst_flat (first := first) hn o1 o2 ns.length hl
        have hfl2 : (wst ns first T ns.length).1.flatten.length ≤ 16777216 := by omega
        walk_at "rd"
        rename_i q1 hq1 p1 hp1
        refine q p1 q1 _ ((hs.trans (same_new hq1)).trans (same_new hp1)) ((hs.trans (same_new hq1)).free hp1) upd_same ⟨r0, r1, .of (look_new hp1 upd_same), (h4.lk (.new hq1)).lk (.new hp1), (h5.lk (.new hq1)).lk (.new hp1)⟩
    ) only [↓lt_eq]
theorem ok_ones {f : Addr} {fd : FuncData}     (D : Dn K mg "_law_ones" s_ones ["_law_text", "_law_at", "_law_most"] f fd) (bi : Bi mg)      : FnOk P w K mg base CX0 1 f fd ["_law_text", "_law_at", "_law_most"] spOnes := by
  refine lt_out ?_
  simp (disch := with_unfolding_all
    refine D.F.ok sc_ones (fun vs H Q E h => ?_) (fun cdv A outer s H vs Q E hr h => ?_)
    · obtain ⟨l, pl, m, rfl, _⟩ := h
      rfl
    · obtain ⟨l, pl, m, rfl, hb, hl, hpl, q⟩ := h
      refine ⟨_, (pss_cons (ps_set (i := 3) sc_ones.nd rfl (Or.inl rfl) pe_int)
   (pss_cons (ps_while PassesOwn.never (PW.pt (pw_and (pt_cmpR op_lt (pv 3) (pv 2) (nomark _)) (pw_and1 (pt_cmpR op_eq (pe_slice C8.sl_txt (pv 0) (po_some (pe_op op_add (pv 1) (pv 3))) (po_some (pe_op op_add (pe_op op_add (pv 1) (pv 3)) pe_int))) pe_str (nomark _)))))
   (pss_one (ps_set (i := 3) sc_ones.nd rfl (Or.inl rfl) (pe_op op_add (pv 3) pe_int))))
   (pss_one (ps_ret (pv 3))))), ?_⟩
      refine rd_start (σ := [some (.str (SX.S l)), some (.int (pl : Int)), some (.int (m : Int)), none]) rfl ?_
      walk_at "rd"
      have hol := onesL_le (l.drop pl)
      rw [List.length_drop] at hol
      refine while_n (fun i σ H' => σ = [some (.str (SX.S l)), some (.int (pl : Int)), some (.int (m : Int)), some (.int ((i : Nat) : Int))] ∧ H' = H) (min (onesL (l.drop pl)) m) ⟨rfl, rfl⟩ (fun i σ H' hi hI => ?_)
      obtain ⟨rfl, rfl⟩ := hI
      walk_at "rd"
      refine rd_iteD (fun c => ?_) (fun c => ?_)
      · walk_at "rd"
        rw [show (pl : Int) + (i : Int) = ((pl + i : Nat) : Int) by omega, show ((pl + i : Nat) : Int) + 1 = ((pl + i + 1 : Nat) : Int) by omega]
        refine rd_slSA (by omega) ?_
        rw [show pl + i + 1 - (pl + i) = 1 by omega]
        have hst := ones_step (pl := pl) (i := i) hb (by omega)
        walk_at "rd"
        refine rd_iteD (fun c2 => ?_) (fun c2 => ?_)
        · have c3 : i < onesL (l.drop pl) := hst.mp (by
            have z := V.str.inj c2
            rw [e_1] at z
            exact SX.S_inj z)
          refine while_in (by omega) ?_
          walk_at "rd"
          exact ⟨rfl, rfl⟩
        · have c3 : ¬ i < onesL (l.drop pl) := fun z => c2 (by rw [hst.mpr z, e_1])
          walk_at "rd"
          rw [show i = min (onesL (l.drop pl)) m by omega]
          exact q
      · walk_at "rd"
        rw [show i = min (onesL (l.drop pl)) m by omega]
        exact q
    ) only [↓lt_eq]
theorem ok_value {f : Addr} {fd : FuncData}     (D : Dn K mg "_law_value" s_value ["_law_text"] f fd) (bi : Bi mg)      : FnOk P w K mg base CX0 1 f fd ["_law_text"] spVal := by
  refine lt_out ?_
  simp (disch := with_unfolding_all
    refine D.F.ok sc_value (fun vs H Q E h => ?_) (fun cdv A outer s H vs Q E hr h => ?_)
    · obtain ⟨l, rfl, _⟩ := h
      rfl
    · obtain ⟨l, rfl, hb, q⟩ := h
      refine ⟨_, (pss_cons (ps_set (i := 1) sc_value.nd rfl (Or.inl rfl) pe_int)
   (pss_cons (ps_for PassesOwn.never rfl (pi_str (pv 0)) (pg_name (i := 2) sc_value.nd rfl (Or.inl rfl))
   (pss_one (ps_set (i := 1) sc_value.nd rfl (Or.inl rfl) (pe_op op_add (pe_op op_mul pe_int (pv 1)) (pe_callTy cInt (by rfl) bi.int_ (by decide +kernel) (pa_cons (pe_cmpR op_eq (pv 2) pe_str (nomark _)) pa_nil))))))
   (pss_one (ps_ret (pv 1))))), ?_⟩
      refine rd_start (σ := [some (.str (SX.S l)), none, none]) rfl ?_
      walk_at "rd"
      refine rd_forB ?_
      walk_at "rd"
      refine ⟨SX.S l, rfl, ?_⟩
      refine for_signsB (fun i σ H' => ∃ t, σ = [some (.str (SX.S l)), some (.int ((valB (l.take i) : Nat) : Int)), t] ∧ H' = H) ⟨none, rfl, rfl⟩ (fun i s σ H1 hs hI => ?_) (fun σ H1 hI => ?_)
      · obtain ⟨t, rfl, rfl⟩ := hI
        have e : l[i]? = some s := by rw [← hs]; show _ = (Array.mk l)[i]?; simp
        have et : l.take (i + 1) = l.take i ++ [s] := by rw [List.take_add_one, e]; rfl
        have hs2 := hb s (List.mem_of_getElem? e)
        walk_at "rd"
        have e2 : 2 * ((valB (l.take i) : Nat) : Int) + (if decide (V.str (⟨#[s]⟩ : Str) = V.str (Str.ofString "1")) = true then (1 : Int) else 0) = ((valB (l.take (i + 1)) : Nat) : Int) := by
          rw [et, valB_snoc]
          rcases hs2 with z | z
          · subst z
            rw [if_neg (by rw [decide_eq_true_eq]; decide +kernel)]
            omega
          · subst z
            rw [if_pos (by rw [decide_eq_true_eq]; decide +kernel)]
            omega
        rw [e2]
        exact ⟨_, rfl, rfl⟩
      · obtain ⟨t, rfl, rfl⟩ := hI
        walk_at "rd"
        rw [List.take_of_length_le (show l.length ≤ (SX.S l).cps.size from Nat.le_of_eq (SX.S_len l).symm)]
        exact q
    ) only [↓lt_eq]
theorem ok_code_at {f : Addr} {fd : FuncData} {f_ones : Addr} {fd_ones : FuncData} {f_value : Addr} {fd_value : FuncData} {f_code : Addr} {fd_code : FuncData}    (D : Dn K mg "_law_code_at" s_code_at ["_law_text", "_law_at", "_law_k"] f fd) (bi : Bi mg) (G_ones : FnOk P w K mg base CX0 1 f_ones fd_ones ["_law_text", "_law_at", "_law_most"] spOnes) (D_ones : Dn K mg "_law_ones" s_ones ["_law_text", "_law_at", "_law_most"] f_ones fd_ones) (G_value : FnOk P w K mg base CX0 1 f_value fd_value ["_law_text"] spVal) (D_value : Dn K mg "_law_value" s_value ["_law_text"] f_value fd_value) (G_code : FnOk P w K mg base CX0 2 f_code fd_code ["_law_u_here", "_law_k"] spBitsL) (D_code : Dn K mg "_law_code" s_code ["_law_u_here", "_law_k"] f_code fd_code)     : FnOk P w K mg base CX0 3 f fd ["_law_text", "_law_at", "_law_k"] spRdL := by
  refine lt_out ?_
  simp (disch := with_unfolding_all
    refine D.F.ok sc_code_at (fun vs H Q E h => ?_) (fun cdv A outer s H vs Q E hr h => ?_)
    · obtain ⟨l, pl, k, rfl, _⟩ := h
      rfl
    · obtain ⟨l, pl, k, rfl, hb, hl, hpl, hk, q1, q2⟩ := h
      refine ⟨_, (pss_cons (ps_set (i := 3) sc_code_at.nd rfl (Or.inl rfl) (pe_call G_ones (hr.mono (by first | decide | exact Nat.le_refl _)) (by rfl) D_ones.g D_ones.F.kp D_ones.b .nil pass0 (pa_cons (pv 0) (pa_cons (pv 1) (pa_cons pe_int pa_nil)))))
   (pss_cons (ps_set (i := 4) sc_code_at.nd rfl (Or.inl rfl) (pe_op op_add (pe_op op_add (pe_op op_add (pv 1) (pv 3)) pe_int) (pv 2)))
   (pss_cons (ps_if (pt_cmpR op_lt (pv 3) pe_int (nomark _))
   (pss_cons (ps_if (pt_cmpR op_gt (pv 4) (pe_callB cLen (by rfl) bi.len_ (by decide +kernel) (pa_cons (pv 0) pa_nil)) (nomark _))
   (pss_one (ps_ret pe_non))
   pss_nil)
   (pss_cons (ps_set (i := 5) sc_code_at.nd rfl (Or.inl rfl) (pv 3))
   (pss_cons (ps_for PassesOwn.never rfl (pi_range1 (by rfl) bi.range_ (pa_cons (pv 2) pa_nil)) (pg_name (i := 6) sc_code_at.nd rfl (Or.inl rfl))
   (pss_one (ps_set (i := 5) sc_code_at.nd rfl (Or.inl rfl) (pe_op op_mul (pv 5) pe_int))))
   (pss_one (ps_ret (pe_tup (pa_cons (pe_op op_add (pv 5) (pe_call G_value (hr.mono (by first | decide | exact Nat.le_refl _)) (by rfl) D_value.g D_value.F.kp D_value.b .nil pass0 (pa_cons (pe_slice C8.sl_txt (pv 0) (po_some (pe_op op_add (pv 1) (pv 3))) (po_some (pv 4))) pa_nil))) (pa_cons (pv 4) pa_nil))))))))
   pss_nil)
   (pss_cons (ps_set (i := 7) sc_code_at.nd rfl (Or.inl rfl) (pe_call G_ones (hr.mono (by first | decide | exact Nat.le_refl _)) (by rfl) D_ones.g D_ones.F.kp D_ones.b .nil pass0 (pa_cons (pv 0) (pa_cons (pe_op op_add (pv 1) pe_int) (pa_cons (pe_callB cLen (by rfl) bi.len_ (by decide +kernel) (pa_cons (pv 0) pa_nil)) pa_nil)))))
   (pss_cons (ps_set (i := 8) sc_code_at.nd rfl (Or.inl rfl) (pe_op op_add (pe_op op_add (pe_op op_add (pv 1) pe_int) (pv 7)) pe_int))
   (pss_cons (ps_set (i := 5) sc_code_at.nd rfl (Or.inl rfl) (pe_call G_value (hr.mono (by first | decide | exact Nat.le_refl _)) (by rfl) D_value.g D_value.F.kp D_value.b .nil pass0 (pa_cons (pe_slice C8.sl_txt (pv 0) (po_some (pv 8)) (po_some (pe_op op_add (pe_op op_add (pv 8) (pv 7)) pe_int))) pa_nil)))
   (pss_cons (ps_if (PW.pt (pw_or (pt_cmpR op_gt (pe_op op_add (pe_op op_add (pv 8) (pv 7)) pe_int) (pe_callB cLen (by rfl) bi.len_ (by decide +kernel) (pa_cons (pv 0) pa_nil)) (nomark _)) (pw_or1 (pt_cmpR op_ne (pe_call G_code (hr.mono (by first | decide | exact Nat.le_refl _)) (by rfl) D_code.g D_code.F.kp D_code.b .nil pass0 (pa_cons (pv 5) (pa_cons (pv 2) pa_nil))) (pe_slice C8.sl_txt (pv 0) (po_some (pv 1)) (po_some (pe_op op_add (pe_op op_add (pv 8) (pv 7)) pe_int))) (nomark _)))))
   (pss_one (ps_ret pe_non))
   pss_nil)
   (pss_one (ps_ret (pe_tup (pa_cons (pv 5) (pa_cons (pe_op op_add (pe_op op_add (pv 8) (pv 7)) pe_int) pa_nil)))))))))))), ?_⟩
      refine rd_start (σ := [some (.str (SX.S l)), some (.int (pl : Int)), some (.int (k : Int)), none, none, none, none, none, none]) rfl ?_
      walk_at "rd"
      refine use_ones (m := 20) hb hl hpl ?_
      have hol := onesL_le (l.drop pl)
      have hld : (l.drop pl).length = l.length - pl := List.length_drop ..
      have hbd : ∀ c ∈ l.drop pl, IsB c := fun c hc => hb c (List.mem_of_mem_drop hc)
      have hsp := ones_split (l.drop pl) hbd
      have hdd : (l.drop pl).drop (onesL (l.drop pl) + 1) = l.drop (pl + onesL (l.drop pl) + 1) := by rw [List.drop_drop]; rfl
      rw [hdd] at hsp
      have hlong := fun (hz : pl + onesL (l.drop pl) < l.length) (c : ¬ onesL (l.drop pl) < 20) (hl : ¬ l.length < pl + onesL (l.drop pl) + 1 + (onesL (l.drop pl) - 19)) => long_iff (k := k) hb hz c hl
      have hone20 : 20 ≤ onesL (l.drop pl) → onesL (l.drop (pl + 20)) = onesL (l.drop pl) - 20 := fun h20 => ones_drop hb h20
      unfold rdC at q1 q2
      generalize ho : onesL (l.drop pl) = o at *
      walk_at "rd"
      by_cases c : o < 20
      · rw [show min o 20 = o by omega]
        rw [show (pl : Int) + (o : Nat) + 1 + (k : Int) = ((pl + o + 1 + k : Nat) : Int) by omega]
        refine if_yesD (by omega) ?_
        walk_at "rd"
        by_cases hz : pl + o < l.length
        · rw [if_pos hz, if_pos c] at q1 q2
          by_cases d : l.length < pl + o + 1 + k
          · refine if_yesD (by omega) ?_
            walk_at "rd"
            exact q1 (if_pos d)
          · rw [if_neg d, if_pos c] at q2
            refine if_noD (by omega) ?_
            walk_at "rd"
            refine for_range (lo := 0) (n := ((k : Nat) : Int).toNat) (fun i σ H' => ∃ x6, σ = [some (.str (SX.S l)), some (.int (pl : Int)), some (.int (k : Int)), some (.int (o : Nat)), some (.int ((pl + o + 1 + k : Nat) : Int)), some (.int ((o * 2 ^ i : Nat) : Int)), x6, none, none] ∧ H' = H) ⟨none, by rw [Nat.pow_zero, Nat.mul_one]; rfl, rfl⟩ (fun i σ H' hi hI => ?_) (fun σ H' hI => ?_)
            · obtain ⟨x6, rfl, rfl⟩ := hI
              walk_at "rd"
              refine ⟨some (.int (0 + (i : Int))), ?_, rfl⟩
              rw [show ((o * 2 ^ i : Nat) : Int) * 2 = ((o * 2 ^ (i + 1) : Nat) : Int) by rw [Nat.pow_succ, ← Nat.mul_assoc]; norm_cast]
              rfl
            · obtain ⟨x6, rfl, rfl⟩ := hI
              rw [Int.toNat_natCast]
              walk_at "rd"
              rw [show (pl : Int) + (o : Nat) = ((pl + o : Nat) : Int) by omega]
              refine rd_slSA (by omega) ?_
              rw [show pl + o + 1 + k - (pl + o) = 1 + k by omega]
              have hsl : (l.drop (pl + o)).take (1 + k) = 48 :: (l.drop (pl + o + 1)).take k := by
                have e1 : l.drop (pl + o) = 48 :: l.drop (pl + o + 1) := by
                  rw [← List.drop_drop, hsp (by omega)]
                  exact List.drop_left' (by rw [List.length_replicate])
                rw [e1, Nat.add_comm 1 k]
                rfl
              walk_at "rd"
              refine use_val (fun x hx => hb x (List.mem_of_mem_drop (List.mem_of_mem_take hx))) ?_
              rw [hsl, valB_zero]
              walk_at "rd"
              rename_i p hp
              rw [show ((o * 2 ^ k : Nat) : Int) + (valB ((l.drop (pl + o + 1)).take k) : Nat) = ((o * 2 ^ k + valB ((l.drop (pl + o + 1)).take k) : Nat) : Int) by omega]
              exact q2 _ _ rfl p hp
        · rw [if_neg hz] at q1
          refine if_yesD (by omega) ?_
          walk_at "rd"
          exact q1 rfl
      · rw [show min o 20 = 20 by omega]
        refine if_noD (by omega) ?_
        walk_at "rd"
        rw [show (pl : Int) + 20 = ((pl + 20 : Nat) : Int) by omega]
        refine use_ones (pl := pl + 20) (m := l.length) hb hl (by omega) ?_
        rw [hone20 (by omega), show min (o - 20) l.length = o - 20 by omega]
        walk_at "rd"
        rw [show (pl : Int) + 20 + ((o - 20 : Nat) : Int) + 1 = ((pl + o + 1 : Nat) : Int) by omega]
        rw [show ((pl + o + 1 : Nat) : Int) + ((o - 20 : Nat) : Int) + 1 = ((pl + o + 1 + (o - 19) : Nat) : Int) by omega]
        refine rd_slSA (by omega) ?_
        rw [show pl + o + 1 + (o - 19) - (pl + o + 1) = o - 19 by omega]
        have hdb : ∀ x ∈ (l.drop (pl + o + 1)).take (o - 19), IsB x := fun x hx => hb x (List.mem_of_mem_drop (List.mem_of_mem_take hx))
        have hvn := valB_ltB hdb
        have hvl : ((l.drop (pl + o + 1)).take (o - 19)).length ≤ o - 19 := by rw [List.length_take]; omega
        walk_at "rd"
        refine use_val hdb ?_
        by_cases hz : pl + o < l.length
        · rw [if_pos hz, if_neg c] at q1 q2
          by_cases d : l.length < pl + o + 1 + (o - 19)
          · walk_at "rd"
            refine if_yesD (by omega) ?_
            walk_at "rd"
            exact q1 (if_pos d)
          · rw [if_neg d, if_neg c] at q1 q2
            have hL := hlong hz c d
            generalize hv : valB ((l.drop (pl + o + 1)).take (o - 19)) = v at *
            have hnb : nb v ≤ 15000 := nb_min (Nat.lt_of_lt_of_le hvn (Nat.pow_le_pow_right (by decide) (by omega))) (by decide)
            walk_at "rd"
            refine if_noD (by omega) ?_
            walk_at "rd"
            refine use_bitsL hk (by omega) ?_
            walk_at "rd"
            rw [show ((pl + o + 1 : Nat) : Int) + ((o - 20 : Nat) : Int) + 1 = ((pl + o + 1 + (o - 19) : Nat) : Int) by omega]
            refine rd_slSA (by omega) ?_
            rw [show pl + o + 1 + (o - 19) - pl = o + 1 + (o - 19) by omega]
            walk_at "rd"
            by_cases z : (l.drop (pl + o + 1))[0]? = some 48 ∨ v / 2 ^ k < 20
            · refine if_yesN (fun y => hL.mp (SX.S_inj (V.str.inj y)) z) ?_
              walk_at "rd"
              exact q1 (if_pos z)
            · refine if_noN (congrArg (fun t => V.str (SX.S t)) (hL.mpr z)) ?_
              walk_at "rd"
              rename_i p hp
              have h3 := q2 _ _ (if_neg z) p hp
              rw [show ((pl + o + 1 + (o - 19) : Nat) : Int) = ((pl + o + 1 : Nat) : Int) + ((o - 20 : Nat) : Int) + 1 by omega] at h3
              exact h3
        · rw [if_neg hz] at q1
          walk_at "rd"
          refine if_yesD (by omega) ?_
          walk_at "rd"
          exact q1 rfl
    ) only [↓lt_eq]
theorem ok_start {f : Addr} {fd : FuncData} {f_take : Addr} {fd_take : FuncData} {f_number : Addr} {fd_number : FuncData}    (D : Dn K mg "_law_start" s_start ["_law_pool_here"] f fd) (bi : Bi mg) (G_take : FnOk P w K mg base CX0 1 f_take fd_take ["_law_pool_here", "_law_many"] spTake) (D_take : Dn K mg "_law_take" s_take ["_law_pool_here", "_law_many"] f_take fd_take) (G_number : FnOk P w K mg base CX0 2 f_number fd_number ["_law_pool_here"] spNumber) (D_number : Dn K mg "_law_number" s_number ["_law_pool_here"] f_number fd_number)     : FnOk P w K mg base CX0 3 f fd ["_law_pool_here"] (spStart K) := by
  refine lt_out ?_
  simp (disch := with_unfolding_all
    refine D.F.ok sc_start (fun vs H Q E h => ?_) (fun cdv A outer s H vs Q E hr h => ?_)
    · obtain ⟨p, rfl, _⟩ := h
      rfl
    · obtain ⟨p, rfl, hP, q⟩ := h
      refine ⟨_, (pss_cons (ps_set (i := 1) sc_start.nd rfl (Or.inl rfl) (pe_lst pa_nil))
   (pss_cons (ps_for PassesOwn.never rfl (pi_range1 (by rfl) bi.range_ (pa_cons pe_int pa_nil)) (pg_name (i := 2) sc_start.nd rfl (Or.inl rfl))
   (pss_cons (ps_set (i := 3) sc_start.nd rfl (Or.inl rfl) (pe_ix ix_list (pe_lst (pa_cons pe_int (pa_cons pe_int (pa_cons (pe_call G_take (hr.mono (by first | decide | exact Nat.le_refl _)) (by rfl) D_take.g D_take.F.kp D_take.b .nil pass0 (pa_cons (pv 0) (pa_cons pe_int pa_nil))) (pa_cons (pe_call G_take (hr.mono (by first | decide | exact Nat.le_refl _)) (by rfl) D_take.g D_take.F.kp D_take.b .nil pass0 (pa_cons (pv 0) (pa_cons pe_int pa_nil))) (pa_cons (pe_callB cAbs (by rfl) bi.abs_ (by decide +kernel) (pa_cons (pe_call G_number (hr.mono (by first | decide | exact Nat.le_refl _)) (by rfl) D_number.g D_number.F.kp D_number.b .nil pass0 (pa_cons (pv 0) pa_nil)) pa_nil)) pa_nil)))))) (pe_call G_take (hr.mono (by first | decide | exact Nat.le_refl _)) (by rfl) D_take.g D_take.F.kp D_take.b .nil pass0 (pa_cons (pv 0) (pa_cons pe_int pa_nil))) (fun _ _ => rfl)))
   (pss_one (ps_expr (pe_bm PySem.F.plainAttrs_list PySem.F.slot_list_append PySem.F.type_list_append mt_append (pv 1) (pa_cons (pe_tup (pa_cons (pv 3) (pa_cons (pe_op op_add pe_int (pe_call G_take (hr.mono (by first | decide | exact Nat.le_refl _)) (by rfl) D_take.g D_take.F.kp D_take.b .nil pass0 (pa_cons (pv 0) (pa_cons pe_int pa_nil)))) pa_nil))) pa_nil))))))
   (pss_one (ps_ret (pe_ifExp (pt_cmpR op_eq (pe_call G_take (hr.mono (by first | decide | exact Nat.le_refl _)) (by rfl) D_take.g D_take.F.kp D_take.b .nil pass0 (pa_cons (pv 0) (pa_cons pe_int pa_nil))) pe_int (nomark _)) (pe_tup (pa_cons (pe_tup (pa_cons pe_int (pa_cons pe_int pa_nil))) (pa_cons (pe_tup (pa_cons pe_int (pa_cons pe_int pa_nil))) pa_nil))) (pe_callTy cTuple (by rfl) bi.tuple_ (by decide +kernel) (pa_cons (pv 1) pa_nil))))))), ?_⟩
      refine rd_start (σ := [some (.ref p), none, none, none]) rfl ?_
      walk_at "rd"
      rename_i D hD
      have hDp : D ≠ p := hP.ne hD
      refine for_range (lo := 0) (n := (2 : Int).toNat) (fun i σ H' => ∃ refs x2 x3, σ = [some (.ref p), some (.ref D), x2, x3] ∧ H' D = some (.lst refs) ∧ refs.length = i ∧ (∀ v ∈ refs, ∃ r t, v = .ref r ∧ H' r = some (.tup [.int t.1, .int t.2]) ∧ TbOk (10 ^ 56) t) ∧ Pool H' p ∧ Kp p H H') ⟨[], none, none, rfl, upd_same, rfl, List.forall_mem_nil _, hP.new hD, Kp.new hD⟩ (fun i σ H' hi hI => ?_) (fun σ H' hI => ?_)
      · obtain ⟨refs, x2, x3, rfl, h1, h2, h3, hP1, hK1⟩ := hI
        walk_at "rd"
        rename_i r5 Ha h50 h51 hPa hKa r6 Hb h60 h61 hPb hKb r7 Hc h7 hPc hKc q8 hq8 r9 Hd h90 h91 hPd hKd
        have habs : 0 ≤ (if r7 < 0 then -r7 else r7) ∧ (if r7 < 0 then -r7 else r7) ≤ 10 ^ 56 := by split <;> omega
        generalize (if r7 < 0 then -r7 else r7) = ab at habs hKd ⊢
        obtain ⟨hab0, hab1⟩ := habs
        refine' rd_ixP (fun v => ∃ j : Int, v = .int j ∧ 0 ≤ j ∧ j ≤ 10 ^ 56) ?e ?h0 ?h1 ?hP fun v hv => ?_
        (case e => exact SqL.of (by walk_at "hg"))
        (case h0 => assumption)
        (case h1 => assumption)
        (case hP => walk_at "allm")
        obtain ⟨tot, rfl, ht0, ht1⟩ := hv
        walk_at "rd"
        rename_i r10 He h100 h101 hPe hKe q11 hq11
        have hKall : Kp p H' (upd He q11 (.tup [.int tot, .int (1 + r10)])) := by walk_at "kp"
        have hLK : LK H' (upd He q11 (.tup [.int tot, .int (1 + r10)])) := LK.pool hP1 hKall
        have hDe := hKall _ _ hDp h1
        refine rd_appG hDe (by omega) ?_
        walk_at "rd"
        refine ⟨refs ++ [.ref q11], _, _, rfl, upd_same, by rw [List.length_append, h2]; rfl, ?_, ?_, ?_⟩
        · intro v hv
          rcases List.mem_append.mp hv with hv | hv
          · obtain ⟨r, t, e, e2, ok⟩ := h3 v hv
            exact ⟨r, t, e, LK.at hDe _ _ (hLK _ _ e2 fun _ z => nomatch z) (fun _ z => nomatch z), ok⟩
          · refine ⟨q11, (tot, 1 + r10), List.mem_singleton.mp hv, LK.at hDe _ _ upd_same (fun _ z => nomatch z), ht0, ht1, ?_, ?_⟩
            · show (1 : Int) ≤ 1 + r10
              omega
            · show 1 + r10 ≤ 15
              omega
        · obtain ⟨x, y, e, r⟩ := hPe.new (o := .tup [.int tot, .int (1 + r10)]) hq11
          exact ⟨x, y, by rw [upd_ne hDp.symm]; exact e, r⟩
        · intro b o nb e
          rw [upd_ne (ne_of_none e hD)]
          exact hKall _ _ nb (hK1 _ _ nb e)
      · obtain ⟨refs, x2, x3, rfl, h1, h2, h3, hP1, hK1⟩ := hI
        walk_at "rd"
        rename_i r4 Ha h40 h41 hPa hKa
        have hLK : LK H' Ha := LK.pool hP1 hKa
        refine rd_iteD (fun c => ?_) (fun c => ?_)
        · walk_at "rd"
          rename_i a1 ha1 a2 ha2 a3 ha3
          have hKall : Kp p H (upd (upd (upd Ha a1 (.tup [.int 2, .int 1])) a2 (.tup [.int 2, .int 1])) a3 (.tup [.ref a1, .ref a2])) := by walk_at "kp"
          have hK2 : Kp p H (upd (upd Ha a1 (.tup [.int 2, .int 1])) a2 (.tup [.int 2, .int 1])) := by walk_at "kp"
          have hPx : Pool (upd (upd Ha a1 (.tup [.int 2, .int 1])) a2 (.tup [.int 2, .int 1])) p := by walk_at "pl"
          refine q a3 ((2, 1), (2, 1)) _ ((KpL.ofK (l := [p]) (by simp) hK2).free ha3 (by simp [hPx.ne ha3])) ⟨a1, a2, .of upd_same, .of (by walk_at "hg"), .of (by walk_at "hg")⟩ ⟨by decide, by decide, by decide, by decide⟩ ⟨by decide, by decide, by decide, by decide⟩ (by walk_at "pl") hKall
        · walk_at "rd"
          rename_i a3 ha3
          obtain ⟨v0, v1, rfl⟩ := len2 h2
          obtain ⟨r0, t0, rfl, e0, k0⟩ := h3 v0 (by simp)
          obtain ⟨r1, t1, rfl, e1, k1⟩ := h3 v1 (by simp)
          have hK2 : Kp p H Ha := by walk_at "kp"
          refine q a3 (t0, t1) _ ((KpL.ofK (l := [p]) (by simp) hK2).free ha3 (by simp [hPa.ne ha3])) ⟨r0, r1, .of upd_same, .of (look_new ha3 (hLK _ _ e0 fun _ z => nomatch z)), .of (look_new ha3 (hLK _ _ e1 fun _ z => nomatch z))⟩ k0 k1 (by walk_at "pl") (by walk_at "kp")
    ) only [↓lt_eq]
theorem ok_read {f : Addr} {fd : FuncData} {f_code_at : Addr} {fd_code_at : FuncData} {f_l_parameter : Addr} {fd_l_parameter : FuncData} {f_behind : Addr} {fd_behind : FuncData}    (D : Dn K mg "_law_read" s_read ["_law_text", "_law_size", "_law_first", "_law_start_here"] f fd) (bi : Bi mg) (G_code_at : FnOk P w K mg base CX0 3 f_code_at fd_code_at ["_law_text", "_law_at", "_law_k"] spRdL) (D_code_at : Dn K mg "_law_code_at" s_code_at ["_law_text", "_law_at", "_law_k"] f_code_at fd_code_at) (G_l_parameter : FnOk P w K mg base CX0 1 f_l_parameter fd_l_parameter ["_law_row"] (spParG K)) (D_l_parameter : Dn K mg "_law_parameter" s_l_parameter ["_law_row"] f_l_parameter fd_l_parameter) (G_behind : FnOk P w K mg base CX0 1 f_behind fd_behind ["_law_row", "_law_u_here"] (spBehind K)) (D_behind : Dn K mg "_law_behind" s_behind ["_law_row", "_law_u_here"] f_behind fd_behind)     : FnOk P w K mg base CX0 4 f fd ["_law_text", "_law_size", "_law_first", "_law_start_here"] (spRdV K) := by
  refine lt_out ?_
  simp (disch := with_unfolding_all
    refine D.F.ok sc_read (fun vs H Q E h => ?_) (fun cdv A outer s H vs Q E hr h => ?_)
    · obtain ⟨x, o, n, first, b, T, rfl, _⟩ := h
      rfl
    · obtain ⟨x, o, n, first, b, T, rfl, hx, hn64, hf, hT, o1, o2, q1, q2⟩ := h
      refine ⟨_, (pss_cons (ps_if (PW.pt (pw_or (pt_not (pt_val (pe_callB call_isi (by rfl) bi.isinstance_ (by decide +kernel) (pa_cons (pv 0) (pa_cons (pe_bltn (v := .ty "str") (by rfl) bi.str_ (by decide +kernel) rfl) pa_nil))))) (pw_or1 (pt_cmpR (op_neD hr.units) (pe_lc (own := [("_law_sign", 4)]) (g := gName 4) (tt := _) rfl sc_read.nd (pi_str (pv 0)) (blkOk_by (N := ["_law_text", "_law_size", "_law_first", "_law_start_here", "_law_sign", "_law_some", "_law_current", "_law_at", "_law_index", "_law_which", "_law_found", "_law_u_here"]) (sc := defScope s_read) (by decide +kernel)) (fun _ _ _ _ _ => pg_name (i := 4) sc_read.nd rfl (Or.inl rfl)) (fun _ _ _ _ _ => (pts_one (pt_cmpR op_notIn_sign (pv 4) pe_str (by with_unfolding_all rfl)))) (fun _ _ _ _ _ => (pv 4))) (pe_lst pa_nil) (nomark _)))))
   (pss_one (ps_ret pe_non))
   pss_nil)
   (pss_cons (ps_par3 (i := 5) (j := 6) (l := 7) rfl sc_read.nd rfl rfl rfl (by decide) (by decide) (by decide) rfl rfl rfl (pa_cons (pe_lst pa_nil) (pa_cons (pe_callTy cList (by rfl) bi.list_ (by decide +kernel) (pa_cons (pv 3) pa_nil)) (pa_cons pe_int pa_nil))) rfl)
   (pss_cons (ps_for PassesOwn.never rfl (pi_range1 (by rfl) bi.range_ (pa_cons (pv 1) pa_nil)) (pg_name (i := 8) sc_read.nd rfl (Or.inl rfl))
   (pss_cons (ps_set (i := 9) sc_read.nd rfl (Or.inl rfl) (pe_callTy cInt (by rfl) bi.int_ (by decide +kernel) (pa_cons (pe_cmpR op_ge (pv 8) (pv 2) (nomark _)) pa_nil)))
   (pss_cons (ps_set (i := 10) sc_read.nd rfl (Or.inl rfl) (pe_call G_code_at (hr.mono (by first | decide | exact Nat.le_refl _)) (by rfl) D_code_at.g D_code_at.F.kp D_code_at.b .nil pass0 (pa_cons (pv 0) (pa_cons (pv 7) (pa_cons (pe_call G_l_parameter (hr.mono (by first | decide | exact Nat.le_refl _)) (by rfl) D_l_parameter.g D_l_parameter.F.kp D_l_parameter.b .nil pass0 (pa_cons (pe_ix ix_list (pv 6) (pv 9) (fun _ _ => rfl)) pa_nil)) pa_nil)))))
   (pss_cons (ps_if (pt_cmpR cIsN (pv 10) pe_non (nomark _))
   (pss_one (ps_ret pe_non))
   pss_nil)
   (pss_cons (ps_asg (pv 10) (pg_tup rfl (pgs_cons (pg_name (i := 11) sc_read.nd rfl (Or.inl rfl)) (pgs_cons (pg_name (i := 7) sc_read.nd rfl (Or.inl rfl)) pgs_nil))))
   (pss_cons (ps_expr (pe_bm PySem.F.plainAttrs_list PySem.F.slot_list_append PySem.F.type_list_append mt_append (pv 5) (pa_cons (pe_ifExp (pt_cmpR op_eq (pe_op op_mod (pe_callTy cInt (by rfl) bi.int_ (by decide +kernel) (pa_cons (pv 11) pa_nil)) pe_int) pe_int (nomark _)) (pe_op op_fdiv (pv 11) pe_int) (pe_op op_sub (pe_un un_neg (pe_op op_fdiv (pv 11) pe_int)) pe_int)) pa_nil)))
   (pss_one (ps_asg (pe_call G_behind (hr.mono (by first | decide | exact Nat.le_refl _)) (by rfl) D_behind.g D_behind.F.kp D_behind.b .nil pass0 (pa_cons (pe_ix ix_list (pv 6) (pv 9) (fun _ _ => rfl)) (pa_cons (pv 11) pa_nil))) (pg_sub (pv 6) (pv 9) set_list)))))))))
   (pss_one (ps_ret (pe_ifExp (pt_cmpR op_eq (pv 7) (pe_callB cLen (by rfl) bi.len_ (by decide +kernel) (pa_cons (pv 0) pa_nil)) (nomark _)) (pe_tup (pa_cons (pv 5) (pa_cons (pe_callTy cTuple (by rfl) bi.tuple_ (by decide +kernel) (pa_cons (pv 6) pa_nil)) pa_nil))) pe_non)))))), ?_⟩
      refine rd_start (σ := [some x, some (.int (n : Nat)), some (.int (first : Int)), some (.ref b), none, none, none, none, none, none, none, none]) rfl ?_
      cases hx with
      | non => walk_at "rd"; exact q1 rfl _ (Same.refl _)
      | bl => walk_at "rd"; exact q1 rfl _ (Same.refl _)
      | int => walk_at "rd"; exact q1 rfl _ (Same.refl _)
      | lst hL => walk_at "rd"; exact q1 rfl _ (Same.refl _)
      | tup hL => walk_at "rd"; exact q1 rfl _ (Same.refl _)
      | @odd l hb hl hcc =>
        walk_at "rd"
        refine rd_lcX ?_
        walk_at "rd"
        refine ⟨SX.S l, rfl, fun D hD => ?_⟩
        refine lc_signs (fun c => !decide (c ∈ (SX.S [48, 49]).cps.toList)) (by omega) (fun _ => rfl) hD (fun c H1 q _ hq => ?_) (fun c H1 Q' hq => ?_) fun H1 s1 eD => ?_
        · walk_at "rd"
          refine ⟨c, _, rfl, rfl, ?_⟩
          walk_at "rd"
          exact hq
        · walk_at "rd"
          exact hq
        walk_at "rd"
        rename_i D2 hD2
        refine rd_neStr (SqL.of ((same_new (o := .lst []) hD2) _ _ eD)) (SqL.of upd_same) (fun c hc => hcc c (List.mem_filter.mp hc).1) ?_
        rw [decide_eq_false (filt_ne hb)]
        walk_at "rd"
        exact q1 rfl _ (s1.trans (same_new hD2))
      | @good l hb hl =>
        have hl5 : l.length ≤ 16777216 := by omega
        have nR : ∀ {i : Nat}, rdN l first T i = none → i ≤ n → rdV (some l) n first T = none := fun {i} h hi => by
          show rdA l n first T = none
          unfold rdA
          rw [rdN_none h n hi]
        walk_at "rd"
        refine rd_lcX ?_
        walk_at "rd"
        refine ⟨SX.S l, rfl, fun D hD => ?_⟩
        refine lc_signs (fun c => !decide (c ∈ (SX.S [48, 49]).cps.toList)) (by omega) (fun _ => rfl) hD (fun c H1 q _ hq => ?_) (fun c H1 Q' hq => ?_) fun H1 s1 eD => ?_
        · walk_at "rd"
          refine ⟨c, _, rfl, rfl, ?_⟩
          walk_at "rd"
          exact hq
        · walk_at "rd"
          exact hq
        walk_at "rd"
        rename_i D2 hD2
        refine rd_neStr (SqL.of ((same_new (o := .lst []) hD2) _ _ eD)) (SqL.of upd_same) (fun c hc => by rw [filt_no hb] at hc; exact absurd hc List.not_mem_nil) ?_
        rw [filt_no hb]
        refine rd_bl ?_
        refine if_no rfl ?_
        have s12 := s1.trans (same_new (o := .lst []) hD2)
        obtain ⟨r0, r1, h0, h1, h2⟩ := hT.lk (.of s12)
        walk_at "rd"
        rename_i w hw
        refine rd_listQ (LK.seqT (.new hw) h0.1) fun p hp => ?_
        have hs2 := s12.trans ((same_new (o := .lst []) hw).trans (same_new (o := .lst [.ref r0, .ref r1]) hp))
        have hwn : H w = none := s12.free hw
        have hpn : H p = none := (s12.trans (same_new (o := .lst []) hw)).free hp
        have hwp : w ≠ p := ne_of_none upd_same hp
        have hpw := hwp.symm
        walk_at "rd"
        refine for_range (lo := 0) (n := ((n : Nat) : Int).toNat) (fun i σ H' => ∃ r0 r1 S0 ns pl x7 x8 x9 x10, σ = [some (.str (SX.S l)), some (.int (n : Nat)), some (.int (first : Int)), some (.ref b), none, some (.ref w), some (.ref p), some (.int ((pl : Nat) : Int)), x7, x8, x9, x10] ∧ rdN l first T i = some (ns, S0, pl) ∧ H' p = some (.lst [.ref r0, .ref r1]) ∧ H' w = some (.lst ((ns : List Int).map V.int)) ∧ TbV K H' r0 S0.1 ∧ TbV K H' r1 S0.2 ∧ Same H H') ⟨r0, r1, T, [], 0, none, none, none, none, rfl, rfl, upd_same, look_new hp upd_same, (h1.lk (.new hw)).lk (.new hp), (h2.lk (.new hw)).lk (.new hp), hs2⟩ (fun i σ H' hi hI => ?_) (fun σ H' hI => ?_)
        · obtain ⟨r0, r1, S0, ns, pl, x7, x8, x9, x10, rfl, hrN, h3, h3w, h4, h5, hs⟩ := hI
          rw [Int.toNat_natCast] at hi
          obtain ⟨hnl, hpl, k1, k2⟩ := rdN_bd (b := 15000) hb hl (by decide) o1 o2 i ns S0 pl hrN
          have nR := fun h => nR (i := i + 1) h (by omega)
          rw [show (0 : Int) + (i : Int) = ((i : Nat) : Int) by omega]
          walk_at "rd"
          by_cases c : i < first
          · rw [show (if decide ((i : Int) ≥ (first : Int)) = true then (1 : Int) else 0) = 0 from by rw [decide_eq_false (by omega)]; rfl]
            walk_at "rd"
            refine use_parG h4 k1.1 ?_
            walk_at "rd"
            have hpp := k1.par
            refine use_rdL hb (by omega) hpl (by omega) (fun hno => ?_) (fun u e hyes p1 hp1 => ?_)
            · have hN := rdN_lo c hrN
              rw [hno] at hN
              walk_at "rd"
              exact q1 (nR hN) _ hs
            · have hN := rdN_lo c hrN
              rw [hyes] at hN
              obtain ⟨hep, hel, hu⟩ := rdC_bd hb hyes
              have hlt : ns.length ≤ 1000 := by omega
              walk_at "rd"
              refine if_noD (fun z => V.noConfusion z) ?_
              have u3 := look_new (o := .tup [.int ((u : Nat) : Int), .int ((e : Nat) : Int)]) hp1 h3
              have u3w := look_new (o := .tup [.int ((u : Nat) : Int), .int ((e : Nat) : Int)]) hp1 h3w
              walk_at "rd"
              refine rd_iteD (fun c2 => ?_) (fun c2 => ?_)
              all_goals
                walk_at "rd"
                first
                | rw [unU_e c2]
                | rw [unU_o c2]
                have v3 := look_upd (o := .lst ((ns ++ [unU u]).map V.int)) hpw u3
                have v4 : TbV K _ r0 S0.1 := TbV.lk (LK.at (o := .lst ((ns ++ [unU u]).map V.int)) u3w) (h4.lk (.new hp1))
                have v5 : TbV K _ r1 S0.2 := TbV.lk (LK.at (o := .lst ((ns ++ [unU u]).map V.int)) u3w) (h5.lk (.new hp1))
                refine use_behind v4 k1.1 fun p2 hp2 => ?_
                walk_at "rd"
                refine ⟨p2, r1, (tbB S0.1 u, S0.2), ns ++ [unU u], e, _, _, _, _, rfl, hN, upd_same, ?_, ?_, ?_, ?_⟩
                · rw [upd_ne hwp, upd_ne (ne_of_none upd_same hp2), upd_same]
                · exact TbV.lk (LK.at (look_new hp2 v3)) (TbV.of upd_same)
                · exact TbV.lk (LK.at (look_new hp2 v3)) (TbV.lk (LK.new hp2) v5)
                · intro b2 x e
                  rw [upd_ne (ne_of_none e hpn)]
                  refine look_new hp2 ?_
                  rw [upd_ne (ne_of_none e hwn)]
                  exact look_new hp1 (hs _ _ e)
          · rw [show (if decide ((i : Int) ≥ (first : Int)) = true then (1 : Int) else 0) = 1 from by rw [decide_eq_true (by omega)]; rfl]
            walk_at "rd"
            refine use_parG h5 k2.1 ?_
            walk_at "rd"
            have hpp := k2.par
            refine use_rdL hb (by omega) hpl (by omega) (fun hno => ?_) (fun u e hyes p1 hp1 => ?_)
            · have hN := rdN_hi c hrN
              rw [hno] at hN
              walk_at "rd"
              exact q1 (nR hN) _ hs
            · have hN := rdN_hi c hrN
              rw [hyes] at hN
              obtain ⟨hep, hel, hu⟩ := rdC_bd hb hyes
              have hlt : ns.length ≤ 1000 := by omega
              walk_at "rd"
              refine if_noD (fun z => V.noConfusion z) ?_
              have u3 := look_new (o := .tup [.int ((u : Nat) : Int), .int ((e : Nat) : Int)]) hp1 h3
              have u3w := look_new (o := .tup [.int ((u : Nat) : Int), .int ((e : Nat) : Int)]) hp1 h3w
              walk_at "rd"
              refine rd_iteD (fun c2 => ?_) (fun c2 => ?_)
              all_goals
                walk_at "rd"
                first
                | rw [unU_e c2]
                | rw [unU_o c2]
                have v3 := look_upd (o := .lst ((ns ++ [unU u]).map V.int)) hpw u3
                have v4 : TbV K _ r0 S0.1 := TbV.lk (LK.at (o := .lst ((ns ++ [unU u]).map V.int)) u3w) (h4.lk (.new hp1))
                have v5 : TbV K _ r1 S0.2 := TbV.lk (LK.at (o := .lst ((ns ++ [unU u]).map V.int)) u3w) (h5.lk (.new hp1))
                refine use_behind v5 k2.1 fun p2 hp2 => ?_
                walk_at "rd"
                refine ⟨r0, p2, (S0.1, tbB S0.2 u), ns ++ [unU u], e, _, _, _, _, rfl, hN, upd_same, ?_, ?_, ?_, ?_⟩
                · rw [upd_ne hwp, upd_ne (ne_of_none upd_same hp2), upd_same]
                · exact TbV.lk (LK.at (look_new hp2 v3)) (TbV.lk (LK.new hp2) v4)
                · exact TbV.lk (LK.at (look_new hp2 v3)) (TbV.of upd_same)
                · intro b2 x e
                  rw [upd_ne (ne_of_none e hpn)]
                  refine look_new hp2 ?_
                  rw [upd_ne (ne_of_none e hwn)]
                  exact look_new hp1 (hs _ _ e)
        · obtain ⟨r0, r1, S0, ns, pl, x7, x8, x9, x10, rfl, hrN, h3, h3w, h4, h5, hs⟩ := hI
          rw [Int.toNat_natCast] at hrN
          have e1 : rdV (some l) n first T = if pl = l.length then some (ns, S0) else none := by
            show rdA l n first T = _
            unfold rdA
            rw [hrN]
          walk_at "rd"
          refine rd_iteD (fun c => ?_) (fun c => ?_)
          · walk_at "rd"
            rename_i g1 hg1 p1 hp1
            refine q2 ns S0 (by rw [e1, if_pos (by have := V.int.inj c; omega)]) p1 w g1 _ ((hs.trans (same_new hg1)).trans (same_new hp1)) ((hs.trans (same_new hg1)).free hp1) hwn upd_same (look_new hp1 (look_new hg1 h3w)) ⟨r0, r1, .of (look_new hp1 upd_same), (h4.lk (.new hg1)).lk (.new hp1), (h5.lk (.new hg1)).lk (.new hp1)⟩
          · walk_at "rd"
            exact q1 (by rw [e1, if_neg (fun z => c (by rw [z]))]) _ hs
    ) only [↓lt_eq]
theorem ok_bits {f : Addr} {fd : FuncData} {f_take : Addr} {fd_take : FuncData} {f_written : Addr} {fd_written : FuncData} {f_number : Addr} {fd_number : FuncData} {f_binary : Addr} {fd_binary : FuncData}    (D : Dn K mg "_law_bits" s_bits ["_law_pool_here", "_law_size", "_law_first", "_law_start_here"] f fd) (bi : Bi mg) (G_take : FnOk P w K mg base CX0 1 f_take fd_take ["_law_pool_here", "_law_many"] spTake) (D_take : Dn K mg "_law_take" s_take ["_law_pool_here", "_law_many"] f_take fd_take) (G_written : FnOk P w K mg base CX0 3 f_written fd_written ["_law_some", "_law_first", "_law_start_here"] (spWr K)) (D_written : Dn K mg "_law_written" s_written ["_law_some", "_law_first", "_law_start_here"] f_written fd_written) (G_number : FnOk P w K mg base CX0 2 f_number fd_number ["_law_pool_here"] spNumber) (D_number : Dn K mg "_law_number" s_number ["_law_pool_here"] f_number fd_number) (G_binary : FnOk P w K mg base CX0 1 f_binary fd_binary ["_law_u_here"] spBinary) (D_binary : Dn K mg "_law_binary" s_binary ["_law_u_here"] f_binary fd_binary)     : FnOk P w K mg base CX0 4 f fd ["_law_pool_here", "_law_size", "_law_first", "_law_start_here"] (spBtsL K) := by
  refine lt_out ?_
  simp (disch := with_unfolding_all
    refine D.F.ok sc_bits (fun vs H Q E h => ?_) (fun cdv A outer s H vs Q E hr h => ?_)
    · obtain ⟨p, n, first, b, T, rfl, _⟩ := h
      rfl
    · obtain ⟨p, n, first, b, T, rfl, hP, hn, hf, hT, o1, o2, q⟩ := h
      refine ⟨_, (pss_cons (ps_set (i := 4) sc_bits.nd rfl (Or.inl rfl) (pe_call G_take (hr.mono (by first | decide | exact Nat.le_refl _)) (by rfl) D_take.g D_take.F.kp D_take.b .nil pass0 (pa_cons (pv 0) (pa_cons pe_int pa_nil))))
   (pss_cons (ps_if (pt_cmpR op_lt (pv 4) pe_int (nomark _))
   (pss_one (ps_ret (pe_bm PySem.F.plainAttrs_str PySem.F.slot_str_join PySem.F.type_str_join mt_joinK pe_str (pa_cons (pe_lc (own := [("_law_at", 5)]) (g := gName 5) (tt := tYes) rfl sc_bits.nd (pi_range1 (by rfl) bi.range_ (pa_cons (pe_call G_take (hr.mono (by first | decide | exact Nat.le_refl _)) (by rfl) D_take.g D_take.F.kp D_take.b .nil pass0 (pa_cons (pv 0) (pa_cons pe_int pa_nil))) pa_nil)) (blkOk_by (N := ["_law_pool_here", "_law_size", "_law_first", "_law_start_here", "_law_way", "_law_at", "_law_text", "_law_sign", "_law_short"]) (sc := defScope s_bits) (by decide +kernel)) (fun _ _ _ _ _ => pg_name (i := 5) sc_bits.nd rfl (Or.inl rfl)) (fun _ _ _ _ _ => pts_nil) (fun _ _ _ _ _ => (pe_ix ix_str pe_str (pe_call G_take (hr.mono (by first | decide | exact Nat.le_refl _)) (by rfl) D_take.g D_take.F.kp D_take.b .nil pass0 (pa_cons (pv 0) (pa_cons pe_int pa_nil))) (fun _ _ => rfl)))) pa_nil))))
   pss_nil)
   (pss_cons (ps_set (i := 6) sc_bits.nd rfl (Or.inl rfl) (pe_ix ix_tup (pe_call G_written (hr.mono (by first | decide | exact Nat.le_refl _)) (by rfl) D_written.g D_written.F.kp D_written.b .nil pass0 (pa_cons (pe_lc (own := [("_law_at", 5)]) (g := gName 5) (tt := tYes) rfl sc_bits.nd (pi_range1 (by rfl) bi.range_ (pa_cons (pv 1) pa_nil)) (blkOk_by (N := ["_law_pool_here", "_law_size", "_law_first", "_law_start_here", "_law_way", "_law_at", "_law_text", "_law_sign", "_law_short"]) (sc := defScope s_bits) (by decide +kernel)) (fun _ _ _ _ _ => pg_name (i := 5) sc_bits.nd rfl (Or.inl rfl)) (fun _ _ _ _ _ => pts_nil) (fun _ _ _ _ _ => (pe_call G_number (hr.mono (by first | decide | exact Nat.le_refl _)) (by rfl) D_number.g D_number.F.kp D_number.b .nil pass0 (pa_cons (pv 0) pa_nil)))) (pa_cons (pv 2) (pa_cons (pv 3) pa_nil)))) pe_int (fun _ _ => rfl)))
   (pss_cons (ps_par (i := 5) (j := 7) rfl sc_bits.nd rfl rfl (by decide) rfl rfl (pa_cons (pe_call G_take (hr.mono (by first | decide | exact Nat.le_refl _)) (by rfl) D_take.g D_take.F.kp D_take.b .nil pass0 (pa_cons (pv 0) (pa_cons (pe_op op_add (pe_callB cLen (by rfl) bi.len_ (by decide +kernel) (pa_cons (pv 6) pa_nil)) pe_int) pa_nil))) (pa_cons (pe_ix ix_str pe_str (pe_call G_take (hr.mono (by first | decide | exact Nat.le_refl _)) (by rfl) D_take.g D_take.F.kp D_take.b .nil pass0 (pa_cons (pv 0) (pa_cons pe_int pa_nil))) (fun _ _ => rfl)) pa_nil)) rfl)
   (pss_cons (ps_if (pt_cmpR op_eq (pv 4) pe_int (nomark _))
   (pss_one (ps_ret (pe_op op_addT (pe_op op_addT (pe_slice C8.sl_txt (pv 6) po_none (po_some (pv 5))) (pv 7)) (pe_slice C8.sl_txt (pv 6) (po_some (pv 5)) po_none))))
   pss_nil)
   (pss_cons (ps_if (pt_cmpR op_eq (pv 4) pe_int (nomark _))
   (pss_one (ps_ret (pe_op op_addT (pe_slice C8.sl_txt (pv 6) po_none (po_some (pv 5))) (pe_slice C8.sl_txt (pv 6) (po_some (pe_op op_add (pv 5) pe_int)) po_none))))
   pss_nil)
   (pss_cons (ps_if (pt_cmpR op_eq (pv 4) pe_int (nomark _))
   (pss_one (ps_ret (pe_op op_addT (pe_op op_addT (pe_slice C8.sl_txt (pv 6) po_none (po_some (pv 5))) (pv 7)) (pe_slice C8.sl_txt (pv 6) (po_some (pe_op op_add (pv 5) pe_int)) po_none))))
   pss_nil)
   (pss_cons (ps_if (pt_cmpR op_eq (pv 4) pe_int (nomark _))
   (pss_one (ps_ret (pe_slice C8.sl_txt (pv 6) po_none (po_some (pv 5)))))
   pss_nil)
   (pss_cons (ps_if (pt_cmpR op_eq (pv 4) pe_int (nomark _))
   (pss_cons (ps_set (i := 8) sc_bits.nd rfl (Or.inl rfl) (pe_call G_binary (hr.mono (by first | decide | exact Nat.le_refl _)) (by rfl) D_binary.g D_binary.F.kp D_binary.b .nil pass0 (pa_cons (pe_call G_take (hr.mono (by first | decide | exact Nat.le_refl _)) (by rfl) D_take.g D_take.F.kp D_take.b .nil pass0 (pa_cons (pv 0) (pa_cons pe_int pa_nil))) pa_nil)))
   (pss_one (ps_ret (pe_op op_addT (pe_op op_addT (pe_op op_addT (pe_op op_addT (pe_op op_mulT pe_str pe_int) (pe_op op_mulT (pe_op op_mulT pe_str (pe_op op_sub (pe_callB cLen (by rfl) bi.len_ (by decide +kernel) (pa_cons (pv 8) pa_nil)) pe_int)) (pe_callTy cInt (by rfl) bi.int_ (by decide +kernel) (pa_cons (pe_cmpR op_ne (pv 8) pe_str (nomark _)) pa_nil)))) pe_str) (pv 8)) (pe_slice C8.sl_txt (pv 6) (po_some (pv 5)) po_none)))))
   pss_nil)
   (pss_cons (ps_if (pt_cmpR op_eq (pv 4) pe_int (nomark _))
   (pss_one (ps_ret (pe_ix ix_list (pe_lst (pa_cons (pe_op op_addT (pe_op op_addT (pe_op op_mulT pe_str pe_int) pe_str) pe_str) (pa_cons (pe_op op_addT (pe_op op_addT (pe_op op_mulT pe_str pe_int) pe_str) pe_str) (pa_cons (pe_op op_mulT pe_str pe_int) (pa_cons (pe_op op_mulT pe_str pe_int) (pa_cons (pe_op op_addT (pe_op op_mulT pe_str pe_int) pe_str) pa_nil)))))) (pe_call G_take (hr.mono (by first | decide | exact Nat.le_refl _)) (by rfl) D_take.g D_take.F.kp D_take.b .nil pass0 (pa_cons (pv 0) (pa_cons pe_int pa_nil))) (fun _ _ => rfl))))
   pss_nil)
   (pss_cons (ps_if (pt_cmpR op_eq (pv 4) pe_int (nomark _))
   (pss_one (ps_ret (pe_ix ix_list (pe_lst (pa_cons (pe_op op_addT (pv 6) pe_str) (pa_cons (pe_op op_addT pe_str (pv 6)) (pa_cons pe_non (pa_cons pe_int (pa_cons pe_bl (pa_cons (pe_lst (pa_cons pe_str pa_nil)) (pa_cons (pe_op op_addT (pv 6) pe_str) (pa_cons (pe_tup (pa_cons pe_str (pa_cons pe_str pa_nil))) pa_nil))))))))) (pe_call G_take (hr.mono (by first | decide | exact Nat.le_refl _)) (by rfl) D_take.g D_take.F.kp D_take.b .nil pass0 (pa_cons (pv 0) (pa_cons pe_int pa_nil))) (fun _ _ => rfl))))
   pss_nil)
   (pss_one (ps_ret (pv 6)))))))))))))), ?_⟩
      refine rd_start (σ := [some (.ref p), some (.int (n : Nat)), some (.int (first : Int)), some (.ref b), none, none, none, none, none]) rfl ?_
      walk_at "rd"
      rename_i r1 H1 h10 h11 hP1 hK1
      refine rd_iteD (fun c => ?_) (fun c => ?_)
      · walk_at "rd"
        rename_i r2 H2 h20 h21 hP2 hK2 D hD
        obtain ⟨m, rfl⟩ : ∃ m : Nat, r2 = (m : Int) := ⟨r2.toNat, by omega⟩
        rw [Int.toNat_natCast]
        refine lc_bits (fun _ => rfl) hP2 hD (by omega) (fun i H' Q' hP' hK' hq => ?_) fun ls H3 hl hb hP3 hK3 e3 => ?_
        · walk_at "rd"
          rename_i r4 H4 h40 h41 hP4 hK4
          obtain ⟨m4, rfl⟩ : ∃ m : Nat, r4 = (m : Int) := ⟨r4.toNat, by omega⟩
          refine rd_ixS (l := [48, 49]) e_01 (by decide) (c := 48 + m4) (by obtain rfl | rfl : m4 = 0 ∨ m4 = 1 := by omega
                                                                            all_goals rfl) ?_
          exact hq _ _ (by unfold IsB; omega) hP4 hK4
        · walk_at "rd"
          have hfl : ls.flatten.length ≤ 1000 := by
            have key : ∀ ls : List (List Nat), (∀ l ∈ ls, ∃ c, l = [c] ∧ IsB c) → ls.flatten.length = ls.length := by
              intro ls
              induction ls with
              | nil => intro _; rfl
              | cons a r ih =>
                intro h
                obtain ⟨c, rfl, _⟩ := h a List.mem_cons_self
                rw [List.flatten_cons, List.length_append, ih fun l hl => h l (List.mem_cons_of_mem _ hl)]
                simp
                omega
            rw [key ls hb]
            omega
          refine rd_joinS e_empty (SqL.of e3) (by omega) ?_
          walk_at "rd"
          refine q _ _ _ (.good (fun c hc => ?_) (by omega)) hP3 (hK1.trans (hK2.trans hK3))
          obtain ⟨l, hl2, hc2⟩ := List.mem_flatten.mp hc
          obtain ⟨c', rfl, hb2⟩ := hb l hl2
          rw [List.mem_singleton.mp hc2]
          exact hb2
      · walk_at "rd"
        rename_i D hD ms H2 hlen hb hP2 hK2 e2
        rw [Int.toNat_natCast] at hlen
        have o1 := o1.mono (n := 10 ^ 58) (by decide)
        have o2 := o2.mono (n := 10 ^ 58) (by decide)
        have hT2 : TbsV K H2 b T := (hT.lk (LK.pool hP hK1)).lk (LK.pool hP1 hK2)
        have hfl := wst_flat (first := first) hb o1 o2 ms.length (by omega)
        have hbn := wst_bin ms first T ms.length
        refine use_wr e2 (by omega) (by omega) hb hT2 o1 o2 fun w e H3 hs3 hn3 hw hTw => ?_
        have hP3 := hP2.same hs3
        generalize (wst ms first T ms.length).1.flatten = l at hfl hbn hw
        have hll : l.length ≤ 12000 := by omega
        walk_at "rd"
        rename_i r4 H4 h40 h41 hP4 hK4 r5 H5 h50 h51 hP5 hK5
        obtain ⟨at_, rfl⟩ : ∃ m : Nat, r4 = (m : Int) := ⟨r4.toNat, by omega⟩
        obtain ⟨sg, rfl⟩ : ∃ m : Nat, r5 = (m : Int) := ⟨r5.toNat, by omega⟩
        refine rd_ixS (l := [48, 49]) e_01 (by decide) (c := 48 + sg) (by obtain rfl | rfl : sg = 0 ∨ sg = 1 := by omega
                                                                          all_goals rfl) ?_
        have hsg : IsB (48 + sg) := by unfold IsB; omega
        have hK05 : Kp p H H5 := hK1.trans (hK2.trans ((Kp.of hs3).trans (hK4.trans hK5)))
        generalize 48 + sg = c at hsg
        have lt : (l.take at_).length + (l.drop at_).length = l.length := by rw [← List.length_append, List.take_append_drop]
        have ld1 : (l.drop (at_ + 1)).length ≤ (l.drop at_).length := by rw [List.length_drop, List.length_drop]; omega
        have bt := bin_take hbn at_
        have bd := bin_drop hbn at_
        have bd1 := bin_drop hbn (at_ + 1)
        have e1c : (at_ : Int) + 1 = ((at_ + 1 : Nat) : Int) := by omega
        walk_at "rd"
        refine rd_iteD (fun c2 => ?_) (fun c2 => ?_)
        · walk_at "rd"
          refine q _ _ _ (.good (bin_app (bin_app bt (bin_one hsg)) bd) ?_) hP5 hK05
          simp only [List.length_append, List.length_singleton]
          omega
        walk_at "rd"
        refine rd_iteD (fun c3 => ?_) (fun c3 => ?_)
        · walk_at "rd"
          rw [e1c]
          walk_at "rd"
          refine q _ _ _ (.good (bin_app bt bd1) ?_) hP5 hK05
          simp only [List.length_append]
          omega
        walk_at "rd"
        refine rd_iteD (fun c4 => ?_) (fun c4 => ?_)
        · walk_at "rd"
          rw [e1c]
          walk_at "rd"
          refine q _ _ _ (.good (bin_app (bin_app bt (bin_one hsg)) bd1) ?_) hP5 hK05
          simp only [List.length_append, List.length_singleton]
          omega
        walk_at "rd"
        refine rd_iteD (fun c5 => ?_) (fun c5 => ?_)
        · walk_at "rd"
          exact q _ _ _ (.good bt (by omega)) hP5 hK05
        walk_at "rd"
        refine rd_iteD (fun c6 => ?_) (fun c6 => ?_)
        · walk_at "rd"
          rename_i r6 H6 h60 h61 hP6 hK6
          obtain ⟨u, rfl⟩ : ∃ m : Nat, r6 = (m : Int) := ⟨r6.toNat, by omega⟩
          refine use_binary (Nat.le_trans (nb_min (j := 8) (Nat.lt_of_lt_of_le (show u < 200 by omega) (by decide)) (by decide)) (by decide)) ?_
          obtain ⟨bl, bb⟩ := binO_le (u := u) (by omega)
          generalize (if u = 0 then [] else binB u) = dg at bl bb
          walk_at "rd"
          refine rd_mulT (k := 20) e_1 (by decide) ?_
          walk_at "rd"
          refine rd_mulA e_1 (by omega) (by omega) (by show 1 * _ ≤ 1000000; omega) ?_
          generalize hk : (((dg.length : Nat) : Int) - 1).toNat = k
          have hk7 : k ≤ 7 := by omega
          walk_at "rd"
          have hq : ∀ z : Int, 0 ≤ z → z ≤ 1 → repL (repL [49] k) z.toNat = repL (repL [49] k) z.toNat ∧ (repL (repL [49] k) z.toNat).length ≤ 7 := fun z z0 z1 => by
            refine ⟨rfl, ?_⟩
            rw [repL_length, repL_length]
            obtain rfl | rfl : z = 0 ∨ z = 1 := by omega
            · show 0 * _ ≤ 7; omega
            · show 1 * (k * 1) ≤ 7; omega
          have hz : 0 ≤ (if (!decide (V.str (SX.S dg) = V.str (Str.ofString ""))) = true then (1 : Int) else 0) ∧ (if (!decide (V.str (SX.S dg) = V.str (Str.ofString ""))) = true then (1 : Int) else 0) ≤ 1 := by split <;> omega
          generalize (if (!decide (V.str (SX.S dg) = V.str (Str.ofString ""))) = true then (1 : Int) else 0) = z at hz
          refine rd_mulA (a := repL [49] k) rfl (by omega) (by omega) (by rw [repL_length]; obtain rfl | rfl : z = 0 ∨ z = 1 := by omega
                                                                          · show _ * 0 ≤ _; omega
                                                                          · show (k * 1) * 1 ≤ _; omega) ?_
          have hql := (hq z hz.1 hz.2).2
          have hqb := bin_repL (bin_repL b1 k) z.toNat
          generalize repL (repL [49] k) z.toNat = rp at hql hqb
          walk_at "rd"
          refine q _ _ _ (.good (bin_app (bin_app (bin_app (bin_app (bin_rep 20) hqb) b0) bb) bd) ?_) hP6 (hK05.trans hK6)
          simp only [List.length_append, List.length_singleton, List.length_replicate]
          omega
        walk_at "rd"
        refine rd_iteD (fun c7 => ?_) (fun c7 => ?_)
        · walk_at "rd"
          refine rd_mulT (k := 21) e_1 (by decide) ?_
          walk_at "rd"
          refine rd_mulT (k := 20) e_1 (by decide) ?_
          walk_at "rd"
          refine rd_mulT (k := 20) e_1 (by decide) ?_
          walk_at "rd"
          refine rd_mulT (k := 60) e_1 (by decide) ?_
          walk_at "rd"
          refine rd_mulT (k := 20) e_1 (by decide) ?_
          walk_at "rd"
          rename_i L hL r6 H6 h60 h61 hP6 hK6
          have eL : H6 L = some (.lst [.str (SX.S (List.replicate 21 49 ++ [48] ++ [48, 49])), .str (SX.S (List.replicate 20 49 ++ [48] ++ [48])), .str (SX.S (List.replicate 20 49)), .str (SX.S (List.replicate 60 49)), .str (SX.S (List.replicate 20 49 ++ [48, 49]))]) := by walk_at "hg"
          refine rd_ixP BinS (SqL.of eL) h60 (by show r6 < 5; omega) (fun v hv => ?_) fun v hv => ?_
          · simp only [List.mem_cons, List.not_mem_nil, or_false] at hv
            rcases hv with rfl | rfl | rfl | rfl | rfl
            · exact binS_of (bin_app (bin_app (bin_rep 21) b0) b01) (by decide)
            · exact binS_of (bin_app (bin_app (bin_rep 20) b0) b0) (by decide)
            · exact binS_of (bin_rep 20) (by decide)
            · exact binS_of (bin_rep 60) (by decide)
            · exact binS_of (bin_app (bin_rep 20) b01) (by decide)
          · obtain ⟨l2, rfl, hb2, hl2⟩ := hv
            exact q _ _ _ (.good hb2 (by omega)) hP6 (hK05.trans (by walk_at "kp"))
        walk_at "rd"
        refine rd_iteD (fun c8 => ?_) (fun c8 => ?_)
        · walk_at "rd"
          refine rd_addT rfl e_sp (by simp only [List.length_singleton]; omega) ?_
          walk_at "rd"
          refine rd_addT e_2 rfl (by simp only [List.length_singleton]; omega) ?_
          walk_at "rd"
          refine rd_addT rfl e_0a (by show l.length + 2 ≤ _; omega) ?_
          walk_at "rd"
          rename_i q1 hq1 q2 hq2 L hL r6 H6 h60 h61 hP6 hK6
          have eL : H6 L = some (.lst [.str (SX.S (l ++ [32])), .str (SX.S ([50] ++ l)), .non, .int 5, .bl true, .ref q1, .str (SX.S (l ++ [48, 97])), .ref q2]) := by walk_at "hg"
          have eq1 : H6 q1 = some (.lst [.str "0"]) := by walk_at "hg"
          have eq2 : H6 q2 = some (.tup [.str "1", .str "0"]) := by walk_at "hg"
          have hsm : ∀ c ∈ l, c < 1114112 := fun c hc => by have := hbn c hc; unfold IsB at this; omega
          refine rd_ixP (fun v => ∃ o, BtR H6 v o) (SqL.of eL) h60 (by show r6 < 8; omega) (fun v hv => ?_) fun v hv => ?_
          · simp only [List.mem_cons, List.not_mem_nil, or_false] at hv
            rcases hv with rfl | rfl | rfl | rfl | rfl | rfl | rfl | rfl
            · exact bt_str (by simp only [List.length_append, List.length_singleton]; omega) (fun c hc => by
                rcases List.mem_append.mp hc with z | z
                · exact hsm c z
                · rw [List.mem_singleton.mp z]; decide)
            · exact bt_str (by simp only [List.length_append, List.length_singleton]; omega) (fun c hc => by
                rcases List.mem_append.mp hc with z | z
                · rw [List.mem_singleton.mp z]; decide
                · exact hsm c z)
            · exact ⟨_, .non⟩
            · exact ⟨_, .int⟩
            · exact ⟨_, .bl⟩
            · exact ⟨_, .lst eq1⟩
            · exact bt_str (by rw [List.length_append]; show l.length + 2 ≤ _; omega) (fun c hc => by
                rcases List.mem_append.mp hc with z | z
                · exact hsm c z
                · simp only [List.mem_cons, List.not_mem_nil, or_false] at z
                  omega)
            · exact ⟨_, .tup eq2⟩
          · obtain ⟨o, ho⟩ := hv
            exact q _ _ _ ho hP6 (hK05.trans (by walk_at "kp"))
        walk_at "rd"
        exact q _ _ _ (.good hbn (by omega)) hP5 hK05
    ) only [↓lt_eq]
theorem ok_law {f : Addr} {fd : FuncData} {f_pool : Addr} {fd_pool : FuncData} {f_take : Addr} {fd_take : FuncData} {f_same : Addr} {fd_same : FuncData} {f_write_numbers : Addr} {fd_write_numbers : FuncData} {f_read_numbers : Addr} {fd_read_numbers : FuncData} {f_start : Addr} {fd_start : FuncData} {f_read : Addr} {fd_read : FuncData} {f_bits : Addr} {fd_bits : FuncData}    (D : Dn K mg "law" s_law ["_law_script"] f fd) (bi : Bi mg) (G_pool : FnOk P w K mg base CX0 1 f_pool fd_pool ["_law_script", "_law_k"] (spPool K)) (D_pool : Dn K mg "_law_pool" s_pool ["_law_script", "_law_k"] f_pool fd_pool) (G_take : FnOk P w K mg base CX0 1 f_take fd_take ["_law_pool_here", "_law_many"] spTake) (D_take : Dn K mg "_law_take" s_take ["_law_pool_here", "_law_many"] f_take fd_take) (G_same : FnOk P w K mg base CX0 4 f_same fd_same ["_law_actual", "_law_due"] (spSame K 3)) (D_same : Dn K mg "_law_same" s_same ["_law_actual", "_law_due"] f_same fd_same) (G_write_numbers : FnOk P w K mg base CX0 6 f_write_numbers fd_write_numbers ["numbers", "coarse", "tables"] (spWrB K)) (D_write_numbers : Dn K mg "write_numbers" s_write_numbers ["numbers", "coarse", "tables"] f_write_numbers fd_write_numbers) (G_read_numbers : FnOk P w K mg base CX0 6 f_read_numbers fd_read_numbers ["bits", "length", "coarse", "tables"] (spRdV K)) (D_read_numbers : Dn K mg "read_numbers" s_read_numbers ["bits", "length", "coarse", "tables"] f_read_numbers fd_read_numbers) (G_start : FnOk P w K mg base CX0 3 f_start fd_start ["_law_pool_here"] (spStart K)) (D_start : Dn K mg "_law_start" s_start ["_law_pool_here"] f_start fd_start) (G_read : FnOk P w K mg base CX0 4 f_read fd_read ["_law_text", "_law_size", "_law_first", "_law_start_here"] (spRdV K)) (D_read : Dn K mg "_law_read" s_read ["_law_text", "_law_size", "_law_first", "_law_start_here"] f_read fd_read) (G_bits : FnOk P w K mg base CX0 4 f_bits fd_bits ["_law_pool_here", "_law_size", "_law_first", "_law_start_here"] (spBtsL K)) (D_bits : Dn K mg "_law_bits" s_bits ["_law_pool_here", "_law_size", "_law_first", "_law_start_here"] f_bits fd_bits)     : FnOk P w K mg base CX0 7 f fd ["_law_script"] (spLaw K) := by
  refine lt_out ?_
  simp (disch := with_unfolding_all
    refine D.F.ok sc_law (fun vs H Q E h => ?_) (fun cdv A outer s H vs Q E hr h => ?_)
    · obtain ⟨a, ns, rfl, _⟩ := h
      rfl
    · obtain ⟨a, ns, rfl, hS, hl, q⟩ := h
      refine ⟨_, (pss_cons (ps_for PassesOwn.never rfl (pi_range1 (by rfl) bi.range_ (pa_cons (pe_callB (cMax rfl) (by rfl) bi.max_ (by decide +kernel) (pa_cons pe_int (pa_cons (pe_callB (cMin rfl) (by rfl) bi.min_ (by decide +kernel) (pa_cons (pe_callB cLen (by rfl) bi.len_ (by decide +kernel) (pa_cons (pv 0) pa_nil)) (pa_cons pe_int pa_nil))) pa_nil))) pa_nil)) (pg_name (i := 1) sc_law.nd rfl (Or.inl rfl))
   (pss_cons (ps_set (i := 2) sc_law.nd rfl (Or.inl rfl) (pe_call G_pool (hr.mono (by first | decide | exact Nat.le_refl _)) (by rfl) D_pool.g D_pool.F.kp D_pool.b .nil pass0 (pa_cons (pv 0) (pa_cons (pv 1) pa_nil))))
   (pss_cons (ps_set (i := 3) sc_law.nd rfl (Or.inl rfl) (pe_call G_take (hr.mono (by first | decide | exact Nat.le_refl _)) (by rfl) D_take.g D_take.F.kp D_take.b .nil pass0 (pa_cons (pv 2) (pa_cons pe_int pa_nil))))
   (pss_cons (ps_par (i := 4) (j := 5) rfl sc_law.nd rfl rfl (by decide) rfl rfl (pa_cons (pe_call G_take (hr.mono (by first | decide | exact Nat.le_refl _)) (by rfl) D_take.g D_take.F.kp D_take.b .nil pass0 (pa_cons (pv 2) (pa_cons (pe_op op_add (pv 3) pe_int) pa_nil))) (pa_cons (pe_call G_start (hr.mono (by first | decide | exact Nat.le_refl _)) (by rfl) D_start.g D_start.F.kp D_start.b .nil pass0 (pa_cons (pv 2) pa_nil)) pa_nil)) rfl)
   (pss_cons (ps_set (i := 6) sc_law.nd rfl (Or.inl rfl) (pe_call G_bits (hr.mono (by first | decide | exact Nat.le_refl _)) (by rfl) D_bits.g D_bits.F.kp D_bits.b .nil pass0 (pa_cons (pv 2) (pa_cons (pv 3) (pa_cons (pv 4) (pa_cons (pv 5) pa_nil))))))
   (pss_cons (ps_set (i := 7) sc_law.nd rfl (Or.inl rfl) (pe_call G_read_numbers (hr.mono (by first | decide | exact Nat.le_refl _)) (by rfl) D_read_numbers.g D_read_numbers.F.kp D_read_numbers.b .nil pass0 (pa_cons (pv 6) (pa_cons (pv 3) (pa_cons (pv 4) (pa_cons (pv 5) pa_nil))))))
   (pss_cons (ps_if (pt_not (pt_val (pe_call G_same (hr.mono (by first | decide | exact Nat.le_refl _)) (by rfl) D_same.g D_same.F.kp D_same.b .nil pass0 (pa_cons (pv 7) (pa_cons (pe_call G_read (hr.mono (by first | decide | exact Nat.le_refl _)) (by rfl) D_read.g D_read.F.kp D_read.b .nil pass0 (pa_cons (pv 6) (pa_cons (pv 3) (pa_cons (pv 4) (pa_cons (pv 5) pa_nil))))) pa_nil)))))
   (pss_one (ps_ret pe_bl))
   pss_nil)
   (pss_one (ps_if (PW.pt (pw_and (pt_cmpR op_notN (pv 7) pe_non (nomark _)) (pw_and1 (pt_cmpR (op_eqD hr.units) (pe_lc (own := [("_law_one", 8)]) (g := gName 8) (tt := _) rfl sc_law.nd (pi_list (pe_ix ix_tup (pv 7) pe_int (fun _ _ => rfl))) (blkOk_by (N := ["_law_script", "_law_k", "_law_pool_here", "_law_size", "_law_first", "_law_start_here", "_law_text", "_law_actual", "_law_one", "_law_again"]) (sc := defScope s_law) (by decide +kernel)) (fun _ _ _ _ _ => pg_name (i := 8) sc_law.nd rfl (Or.inl rfl)) (fun _ _ _ _ _ => (pts_one (pt_cmpR op_ge (pe_callB cAbs (by rfl) bi.abs_ (by decide +kernel) (pa_cons (pv 8) pa_nil)) (pe_op op_pow pe_int pe_int) (nomark _)))) (fun _ _ _ _ _ => (pv 8))) (pe_lst pa_nil) (nomark _)))))
   (pss_cons (ps_set (i := 9) sc_law.nd rfl (Or.inl rfl) (pe_call G_write_numbers (hr.mono (by first | decide | exact Nat.le_refl _)) (by rfl) D_write_numbers.g D_write_numbers.F.kp D_write_numbers.b .nil pass0 (pa_cons (pe_ix ix_tup (pv 7) pe_int (fun _ _ => rfl)) (pa_cons (pv 4) (pa_cons (pv 5) pa_nil)))))
   (pss_one (ps_if (pt_not (pt_val (pe_call G_same (hr.mono (by first | decide | exact Nat.le_refl _)) (by rfl) D_same.g D_same.F.kp D_same.b .nil pass0 (pa_cons (pv 9) (pa_cons (pe_tup (pa_cons (pv 6) (pa_cons (pe_ix ix_tup (pv 7) pe_int (fun _ _ => rfl)) pa_nil))) pa_nil)))))
   (pss_one (ps_ret pe_bl))
   pss_nil)))
   pss_nil)))))))))
   (pss_one (ps_ret pe_bl))), ?_⟩
      refine rd_start (σ := [some (.ref a), none, none, none, none, none, none, none, none, none]) rfl ?_
      walk_at "rd"
      have hn := mm_nat (ns.map V.int).length 16 (by decide)
      refine for_range (lo := 0) (n := _) (fun i σ H' => ∃ x1 x2 x3 x4 x5 x6 x7 x8 x9, σ = [some (.ref a), x1, x2, x3, x4, x5, x6, x7, x8, x9] ∧ Same H H') ⟨_, _, _, _, _, _, _, _, _, rfl, by walk_at "sm"⟩ (fun i σ H1 hi hI => ?_) (fun σ H1 hI => ?_)
      · obtain ⟨x1, x2, x3, x4, x5, x6, x7, x8, x9, rfl, hs⟩ := hI
        have hi' : i < 16 := Nat.lt_of_lt_of_le hi hn
        have hS1 : SqL K H1 a (ns.map V.int) := hs.seq hS
        walk_at "rd"
        rename_i p H2 hp0 hs2 hP2 r3 H3 h30 h31 hP3 hK3 r4 H4 h40 h41 hP4 hK4 st T H5 hstn hT ok1 ok2 hP5 hK5
        obtain ⟨sz, rfl⟩ : ∃ k : Nat, r3 = (k : Int) := ⟨r3.toNat, by omega⟩
        obtain ⟨fi, rfl⟩ : ∃ k : Nat, r4 = (k : Int) := ⟨r4.toNat, by omega⟩
        refine use_btsL hP5 (by omega) (by omega) hT ok1 ok2 fun v o H6 hB hP6 hK6 => ?_
        have t1 := tbB_of ok1
        have t2 := tbB_of ok2
        have hT6 : TbsV K H6 st T := hT.lk (LK.pool hP5 hK6)
        have hsA : Same H H6 := by walk_at "ct"
        clear hP2 hP3 hP4 hP5 hK3 hK4 hK5 hK6 hp0
        walk_at "rd"
        cases hr : rdV o sz fi T with
        | none =>
          refine use_rdV hB (by omega) (by omega) hT6 t1 t2 (fun _ H7 hs7 => ?_) (fun ns T' z => by rw [hr] at z; cases z)
          walk_at "rd"
          refine use_rdV (hB.same hs7) (by omega) (by omega) (hT6.lk (.of hs7)) t1 t2 (fun _ H8 hs8 => ?_) (fun ns T' z => by rw [hr] at z; cases z)
          walk_at "rd"
          refine ⟨rfl, ?_⟩
          walk_at "rd"
          refine if_noN rfl ?_
          walk_at "rd"
          exact ⟨_, _, _, _, _, _, _, _, _, rfl, by walk_at "sm"⟩
        | some r =>
          obtain ⟨ms, T1⟩ := r
          refine use_rdV hB (by omega) (by omega) hT6 t1 t2 (fun z => by rw [hr] at z; cases z) (fun ns T' z p7 m7 q7 H7 hs7 hp7 hm7 ep7 em7 eq7 => ?_)
          rw [hr] at z
          obtain ⟨rfl, rfl⟩ : ms = ns ∧ T1 = T' := by have := Option.some.inj z; exact ⟨congrArg Prod.fst this, congrArg Prod.snd this⟩
          walk_at "rd"
          refine use_rdV (hB.same hs7) (by omega) (by omega) (hT6.lk (.of hs7)) t1 t2 (fun z => by rw [hr] at z; cases z) (fun ns2 T2 z2 p8 m8 q8 H8 hs8 hp8 hm8 ep8 em8 eq8 => ?_)
          rw [hr] at z2
          obtain ⟨rfl, rfl⟩ : ms = ns2 ∧ T1 = T2 := by have := Option.some.inj z2; exact ⟨congrArg Prod.fst this, congrArg Prod.snd this⟩
          walk_at "rd"
          refine use_same (sm_rd (hs8 _ _ ep7) ep8 (hs8 _ _ em7) em8 (eq7.lk (.of hs8)) eq8) fun H9 hs9 => ?_
          walk_at "rd"
          refine ⟨rfl, ?_⟩
          walk_at "rd"
          have s79 := hs8.trans hs9
          refine if_yesN (fun z => V.noConfusion z) ?_
          walk_at "rd"
          refine ⟨m7, rfl, ⟨_, SqL.of (s79 _ _ em7)⟩, fun D hD => ?_⟩
          obtain ⟨l, rfl, hlb, hll, rfl⟩ : ∃ l, o = some l ∧ (∀ c ∈ l, IsB c) ∧ l.length ≤ 15000 ∧ v = .str (SX.S l) := by
            cases hB with
            | good hb hl => exact ⟨_, rfl, hb, hl, rfl⟩
            | _ => cases hr
          obtain ⟨wl, wf, wT, wB⟩ := rdA_wst hlb hll (by decide) t1 t2 hr
          refine lc_filtB (fun z => decide (10 ^ 60 ≤ (if z < 0 then -z else z))) (SqL.of (s79 _ _ em7)) (by omega) (fun _ => rfl) hD (fun z H10 q10 s10 hq10 => ?_) (fun z H10 Q' hq10 => ?_) fun H10 s10 eD => ?_
          · walk_at "rd"
            exact hq10
          · walk_at "rd"
            exact hq10
          walk_at "rd"
          rename_i D2 hD2
          have sD2 := same_new (o := .lst []) hD2
          refine rd_eqL (ms := []) (SqL.of (sD2 _ _ eD)) (SqL.of upd_same) ?_
          have s10' := s10.trans sD2
          have s710 := s79.trans s10'
          have eT := s710 _ _ ep7
          have eM := s710 _ _ em7
          have sAll := hsA.trans (hs7.trans s710)
          refine rd_bl ?_
          refine rd_iteD (fun c => ?_) (fun c => ?_)
          · have hsmall : ∀ z ∈ ms, nb (uOf z) ≤ 15000 := fun z hz => by
              have h1 := List.filter_eq_nil_iff.mp c z hz
              have h1 : ¬ (10 ^ 60 : Int) ≤ (if z < 0 then -z else z) := fun y => h1 (decide_eq_true y)
              exact nb_sm (by split at h1 <;> omega)
            have hT10 := (hT6.lk (.of (hs7.trans s710)))
            walk_at "rd"
            refine use_wrB eM (by omega) (by omega) hsmall hT10 (fun i hi => ⟨(wB i (by omega)).1.mono (by omega), (wB i (by omega)).2.mono (by omega)⟩) (by rw [wf]; exact hll) fun p11 q11 H11 hs11 hn11 ep11 eq11 => ?_
            rw [wf] at ep11
            rw [wT] at eq11
            walk_at "rd"
            rename_i t12 ht12
            have s12 := same_new (o := .tup [.str (SX.S l), .ref q7]) ht12
            refine use_same (sm_wr (s12 _ _ ep11) upd_same (eq11.lk (.of s12)) ((eq7.lk (.of (s710.trans hs11))).lk (.of s12))) fun H13 hs13 => ?_
            walk_at "rd"
            exact ⟨_, _, _, _, _, _, _, _, _, rfl, sAll.trans (hs11.trans (s12.trans hs13))⟩
          · walk_at "rd"
            exact ⟨_, _, _, _, _, _, _, _, _, rfl, sAll⟩
      · obtain ⟨x1, x2, x3, x4, x5, x6, x7, x8, x9, rfl, hs⟩ := hI
        walk_at "rd"
        exact q _
    ) only [↓lt_eq]
end
theorem mkD_is_integer {K : PySem.W.Frag} {h : Heap} {mg : Str → Option Value} (X : K.In h) (G : h.Ns mainGlobals mg) {f : Addr} {od an : Option Addr} {sl : Array (Option Value)} {oc kV dc pm cd ct : Value} (a : PySem.W.nsIn K mainGlobals "is_integer" = some (some (.ref f))) (lk : K.lookup f = some ⟨oc, od, .func (PySem.W.fnOf "is_integer" "is_integer" (defArgs s_is_integer) (defBody s_is_integer) (defScope s_is_integer) .none kV dc pm an cd ct), sl⟩) (c : PySem.W.codeIn K cd "is_integer" = true) (k : PySem.W.keepIn K (.ref f) = true) : Dn K mg "is_integer" s_is_integer ["value"] f (PySem.W.fnOf "is_integer" "is_integer" (defArgs s_is_integer) (defBody s_is_integer) (defScope s_is_integer) .none kV dc pm an cd ct) := by
  have F := fun_mk (st := s_is_integer) lk c k
  exact ⟨F, PySem.W.mg_of X G a, F.binds (ps := ["value"]) fun _ _ _ _ _ _ us hl => match us, hl with | [_], _ => rfl⟩
theorem mkD_is_within {K : PySem.W.Frag} {h : Heap} {mg : Str → Option Value} (X : K.In h) (G : h.Ns mainGlobals mg) {f : Addr} {od an : Option Addr} {sl : Array (Option Value)} {oc kV dc pm cd ct : Value} (a : PySem.W.nsIn K mainGlobals "is_within" = some (some (.ref f))) (lk : K.lookup f = some ⟨oc, od, .func (PySem.W.fnOf "is_within" "is_within" (defArgs s_is_within) (defBody s_is_within) (defScope s_is_within) .none kV dc pm an cd ct), sl⟩) (c : PySem.W.codeIn K cd "is_within" = true) (k : PySem.W.keepIn K (.ref f) = true) : Dn K mg "is_within" s_is_within ["value", "low", "high"] f (PySem.W.fnOf "is_within" "is_within" (defArgs s_is_within) (defBody s_is_within) (defScope s_is_within) .none kV dc pm an cd ct) := by
  have F := fun_mk (st := s_is_within) lk c k
  exact ⟨F, PySem.W.mg_of X G a, F.binds (ps := ["value", "low", "high"]) fun _ _ _ _ _ _ us hl => match us, hl with | [_, _, _], _ => rfl⟩
theorem mkD_check_within {K : PySem.W.Frag} {h : Heap} {mg : Str → Option Value} (X : K.In h) (G : h.Ns mainGlobals mg) {f : Addr} {od an : Option Addr} {sl : Array (Option Value)} {oc kV dc pm cd ct : Value} (a : PySem.W.nsIn K mainGlobals "check_within" = some (some (.ref f))) (lk : K.lookup f = some ⟨oc, od, .func (PySem.W.fnOf "check_within" "check_within" (defArgs s_check_within) (defBody s_check_within) (defScope s_check_within) .none kV dc pm an cd ct), sl⟩) (c : PySem.W.codeIn K cd "check_within" = true) (k : PySem.W.keepIn K (.ref f) = true) : Dn K mg "check_within" s_check_within ["value", "low", "high"] f (PySem.W.fnOf "check_within" "check_within" (defArgs s_check_within) (defBody s_check_within) (defScope s_check_within) .none kV dc pm an cd ct) := by
  have F := fun_mk (st := s_check_within) lk c k
  exact ⟨F, PySem.W.mg_of X G a, F.binds (ps := ["value", "low", "high"]) fun _ _ _ _ _ _ us hl => match us, hl with | [_, _, _], _ => rfl⟩
theorem mkD_check_items {K : PySem.W.Frag} {h : Heap} {mg : Str → Option Value} (X : K.In h) (G : h.Ns mainGlobals mg) {f : Addr} {od an : Option Addr} {sl : Array (Option Value)} {oc kV dc pm cd ct : Value} (a : PySem.W.nsIn K mainGlobals "check_items" = some (some (.ref f))) (lk : K.lookup f = some ⟨oc, od, .func (PySem.W.fnOf "check_items" "check_items" (defArgs s_check_items) (defBody s_check_items) (defScope s_check_items) .none kV dc pm an cd ct), sl⟩) (c : PySem.W.codeIn K cd "check_items" = true) (k : PySem.W.keepIn K (.ref f) = true) : Dn K mg "check_items" s_check_items ["values"] f (PySem.W.fnOf "check_items" "check_items" (defArgs s_check_items) (defBody s_check_items) (defScope s_check_items) .none kV dc pm an cd ct) := by
  have F := fun_mk (st := s_check_items) lk c k
  exact ⟨F, PySem.W.mg_of X G a, F.binds (ps := ["values"]) fun _ _ _ _ _ _ us hl => match us, hl with | [_], _ => rfl⟩
theorem mkD_check_block {K : PySem.W.Frag} {h : Heap} {mg : Str → Option Value} (X : K.In h) (G : h.Ns mainGlobals mg) {f : Addr} {od an : Option Addr} {sl : Array (Option Value)} {oc kV dc pm cd ct : Value} (a : PySem.W.nsIn K mainGlobals "check_block" = some (some (.ref f))) (lk : K.lookup f = some ⟨oc, od, .func (PySem.W.fnOf "check_block" "check_block" (defArgs s_check_block) (defBody s_check_block) (defScope s_check_block) .none kV dc pm an cd ct), sl⟩) (c : PySem.W.codeIn K cd "check_block" = true) (k : PySem.W.keepIn K (.ref f) = true) : Dn K mg "check_block" s_check_block ["values", "least"] f (PySem.W.fnOf "check_block" "check_block" (defArgs s_check_block) (defBody s_check_block) (defScope s_check_block) .none kV dc pm an cd ct) := by
  have F := fun_mk (st := s_check_block) lk c k
  exact ⟨F, PySem.W.mg_of X G a, F.binds (ps := ["values", "least"]) fun _ _ _ _ _ _ us hl => match us, hl with | [_, _], _ => rfl⟩
theorem mkD_is_table {K : PySem.W.Frag} {h : Heap} {mg : Str → Option Value} (X : K.In h) (G : h.Ns mainGlobals mg) {f : Addr} {od an : Option Addr} {sl : Array (Option Value)} {oc kV dc pm cd ct : Value} (a : PySem.W.nsIn K mainGlobals "is_table" = some (some (.ref f))) (lk : K.lookup f = some ⟨oc, od, .func (PySem.W.fnOf "is_table" "is_table" (defArgs s_is_table) (defBody s_is_table) (defScope s_is_table) .none kV dc pm an cd ct), sl⟩) (c : PySem.W.codeIn K cd "is_table" = true) (k : PySem.W.keepIn K (.ref f) = true) : Dn K mg "is_table" s_is_table ["value"] f (PySem.W.fnOf "is_table" "is_table" (defArgs s_is_table) (defBody s_is_table) (defScope s_is_table) .none kV dc pm an cd ct) := by
  have F := fun_mk (st := s_is_table) lk c k
  exact ⟨F, PySem.W.mg_of X G a, F.binds (ps := ["value"]) fun _ _ _ _ _ _ us hl => match us, hl with | [_], _ => rfl⟩
theorem mkD_is_tables {K : PySem.W.Frag} {h : Heap} {mg : Str → Option Value} (X : K.In h) (G : h.Ns mainGlobals mg) {f : Addr} {od an : Option Addr} {sl : Array (Option Value)} {oc kV dc pm cd ct : Value} (a : PySem.W.nsIn K mainGlobals "is_tables" = some (some (.ref f))) (lk : K.lookup f = some ⟨oc, od, .func (PySem.W.fnOf "is_tables" "is_tables" (defArgs s_is_tables) (defBody s_is_tables) (defScope s_is_tables) .none kV dc pm an cd ct), sl⟩) (c : PySem.W.codeIn K cd "is_tables" = true) (k : PySem.W.keepIn K (.ref f) = true) : Dn K mg "is_tables" s_is_tables ["value"] f (PySem.W.fnOf "is_tables" "is_tables" (defArgs s_is_tables) (defBody s_is_tables) (defScope s_is_tables) .none kV dc pm an cd ct) := by
  have F := fun_mk (st := s_is_tables) lk c k
  exact ⟨F, PySem.W.mg_of X G a, F.binds (ps := ["value"]) fun _ _ _ _ _ _ us hl => match us, hl with | [_], _ => rfl⟩
theorem mkD_parameter {K : PySem.W.Frag} {h : Heap} {mg : Str → Option Value} (X : K.In h) (G : h.Ns mainGlobals mg) {f : Addr} {od an : Option Addr} {sl : Array (Option Value)} {oc kV dc pm cd ct : Value} (a : PySem.W.nsIn K mainGlobals "parameter" = some (some (.ref f))) (lk : K.lookup f = some ⟨oc, od, .func (PySem.W.fnOf "parameter" "parameter" (defArgs s_parameter) (defBody s_parameter) (defScope s_parameter) .none kV dc pm an cd ct), sl⟩) (c : PySem.W.codeIn K cd "parameter" = true) (k : PySem.W.keepIn K (.ref f) = true) : Dn K mg "parameter" s_parameter ["table"] f (PySem.W.fnOf "parameter" "parameter" (defArgs s_parameter) (defBody s_parameter) (defScope s_parameter) .none kV dc pm an cd ct) := by
  have F := fun_mk (st := s_parameter) lk c k
  exact ⟨F, PySem.W.mg_of X G a, F.binds (ps := ["table"]) fun _ _ _ _ _ _ us hl => match us, hl with | [_], _ => rfl⟩
theorem mkD_table_behind {K : PySem.W.Frag} {h : Heap} {mg : Str → Option Value} (X : K.In h) (G : h.Ns mainGlobals mg) {f : Addr} {od an : Option Addr} {sl : Array (Option Value)} {oc kV dc pm cd ct : Value} (a : PySem.W.nsIn K mainGlobals "table_behind" = some (some (.ref f))) (lk : K.lookup f = some ⟨oc, od, .func (PySem.W.fnOf "table_behind" "table_behind" (defArgs s_table_behind) (defBody s_table_behind) (defScope s_table_behind) .none kV dc pm an cd ct), sl⟩) (c : PySem.W.codeIn K cd "table_behind" = true) (k : PySem.W.keepIn K (.ref f) = true) : Dn K mg "table_behind" s_table_behind ["table", "code"] f (PySem.W.fnOf "table_behind" "table_behind" (defArgs s_table_behind) (defBody s_table_behind) (defScope s_table_behind) .none kV dc pm an cd ct) := by
  have F := fun_mk (st := s_table_behind) lk c k
  exact ⟨F, PySem.W.mg_of X G a, F.binds (ps := ["table", "code"]) fun _ _ _ _ _ _ us hl => match us, hl with | [_, _], _ => rfl⟩
theorem mkD_code_number {K : PySem.W.Frag} {h : Heap} {mg : Str → Option Value} (X : K.In h) (G : h.Ns mainGlobals mg) {f : Addr} {od an : Option Addr} {sl : Array (Option Value)} {oc kV dc pm cd ct : Value} (a : PySem.W.nsIn K mainGlobals "code_number" = some (some (.ref f))) (lk : K.lookup f = some ⟨oc, od, .func (PySem.W.fnOf "code_number" "code_number" (defArgs s_code_number) (defBody s_code_number) (defScope s_code_number) .none kV dc pm an cd ct), sl⟩) (c : PySem.W.codeIn K cd "code_number" = true) (k : PySem.W.keepIn K (.ref f) = true) : Dn K mg "code_number" s_code_number ["number"] f (PySem.W.fnOf "code_number" "code_number" (defArgs s_code_number) (defBody s_code_number) (defScope s_code_number) .none kV dc pm an cd ct) := by
  have F := fun_mk (st := s_code_number) lk c k
  exact ⟨F, PySem.W.mg_of X G a, F.binds (ps := ["number"]) fun _ _ _ _ _ _ us hl => match us, hl with | [_], _ => rfl⟩
theorem mkD_number_with {K : PySem.W.Frag} {h : Heap} {mg : Str → Option Value} (X : K.In h) (G : h.Ns mainGlobals mg) {f : Addr} {od an : Option Addr} {sl : Array (Option Value)} {oc kV dc pm cd ct : Value} (a : PySem.W.nsIn K mainGlobals "number_with" = some (some (.ref f))) (lk : K.lookup f = some ⟨oc, od, .func (PySem.W.fnOf "number_with" "number_with" (defArgs s_number_with) (defBody s_number_with) (defScope s_number_with) .none kV dc pm an cd ct), sl⟩) (c : PySem.W.codeIn K cd "number_with" = true) (k : PySem.W.keepIn K (.ref f) = true) : Dn K mg "number_with" s_number_with ["code"] f (PySem.W.fnOf "number_with" "number_with" (defArgs s_number_with) (defBody s_number_with) (defScope s_number_with) .none kV dc pm an cd ct) := by
  have F := fun_mk (st := s_number_with) lk c k
  exact ⟨F, PySem.W.mg_of X G a, F.binds (ps := ["code"]) fun _ _ _ _ _ _ us hl => match us, hl with | [_], _ => rfl⟩
theorem mkD_code_bits {K : PySem.W.Frag} {h : Heap} {mg : Str → Option Value} (X : K.In h) (G : h.Ns mainGlobals mg) {f : Addr} {od an : Option Addr} {sl : Array (Option Value)} {oc kV dc pm cd ct : Value} (a : PySem.W.nsIn K mainGlobals "code_bits" = some (some (.ref f))) (lk : K.lookup f = some ⟨oc, od, .func (PySem.W.fnOf "code_bits" "code_bits" (defArgs s_code_bits) (defBody s_code_bits) (defScope s_code_bits) .none kV dc pm an cd ct), sl⟩) (c : PySem.W.codeIn K cd "code_bits" = true) (k : PySem.W.keepIn K (.ref f) = true) : Dn K mg "code_bits" s_code_bits ["code", "k"] f (PySem.W.fnOf "code_bits" "code_bits" (defArgs s_code_bits) (defBody s_code_bits) (defScope s_code_bits) .none kV dc pm an cd ct) := by
  have F := fun_mk (st := s_code_bits) lk c k
  exact ⟨F, PySem.W.mg_of X G a, F.binds (ps := ["code", "k"]) fun _ _ _ _ _ _ us hl => match us, hl with | [_, _], _ => rfl⟩
theorem mkD_write_numbers {K : PySem.W.Frag} {h : Heap} {mg : Str → Option Value} (X : K.In h) (G : h.Ns mainGlobals mg) {f : Addr} {od an : Option Addr} {sl : Array (Option Value)} {oc kV dc pm cd ct : Value} (a : PySem.W.nsIn K mainGlobals "write_numbers" = some (some (.ref f))) (lk : K.lookup f = some ⟨oc, od, .func (PySem.W.fnOf "write_numbers" "write_numbers" (defArgs s_write_numbers) (defBody s_write_numbers) (defScope s_write_numbers) .none kV dc pm an cd ct), sl⟩) (c : PySem.W.codeIn K cd "write_numbers" = true) (k : PySem.W.keepIn K (.ref f) = true) : Dn K mg "write_numbers" s_write_numbers ["numbers", "coarse", "tables"] f (PySem.W.fnOf "write_numbers" "write_numbers" (defArgs s_write_numbers) (defBody s_write_numbers) (defScope s_write_numbers) .none kV dc pm an cd ct) := by
  have F := fun_mk (st := s_write_numbers) lk c k
  exact ⟨F, PySem.W.mg_of X G a, F.binds (ps := ["numbers", "coarse", "tables"]) fun _ _ _ _ _ _ us hl => match us, hl with | [_, _, _], _ => rfl⟩
theorem mkD_read_numbers {K : PySem.W.Frag} {h : Heap} {mg : Str → Option Value} (X : K.In h) (G : h.Ns mainGlobals mg) {f : Addr} {od an : Option Addr} {sl : Array (Option Value)} {oc kV dc pm cd ct : Value} (a : PySem.W.nsIn K mainGlobals "read_numbers" = some (some (.ref f))) (lk : K.lookup f = some ⟨oc, od, .func (PySem.W.fnOf "read_numbers" "read_numbers" (defArgs s_read_numbers) (defBody s_read_numbers) (defScope s_read_numbers) .none kV dc pm an cd ct), sl⟩) (c : PySem.W.codeIn K cd "read_numbers" = true) (k : PySem.W.keepIn K (.ref f) = true) : Dn K mg "read_numbers" s_read_numbers ["bits", "length", "coarse", "tables"] f (PySem.W.fnOf "read_numbers" "read_numbers" (defArgs s_read_numbers) (defBody s_read_numbers) (defScope s_read_numbers) .none kV dc pm an cd ct) := by
  have F := fun_mk (st := s_read_numbers) lk c k
  exact ⟨F, PySem.W.mg_of X G a, F.binds (ps := ["bits", "length", "coarse", "tables"]) fun _ _ _ _ _ _ us hl => match us, hl with | [_, _, _, _], _ => rfl⟩
theorem mkD_check_coding {K : PySem.W.Frag} {h : Heap} {mg : Str → Option Value} (X : K.In h) (G : h.Ns mainGlobals mg) {f : Addr} {od an : Option Addr} {sl : Array (Option Value)} {oc kV dc pm cd ct : Value} (a : PySem.W.nsIn K mainGlobals "check_coding" = some (some (.ref f))) (lk : K.lookup f = some ⟨oc, od, .func (PySem.W.fnOf "check_coding" "check_coding" (defArgs s_check_coding) (defBody s_check_coding) (defScope s_check_coding) .none kV dc pm an cd ct), sl⟩) (c : PySem.W.codeIn K cd "check_coding" = true) (k : PySem.W.keepIn K (.ref f) = true) : Dn K mg "check_coding" s_check_coding ["length", "coarse", "tables"] f (PySem.W.fnOf "check_coding" "check_coding" (defArgs s_check_coding) (defBody s_check_coding) (defScope s_check_coding) .none kV dc pm an cd ct) := by
  have F := fun_mk (st := s_check_coding) lk c k
  exact ⟨F, PySem.W.mg_of X G a, F.binds (ps := ["length", "coarse", "tables"]) fun _ _ _ _ _ _ us hl => match us, hl with | [_, _, _], _ => rfl⟩
theorem mkD_read_code {K : PySem.W.Frag} {h : Heap} {mg : Str → Option Value} (X : K.In h) (G : h.Ns mainGlobals mg) {f : Addr} {od an : Option Addr} {sl : Array (Option Value)} {oc kV dc pm cd ct : Value} (a : PySem.W.nsIn K mainGlobals "read_code" = some (some (.ref f))) (lk : K.lookup f = some ⟨oc, od, .func (PySem.W.fnOf "read_code" "read_code" (defArgs s_read_code) (defBody s_read_code) (defScope s_read_code) .none kV dc pm an cd ct), sl⟩) (c : PySem.W.codeIn K cd "read_code" = true) (k : PySem.W.keepIn K (.ref f) = true) : Dn K mg "read_code" s_read_code ["bits", "place", "k"] f (PySem.W.fnOf "read_code" "read_code" (defArgs s_read_code) (defBody s_read_code) (defScope s_read_code) .none kV dc pm an cd ct) := by
  have F := fun_mk (st := s_read_code) lk c k
  exact ⟨F, PySem.W.mg_of X G a, F.binds (ps := ["bits", "place", "k"]) fun _ _ _ _ _ _ us hl => match us, hl with | [_, _, _], _ => rfl⟩
theorem mkD_pool {K : PySem.W.Frag} {h : Heap} {mg : Str → Option Value} (X : K.In h) (G : h.Ns mainGlobals mg) {f : Addr} {od an : Option Addr} {sl : Array (Option Value)} {oc kV dc pm cd ct : Value} (a : PySem.W.nsIn K mainGlobals "_law_pool" = some (some (.ref f))) (lk : K.lookup f = some ⟨oc, od, .func (PySem.W.fnOf "_law_pool" "_law_pool" (defArgs s_pool) (defBody s_pool) (defScope s_pool) .none kV dc pm an cd ct), sl⟩) (c : PySem.W.codeIn K cd "_law_pool" = true) (k : PySem.W.keepIn K (.ref f) = true) : Dn K mg "_law_pool" s_pool ["_law_script", "_law_k"] f (PySem.W.fnOf "_law_pool" "_law_pool" (defArgs s_pool) (defBody s_pool) (defScope s_pool) .none kV dc pm an cd ct) := by
  have F := fun_mk (st := s_pool) lk c k
  exact ⟨F, PySem.W.mg_of X G a, F.binds (ps := ["_law_script", "_law_k"]) fun _ _ _ _ _ _ us hl => match us, hl with | [_, _], _ => rfl⟩
theorem mkD_take {K : PySem.W.Frag} {h : Heap} {mg : Str → Option Value} (X : K.In h) (G : h.Ns mainGlobals mg) {f : Addr} {od an : Option Addr} {sl : Array (Option Value)} {oc kV dc pm cd ct : Value} (a : PySem.W.nsIn K mainGlobals "_law_take" = some (some (.ref f))) (lk : K.lookup f = some ⟨oc, od, .func (PySem.W.fnOf "_law_take" "_law_take" (defArgs s_take) (defBody s_take) (defScope s_take) .none kV dc pm an cd ct), sl⟩) (c : PySem.W.codeIn K cd "_law_take" = true) (k : PySem.W.keepIn K (.ref f) = true) : Dn K mg "_law_take" s_take ["_law_pool_here", "_law_many"] f (PySem.W.fnOf "_law_take" "_law_take" (defArgs s_take) (defBody s_take) (defScope s_take) .none kV dc pm an cd ct) := by
  have F := fun_mk (st := s_take) lk c k
  exact ⟨F, PySem.W.mg_of X G a, F.binds (ps := ["_law_pool_here", "_law_many"]) fun _ _ _ _ _ _ us hl => match us, hl with | [_, _], _ => rfl⟩
theorem mkD_same {K : PySem.W.Frag} {h : Heap} {mg : Str → Option Value} (X : K.In h) (G : h.Ns mainGlobals mg) {f : Addr} {od an : Option Addr} {sl : Array (Option Value)} {oc kV dc pm cd ct : Value} (a : PySem.W.nsIn K mainGlobals "_law_same" = some (some (.ref f))) (lk : K.lookup f = some ⟨oc, od, .func (PySem.W.fnOf "_law_same" "_law_same" (defArgs s_same) (defBody s_same) (defScope s_same) .none kV dc pm an cd ct), sl⟩) (c : PySem.W.codeIn K cd "_law_same" = true) (k : PySem.W.keepIn K (.ref f) = true) : Dn K mg "_law_same" s_same ["_law_actual", "_law_due"] f (PySem.W.fnOf "_law_same" "_law_same" (defArgs s_same) (defBody s_same) (defScope s_same) .none kV dc pm an cd ct) := by
  have F := fun_mk (st := s_same) lk c k
  exact ⟨F, PySem.W.mg_of X G a, F.binds (ps := ["_law_actual", "_law_due"]) fun _ _ _ _ _ _ us hl => match us, hl with | [_, _], _ => rfl⟩
theorem mkD_number {K : PySem.W.Frag} {h : Heap} {mg : Str → Option Value} (X : K.In h) (G : h.Ns mainGlobals mg) {f : Addr} {od an : Option Addr} {sl : Array (Option Value)} {oc kV dc pm cd ct : Value} (a : PySem.W.nsIn K mainGlobals "_law_number" = some (some (.ref f))) (lk : K.lookup f = some ⟨oc, od, .func (PySem.W.fnOf "_law_number" "_law_number" (defArgs s_number) (defBody s_number) (defScope s_number) .none kV dc pm an cd ct), sl⟩) (c : PySem.W.codeIn K cd "_law_number" = true) (k : PySem.W.keepIn K (.ref f) = true) : Dn K mg "_law_number" s_number ["_law_pool_here"] f (PySem.W.fnOf "_law_number" "_law_number" (defArgs s_number) (defBody s_number) (defScope s_number) .none kV dc pm an cd ct) := by
  have F := fun_mk (st := s_number) lk c k
  exact ⟨F, PySem.W.mg_of X G a, F.binds (ps := ["_law_pool_here"]) fun _ _ _ _ _ _ us hl => match us, hl with | [_], _ => rfl⟩
theorem mkD_start {K : PySem.W.Frag} {h : Heap} {mg : Str → Option Value} (X : K.In h) (G : h.Ns mainGlobals mg) {f : Addr} {od an : Option Addr} {sl : Array (Option Value)} {oc kV dc pm cd ct : Value} (a : PySem.W.nsIn K mainGlobals "_law_start" = some (some (.ref f))) (lk : K.lookup f = some ⟨oc, od, .func (PySem.W.fnOf "_law_start" "_law_start" (defArgs s_start) (defBody s_start) (defScope s_start) .none kV dc pm an cd ct), sl⟩) (c : PySem.W.codeIn K cd "_law_start" = true) (k : PySem.W.keepIn K (.ref f) = true) : Dn K mg "_law_start" s_start ["_law_pool_here"] f (PySem.W.fnOf "_law_start" "_law_start" (defArgs s_start) (defBody s_start) (defScope s_start) .none kV dc pm an cd ct) := by
  have F := fun_mk (st := s_start) lk c k
  exact ⟨F, PySem.W.mg_of X G a, F.binds (ps := ["_law_pool_here"]) fun _ _ _ _ _ _ us hl => match us, hl with | [_], _ => rfl⟩
theorem mkD_binary {K : PySem.W.Frag} {h : Heap} {mg : Str → Option Value} (X : K.In h) (G : h.Ns mainGlobals mg) {f : Addr} {od an : Option Addr} {sl : Array (Option Value)} {oc kV dc pm cd ct : Value} (a : PySem.W.nsIn K mainGlobals "_law_binary" = some (some (.ref f))) (lk : K.lookup f = some ⟨oc, od, .func (PySem.W.fnOf "_law_binary" "_law_binary" (defArgs s_binary) (defBody s_binary) (defScope s_binary) .none kV dc pm an cd ct), sl⟩) (c : PySem.W.codeIn K cd "_law_binary" = true) (k : PySem.W.keepIn K (.ref f) = true) : Dn K mg "_law_binary" s_binary ["_law_u_here"] f (PySem.W.fnOf "_law_binary" "_law_binary" (defArgs s_binary) (defBody s_binary) (defScope s_binary) .none kV dc pm an cd ct) := by
  have F := fun_mk (st := s_binary) lk c k
  exact ⟨F, PySem.W.mg_of X G a, F.binds (ps := ["_law_u_here"]) fun _ _ _ _ _ _ us hl => match us, hl with | [_], _ => rfl⟩
theorem mkD_l_parameter {K : PySem.W.Frag} {h : Heap} {mg : Str → Option Value} (X : K.In h) (G : h.Ns mainGlobals mg) {f : Addr} {od an : Option Addr} {sl : Array (Option Value)} {oc kV dc pm cd ct : Value} (a : PySem.W.nsIn K mainGlobals "_law_parameter" = some (some (.ref f))) (lk : K.lookup f = some ⟨oc, od, .func (PySem.W.fnOf "_law_parameter" "_law_parameter" (defArgs s_l_parameter) (defBody s_l_parameter) (defScope s_l_parameter) .none kV dc pm an cd ct), sl⟩) (c : PySem.W.codeIn K cd "_law_parameter" = true) (k : PySem.W.keepIn K (.ref f) = true) : Dn K mg "_law_parameter" s_l_parameter ["_law_row"] f (PySem.W.fnOf "_law_parameter" "_law_parameter" (defArgs s_l_parameter) (defBody s_l_parameter) (defScope s_l_parameter) .none kV dc pm an cd ct) := by
  have F := fun_mk (st := s_l_parameter) lk c k
  exact ⟨F, PySem.W.mg_of X G a, F.binds (ps := ["_law_row"]) fun _ _ _ _ _ _ us hl => match us, hl with | [_], _ => rfl⟩
theorem mkD_code {K : PySem.W.Frag} {h : Heap} {mg : Str → Option Value} (X : K.In h) (G : h.Ns mainGlobals mg) {f : Addr} {od an : Option Addr} {sl : Array (Option Value)} {oc kV dc pm cd ct : Value} (a : PySem.W.nsIn K mainGlobals "_law_code" = some (some (.ref f))) (lk : K.lookup f = some ⟨oc, od, .func (PySem.W.fnOf "_law_code" "_law_code" (defArgs s_code) (defBody s_code) (defScope s_code) .none kV dc pm an cd ct), sl⟩) (c : PySem.W.codeIn K cd "_law_code" = true) (k : PySem.W.keepIn K (.ref f) = true) : Dn K mg "_law_code" s_code ["_law_u_here", "_law_k"] f (PySem.W.fnOf "_law_code" "_law_code" (defArgs s_code) (defBody s_code) (defScope s_code) .none kV dc pm an cd ct) := by
  have F := fun_mk (st := s_code) lk c k
  exact ⟨F, PySem.W.mg_of X G a, F.binds (ps := ["_law_u_here", "_law_k"]) fun _ _ _ _ _ _ us hl => match us, hl with | [_, _], _ => rfl⟩
theorem mkD_behind {K : PySem.W.Frag} {h : Heap} {mg : Str → Option Value} (X : K.In h) (G : h.Ns mainGlobals mg) {f : Addr} {od an : Option Addr} {sl : Array (Option Value)} {oc kV dc pm cd ct : Value} (a : PySem.W.nsIn K mainGlobals "_law_behind" = some (some (.ref f))) (lk : K.lookup f = some ⟨oc, od, .func (PySem.W.fnOf "_law_behind" "_law_behind" (defArgs s_behind) (defBody s_behind) (defScope s_behind) .none kV dc pm an cd ct), sl⟩) (c : PySem.W.codeIn K cd "_law_behind" = true) (k : PySem.W.keepIn K (.ref f) = true) : Dn K mg "_law_behind" s_behind ["_law_row", "_law_u_here"] f (PySem.W.fnOf "_law_behind" "_law_behind" (defArgs s_behind) (defBody s_behind) (defScope s_behind) .none kV dc pm an cd ct) := by
  have F := fun_mk (st := s_behind) lk c k
  exact ⟨F, PySem.W.mg_of X G a, F.binds (ps := ["_law_row", "_law_u_here"]) fun _ _ _ _ _ _ us hl => match us, hl with | [_, _], _ => rfl⟩
theorem mkD_u {K : PySem.W.Frag} {h : Heap} {mg : Str → Option Value} (X : K.In h) (G : h.Ns mainGlobals mg) {f : Addr} {od an : Option Addr} {sl : Array (Option Value)} {oc kV dc pm cd ct : Value} (a : PySem.W.nsIn K mainGlobals "_law_u" = some (some (.ref f))) (lk : K.lookup f = some ⟨oc, od, .func (PySem.W.fnOf "_law_u" "_law_u" (defArgs s_u) (defBody s_u) (defScope s_u) .none kV dc pm an cd ct), sl⟩) (c : PySem.W.codeIn K cd "_law_u" = true) (k : PySem.W.keepIn K (.ref f) = true) : Dn K mg "_law_u" s_u ["_law_number_here"] f (PySem.W.fnOf "_law_u" "_law_u" (defArgs s_u) (defBody s_u) (defScope s_u) .none kV dc pm an cd ct) := by
  have F := fun_mk (st := s_u) lk c k
  exact ⟨F, PySem.W.mg_of X G a, F.binds (ps := ["_law_number_here"]) fun _ _ _ _ _ _ us hl => match us, hl with | [_], _ => rfl⟩
theorem mkD_written {K : PySem.W.Frag} {h : Heap} {mg : Str → Option Value} (X : K.In h) (G : h.Ns mainGlobals mg) {f : Addr} {od an : Option Addr} {sl : Array (Option Value)} {oc kV dc pm cd ct : Value} (a : PySem.W.nsIn K mainGlobals "_law_written" = some (some (.ref f))) (lk : K.lookup f = some ⟨oc, od, .func (PySem.W.fnOf "_law_written" "_law_written" (defArgs s_written) (defBody s_written) (defScope s_written) .none kV dc pm an cd ct), sl⟩) (c : PySem.W.codeIn K cd "_law_written" = true) (k : PySem.W.keepIn K (.ref f) = true) : Dn K mg "_law_written" s_written ["_law_some", "_law_first", "_law_start_here"] f (PySem.W.fnOf "_law_written" "_law_written" (defArgs s_written) (defBody s_written) (defScope s_written) .none kV dc pm an cd ct) := by
  have F := fun_mk (st := s_written) lk c k
  exact ⟨F, PySem.W.mg_of X G a, F.binds (ps := ["_law_some", "_law_first", "_law_start_here"]) fun _ _ _ _ _ _ us hl => match us, hl with | [_, _, _], _ => rfl⟩
theorem mkD_ones {K : PySem.W.Frag} {h : Heap} {mg : Str → Option Value} (X : K.In h) (G : h.Ns mainGlobals mg) {f : Addr} {od an : Option Addr} {sl : Array (Option Value)} {oc kV dc pm cd ct : Value} (a : PySem.W.nsIn K mainGlobals "_law_ones" = some (some (.ref f))) (lk : K.lookup f = some ⟨oc, od, .func (PySem.W.fnOf "_law_ones" "_law_ones" (defArgs s_ones) (defBody s_ones) (defScope s_ones) .none kV dc pm an cd ct), sl⟩) (c : PySem.W.codeIn K cd "_law_ones" = true) (k : PySem.W.keepIn K (.ref f) = true) : Dn K mg "_law_ones" s_ones ["_law_text", "_law_at", "_law_most"] f (PySem.W.fnOf "_law_ones" "_law_ones" (defArgs s_ones) (defBody s_ones) (defScope s_ones) .none kV dc pm an cd ct) := by
  have F := fun_mk (st := s_ones) lk c k
  exact ⟨F, PySem.W.mg_of X G a, F.binds (ps := ["_law_text", "_law_at", "_law_most"]) fun _ _ _ _ _ _ us hl => match us, hl with | [_, _, _], _ => rfl⟩
theorem mkD_value {K : PySem.W.Frag} {h : Heap} {mg : Str → Option Value} (X : K.In h) (G : h.Ns mainGlobals mg) {f : Addr} {od an : Option Addr} {sl : Array (Option Value)} {oc kV dc pm cd ct : Value} (a : PySem.W.nsIn K mainGlobals "_law_value" = some (some (.ref f))) (lk : K.lookup f = some ⟨oc, od, .func (PySem.W.fnOf "_law_value" "_law_value" (defArgs s_value) (defBody s_value) (defScope s_value) .none kV dc pm an cd ct), sl⟩) (c : PySem.W.codeIn K cd "_law_value" = true) (k : PySem.W.keepIn K (.ref f) = true) : Dn K mg "_law_value" s_value ["_law_text"] f (PySem.W.fnOf "_law_value" "_law_value" (defArgs s_value) (defBody s_value) (defScope s_value) .none kV dc pm an cd ct) := by
  have F := fun_mk (st := s_value) lk c k
  exact ⟨F, PySem.W.mg_of X G a, F.binds (ps := ["_law_text"]) fun _ _ _ _ _ _ us hl => match us, hl with | [_], _ => rfl⟩
theorem mkD_code_at {K : PySem.W.Frag} {h : Heap} {mg : Str → Option Value} (X : K.In h) (G : h.Ns mainGlobals mg) {f : Addr} {od an : Option Addr} {sl : Array (Option Value)} {oc kV dc pm cd ct : Value} (a : PySem.W.nsIn K mainGlobals "_law_code_at" = some (some (.ref f))) (lk : K.lookup f = some ⟨oc, od, .func (PySem.W.fnOf "_law_code_at" "_law_code_at" (defArgs s_code_at) (defBody s_code_at) (defScope s_code_at) .none kV dc pm an cd ct), sl⟩) (c : PySem.W.codeIn K cd "_law_code_at" = true) (k : PySem.W.keepIn K (.ref f) = true) : Dn K mg "_law_code_at" s_code_at ["_law_text", "_law_at", "_law_k"] f (PySem.W.fnOf "_law_code_at" "_law_code_at" (defArgs s_code_at) (defBody s_code_at) (defScope s_code_at) .none kV dc pm an cd ct) := by
  have F := fun_mk (st := s_code_at) lk c k
  exact ⟨F, PySem.W.mg_of X G a, F.binds (ps := ["_law_text", "_law_at", "_law_k"]) fun _ _ _ _ _ _ us hl => match us, hl with | [_, _, _], _ => rfl⟩
theorem mkD_read {K : PySem.W.Frag} {h : Heap} {mg : Str → Option Value} (X : K.In h) (G : h.Ns mainGlobals mg) {f : Addr} {od an : Option Addr} {sl : Array (Option Value)} {oc kV dc pm cd ct : Value} (a : PySem.W.nsIn K mainGlobals "_law_read" = some (some (.ref f))) (lk : K.lookup f = some ⟨oc, od, .func (PySem.W.fnOf "_law_read" "_law_read" (defArgs s_read) (defBody s_read) (defScope s_read) .none kV dc pm an cd ct), sl⟩) (c : PySem.W.codeIn K cd "_law_read" = true) (k : PySem.W.keepIn K (.ref f) = true) : Dn K mg "_law_read" s_read ["_law_text", "_law_size", "_law_first", "_law_start_here"] f (PySem.W.fnOf "_law_read" "_law_read" (defArgs s_read) (defBody s_read) (defScope s_read) .none kV dc pm an cd ct) := by
  have F := fun_mk (st := s_read) lk c k
  exact ⟨F, PySem.W.mg_of X G a, F.binds (ps := ["_law_text", "_law_size", "_law_first", "_law_start_here"]) fun _ _ _ _ _ _ us hl => match us, hl with | [_, _, _, _], _ => rfl⟩
theorem mkD_bits {K : PySem.W.Frag} {h : Heap} {mg : Str → Option Value} (X : K.In h) (G : h.Ns mainGlobals mg) {f : Addr} {od an : Option Addr} {sl : Array (Option Value)} {oc kV dc pm cd ct : Value} (a : PySem.W.nsIn K mainGlobals "_law_bits" = some (some (.ref f))) (lk : K.lookup f = some ⟨oc, od, .func (PySem.W.fnOf "_law_bits" "_law_bits" (defArgs s_bits) (defBody s_bits) (defScope s_bits) .none kV dc pm an cd ct), sl⟩) (c : PySem.W.codeIn K cd "_law_bits" = true) (k : PySem.W.keepIn K (.ref f) = true) : Dn K mg "_law_bits" s_bits ["_law_pool_here", "_law_size", "_law_first", "_law_start_here"] f (PySem.W.fnOf "_law_bits" "_law_bits" (defArgs s_bits) (defBody s_bits) (defScope s_bits) .none kV dc pm an cd ct) := by
  have F := fun_mk (st := s_bits) lk c k
  exact ⟨F, PySem.W.mg_of X G a, F.binds (ps := ["_law_pool_here", "_law_size", "_law_first", "_law_start_here"]) fun _ _ _ _ _ _ us hl => match us, hl with | [_, _, _, _], _ => rfl⟩
theorem all_mk {l : PySem.W.OpenLaw} {w : World} {K : PySem.W.Frag} {h : Heap} {mg : Str → Option Value} {fa : Addr} (X : K.In h) (G : h.Ns mainGlobals mg) (hfa : mg "law" = some (.ref fa))
    {f_is_integer : Addr} {fd_is_integer : FuncData}
    {f_is_within : Addr} {fd_is_within : FuncData}
    {f_check_within : Addr} {fd_check_within : FuncData}
    {f_check_items : Addr} {fd_check_items : FuncData}
    {f_check_block : Addr} {fd_check_block : FuncData}
    {f_is_table : Addr} {fd_is_table : FuncData}
    {f_is_tables : Addr} {fd_is_tables : FuncData}
    {f_parameter : Addr} {fd_parameter : FuncData}
    {f_table_behind : Addr} {fd_table_behind : FuncData}
    {f_code_number : Addr} {fd_code_number : FuncData}
    {f_number_with : Addr} {fd_number_with : FuncData}
    {f_code_bits : Addr} {fd_code_bits : FuncData}
    {f_write_numbers : Addr} {fd_write_numbers : FuncData}
    {f_read_numbers : Addr} {fd_read_numbers : FuncData}
    {f_check_coding : Addr} {fd_check_coding : FuncData}
    {f_read_code : Addr} {fd_read_code : FuncData}
    {f_pool : Addr} {fd_pool : FuncData}
    {f_take : Addr} {fd_take : FuncData}
    {f_same : Addr} {fd_same : FuncData}
    {f_number : Addr} {fd_number : FuncData}
    {f_start : Addr} {fd_start : FuncData}
    {f_binary : Addr} {fd_binary : FuncData}
    {f_l_parameter : Addr} {fd_l_parameter : FuncData}
    {f_code : Addr} {fd_code : FuncData}
    {f_behind : Addr} {fd_behind : FuncData}
    {f_u : Addr} {fd_u : FuncData}
    {f_written : Addr} {fd_written : FuncData}
    {f_ones : Addr} {fd_ones : FuncData}
    {f_value : Addr} {fd_value : FuncData}
    {f_code_at : Addr} {fd_code_at : FuncData}
    {f_read : Addr} {fd_read : FuncData}
    {f_bits : Addr} {fd_bits : FuncData}
    {f_law : Addr} {od_law an_law : Option Addr} {sl_law : Array (Option Value)} {oc_law kV_law dc_law pm_law cd_law ct_law : Value}
    {t_BLOCK_LIMIT : Tok}
    {t_COUNT_LIMIT : Tok}
    {t_HALVED_COUNT : Tok}
    {t_LONG_FORM : Tok}
    (D_is_integer : Dn K mg "is_integer" s_is_integer ["value"] f_is_integer fd_is_integer)
    (D_is_within : Dn K mg "is_within" s_is_within ["value", "low", "high"] f_is_within fd_is_within)
    (D_check_within : Dn K mg "check_within" s_check_within ["value", "low", "high"] f_check_within fd_check_within)
    (D_check_items : Dn K mg "check_items" s_check_items ["values"] f_check_items fd_check_items)
    (D_check_block : Dn K mg "check_block" s_check_block ["values", "least"] f_check_block fd_check_block)
    (D_is_table : Dn K mg "is_table" s_is_table ["value"] f_is_table fd_is_table)
    (D_is_tables : Dn K mg "is_tables" s_is_tables ["value"] f_is_tables fd_is_tables)
    (D_parameter : Dn K mg "parameter" s_parameter ["table"] f_parameter fd_parameter)
    (D_table_behind : Dn K mg "table_behind" s_table_behind ["table", "code"] f_table_behind fd_table_behind)
    (D_code_number : Dn K mg "code_number" s_code_number ["number"] f_code_number fd_code_number)
    (D_number_with : Dn K mg "number_with" s_number_with ["code"] f_number_with fd_number_with)
    (D_code_bits : Dn K mg "code_bits" s_code_bits ["code", "k"] f_code_bits fd_code_bits)
    (D_write_numbers : Dn K mg "write_numbers" s_write_numbers ["numbers", "coarse", "tables"] f_write_numbers fd_write_numbers)
    (D_read_numbers : Dn K mg "read_numbers" s_read_numbers ["bits", "length", "coarse", "tables"] f_read_numbers fd_read_numbers)
    (D_check_coding : Dn K mg "check_coding" s_check_coding ["length", "coarse", "tables"] f_check_coding fd_check_coding)
    (D_read_code : Dn K mg "read_code" s_read_code ["bits", "place", "k"] f_read_code fd_read_code)
    (D_pool : Dn K mg "_law_pool" s_pool ["_law_script", "_law_k"] f_pool fd_pool)
    (D_take : Dn K mg "_law_take" s_take ["_law_pool_here", "_law_many"] f_take fd_take)
    (D_same : Dn K mg "_law_same" s_same ["_law_actual", "_law_due"] f_same fd_same)
    (D_number : Dn K mg "_law_number" s_number ["_law_pool_here"] f_number fd_number)
    (D_start : Dn K mg "_law_start" s_start ["_law_pool_here"] f_start fd_start)
    (D_binary : Dn K mg "_law_binary" s_binary ["_law_u_here"] f_binary fd_binary)
    (D_l_parameter : Dn K mg "_law_parameter" s_l_parameter ["_law_row"] f_l_parameter fd_l_parameter)
    (D_code : Dn K mg "_law_code" s_code ["_law_u_here", "_law_k"] f_code fd_code)
    (D_behind : Dn K mg "_law_behind" s_behind ["_law_row", "_law_u_here"] f_behind fd_behind)
    (D_u : Dn K mg "_law_u" s_u ["_law_number_here"] f_u fd_u)
    (D_written : Dn K mg "_law_written" s_written ["_law_some", "_law_first", "_law_start_here"] f_written fd_written)
    (D_ones : Dn K mg "_law_ones" s_ones ["_law_text", "_law_at", "_law_most"] f_ones fd_ones)
    (D_value : Dn K mg "_law_value" s_value ["_law_text"] f_value fd_value)
    (D_code_at : Dn K mg "_law_code_at" s_code_at ["_law_text", "_law_at", "_law_k"] f_code_at fd_code_at)
    (D_read : Dn K mg "_law_read" s_read ["_law_text", "_law_size", "_law_first", "_law_start_here"] f_read fd_read)
    (D_bits : Dn K mg "_law_bits" s_bits ["_law_pool_here", "_law_size", "_law_first", "_law_start_here"] f_bits fd_bits)
    (a_law : PySem.W.nsIn K mainGlobals "law" = some (some (.ref f_law))) (l_law : K.lookup f_law = some ⟨oc_law, od_law, .func (PySem.W.fnOf "law" "law" (defArgs s_law) (defBody s_law) (defScope s_law) .none kV_law dc_law pm_law an_law cd_law ct_law), sl_law⟩) (c_law : PySem.W.codeIn K cd_law "law" = true) (k_law : PySem.W.keepIn K (.ref f_law) = true)
    (a_BLOCK_LIMIT : PySem.W.nsIn K mainGlobals "BLOCK_LIMIT" = some (some (.int 64 t_BLOCK_LIMIT)))
    (a_COUNT_LIMIT : PySem.W.nsIn K mainGlobals "COUNT_LIMIT" = some (some (.int 15 t_COUNT_LIMIT)))
    (a_HALVED_COUNT : PySem.W.nsIn K mainGlobals "HALVED_COUNT" = some (some (.int 8 t_HALVED_COUNT)))
    (a_LONG_FORM : PySem.W.nsIn K mainGlobals "LONG_FORM" = some (some (.int 20 t_LONG_FORM)))
     (z_dg1 : PySem.W.nsIn K cStatics "sys.int_max_str_digits" = some none)
     (z_dg2 : PySem.W.nsOkIn K cStatics = true)
    (z_int : PySem.W.nsIn K mainGlobals "int" = some none)
    (z_bool : PySem.W.nsIn K mainGlobals "bool" = some none)
    (z_str : PySem.W.nsIn K mainGlobals "str" = some none)
    (z_list : PySem.W.nsIn K mainGlobals "list" = some none)
    (z_tuple : PySem.W.nsIn K mainGlobals "tuple" = some none)
    (z_len : PySem.W.nsIn K mainGlobals "len" = some none)
    (z_abs : PySem.W.nsIn K mainGlobals "abs" = some none)
    (z_max : PySem.W.nsIn K mainGlobals "max" = some none)
    (z_min : PySem.W.nsIn K mainGlobals "min" = some none)
    (z_range : PySem.W.nsIn K mainGlobals "range" = some none)
    (z_zip : PySem.W.nsIn K mainGlobals "zip" = some none)
    (z_isinstance : PySem.W.nsIn K mainGlobals "isinstance" = some none)
    (z_enumerate : PySem.W.nsIn K mainGlobals "enumerate" = some none)
    (z_reversed : PySem.W.nsIn K mainGlobals "reversed" = some none)
    : ∃ fd : FuncData, (∀ (s : Shared) (v : Value), BindsTo s fd ⟨[v], []⟩ [("_law_script", v)]) ∧ ∀ base : Heap, K.In base → base.Ns mainGlobals mg → FnOk l.prog w K mg base CX0 7 fa fd ["_law_script"] (spLaw K) := by
  have e := hfa.symm.trans (PySem.W.mg_of X G a_law)
  cases e
  have bi : Bi mg := ⟨PySem.W.mg_none_of X G z_int, PySem.W.mg_none_of X G z_bool, PySem.W.mg_none_of X G z_str, PySem.W.mg_none_of X G z_list, PySem.W.mg_none_of X G z_tuple, PySem.W.mg_none_of X G z_len, PySem.W.mg_none_of X G z_abs, PySem.W.mg_none_of X G z_max, PySem.W.mg_none_of X G z_min, PySem.W.mg_none_of X G z_range, PySem.W.mg_none_of X G z_zip, PySem.W.mg_none_of X G z_isinstance, PySem.W.mg_none_of X G z_enumerate, PySem.W.mg_none_of X G z_reversed⟩
  have F_law := fun_mk (st := s_law) l_law c_law k_law
  have D_law : Dn K mg "law" s_law ["_law_script"] _ _ := ⟨F_law, PySem.W.mg_of X G a_law, F_law.binds (ps := ["_law_script"]) fun _ _ _ _ _ _ us hl => match us, hl with | [_], _ => rfl⟩
  refine ⟨PySem.W.fnOf "law" "law" (defArgs s_law) (defBody s_law) (defScope s_law) .none kV_law dc_law pm_law an_law cd_law ct_law, fun s v => .of_eq rfl, fun base _ _ => ?_⟩
  have zdg : DgK K := ⟨z_dg2, z_dg1⟩
  have G_take := ok_take (P := l.prog) (w := w) (base := base) D_take bi     
  have G_pool := ok_pool (P := l.prog) (w := w) (base := base) D_pool bi     
  have G_number := ok_number (P := l.prog) (w := w) (base := base) D_number bi G_take D_take    
  have G_same0 := ok_same0 (P := l.prog) (w := w) (base := base) D_same bi
  have G_same1 := ok_sameS (P := l.prog) (w := w) (base := base) D_same bi G_same0
  have G_same2 := ok_sameS (P := l.prog) (w := w) (base := base) D_same bi G_same1
  have G_same3 := ok_sameS (P := l.prog) (w := w) (base := base) D_same bi G_same2
  have G_same := G_same3
  have G_is_integer := ok_is_integer (P := l.prog) (w := w) (base := base) D_is_integer bi     
  have G_is_within := ok_is_within (P := l.prog) (w := w) (base := base) D_is_within bi G_is_integer D_is_integer    
  have G_check_within := ok_check_within (P := l.prog) (w := w) (base := base) D_check_within bi G_is_within D_is_within    
  have G_check_items := ok_check_items (P := l.prog) (w := w) (base := base) D_check_items bi G_is_integer D_is_integer    
  have G_check_block := ok_check_block (P := l.prog) (w := w) (base := base) D_check_block bi G_check_items D_check_items    ⟨_, PySem.W.mg_of X G a_BLOCK_LIMIT⟩
  have G_is_table := ok_is_table (P := l.prog) (w := w) (base := base) D_is_table bi G_is_integer D_is_integer G_is_within D_is_within    ⟨_, PySem.W.mg_of X G a_COUNT_LIMIT⟩
  have G_is_tables := ok_is_tables (P := l.prog) (w := w) (base := base) D_is_tables bi G_is_table D_is_table    
  have G_parameter := ok_parameter (P := l.prog) (w := w) (base := base) D_parameter bi G_is_table D_is_table    
  have G_table_behind := ok_table_behind (P := l.prog) (w := w) (base := base) D_table_behind bi     ⟨_, PySem.W.mg_of X G a_COUNT_LIMIT⟩ ⟨_, PySem.W.mg_of X G a_HALVED_COUNT⟩
  have G_code_number := ok_code_number (P := l.prog) (w := w) (base := base) D_code_number bi     
  have G_number_with := ok_number_with (P := l.prog) (w := w) (base := base) D_number_with bi     
  have G_code_bits := ok_code_bits (P := l.prog) (w := w) (base := base) D_code_bits bi     ⟨_, PySem.W.mg_of X G a_LONG_FORM⟩
  have G_check_coding := ok_check_coding (P := l.prog) (w := w) (base := base) D_check_coding bi G_check_within D_check_within G_is_tables D_is_tables    
  have G_write_numbers := ok_write_numbers (P := l.prog) (w := w) (base := base) D_write_numbers bi G_check_block D_check_block G_check_coding D_check_coding G_code_number D_code_number G_code_bits D_code_bits G_parameter D_parameter G_table_behind D_table_behind    
  have G_read_code := ok_read_code (P := l.prog) (w := w) (base := base) D_read_code bi     ⟨_, PySem.W.mg_of X G a_LONG_FORM⟩ zdg
  have G_read_numbers := ok_read_numbers (P := l.prog) (w := w) (base := base) D_read_numbers bi G_check_within D_check_within G_check_coding D_check_coding G_parameter D_parameter G_read_code D_read_code G_number_with D_number_with G_table_behind D_table_behind    ⟨_, PySem.W.mg_of X G a_BLOCK_LIMIT⟩
  have G_binary := ok_binary (P := l.prog) (w := w) (base := base) D_binary bi     
  have G_l_parameter := ok_l_parameter (P := l.prog) (w := w) (base := base) D_l_parameter bi     
  have G_code := ok_code (P := l.prog) (w := w) (base := base) D_code bi G_binary D_binary    
  have G_behind := ok_behind (P := l.prog) (w := w) (base := base) D_behind bi     
  have G_u := ok_u (P := l.prog) (w := w) (base := base) D_u bi     
  have G_written := ok_written (P := l.prog) (w := w) (base := base) D_written bi G_code D_code G_u D_u G_l_parameter D_l_parameter G_behind D_behind    
  have G_ones := ok_ones (P := l.prog) (w := w) (base := base) D_ones bi     
  have G_value := ok_value (P := l.prog) (w := w) (base := base) D_value bi     
  have G_code_at := ok_code_at (P := l.prog) (w := w) (base := base) D_code_at bi G_ones D_ones G_value D_value G_code D_code    
  have G_start := ok_start (P := l.prog) (w := w) (base := base) D_start bi G_take D_take G_number D_number    
  have G_read := ok_read (P := l.prog) (w := w) (base := base) D_read bi G_code_at D_code_at G_l_parameter D_l_parameter G_behind D_behind    
  have G_bits := ok_bits (P := l.prog) (w := w) (base := base) D_bits bi G_take D_take G_written D_written G_number D_number G_binary D_binary    
  exact ok_law D_law bi G_pool D_pool G_take D_take G_same D_same G_write_numbers D_write_numbers G_read_numbers D_read_numbers G_start D_start G_read D_read G_bits D_bits
end Z
open PySem PySem.W PyProof.Rows
set_option maxHeartbeats 0 in
theorem PySem.Challenge.cw_framejoins_k17_whole_bits_that_are_none_holds : PySem.Challenge.rw_framejoins_k17_whole_bits_that_are_none.Holds := by
  w_on; refine headTop ?_
  k_fill
  refine L2.walk_of (l := PySem.Challenge.rw_framejoins_k17_whole_bits_that_are_none) (n := 63) (k := 7) (x := "_law_script") (CX := fun _ => L2.CX0) (sp := fun w => Z.spLaw _) rfl (by decide) rfl ⟨rfl, by decide, by decide⟩ (fun w h Y => PySem.W.kIn_of Y) ?F (fun _ _ a ns hl _ hS => ⟨a, ns, rfl, hS, hl, fun _ => rfl⟩) (fun _ _ _ _ _ h => h)
  case F =>
    intro w mg fa h KX G hmg
    refine' Z.all_mk KX G hmg (Z.mkD_is_integer KX G ?a_is_integer ?l_is_integer ?c_is_integer ?k_is_integer) (Z.mkD_is_within KX G ?a_is_within ?l_is_within ?c_is_within ?k_is_within) (Z.mkD_check_within KX G ?a_check_within ?l_check_within ?c_check_within ?k_check_within) (Z.mkD_check_items KX G ?a_check_items ?l_check_items ?c_check_items ?k_check_items) (Z.mkD_check_block KX G ?a_check_block ?l_check_block ?c_check_block ?k_check_block) (Z.mkD_is_table KX G ?a_is_table ?l_is_table ?c_is_table ?k_is_table) (Z.mkD_is_tables KX G ?a_is_tables ?l_is_tables ?c_is_tables ?k_is_tables) (Z.mkD_parameter KX G ?a_parameter ?l_parameter ?c_parameter ?k_parameter) (Z.mkD_table_behind KX G ?a_table_behind ?l_table_behind ?c_table_behind ?k_table_behind) (Z.mkD_code_number KX G ?a_code_number ?l_code_number ?c_code_number ?k_code_number) (Z.mkD_number_with KX G ?a_number_with ?l_number_with ?c_number_with ?k_number_with) (Z.mkD_code_bits KX G ?a_code_bits ?l_code_bits ?c_code_bits ?k_code_bits) (Z.mkD_write_numbers KX G ?a_write_numbers ?l_write_numbers ?c_write_numbers ?k_write_numbers) (Z.mkD_read_numbers KX G ?a_read_numbers ?l_read_numbers ?c_read_numbers ?k_read_numbers) (Z.mkD_check_coding KX G ?a_check_coding ?l_check_coding ?c_check_coding ?k_check_coding) (Z.mkD_read_code KX G ?a_read_code ?l_read_code ?c_read_code ?k_read_code) (Z.mkD_pool KX G ?a_pool ?l_pool ?c_pool ?k_pool) (Z.mkD_take KX G ?a_take ?l_take ?c_take ?k_take) (Z.mkD_same KX G ?a_same ?l_same ?c_same ?k_same) (Z.mkD_number KX G ?a_number ?l_number ?c_number ?k_number) (Z.mkD_start KX G ?a_start ?l_start ?c_start ?k_start) (Z.mkD_binary KX G ?a_binary ?l_binary ?c_binary ?k_binary) (Z.mkD_l_parameter KX G ?a_l_parameter ?l_l_parameter ?c_l_parameter ?k_l_parameter) (Z.mkD_code KX G ?a_code ?l_code ?c_code ?k_code) (Z.mkD_behind KX G ?a_behind ?l_behind ?c_behind ?k_behind) (Z.mkD_u KX G ?a_u ?l_u ?c_u ?k_u) (Z.mkD_written KX G ?a_written ?l_written ?c_written ?k_written) (Z.mkD_ones KX G ?a_ones ?l_ones ?c_ones ?k_ones) (Z.mkD_value KX G ?a_value ?l_value ?c_value ?k_value) (Z.mkD_code_at KX G ?a_code_at ?l_code_at ?c_code_at ?k_code_at) (Z.mkD_read KX G ?a_read ?l_read ?c_read ?k_read) (Z.mkD_bits KX G ?a_bits ?l_bits ?c_bits ?k_bits) ?a_law ?l_law ?c_law ?k_law ?a_BLOCK_LIMIT ?a_COUNT_LIMIT ?a_HALVED_COUNT ?a_LONG_FORM ?z_dg1 ?z_dg2 ?z_int ?z_bool ?z_str ?z_list ?z_tuple ?z_len ?z_abs ?z_max ?z_min ?z_range ?z_zip ?z_isinstance ?z_enumerate ?z_reversed
    (case a_is_integer => as_aux_lemma => k_is); (case l_is_integer => as_aux_lemma => k_is); (case c_is_integer => as_aux_lemma => k_is); (case k_is_integer => as_aux_lemma => k_is); (case a_is_within => as_aux_lemma => k_is); (case l_is_within => as_aux_lemma => k_is); (case c_is_within => as_aux_lemma => k_is); (case k_is_within => as_aux_lemma => k_is); (case a_check_within => as_aux_lemma => k_is); (case l_check_within => as_aux_lemma => k_is); (case c_check_within => as_aux_lemma => k_is); (case k_check_within => as_aux_lemma => k_is); (case a_check_items => as_aux_lemma => k_is); (case l_check_items => as_aux_lemma => k_is); (case c_check_items => as_aux_lemma => k_is); (case k_check_items => as_aux_lemma => k_is); (case a_check_block => as_aux_lemma => k_is); (case l_check_block => as_aux_lemma => k_is); (case c_check_block => as_aux_lemma => k_is); (case k_check_block => as_aux_lemma => k_is); (case a_is_table => as_aux_lemma => k_is); (case l_is_table => as_aux_lemma => k_is); (case c_is_table => as_aux_lemma => k_is); (case k_is_table => as_aux_lemma => k_is); (case a_is_tables => as_aux_lemma => k_is); (case l_is_tables => as_aux_lemma => k_is); (case c_is_tables => as_aux_lemma => k_is); (case k_is_tables => as_aux_lemma => k_is); (case a_parameter => as_aux_lemma => k_is); (case l_parameter => as_aux_lemma => k_is); (case c_parameter => as_aux_lemma => k_is); (case k_parameter => as_aux_lemma => k_is); (case a_table_behind => as_aux_lemma => k_is); (case l_table_behind => as_aux_lemma => k_is); (case c_table_behind => as_aux_lemma => k_is); (case k_table_behind => as_aux_lemma => k_is); (case a_code_number => as_aux_lemma => k_is); (case l_code_number => as_aux_lemma => k_is); (case c_code_number => as_aux_lemma => k_is); (case k_code_number => as_aux_lemma => k_is); (case a_number_with => as_aux_lemma => k_is); (case l_number_with => as_aux_lemma => k_is); (case c_number_with => as_aux_lemma => k_is); (case k_number_with => as_aux_lemma => k_is); (case a_code_bits => as_aux_lemma => k_is); (case l_code_bits => as_aux_lemma => k_is); (case c_code_bits => as_aux_lemma => k_is); (case k_code_bits => as_aux_lemma => k_is); (case a_write_numbers => as_aux_lemma => k_is); (case l_write_numbers => as_aux_lemma => k_is); (case c_write_numbers => as_aux_lemma => k_is); (case k_write_numbers => as_aux_lemma => k_is); (case a_read_numbers => as_aux_lemma => k_is); (case l_read_numbers => as_aux_lemma => k_is); (case c_read_numbers => as_aux_lemma => k_is); (case k_read_numbers => as_aux_lemma => k_is); (case a_check_coding => as_aux_lemma => k_is); (case l_check_coding => as_aux_lemma => k_is); (case c_check_coding => as_aux_lemma => k_is); (case k_check_coding => as_aux_lemma => k_is); (case a_read_code => as_aux_lemma => k_is); (case l_read_code => as_aux_lemma => k_is); (case c_read_code => as_aux_lemma => k_is); (case k_read_code => as_aux_lemma => k_is); (case a_pool => as_aux_lemma => k_is); (case l_pool => as_aux_lemma => k_is); (case c_pool => as_aux_lemma => k_is); (case k_pool => as_aux_lemma => k_is); (case a_take => as_aux_lemma => k_is); (case l_take => as_aux_lemma => k_is); (case c_take => as_aux_lemma => k_is); (case k_take => as_aux_lemma => k_is); (case a_same => as_aux_lemma => k_is); (case l_same => as_aux_lemma => k_is); (case c_same => as_aux_lemma => k_is); (case k_same => as_aux_lemma => k_is); (case a_number => as_aux_lemma => k_is); (case l_number => as_aux_lemma => k_is); (case c_number => as_aux_lemma => k_is); (case k_number => as_aux_lemma => k_is); (case a_start => as_aux_lemma => k_is); (case l_start => as_aux_lemma => k_is); (case c_start => as_aux_lemma => k_is); (case k_start => as_aux_lemma => k_is); (case a_binary => as_aux_lemma => k_is); (case l_binary => as_aux_lemma => k_is); (case c_binary => as_aux_lemma => k_is); (case k_binary => as_aux_lemma => k_is); (case a_l_parameter => as_aux_lemma => k_is); (case l_l_parameter => as_aux_lemma => k_is); (case c_l_parameter => as_aux_lemma => k_is); (case k_l_parameter => as_aux_lemma => k_is); (case a_code => as_aux_lemma => k_is); (case l_code => as_aux_lemma => k_is); (case c_code => as_aux_lemma => k_is); (case k_code => as_aux_lemma => k_is); (case a_behind => as_aux_lemma => k_is); (case l_behind => as_aux_lemma => k_is); (case c_behind => as_aux_lemma => k_is); (case k_behind => as_aux_lemma => k_is); (case a_u => as_aux_lemma => k_is); (case l_u => as_aux_lemma => k_is); (case c_u => as_aux_lemma => k_is); (case k_u => as_aux_lemma => k_is); (case a_written => as_aux_lemma => k_is); (case l_written => as_aux_lemma => k_is); (case c_written => as_aux_lemma => k_is); (case k_written => as_aux_lemma => k_is); (case a_ones => as_aux_lemma => k_is); (case l_ones => as_aux_lemma => k_is); (case c_ones => as_aux_lemma => k_is); (case k_ones => as_aux_lemma => k_is); (case a_value => as_aux_lemma => k_is); (case l_value => as_aux_lemma => k_is); (case c_value => as_aux_lemma => k_is); (case k_value => as_aux_lemma => k_is); (case a_code_at => as_aux_lemma => k_is); (case l_code_at => as_aux_lemma => k_is); (case c_code_at => as_aux_lemma => k_is); (case k_code_at => as_aux_lemma => k_is); (case a_read => as_aux_lemma => k_is); (case l_read => as_aux_lemma => k_is); (case c_read => as_aux_lemma => k_is); (case k_read => as_aux_lemma => k_is); (case a_bits => as_aux_lemma => k_is); (case l_bits => as_aux_lemma => k_is); (case c_bits => as_aux_lemma => k_is); (case k_bits => as_aux_lemma => k_is); (case a_law => as_aux_lemma => k_is); (case l_law => as_aux_lemma => k_is); (case c_law => as_aux_lemma => k_is); (case k_law => as_aux_lemma => k_is); (case a_BLOCK_LIMIT => as_aux_lemma => k_is); (case a_COUNT_LIMIT => as_aux_lemma => k_is); (case a_HALVED_COUNT => as_aux_lemma => k_is); (case a_LONG_FORM => as_aux_lemma => k_is); (case z_dg1 => as_aux_lemma => k_is); (case z_dg2 => as_aux_lemma => kernel_rfl); (case z_int => as_aux_lemma => k_is); (case z_bool => as_aux_lemma => k_is); (case z_str => as_aux_lemma => k_is); (case z_list => as_aux_lemma => k_is); (case z_tuple => as_aux_lemma => k_is); (case z_len => as_aux_lemma => k_is); (case z_abs => as_aux_lemma => k_is); (case z_max => as_aux_lemma => k_is); (case z_min => as_aux_lemma => k_is); (case z_range => as_aux_lemma => k_is); (case z_zip => as_aux_lemma => k_is); (case z_isinstance => as_aux_lemma => k_is); (case z_enumerate => as_aux_lemma => k_is); (case z_reversed => as_aux_lemma => k_is)
