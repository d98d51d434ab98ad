import PyProof.Rows.All
import Wide.All
import OpenK.AllK
import Wide.FinOn
import HandS.ForExc
import HandS.ForMost
import HandS.IsInst
import HandS.Style
import HandS.Zip
import HandS.RevRange
import HandS.Lambda
import HandS.TryOnly
import HandS.TryMany
import HandS.ExcOwn
import HandS.ExcInit
import HandS.ExcField
import HandS.ExcIs
import HandS.EndTab
import HandS.CallLocal
import KE.KExcIs
import KE.KNestM
import KE.IntBitsLaws
import HandS.WideBits
import KE.GoesEnum
import KE.GoesMore
import HandS.Codes
import HandS.Conv
import HandS.IntHex
import PyProof.FString3
import PyProof.StrOps2
import KE.IntText
import HandS.StrMore
import HandS.FStr
import HandS.Flt
import HandS.Property
import HandS.List
import HandS.TupAny
import HandS.Wide
import HandS.SortInts
import HandS.Dict
import PySem.Challenge.RW_framejoins_k32_needed_records
set_option Elab.async false
set_option linter.all false
set_option maxRecDepth 100000
set_option maxHeartbeats 4000000
section
open PySem PySem.W PyProof.Rows
set_option maxHeartbeats 0 in
open_top headTop for PySem.Challenge.rw_framejoins_k32_needed_records
end
namespace Z
def Lt1 (P : Prop) : Prop := P
theorem lt_eq {P : Prop} (h : P) : Lt1 P = True := eq_true h
theorem lt_out {P : Prop} (h : Lt1 P) : P := h
open PySem PySem.Spec PyProof.Rows L2
def rLen (K : PySem.W.Frag) : List V → Hp → VK → Prop := fun xs H Q => ∃ x n, xs = [x] ∧ LenV K x H n ∧ Q (.int n) H
def rAbs : List V → Hp → VK → Prop := fun xs H Q => ∃ i, xs = [.int i] ∧ Q (.int (if i < 0 then -i else i)) H
def rMax2 : List V → Hp → VK → Prop := fun xs H Q => ∃ i j, xs = [.int i, .int j] ∧ Q (.int (if j > i then j else i)) H
def rMin2 : List V → Hp → VK → Prop := fun xs H Q => ∃ i j, xs = [.int i, .int j] ∧ Q (.int (if j < i then j else i)) H
def rToInt : List V → Hp → VK → Prop := fun xs H Q => (∃ i, xs = [.int i] ∧ Q (.int i) H) ∨ ∃ k, xs = [.bl k] ∧ Q (.int (if k then 1 else 0)) H
def rToList (K : PySem.W.Frag) : List V → Hp → VK → Prop := fun xs H Q => ∃ p ys, xs = [.ref p] ∧ (SqL K H p ys ∨ SqT K H p ys) ∧ ∀ l, H l = none → Q (.ref l) (upd H l (.lst ys))
section
variable {X : Cx}
theorem cLen : CallR X (.builtin "len") (rLen X.K) := call_len
theorem cAbs : CallR X (.builtin "abs") rAbs := call_abs
theorem cMax (hc : X.calm = true) : CallR X (.builtin "max") rMax2 := call_max2 hc
theorem cMin (hc : X.calm = true) : CallR X (.builtin "min") rMin2 := call_min2 hc
theorem cInt : CallR X (.type "int") rToInt := call_int1
theorem cList : CallR X (.type "list") (rToList X.K) := call_list_of
end
/-- the values by position and by keyword, put in the parameters' order -/
def kg {α : Type} (m n : Nat) (idx : List Nat) (us ws : List α) : List α := if us.length = m ∧ ws.length = n then idx.filterMap (fun i => (us ++ ws)[i]?) else []
theorem len2 {α : Type} : ∀ {l : List α}, l.length = 2 → ∃ a b, l = [a, b]
  | [a, b], _ => ⟨a, b, rfl⟩
section
variable {X : Cx} {K : PySem.W.Frag} {σ : L2.St} {H : Hp} {Q : VK} {n : L2.St → Hp → Prop} {r : VK} {b c : L2.St → Hp → Prop} {ta tb tc te : TE} {tA tB1 : TT} {t u : TS} {v : V}
theorem rd_seq (h : t ⟨u ⟨n, r, b, c⟩, r, b, c⟩ σ H) : tSeq t u ⟨n, r, b, c⟩ σ H := h
theorem rd_start {D : Ends} {σ σ' : L2.St} (e : σ' = σ) (h : t D σ H) : t D σ' H := e ▸ h
theorem rd_next (h : n σ H) : tNext ⟨n, r, b, c⟩ σ H := h
theorem rd_asg {g : TG} (h : te σ H fun x H1 => g x σ H1 n) : tAsg te g ⟨n, r, b, c⟩ σ H := h
theorem rd_gname {i : Nat} {Q : L2.St → Hp → Prop} (h : Q (σ.set i (some v)) H) : gName i v σ H Q := h
theorem rd_gsub {to ti : TE} {s : TSet} {Q : L2.St → Hp → Prop} (h : to σ H fun o H1 => ti σ H1 fun i H2 => s o i v H2 fun H3 => Q σ H3) : gSub to ti s v σ H Q := h
theorem rd_ret (h : te σ H r) : tRet te ⟨n, r, b, c⟩ σ H := h
theorem rd_retn (h : r .non H) : tRetN ⟨n, r, b, c⟩ σ H := h
theorem rd_ifs (h : tA σ H fun d H1 => if d = true then t ⟨n, r, b, c⟩ σ H1 else u ⟨n, r, b, c⟩ σ H1) : tIfS tA t u ⟨n, r, b, c⟩ σ H := h
theorem rd_drop (h : te σ H fun _ H1 => n σ H1) : tDrop te ⟨n, r, b, c⟩ σ H := h
theorem rd_par {i j : Nat} {ts : TA} (h : ts σ H fun vs H1 => ∃ v w, vs = [v, w] ∧ n ((σ.set i (some v)).set j (some w)) H1) : tPar i j ts ⟨n, r, b, c⟩ σ H := h
theorem rd_par3 {i j l : Nat} {ts : TA} (h : ts σ H fun vs H1 => ∃ u v w, vs = [u, v, w] ∧ n (((σ.set i (some u)).set j (some v)).set l (some w)) H1) : tPar3 i j l ts ⟨n, r, b, c⟩ σ H := h
theorem rd_two {v w : V} {P : V → V → Prop} (h : P v w) : ∃ a b, [v, w] = [a, b] ∧ P a b := ⟨v, w, rfl, h⟩
theorem rd_three {u v w : V} {P : V → V → V → Prop} (h : P u v w) : ∃ a b c, [u, v, w] = [a, b, c] ∧ P a b c := ⟨u, v, w, rfl, h⟩
theorem rd_var {i : Nat} (e : σ[i]? = some (some v)) (h : Q v H) : tVar i σ H Q := ⟨v, e, h⟩
theorem rd_c (h : Q v H) : tC v σ H Q := h
theorem rd_op {o : R2} (h : ta σ H fun x H1 => tb σ H1 fun y H2 => o x y H2 Q) : tOp o ta tb σ H Q := h
theorem rd_un {o : V → Hp → VK → Prop} (h : ta σ H fun x H1 => o x H1 Q) : tUn o ta σ H Q := h
theorem rd_i0 {g : Int → Int → V} {i j : Int} (h : Q (g i j) H) : rI0 g (.int i) (.int j) H Q := ⟨i, j, rfl, rfl, h⟩
theorem rd_i {C : Int → Int → Prop} {g : Int → Int → V} {i j : Int} (hC : C i j) (h : Q (g i j) H) : rI C g (.int i) (.int j) H Q := ⟨i, j, rfl, rfl, hC, h⟩
theorem rd_u {g : Int → V} {i : Int} (h : Q (g i) H) : rU g (.int i) H Q := ⟨i, rfl, h⟩
theorem rd_eq {x y : V} (e : scal x y = true) (h : Q (.bl (decide (x = y))) H) : rEq x y H Q := ⟨e, h⟩
theorem rd_ne {x y : V} (e : scal x y = true) (h : Q (.bl (!decide (x = y))) H) : rNe x y H Q := ⟨e, h⟩
theorem rd_test {q : Bool → Hp → Prop} (h : te σ H fun x H' => ∃ k, x = .bl k ∧ q k H') : tTest te σ H q := h
theorem rd_b {q : Bool → Hp → Prop} (h : te σ H fun x H' => ∃ k, x = .bl k ∧ q k H') : tB te σ H q := h
theorem rd_bl {k : Bool} {P : Bool → Prop} (h : P k) : ∃ d, V.bl k = .bl d ∧ P d := ⟨k, rfl, h⟩
theorem rd_not {q : Bool → Hp → Prop} (h : tA σ H fun d H1 => q (!d) H1) : tNot tA σ H q := h
theorem rd_and {q : Bool → Hp → Prop} (h : tA σ H fun d H1 => if d = true then tB1 σ H1 q else q false H1) : tAnd tA tB1 σ H q := h
theorem rd_or {q : Bool → Hp → Prop} (h : tA σ H fun d H1 => if d = true then q true H1 else tB1 σ H1 q) : tOr tA tB1 σ H q := h
theorem rd_andV (h : ta σ H fun x H1 => ∃ c, x = .bl c ∧ if c = true then tb σ H1 Q else Q (.bl false) H1) : tAndV ta tb σ H Q := h
theorem rd_orV (h : ta σ H fun x H1 => ∃ c, x = .bl c ∧ if c = true then Q (.bl true) H1 else tb σ H1 Q) : tOrV ta tb σ H Q := h
theorem rd_notV (h : ta σ H fun x H1 => ∃ c, x = .bl c ∧ Q (.bl (!c)) H1) : tNotV ta σ H Q := h
theorem rd_if (h : tA σ H fun d H1 => if d = true then ta σ H1 Q else tb σ H1 Q) : tIf tA ta tb σ H Q := h
theorem rd_chain {o o' : R2} (h : ta σ H fun x H1 => tb σ H1 fun y H2 => o x y H2 fun z H3 => ∃ k, z = .bl k ∧ if k = true then tc σ H3 fun w' H4 => o' y w' H4 Q else Q (.bl false) H3) : tChain o o' ta tb tc σ H Q := h
theorem rd_call {sp : Sp} {dvs : List V} {E : XK} {ts : TA} (h : ts σ H fun vs H1 => sp (vs ++ dvs) H1 Q E) : tCall sp dvs E ts σ H Q := h
theorem rd_callK {sp : Sp} {gV : List V → List V → List V} {E : XK} {ts tk : TA} (h : ts σ H fun vs H1 => tk σ H1 fun zs H2 => sp (gV vs zs) H2 Q E) : tCallK sp gV E ts tk σ H Q := h
theorem rd_cb {rr : List V → Hp → VK → Prop} {ts : TA} (h : ts σ H fun vs H1 => rr vs H1 Q) : tCB rr ts σ H Q := h
theorem rd_cons {tr : TA} {q : List V → Hp → Prop} (h : te σ H fun x H1 => tr σ H1 fun xs H2 => q (x :: xs) H2) : tCons te tr σ H q := h
theorem rd_nil {q : List V → Hp → Prop} (h : q [] H) : tNil σ H q := h
theorem rd_tup {ts : TA} (h : ts σ H fun xs H1 => xs.length ≤ sizeLine ∧ ∀ p, H1 p = none → Q (.ref p) (upd H1 p (.tup xs))) : tTup ts σ H Q := h
theorem rd_lst {ts : TA} (h : ts σ H fun xs H1 => xs.length ≤ sizeLine ∧ ∀ p, H1 p = none → Q (.ref p) (upd H1 p (.lst xs))) : tLst ts σ H Q := h
theorem rd_int {i : Int} (h : Q (.int i) H) : rToInt [.int i] H Q := .inl ⟨i, rfl, h⟩
theorem rd_intb {k : Bool} (h : Q (.int (if k then 1 else 0)) H) : rToInt [.bl k] H Q := .inr ⟨k, rfl, h⟩
theorem rd_abs {i : Int} (h : Q (.int (if i < 0 then -i else i)) H) : rAbs [.int i] H Q := ⟨i, rfl, h⟩
theorem rd_max {i j : Int} (h : Q (.int (if j > i then j else i)) H) : rMax2 [.int i, .int j] H Q := ⟨i, j, rfl, h⟩
theorem rd_min {i j : Int} (h : Q (.int (if j < i then j else i)) H) : rMin2 [.int i, .int j] H Q := ⟨i, j, rfl, h⟩
theorem rd_lenL {p : Addr} {xs : List V} (e : SqL K H p xs) (h : Q (.int xs.length) H) : rLen K [.ref p] H Q := ⟨.ref p, xs.length, rfl, .inl ⟨xs, e, rfl⟩, h⟩
theorem rd_lenT {p : Addr} {xs : List V} (e : SqT K H p xs) (h : Q (.int xs.length) H) : rLen K [.ref p] H Q := ⟨.ref p, xs.length, rfl, .inr ⟨xs, e, rfl⟩, h⟩
theorem rd_ixL {p : Addr} {xs : List V} {i : Int} {v : V} (e : SqL K H p xs) (a : atI xs i = some v) (h : Q v H) : rIxL K (.ref p) (.int i) H Q := ⟨p, xs, i, v, rfl, rfl, e, a, h⟩
theorem rd_ixT {p : Addr} {xs : List V} {i : Int} {v : V} (e : SqT K H p xs) (a : atI xs i = some v) (h : Q v H) : rIxT K (.ref p) (.int i) H Q := ⟨p, xs, i, v, rfl, rfl, e, a, h⟩
theorem rd_setL {p : Addr} {xs : List V} {i : Int} {j : Nat} {v : V} {q : Hp → Prop} (e : H p = some (.lst xs)) (a : ixN xs.length i = some j) (h : q (upd H p (.lst (xs.set j v)))) : rSetL (.ref p) (.int i) v H q := ⟨p, xs, i, j, rfl, rfl, e, a, h⟩
theorem rd_listL {p : Addr} {xs : List V} (e : SqL K H p xs) (h : ∀ l, H l = none → Q (.ref l) (upd H l (.lst xs))) : rToList K [.ref p] H Q := ⟨p, xs, rfl, .inl e, h⟩
theorem rd_iteD {p : Prop} [Decidable p] {A B : Prop} (h1 : p → A) (h2 : ¬ p → B) : if decide p = true then A else B := by
  by_cases h : p
  · rw [if_pos (decide_eq_true h)]; exact h1 h
  · rw [decide_eq_false h, if_neg Bool.false_ne_true]; exact h2 h
theorem rd_iteN {p : Prop} [Decidable p] {A B : Prop} (h1 : ¬ p → A) (h2 : p → B) : if (!decide p) = true then A else B := by
  by_cases h : p
  · rw [decide_eq_true h]; exact iteF (h2 h)
  · rw [decide_eq_false h]; exact iteT (h1 h)
theorem iteNT {A B : Prop} (h : B) : if (!true) = true then A else B := iteF h
theorem iteNF {A B : Prop} (h : A) : if (!false) = true then A else B := iteT h
theorem rd_isi {x c : V} {t' u' : Value} {d : Bool} (k : ClsV c u') (ty : TyX K H x t') (e : PySem.W.kitOne K t' u' = some d) (h : Q (.bl d) H) : rIsi K [x, c] H Q := ⟨x, c, t', u', d, rfl, k, ty, e, h⟩
theorem isi_int_int {i : Int} (h : Q (.bl true) H) : rIsi K [.int i, .ty "int"] H Q := rd_isi (.ty "int") (.base (.int i)) (kit_ty (by decide +kernel)) h
theorem isi_int_bool {i : Int} (h : Q (.bl false) H) : rIsi K [.int i, .ty "bool"] H Q := rd_isi (.ty "bool") (.base (.int i)) (kit_ty (by decide +kernel)) h
theorem isi_int_str {i : Int} (h : Q (.bl false) H) : rIsi K [.int i, .ty "str"] H Q := rd_isi (.ty "str") (.base (.int i)) (kit_ty (by decide +kernel)) h
theorem isi_int_list {i : Int} (h : Q (.bl false) H) : rIsi K [.int i, .ty "list"] H Q := rd_isi (.ty "list") (.base (.int i)) (kit_ty (by decide +kernel)) h
theorem isi_int_tuple {i : Int} (h : Q (.bl false) H) : rIsi K [.int i, .ty "tuple"] H Q := rd_isi (.ty "tuple") (.base (.int i)) (kit_ty (by decide +kernel)) h
theorem isi_bl_int {i : Bool} (h : Q (.bl true) H) : rIsi K [.bl i, .ty "int"] H Q := rd_isi (.ty "int") (.base (.bl i)) (kit_ty (by decide +kernel)) h
theorem isi_bl_bool {i : Bool} (h : Q (.bl true) H) : rIsi K [.bl i, .ty "bool"] H Q := rd_isi (.ty "bool") (.base (.bl i)) (kit_ty (by decide +kernel)) h
theorem isi_bl_str {i : Bool} (h : Q (.bl false) H) : rIsi K [.bl i, .ty "str"] H Q := rd_isi (.ty "str") (.base (.bl i)) (kit_ty (by decide +kernel)) h
theorem isi_bl_list {i : Bool} (h : Q (.bl false) H) : rIsi K [.bl i, .ty "list"] H Q := rd_isi (.ty "list") (.base (.bl i)) (kit_ty (by decide +kernel)) h
theorem isi_bl_tuple {i : Bool} (h : Q (.bl false) H) : rIsi K [.bl i, .ty "tuple"] H Q := rd_isi (.ty "tuple") (.base (.bl i)) (kit_ty (by decide +kernel)) h
theorem isi_non_int  (h : Q (.bl false) H) : rIsi K [.non, .ty "int"] H Q := rd_isi (.ty "int") (.base .non) (kit_ty (by decide +kernel)) h
theorem isi_non_bool  (h : Q (.bl false) H) : rIsi K [.non, .ty "bool"] H Q := rd_isi (.ty "bool") (.base .non) (kit_ty (by decide +kernel)) h
theorem isi_non_str  (h : Q (.bl false) H) : rIsi K [.non, .ty "str"] H Q := rd_isi (.ty "str") (.base .non) (kit_ty (by decide +kernel)) h
theorem isi_non_list  (h : Q (.bl false) H) : rIsi K [.non, .ty "list"] H Q := rd_isi (.ty "list") (.base .non) (kit_ty (by decide +kernel)) h
theorem isi_non_tuple  (h : Q (.bl false) H) : rIsi K [.non, .ty "tuple"] H Q := rd_isi (.ty "tuple") (.base .non) (kit_ty (by decide +kernel)) h
theorem isi_str_int {z : Str} (h : Q (.bl false) H) : rIsi K [.str z, .ty "int"] H Q := rd_isi (.ty "int") (.base (.str z)) (kit_ty (by decide +kernel)) h
theorem isi_str_bool {z : Str} (h : Q (.bl false) H) : rIsi K [.str z, .ty "bool"] H Q := rd_isi (.ty "bool") (.base (.str z)) (kit_ty (by decide +kernel)) h
theorem isi_str_str {z : Str} (h : Q (.bl true) H) : rIsi K [.str z, .ty "str"] H Q := rd_isi (.ty "str") (.base (.str z)) (kit_ty (by decide +kernel)) h
theorem isi_str_list {z : Str} (h : Q (.bl false) H) : rIsi K [.str z, .ty "list"] H Q := rd_isi (.ty "list") (.base (.str z)) (kit_ty (by decide +kernel)) h
theorem isi_str_tuple {z : Str} (h : Q (.bl false) H) : rIsi K [.str z, .ty "tuple"] H Q := rd_isi (.ty "tuple") (.base (.str z)) (kit_ty (by decide +kernel)) h
theorem isi_lst_int {p : Addr} {xs : List V} (hp : H p = some (.lst xs)) (h : Q (.bl false) H) : rIsi K [.ref p, .ty "int"] H Q := rd_isi (.ty "int") (.base (.lst hp)) (kit_ty (by decide +kernel)) h
theorem isi_lst_bool {p : Addr} {xs : List V} (hp : H p = some (.lst xs)) (h : Q (.bl false) H) : rIsi K [.ref p, .ty "bool"] H Q := rd_isi (.ty "bool") (.base (.lst hp)) (kit_ty (by decide +kernel)) h
theorem isi_lst_str {p : Addr} {xs : List V} (hp : H p = some (.lst xs)) (h : Q (.bl false) H) : rIsi K [.ref p, .ty "str"] H Q := rd_isi (.ty "str") (.base (.lst hp)) (kit_ty (by decide +kernel)) h
theorem isi_lst_list {p : Addr} {xs : List V} (hp : H p = some (.lst xs)) (h : Q (.bl true) H) : rIsi K [.ref p, .ty "list"] H Q := rd_isi (.ty "list") (.base (.lst hp)) (kit_ty (by decide +kernel)) h
theorem isi_lst_tuple {p : Addr} {xs : List V} (hp : H p = some (.lst xs)) (h : Q (.bl false) H) : rIsi K [.ref p, .ty "tuple"] H Q := rd_isi (.ty "tuple") (.base (.lst hp)) (kit_ty (by decide +kernel)) h
theorem isi_tup_int {p : Addr} {xs : List V} (hp : H p = some (.tup xs)) (h : Q (.bl false) H) : rIsi K [.ref p, .ty "int"] H Q := rd_isi (.ty "int") (.base (.tup hp)) (kit_ty (by decide +kernel)) h
theorem isi_tup_bool {p : Addr} {xs : List V} (hp : H p = some (.tup xs)) (h : Q (.bl false) H) : rIsi K [.ref p, .ty "bool"] H Q := rd_isi (.ty "bool") (.base (.tup hp)) (kit_ty (by decide +kernel)) h
theorem isi_tup_str {p : Addr} {xs : List V} (hp : H p = some (.tup xs)) (h : Q (.bl false) H) : rIsi K [.ref p, .ty "str"] H Q := rd_isi (.ty "str") (.base (.tup hp)) (kit_ty (by decide +kernel)) h
theorem isi_tup_list {p : Addr} {xs : List V} (hp : H p = some (.tup xs)) (h : Q (.bl false) H) : rIsi K [.ref p, .ty "list"] H Q := rd_isi (.ty "list") (.base (.tup hp)) (kit_ty (by decide +kernel)) h
theorem isi_tup_tuple {p : Addr} {xs : List V} (hp : H p = some (.tup xs)) (h : Q (.bl true) H) : rIsi K [.ref p, .ty "tuple"] H Q := rd_isi (.ty "tuple") (.base (.tup hp)) (kit_ty (by decide +kernel)) h
theorem rd_for1 {ts : TA} {g : TG} {tb' : TS} {D : Ends} (h : ts σ H fun vs H1 => ∃ j : Int, vs = [.int j] ∧ -(2 ^ 62) ≤ j ∧ j < 2 ^ 62 ∧ (∃ W : Nat → Nat → L2.St → Hp → Prop, (∃ m, W 0 m σ H1) ∧ ∀ i m σ H, W i m σ H →
      ((Itr 0 j.toNat).stop i H ∧ D.nx σ H) ∨ ((Itr 0 j.toNat).go i H ∧ ∃ N : L2.St → Hp → Prop, (∀ σ' H', N σ' H' → ∃ m', m' < m ∧ W (i + 1) m' σ' H') ∧ ∀ x H', (Itr 0 j.toNat).yld i H x H' → g x σ H' fun σ2 H2 => tb' { D with nx := N, ct := N, bk := D.nx } σ2 H2))) : tFor (iRng1 ts) g tb' D σ H := h
theorem rd_all {n m : Nat} {P : Addr → Prop} (h1 : n ≤ m) (h : ∀ p, H p = none → P p) : n ≤ m ∧ ∀ p, H p = none → P p := ⟨h1, h⟩
theorem rd_ixP {p : Addr} {xs : List V} {i : Int} (Pm : V → Prop) (e : SqL K H p xs) (h0 : 0 ≤ i) (h1 : i < xs.length) (hP : ∀ v ∈ xs, Pm v) (h : ∀ v, Pm v → Q v H) : rIxL K (.ref p) (.int i) H Q := by
  obtain ⟨j, rfl⟩ : ∃ j : Nat, i = (j : Int) := ⟨i.toNat, by omega⟩
  have hj : j < xs.length := by omega
  have g : xs[j]? = some xs[j] := List.getElem?_eq_getElem hj
  exact ⟨p, xs, (j : Int), xs[j], rfl, rfl, e, atI_nat g, h _ (hP _ (List.getElem_mem hj))⟩
theorem rd_gtup {a : Addr} {xs : List V} {k : Nat} {ts : TGs} {q : L2.St → Hp → Prop} (e : SqT K H a xs) (l : xs.length = k) (h : ts xs σ H q) : gTup K k ts (.ref a) σ H q := ⟨a, xs, rfl, e, l, h⟩
theorem rd_gcons {g : TG} {ts : TGs} {v : V} {vs : List V} {q : L2.St → Hp → Prop} (h : g v σ H fun σ' H' => ts vs σ' H' q) : gCons g ts (v :: vs) σ H q := ⟨v, vs, rfl, h⟩
theorem rd_gnil {q : L2.St → Hp → Prop} (h : q σ H) : gNil [] σ H q := ⟨rfl, h⟩
def LpW (J : It) (g : TG) (tb : TS) (D : Ends) (σ : L2.St) (H1 : Hp) : Prop := ∃ W : Nat → Nat → L2.St → Hp → Prop, (∃ m, W 0 m σ H1) ∧ ∀ i m σ H, W i m σ H →
      (J.stop i H ∧ D.nx σ H) ∨ (J.go i H ∧ ∃ N : L2.St → Hp → Prop, (∀ σ' H', N σ' H' → ∃ m', m' < m ∧ W (i + 1) m' σ' H') ∧ ∀ x H', J.yld i H x H' → g x σ H' fun σ2 H2 => tb { D with nx := N, ct := N, bk := D.nx } σ2 H2)
theorem rd_forT {g : TG} {tb' : TS} {D : Ends} (h : te σ H fun x H1 => ∃ a, x = .ref a ∧ (∃ xs, SqT K H1 a xs) ∧ LpW (Itt K a) g tb' D σ H1) : tFor (iTup K te) g tb' D σ H := h
theorem rd_forL {g : TG} {tb' : TS} {D : Ends} (h : te σ H fun x H1 => ∃ a, x = .ref a ∧ (∃ xs, SqL K H1 a xs) ∧ LpW (Itl K a) g tb' D σ H1) : tFor (iList K te) g tb' D σ H := h
theorem rd_lpT {a : Addr} {xs : List V} {g : TG} {tb' : TS} {D : Ends} (e : SqT K H a xs) (h : LpW (Itt K a) g tb' D σ H) : ∃ b, V.ref a = .ref b ∧ (∃ xs, SqT K H b xs) ∧ LpW (Itt K b) g tb' D σ H := ⟨a, rfl, ⟨xs, e⟩, h⟩
theorem rd_lpL {a : Addr} {xs : List V} {g : TG} {tb' : TS} {D : Ends} (e : SqL K H a xs) (h : LpW (Itl K a) g tb' D σ H) : ∃ b, V.ref a = .ref b ∧ (∃ xs, SqL K H b xs) ∧ LpW (Itl K b) g tb' D σ H := ⟨a, rfl, ⟨xs, e⟩, h⟩
theorem rd_for2 {ts : TA} {g : TG} {tb' : TS} {D : Ends} (h : ts σ H fun vs H1 => ∃ i j : Int, vs = [.int i, .int j] ∧ (-(2 ^ 62) ≤ i ∧ i < 2 ^ 62 ∧ -(2 ^ 62) ≤ j ∧ j < 2 ^ 62) ∧ LpW (Itr i (j - i).toNat) g tb' D σ H1) : tFor (iRng2 ts) g tb' D σ H := h
theorem rd_n2 {i j : Int} {A : Int → Int → Prop} (h1 : -(2 ^ 62) ≤ i ∧ i < 2 ^ 62 ∧ -(2 ^ 62) ≤ j ∧ j < 2 ^ 62) (h : A i j) : ∃ k l : Int, [V.int i, V.int j] = [V.int k, V.int l] ∧ (-(2 ^ 62) ≤ k ∧ k < 2 ^ 62 ∧ -(2 ^ 62) ≤ l ∧ l < 2 ^ 62) ∧ A k l := ⟨i, j, rfl, h1, h⟩
theorem dp_ints : ∀ ns : List Int, DpAll K H (ns.map V.int) (ns.map PyData.int)
  | [] => .nil
  | n :: r => .cons (.int n) (dp_ints r)
theorem rd_neT2 {p q : Addr} {a b c d : Int} (hp : SqT K H p [.int a, .int b]) (hq : SqT K H q [.int c, .int d]) (e1 : a = c) (e2 : b = d) (h : Q (.bl false) H) : rNeD K (.ref p) (.ref q) H Q := by
  subst e1 e2
  exact ⟨_, _, .tup hp (dp_ints [a, b]), .tup hq (dp_ints [a, b]), rfl, rfl, by
    have e : PyData.eqv (.tuple ([a, b].map PyData.int)) (.tuple ([a, b].map PyData.int)) = true := by simp [PyData.eqv, PyData.eqvAll]
    rw [e]
    exact h⟩
def rIsN : R2 := fun x y H Q => y = .non ∧ Q (.bl (decide (x = .non))) H
theorem cIsN {X : Cx} : OpR X (compareOp .Is) rIsN := op_isN
theorem rd_isN {x : V} (h : Q (.bl (decide (x = .non))) H) : rIsN x .non H Q := ⟨rfl, h⟩
theorem rd_one {v : V} {P : V → Prop} (h : P v) : ∃ a, [v] = [a] ∧ P a := ⟨v, rfl, h⟩
theorem rd_n1 {j : Int} {A : Int → Prop} (h1 : -(2 ^ 62) ≤ j) (h2 : j < 2 ^ 62) (h : A j) : ∃ k : Int, [V.int j] = [V.int k] ∧ -(2 ^ 62) ≤ k ∧ k < 2 ^ 62 ∧ A k := ⟨j, rfl, h1, h2, h⟩
end
theorem look_same {H H' : Hp} {a : Addr} {u : HO} (s : Same H H') (h : H a = some u) : H' a = some u := s a u h
theorem look_new {H : Hp} {p a : Addr} {o u : HO} (hp : H p = none) (h : H a = some u) : upd H p o a = some u := by rw [upd_ne (ne_of_none h hp)]; exact h
/-- all but the object at p stay -/
def Kp (p : Addr) (H H' : Hp) : Prop := ∀ a o, a ≠ p → H a = some o → H' a = some o
theorem Kp.refl {p : Addr} {H : Hp} : Kp p H H := fun _ _ _ h => h
theorem Kp.trans {p : Addr} {H H1 H2 : Hp} (a : Kp p H H1) (b : Kp p H1 H2) : Kp p H H2 := fun c o n h => b c o n (a c o n h)
theorem Kp.of {p : Addr} {H H' : Hp} (s : Same H H') : Kp p H H' := fun a o _ h => s a o h
theorem same_new {H : Hp} {p : Addr} {o : HO} (h : H p = none) : Same H (upd H p o) := fun b x e => look_new h e
theorem Kp.new {p q : Addr} {H : Hp} {o : HO} (h : H q = none) : Kp p H (upd H q o) := .of (same_new h)
theorem Kp.at {p : Addr} {H : Hp} {o : HO} : Kp p H (upd H p o) := fun a x n h => by rw [upd_ne n]; exact h
theorem same_kp {p : Addr} {H0 H H' : Hp} (s : Same H0 H) (n : H0 p = none) (k : Kp p H H') : Same H0 H' := fun a o h => k a o (ne_of_none h n) (s a o h)
theorem sqL_new {K : PySem.W.Frag} {p a : Addr} {H : Hp} {o : HO} {xs : List V} (n : H p = none) (h : SqL K H a xs) : SqL K (upd H p o) a xs := (same_new n).seq h
theorem sqL_same {K : PySem.W.Frag} {a : Addr} {H H' : Hp} {xs : List V} (s : Same H H') (h : SqL K H a xs) : SqL K H' a xs := s.seq h
theorem seqT_K {K : PySem.W.Frag} {a : Addr} {od : Option Addr} {its : Array Value} {n : Nat} {sl : Array (Option Value)} {xs : List V} (l : K.lookup a = some ⟨.type "tuple", od, .seq its n, sl⟩) (hs : its.size ≤ sizeLine) (hv : Vals xs its.toList) : ∀ H, SqT K H a xs := fun _ => .inr ⟨_, its, n, l, rfl, rfl, hs, hv⟩
theorem by_all {K : PySem.W.Frag} {a : Addr} {xs : List V} {H : Hp} (h : ∀ H, SqT K H a xs) : SqT K H a xs := h H
def Pool (H : Hp) (p : Addr) : Prop := ∃ x y : Int, H p = some (.lst [.int x, .int y]) ∧ 0 ≤ x ∧ 0 ≤ y ∧ y < 2147483647
theorem look_kp {p a : Addr} {H H' : Hp} {u : HO} (k : Kp p H H') (n : a ≠ p) (h : H a = some u) : H' a = some u := k a u n h
theorem Pool.ne {H : Hp} {p a : Addr} (h : Pool H p) (n : H a = none) : a ≠ p := by
  obtain ⟨x, y, e, _⟩ := h
  exact (ne_of_none e n).symm
theorem Pool.ne' {H : Hp} {p a : Addr} (n : H a = none) (h : Pool H p) : a ≠ p := h.ne n
theorem Pool.new {H : Hp} {p q : Addr} {o : HO} (h : Pool H p) (n : H q = none) : Pool (upd H q o) p := by
  obtain ⟨x, y, e, r⟩ := h
  exact ⟨x, y, look_new n e, r⟩
theorem Pool.same {H H' : Hp} {p : Addr} (h : Pool H p) (s : Same H H') : Pool H' p := by
  obtain ⟨x, y, e, r⟩ := h
  exact ⟨x, y, s _ _ e, r⟩
theorem Pool.same' {H H' : Hp} {p : Addr} (s : Same H H') (h : Pool H p) : Pool H' p := h.same s
theorem Pool.new' {H : Hp} {p q : Addr} {o : HO} (n : H q = none) (h : Pool H p) : Pool (upd H q o) p := h.new n
def spTake : Sp := fun vs H Q _ => ∃ (p : Addr) (m : Int), vs = [.ref p, .int m] ∧ Pool H p ∧ 0 < m ∧ m < 1073741824 ∧ ∀ r H', 0 ≤ r → r < m → Pool H' p → Kp p H H' → Q (.int r) H'
theorem use_take {p : Addr} {m : Int} {H : Hp} {Q : VK} {E : XK} (h1 : Pool H p) (h2 : 0 < m) (h3 : m < 1073741824) (q : ∀ r H', 0 ≤ r → r < m → Pool H' p → Kp p H H' → Q (.int r) H') : spTake ([.ref p, .int m] ++ []) H Q E := ⟨p, m, rfl, h1, h2, h3, q⟩
def spPool (K : PySem.W.Frag) : Sp := fun vs H Q _ => ∃ (a : Addr) (ns : List Int) (k : Int), vs = [.ref a, .int k] ∧ SqL K H a (ns.map V.int) ∧ ns.length ≤ 63 ∧ 0 ≤ k ∧ k < 64 ∧ ∀ p H', H p = none → Same H H' → Pool H' p → Q (.ref p) H'
theorem use_pool {K : PySem.W.Frag} {a : Addr} {ns : List Int} {k : Int} {H : Hp} {Q : VK} {E : XK} (h1 : SqL K H a (ns.map V.int)) (h2 : ns.length ≤ 63) (h3 : 0 ≤ k) (h4 : k < 64) (q : ∀ p H', H p = none → Same H H' → Pool H' p → Q (.ref p) H') : spPool K ([.ref a, .int k] ++ []) H Q E := ⟨a, ns, k, rfl, h1, h2, h3, h4, q⟩
def spNumber : Sp := fun vs H Q _ => ∃ (p : Addr), vs = [.ref p] ∧ Pool H p ∧ ∀ r H', r.natAbs < 10 ^ 55 → Pool H' p → Kp p H H' → Q (.int r) H'
theorem great_nn (z : Int) (b : Bool) : 0 ≤ (if z < 0 then -z else z) * (if b = true then (1 : Int) else 0) := Int.mul_nonneg (by split <;> omega) (by split <;> decide)
theorem use_number {p : Addr} {H : Hp} {Q : VK} {E : XK} (h1 : Pool H p) (q : ∀ r H', r.natAbs < 10 ^ 55 → Pool H' p → Kp p H H' → Q (.int r) H') : spNumber ([.ref p] ++ []) H Q E := ⟨p, rfl, h1, q⟩
def isI : V → Bool
  | .int _ => true
  | _ => false
def TyV (H : Hp) : V → Prop
  | .non => True
  | .bl _ => True
  | .int _ => True
  | .str _ => True
  | .ref a => (∃ xs, H a = some (.lst xs)) ∨ ∃ xs, H a = some (.tup xs)
  | _ => False
def spIsI : Sp := fun vs H Q _ => ∃ x, vs = [x] ∧ TyV H x ∧ Q (.bl (isI x)) H
theorem use_isi {x : V} {H : Hp} {Q : VK} {E : XK} (t : TyV H x) (q : Q (.bl (isI x)) H) : spIsI ([x] ++ []) H Q E := ⟨x, rfl, t, q⟩
theorem use_isi_int {i : Int} {H : Hp} {Q : VK} {E : XK} (q : Q (.bl true) H) : spIsI ([.int i] ++ []) H Q E := ⟨_, rfl, trivial, q⟩
def inI (x : V) (lo hi : Int) : Bool := match x with
  | .int i => decide (lo ≤ i ∧ i ≤ hi)
  | _ => false
def spWithin : Sp := fun vs H Q _ => ∃ x lo hi, vs = [x, .int lo, .int hi] ∧ TyV H x ∧ Q (.bl (inI x lo hi)) H
theorem use_within {x : V} {lo hi : Int} {H : Hp} {Q : VK} {E : XK} (t : TyV H x) (q : Q (.bl (inI x lo hi)) H) : spWithin ([x, .int lo, .int hi] ++ []) H Q E := ⟨x, lo, hi, rfl, t, q⟩
theorem use_within_int {i lo hi : Int} {H : Hp} {Q : VK} {E : XK} (q : Q (.bl (decide (lo ≤ i ∧ i ≤ hi))) H) : spWithin ([.int i, .int lo, .int hi] ++ []) H Q E := ⟨_, lo, hi, rfl, trivial, q⟩
def spCkI : Sp := fun vs H Q _ => ∃ i, vs = [.int i] ∧ Q .non H
theorem use_cki {i : Int} {H : Hp} {Q : VK} {E : XK} (q : Q .non H) : spCkI ([.int i] ++ []) H Q E := ⟨_, rfl, q⟩
def spCkW : Sp := fun vs H Q _ => ∃ i lo hi, vs = [.int i, .int lo, .int hi] ∧ lo ≤ i ∧ i ≤ hi ∧ Q .non H
theorem use_ckw {i lo hi : Int} {H : Hp} {Q : VK} {E : XK} (h1 : lo ≤ i) (h2 : i ≤ hi) (q : Q .non H) : spCkW ([.int i, .int lo, .int hi] ++ []) H Q E := ⟨_, _, _, rfl, h1, h2, q⟩
def spQuant : Sp := fun vs H Q _ => ∃ v s, vs = [.int v, .int s] ∧ 1 ≤ s ∧ s ≤ 64 ∧ Q (.int ((2 * v + s) / (2 * s))) H
theorem use_quant {v s : Int} {H : Hp} {Q : VK} {E : XK} (h1 : 1 ≤ s) (h2 : s ≤ 64) (q : Q (.int ((2 * v + s) / (2 * s))) H) : spQuant ([.int v, .int s] ++ []) H Q E := ⟨v, s, rfl, h1, h2, q⟩
theorem use_quantK {v s : Int} {H : Hp} {Q : VK} {E : XK} (h1 : 1 ≤ s) (h2 : s ≤ 64) (q : Q (.int ((2 * v + s) / (2 * s))) H) : spQuant (kg 0 2 [1, 0] [] [.int s, .int v]) H Q E := ⟨v, s, rfl, h1, h2, q⟩
def cC (s : Int) : Int := if s = 0 then -1 else if s = 1 then -2 else if s = 2 then 1 else 2
def cD (s : Int) : Int := if s = 0 then 2 else if s = 1 then 3 else if s = 2 then -2 else -3
def foldP (s a b : Int) : Int × Int :=
  (a + (cC s * b + 2) / 4 + (cC s * (b + (cD s * (a + (cC s * b + 2) / 4) + 2) / 4) + 2) / 4, b + (cD s * (a + (cC s * b + 2) / 4) + 2) / 4)
def unfoldP (s a b : Int) : Int × Int :=
  (a - (cC s * b + 2) / 4 - (cC s * (b - (cD s * (a - (cC s * b + 2) / 4) + 2) / 4) + 2) / 4, b - (cD s * (a - (cC s * b + 2) / 4) + 2) / 4)
theorem unfold_fold (s a b : Int) : unfoldP s (foldP s a b).1 (foldP s a b).2 = (a, b) := by
  unfold unfoldP foldP
  dsimp only
  rw [Int.add_sub_cancel, Int.add_sub_cancel, Int.add_sub_cancel]
theorem fold_unfold (s a b : Int) : foldP s (unfoldP s a b).1 (unfoldP s a b).2 = (a, b) := by
  unfold unfoldP foldP
  dsimp only
  rw [Int.sub_add_cancel, Int.sub_add_cancel, Int.sub_add_cancel]
def spPair (f : Int → Int → Int → Int × Int) : Sp := fun vs H Q _ => ∃ s a b, vs = [.int s, .int a, .int b] ∧ 0 ≤ s ∧ s < 4 ∧ ∀ p, H p = none → Q (.ref p) (upd H p (.tup [.int (f s a b).1, .int (f s a b).2]))
theorem use_pair {f : Int → Int → Int → Int × Int} {s a b : Int} {H : Hp} {Q : VK} {E : XK} (h1 : 0 ≤ s) (h2 : s < 4) (q : ∀ p, H p = none → Q (.ref p) (upd H p (.tup [.int (f s a b).1, .int (f s a b).2]))) : spPair f ([.int s, .int a, .int b] ++ []) H Q E := ⟨s, a, b, rfl, h1, h2, q⟩
def spCkP : Sp := fun vs H Q _ => ∃ s a b, vs = [.int s, .int a, .int b] ∧ 0 ≤ s ∧ s < 4 ∧ Q .non H
theorem use_ckp {s a b : Int} {H : Hp} {Q : VK} {E : XK} (h1 : 0 ≤ s) (h2 : s < 4) (q : Q .non H) : spCkP ([.int s, .int a, .int b] ++ []) H Q E := ⟨s, a, b, rfl, h1, h2, q⟩
def spLFold : Sp := fun vs H Q _ => ∃ s a b, vs = [.int s, .int a, .int b] ∧ 0 ≤ s ∧ s < 4 ∧ ∀ p H', Same H H' → H' p = some (.tup [.int (foldP s a b).1, .int (foldP s a b).2]) → Q (.ref p) H'
theorem use_lfold {s a b : Int} {H : Hp} {Q : VK} {E : XK} (h1 : 0 ≤ s) (h2 : s < 4) (q : ∀ p H', Same H H' → H' p = some (.tup [.int (foldP s a b).1, .int (foldP s a b).2]) → Q (.ref p) H') : spLFold ([.int s, .int a, .int b] ++ []) H Q E := ⟨s, a, b, rfl, h1, h2, q⟩
def spIsPair : Sp := fun vs H Q _ => ∃ p x y, vs = [.ref p] ∧ H p = some (.tup [.int x, .int y]) ∧ Q (.bl true) H
theorem use_ispair {p : Addr} {x y : Int} {H : Hp} {Q : VK} {E : XK} (h : H p = some (.tup [.int x, .int y])) (q : Q (.bl true) H) : spIsPair ([.ref p] ++ []) H Q E := ⟨p, x, y, rfl, h, q⟩
theorem look_upd {H : Hp} {p a : Addr} {o u : HO} (n : a ≠ p) (h : H a = some u) : upd H p o a = some u := by rw [upd_ne n]; exact h
theorem ixN_nat {n j : Nat} (h : j < n) : ixN n (j : Int) = some j := by
  unfold ixN
  rw [if_pos (show (0 : Int) ≤ (j : Int) by omega), if_pos (show (j : Int) < (n : Int) by omega)]
  rfl
def Kp2 (p q : Addr) (H H' : Hp) : Prop := ∀ a o, a ≠ p → a ≠ q → H a = some o → H' a = some o
theorem Kp2.refl {p q : Addr} {H : Hp} : Kp2 p q H H := fun _ _ _ _ h => h
theorem Kp2.trans {p q : Addr} {H H1 H2 : Hp} (a : Kp2 p q H H1) (b : Kp2 p q H1 H2) : Kp2 p q H H2 := fun c o n m h => b c o n m (a c o n m h)
theorem Kp2.ofK {p q : Addr} {H H' : Hp} (k : Kp p H H') : Kp2 p q H H' := fun a o n _ h => k a o n h
theorem Kp2.ofS {p q : Addr} {H H' : Hp} (k : Same H H') : Kp2 p q H H' := fun a o _ _ h => k a o h
theorem Kp2.new {p q r : Addr} {H : Hp} {o : HO} (h : H r = none) : Kp2 p q H (upd H r o) := .ofS (same_new h)
theorem Kp2.at {p q : Addr} {H : Hp} {o : HO} : Kp2 p q H (upd H q o) := fun a x _ n h => by rw [upd_ne n]; exact h
theorem close_turn {p : Addr} {H H1 H2 H3 : Hp} (s : Same H H1) (n : H1 p = none) (s2 : Same H1 H2) (k : Kp p H2 H3) : Same H H3 := same_kp (s.trans s2) (s.free n) k
theorem mm_nat (n c : Nat) (hc : 1 ≤ c) : (if (if (c : Int) < (n : Int) then (c : Int) else (n : Int)) > 1 then (if (c : Int) < (n : Int) then (c : Int) else (n : Int)) else 1).toNat ≤ c := by
  split
  · split <;> omega
  · split <;> omega
def spLaw (K : PySem.W.Frag) : Sp := fun vs H Q _ => ∃ (a : Addr) (ns : List Int), vs = [.ref a] ∧ SqL K H a (ns.map V.int) ∧ ns.length ≤ 63 ∧ ∀ H', Q (.bl true) H'
theorem if_no {c : Bool} {A B : Prop} (h : c = false) (q : B) : if c = true then A else B := by rw [h]; exact iteF q
theorem if_yes {c : Bool} {A B : Prop} (h : c = true) (q : A) : if c = true then A else B := by rw [h]; exact iteT q
theorem if_noD {p : Prop} [Decidable p] {A B : Prop} (h : ¬ p) (q : B) : if decide p = true then A else B := if_no (decide_eq_false h) q
theorem if_yesD {p : Prop} [Decidable p] {A B : Prop} (h : p) (q : A) : if decide p = true then A else B := if_yes (decide_eq_true h) q
theorem if_noN {p : Prop} [Decidable p] {A B : Prop} (h : p) (q : B) : if (!decide p) = true then A else B := if_no (by rw [decide_eq_true h]; rfl) q
theorem if_yesN {p : Prop} [Decidable p] {A B : Prop} (h : ¬ p) (q : A) : if (!decide p) = true then A else B := if_yes (by rw [decide_eq_false h]; rfl) q
theorem canLay_ints : ∀ ns : List Int, PyData.canLayAll0 (ns.map PyData.int) = true
  | [] => rfl
  | n :: r => by
    show (PyData.canLay0 (.int n) && PyData.canLayAll0 (r.map PyData.int)) = true
    rw [canLay_ints r]
    rfl
theorem depth_ints : ∀ ns : List Int, PyData.depthAll (ns.map PyData.int) = 0
  | [] => rfl
  | n :: r => by
    show max (PyData.depth (.int n)) (PyData.depthAll (r.map PyData.int)) = 0
    rw [depth_ints r]
    rfl
theorem shaped_ints (ns : List Int) : SeqAt.shaped (.list (ns.map PyData.int)) = true := by
  show (PyData.canLayAll0 (ns.map PyData.int) && decide (PyData.depthAll (ns.map PyData.int) + 1 ≤ 64)) = true
  rw [canLay_ints, depth_ints]
  rfl
theorem eqv_ints : ∀ ns ms : List Int, PyData.eqvAll (ns.map PyData.int) (ms.map PyData.int) = decide (ns = ms)
  | [], [] => by simp [PyData.eqvAll]
  | [], m :: r => by simp [PyData.eqvAll]
  | n :: r, [] => by simp [PyData.eqvAll]
  | n :: r, m :: t => by
    show (PyData.eqv (.int n) (.int m) && PyData.eqvAll (r.map PyData.int) (t.map PyData.int)) = decide (n :: r = m :: t)
    rw [eqv_ints r t]
    show ((n == m) && decide (r = t)) = decide (n :: r = m :: t)
    by_cases h : n = m
    · subst h
      simp
    · have e : (n == m) = false := by simpa using h
      rw [e, Bool.false_and]
      exact (decide_eq_false fun z => h (List.cons.inj z).1).symm
section
variable {K : PySem.W.Frag} {H : Hp} {Q : VK} {p q : Addr} {ns ms : List Int}
theorem rd_neL (hp : SqL K H p (ns.map V.int)) (hq : SqL K H q (ms.map V.int)) (h : Q (.bl (!decide (ns = ms))) H) : rNeD K (.ref p) (.ref q) H Q :=
  ⟨_, _, .lst hp (dp_ints ns), .lst hq (dp_ints ms), shaped_ints ns, shaped_ints ms, by
    rw [show PyData.eqv (.list (ns.map PyData.int)) (.list (ms.map PyData.int)) = decide (ns = ms) by rw [← eqv_ints]; simp only [PyData.eqv]]
    exact h⟩
theorem rd_eqL (hp : SqL K H p (ns.map V.int)) (hq : SqL K H q (ms.map V.int)) (h : Q (.bl (decide (ns = ms))) H) : rEqD K (.ref p) (.ref q) H Q :=
  ⟨_, _, .lst hp (dp_ints ns), .lst hq (dp_ints ms), shaped_ints ns, shaped_ints ms, by
    rw [show PyData.eqv (.list (ns.map PyData.int)) (.list (ms.map PyData.int)) = decide (ns = ms) by rw [← eqv_ints]; simp only [PyData.eqv]]
    exact h⟩
theorem rd_neN (hp : SqL K H p (ns.map V.int)) (hq : SqL K H q []) (h : Q (.bl (!decide (ns = []))) H) : rNeD K (.ref p) (.ref q) H Q := rd_neL (ms := []) hp hq h
end
section
variable {K : PySem.W.Frag} {σ : L2.St} {H : Hp} {Q : VK} {g : TG} {tb : TS} {D : Ends}
theorem rd_forE {ts : TA} (h : ts σ H fun vs H1 => ∃ a xs, vs = [.ref a] ∧ SqL K H1 a xs ∧ LpW (Ite K a) g tb D σ H1) : tFor (iEnum K ts) g tb D σ H := h
theorem rd_lpE {a : Addr} {xs : List V} (e : SqL K H a xs) (h : LpW (Ite K a) g tb D σ H) : ∃ b ys, [V.ref a] = [.ref b] ∧ SqL K H b ys ∧ LpW (Ite K b) g tb D σ H := ⟨a, xs, rfl, e, h⟩
theorem for_enum {a : Addr} {xs : List V} (Pv : Nat → L2.St → Hp → Prop) (h0 : Pv 0 σ H) (hl : ∀ i σ H, i ≤ xs.length → Pv i σ H → SqL K H a xs)
    (hs : ∀ i x σ H T, xs[i]? = some x → Pv i σ H → H T = none → g (.ref T) σ (upd H T (.tup [.int (i : Nat), x])) fun σ2 H2 => tb { D with nx := Pv (i + 1), ct := Pv (i + 1), bk := D.nx } σ2 H2) (hd : ∀ σ H, Pv xs.length σ H → D.nx σ H) : LpW (Ite K a) g tb D σ H := by
  refine ⟨fun i m σ H => m = xs.length - i ∧ i ≤ xs.length ∧ Pv i σ H, ⟨xs.length, by simp, Nat.zero_le _, h0⟩, ?_⟩
  rintro i m σ H ⟨rfl, hi, p⟩
  have q := hl i σ H hi p
  by_cases hlt : i < xs.length
  · refine .inr ⟨⟨xs, xs[i], q, by simp [hlt]⟩, Pv (i + 1), fun σ' H' p' => ⟨xs.length - (i + 1), by omega, rfl, hlt, p'⟩, fun x H' y => ?_⟩
    obtain ⟨T, x1, rfl, nT, rfl, y⟩ := y
    exact hs i x1 σ H T (y xs q) p nT
  · have e : i = xs.length := by omega
    subst e
    exact .inl ⟨⟨xs, q, Nat.le_refl _⟩, hd σ H p⟩
theorem rd_forZ {ts : TA} (h : ts σ H fun vs H1 => ∃ a b xs ys, vs = [.ref a, .ref b] ∧ ((SqL K H1 a xs ∧ SqL K H1 b ys ∧ LpW (Itz K a b) g tb D σ H1) ∨ (SqT K H1 a xs ∧ SqT K H1 b ys ∧ LpW (RZ.ItzT K a b) g tb D σ H1))) : tFor (RZ.iZipA K ts) g tb D σ H := h
theorem for_zip {a b : Addr} {xs ys : List V} (hln : xs.length = ys.length) (Pv : Nat → L2.St → Hp → Prop) (h0 : Pv 0 σ H) (hl : ∀ i σ H, i ≤ xs.length → Pv i σ H → SqL K H a xs ∧ SqL K H b ys)
    (hs : ∀ i x y σ H T, xs[i]? = some x → ys[i]? = some y → Pv i σ H → H T = none → g (.ref T) σ (upd H T (.tup [x, y])) fun σ2 H2 => tb { D with nx := Pv (i + 1), ct := Pv (i + 1), bk := D.nx } σ2 H2) (hd : ∀ σ H, Pv xs.length σ H → D.nx σ H) : LpW (Itz K a b) g tb D σ H := by
  refine ⟨fun i m σ H => m = xs.length - i ∧ i ≤ xs.length ∧ Pv i σ H, ⟨xs.length, by simp, Nat.zero_le _, h0⟩, ?_⟩
  rintro i m σ H ⟨rfl, hi, p⟩
  obtain ⟨q1, q2⟩ := hl i σ H hi p
  by_cases hlt : i < xs.length
  · have hlt2 : i < ys.length := by omega
    refine .inr ⟨⟨xs, ys, xs[i], ys[i], q1, q2, by simp [hlt], by simp [hlt2]⟩, Pv (i + 1), fun σ' H' p' => ⟨xs.length - (i + 1), by omega, rfl, hlt, p'⟩, fun x H' y => ?_⟩
    obtain ⟨T, x1, y1, rfl, nT, rfl, f1, f2⟩ := y
    exact hs i x1 y1 σ H T (f1 xs q1) (f2 ys q2) p nT
  · have e : i = xs.length := by omega
    subst e
    exact .inl ⟨⟨xs, ys, q1, q2, .inl (Nat.le_refl _)⟩, hd σ H p⟩
theorem for_zipT {a b : Addr} {xs ys : List V} (hln : xs.length = ys.length) (Pv : Nat → L2.St → Hp → Prop) (h0 : Pv 0 σ H) (hl : ∀ i σ H, i ≤ xs.length → Pv i σ H → SqT K H a xs ∧ SqT K H b ys)
    (hs : ∀ i x y σ H T, xs[i]? = some x → ys[i]? = some y → Pv i σ H → H T = none → g (.ref T) σ (upd H T (.tup [x, y])) fun σ2 H2 => tb { D with nx := Pv (i + 1), ct := Pv (i + 1), bk := D.nx } σ2 H2) (hd : ∀ σ H, Pv xs.length σ H → D.nx σ H) : LpW (RZ.ItzT K a b) g tb D σ H := by
  refine ⟨fun i m σ H => m = xs.length - i ∧ i ≤ xs.length ∧ Pv i σ H, ⟨xs.length, by simp, Nat.zero_le _, h0⟩, ?_⟩
  rintro i m σ H ⟨rfl, hi, p⟩
  obtain ⟨q1, q2⟩ := hl i σ H hi p
  by_cases hlt : i < xs.length
  · have hlt2 : i < ys.length := by omega
    refine .inr ⟨⟨xs, ys, xs[i], ys[i], q1, q2, by simp [hlt], by simp [hlt2]⟩, Pv (i + 1), fun σ' H' p' => ⟨xs.length - (i + 1), by omega, rfl, hlt, p'⟩, fun x H' y => ?_⟩
    obtain ⟨T, x1, y1, rfl, nT, rfl, f1, f2⟩ := y
    exact hs i x1 y1 σ H T (f1 xs q1) (f2 ys q2) p nT
  · have e : i = xs.length := by omega
    subst e
    exact .inl ⟨⟨xs, ys, q1, q2, .inl (Nat.le_refl _)⟩, hd σ H p⟩
def LcW (J : It) (g : TG) (tt : TT) (te : TE) (vs : List Nat) (Q : VK) (σ : L2.St) (H1 : Hp) (D : Addr) : Prop := ∃ W : Nat → Nat → Hp → Prop, (∃ m, W 0 m (upd H1 D (.lst []))) ∧ ∀ i m H, W i m H →
  (J.stop i H ∧ Q (.ref D) H) ∨ (J.go i H ∧ ∃ Nx : Hp → Prop, (∀ H', Nx H' → ∃ m', m' < m ∧ W (i + 1) m' H') ∧ ∀ x H', J.yld i H x H' → g x (wipe σ vs) H' fun σ2 H2 => wipe σ2 vs = wipe σ vs ∧ tt σ2 H2 fun b H3 =>
    if b = true then te σ2 H3 fun y H4 => ∃ acc, H4 D = some (.lst acc) ∧ acc.length < sizeLine ∧ Nx (upd H4 D (.lst (acc ++ [y]))) else Nx H3)
theorem rd_lc1 {ts : TA} {tt : TT} {te : TE} {vs : List Nat} (h : ts σ H fun us H1 => ∃ j : Int, us = [.int j] ∧ -(2 ^ 62) ≤ j ∧ j < 2 ^ 62 ∧ ∀ D, H1 D = none → LcW (Itr 0 j.toNat) g tt te vs Q σ H1 D) : tLc (iRng1 ts) g tt te vs σ H Q := h
theorem rd_yes {σ : L2.St} {H : Hp} {A B : Hp → Prop} (h : A H) : tYes σ H fun b H3 => if b = true then A H3 else B H3 := by
  show if true = true then A H else B H
  rw [if_pos rfl]
  exact h
theorem kp_app {p D : Addr} {H1 H H' : Hp} {o : HO} (hD : H1 D = none) (k : Kp p H1 H) (k2 : Kp p H H') : Kp p H1 (upd H' D o) := fun a x n e => by
  rw [upd_ne (ne_of_none e hD)]
  exact k2 a x n (k a x n e)
theorem rd_lcD {J : It} {tt : TT} {te : TE} {vs : List Nat} (h : ∀ D, H D = none → LcW J g tt te vs Q σ H D) : ∀ D, H D = none → LcW J g tt te vs Q σ H D := h
theorem lc_numbers {vs : List Nat} {i k : Nat} {p D : Addr} {n : Nat} {H1 : Hp} (hσ : ∀ v, ((wipe σ vs).set k (some v))[i]? = some (some (.ref p))) (hw : ∀ v, wipe ((wipe σ vs).set k (some v)) vs = wipe σ vs) (hP : Pool H1 p) (hD : H1 D = none) (hn : n ≤ 1000)
    (q : ∀ (ns : List Int) H', ns.length = n → (∀ z ∈ ns, z.natAbs < 10 ^ 55) → Pool H' p → Kp p H1 H' → H' D = some (.lst (ns.map V.int)) → Q (.ref D) H') :
    LcW (Itr 0 n) (gName k) tYes (tCall spNumber [] E0 (tCons (tVar i) tNil)) vs Q σ H1 D := by
  have hDp : D ≠ p := hP.ne hD
  refine lc_range (Pv := fun j H => ∃ ns : List Int, ns.length = j ∧ (∀ z ∈ ns, z.natAbs < 10 ^ 55) ∧ Pool H p ∧ Kp p H1 H ∧ H D = some (.lst (ns.map V.int))) ⟨[], rfl, List.forall_mem_nil _, hP.new hD, Kp.new hD, upd_same⟩ (fun j H hj hI => ?_) (fun H hI => ?_)
  · obtain ⟨ns, hl, hb, hP', hK, hd⟩ := hI
    refine ⟨hw _, rd_yes ?_⟩
    refine rd_call (rd_cons (rd_var (hσ _) (rd_nil (use_number hP' fun r H' hr hP2 hK2 => ?_))))
    refine ⟨_, hK2 _ _ hDp hd, ?_, ns ++ [r], ?_, ?_, ?_, kp_app hD hK hK2, ?_⟩
    · rw [List.length_map]
      exact small1000 (by omega)
    · rw [List.length_append, hl]
      rfl
    · intro z hz
      rcases List.mem_append.mp hz with hz | hz
      · exact hb z hz
      · rw [List.mem_singleton.mp hz]
        exact hr
    · obtain ⟨x, y, e, r⟩ := hP2
      exact ⟨x, y, by rw [upd_ne hDp.symm]; exact e, r⟩
    · rw [upd_same, List.map_append]
      rfl
  · obtain ⟨ns, hl, hb, hP', hK, hd⟩ := hI
    exact q ns H hl hb hP' hK hd
end
def scalarV : V → Bool
  | .non => true
  | .bl _ => true
  | .int _ => true
  | .str _ => true
  | _ => false
def LstV (K : PySem.W.Frag) (H : Hp) (a : Addr) (xs : List V) : Prop := SqL K H a xs ∧ TyX K H (.ref a) (.type "list")
def TupV (K : PySem.W.Frag) (H : Hp) (a : Addr) (xs : List V) : Prop := SqT K H a xs ∧ TyX K H (.ref a) (.type "tuple")
def SmV (K : PySem.W.Frag) (H : Hp) : Nat → V → V → Prop
  | 0, x, y => x = y ∧ scalarV x = true
  | n + 1, x, y => (x = y ∧ scalarV x = true) ∨ (∃ a b xs ys, x = .ref a ∧ y = .ref b ∧ LstV K H a xs ∧ LstV K H b ys ∧ xs.length = ys.length ∧ ∀ (i : Nat) x y, xs[i]? = some x → ys[i]? = some y → SmV K H n x y) ∨
      ∃ a b xs ys, x = .ref a ∧ y = .ref b ∧ TupV K H a xs ∧ TupV K H b ys ∧ xs.length = ys.length ∧ ∀ (i : Nat) x y, xs[i]? = some x → ys[i]? = some y → SmV K H n x y
theorem LstV.of {K : PySem.W.Frag} {H : Hp} {a : Addr} {xs : List V} (h : H a = some (.lst xs)) : LstV K H a xs := ⟨SqL.of h, .base (.lst h)⟩
theorem TupV.of {K : PySem.W.Frag} {H : Hp} {a : Addr} {xs : List V} (h : H a = some (.tup xs)) : TupV K H a xs := ⟨SqT.of h, .base (.tup h)⟩
section
variable {K : PySem.W.Frag} {H H' : Hp}
theorem tyo_same {x : V} {t : Value} (s : Same H H') (h : TyOf K H x t) : TyOf K H' x t := by
  cases h with
  | non => exact .non
  | bl x => exact .bl x
  | int i => exact .int i
  | str x => exact .str x
  | flt x => exact .flt x
  | lst e => exact .lst (s _ _ e)
  | frz e => exact .frz (s _ _ e)
  | tup e => exact .tup (s _ _ e)
  | dK e => exact .dK (s _ _ e)
  | dT e => exact .dT (s _ _ e)
  | ins e cl ha hn htk hm => exact .ins (s _ _ e) cl ha hn htk hm
theorem tyx_same {x : V} {t : Value} (s : Same H H') (h : TyX K H x t) : TyX K H' x t := by
  cases h with
  | base b => exact .base (tyo_same s b)
  | byt b => exact .byt b
  | set e => exact .set (s _ _ e)
  | kList e c => exact .kList e c
  | kTuple e c => exact .kTuple e c
  | kDict e c => exact .kDict e c
  | fTuple e => exact .fTuple (s _ _ e)
  | fDict e => exact .fDict (s _ _ e)
theorem LstV.same {a : Addr} {xs : List V} (s : Same H H') (h : LstV K H a xs) : LstV K H' a xs := ⟨s.seq h.1, tyx_same s h.2⟩
theorem same_seqT {a : Addr} {xs : List V} (s : Same H H') (h : SqT K H a xs) : SqT K H' a xs := by
  rcases h with (h | ⟨o, h⟩) | h
  · exact .inl (.inl (s _ _ h))
  · exact .inl (.inr ⟨o, s _ _ h⟩)
  · exact .inr h
theorem TupV.same {a : Addr} {xs : List V} (s : Same H H') (h : TupV K H a xs) : TupV K H' a xs := ⟨same_seqT s h.1, tyx_same s h.2⟩
theorem SmV.same (s : Same H H') : ∀ (n : Nat) {x y : V}, SmV K H n x y → SmV K H' n x y
  | 0, _, _, h => h
  | n + 1, x, y, h => by
    rcases h with h | ⟨a, b, xs, ys, e1, e2, h1, h2, l, h⟩ | ⟨a, b, xs, ys, e1, e2, h1, h2, l, h⟩
    · exact .inl h
    · exact .inr (.inl ⟨a, b, xs, ys, e1, e2, h1.same s, h2.same s, l, fun i x y a b => SmV.same s n (h i x y a b)⟩)
    · exact .inr (.inr ⟨a, b, xs, ys, e1, e2, h1.same s, h2.same s, l, fun i x y a b => SmV.same s n (h i x y a b)⟩)
theorem isi_ty {Q : VK} {x : V} {t n : String} {d : Bool} (h : TyX K H x (.type t)) (e : kitB t n = some d) (q : Q (.bl d) H) : rIsi K [x, .ty n] H Q := rd_isi (.ty n) h (kit_ty e) q
theorem sm_ints {p q : Addr} {ns : List Int} (hp : H p = some (.lst (ns.map V.int))) (hq : H q = some (.lst (ns.map V.int))) : SmV K H 1 (.ref p) (.ref q) :=
  .inr (.inl ⟨p, q, _, _, rfl, rfl, .of hp, .of hq, rfl, fun i x y e1 e2 => by
    rw [e1] at e2
    have e := Option.some.inj e2
    subst e
    rw [List.getElem?_map] at e1
    cases g : ns[i]? with
    | none => rw [g] at e1; cases e1
    | some z => rw [g] at e1; cases e1; exact ⟨rfl, rfl⟩⟩)
end
theorem sm_sc {K : PySem.W.Frag} {H : Hp} {x : V} (h : scalarV x = true) : ∀ {n : Nat}, SmV K H n x x
  | 0 => ⟨rfl, h⟩
  | _ + 1 => .inl ⟨rfl, h⟩
def spSame (K : PySem.W.Frag) (n : Nat) : Sp := fun vs H Q _ => ∃ x y, vs = [x, y] ∧ SmV K H n x y ∧ ∀ H', Same H H' → Q (.bl true) H'
theorem use_same {K : PySem.W.Frag} {n : Nat} {x y : V} {H : Hp} {Q : VK} {E : XK} (h : SmV K H n x y) (q : ∀ H', Same H H' → Q (.bl true) H') : spSame K n ([x, y] ++ []) H Q E := ⟨x, y, rfl, h, q⟩
def spItems (K : PySem.W.Frag) : Sp := fun vs H Q _ => ∃ (a : Addr) (ns : List Int), vs = [.ref a] ∧ SqL K H a (ns.map V.int) ∧ ∀ H', Same H H' → Q .non H'
theorem use_items {K : PySem.W.Frag} {a : Addr} {ns : List Int} {H : Hp} {Q : VK} {E : XK} (h : SqL K H a (ns.map V.int)) (q : ∀ H', Same H H' → Q .non H') : spItems K ([.ref a] ++ []) H Q E := ⟨a, ns, rfl, h, q⟩
def spBlock : Sp := fun vs H Q _ => ∃ (a : Addr) (ns : List Int) (least : Int), vs = [.ref a, .int least] ∧ H a = some (.lst (ns.map V.int)) ∧ least ≤ ns.length ∧ ns.length ≤ 64 ∧ ∀ H', Same H H' → Q .non H'
theorem use_block {a : Addr} {ns : List Int} {least : Int} {H : Hp} {Q : VK} {E : XK} (h : H a = some (.lst (ns.map V.int))) (h1 : least ≤ ns.length) (h2 : ns.length ≤ 64) (q : ∀ H', Same H H' → Q .non H') : spBlock ([.ref a, .int least] ++ []) H Q E := ⟨a, ns, least, rfl, h, h1, h2, q⟩
def codeU (n : Int) : Int := if n ≥ 0 then 2 * n else -2 * n - 1
def spCode : Sp := fun vs H Q _ => ∃ n, vs = [.int n] ∧ Q (.int (codeU n)) H
theorem use_code {n : Int} {H : Hp} {Q : VK} {E : XK} (q : Q (.int (codeU n)) H) : spCode ([.int n] ++ []) H Q E := ⟨n, rfl, q⟩
def markF (ns : List Int) : Int := ns.foldl (fun m n => (m * 31 + codeU n) % 9973) 1
theorem markF_snoc (ns : List Int) (z : Int) : markF (ns ++ [z]) = (markF ns * 31 + codeU z) % 9973 := by
  unfold markF
  rw [List.foldl_append]
  rfl
theorem foldm_bound : ∀ (ns : List Int) (m : Int), 0 ≤ m → m < 9973 → 0 ≤ ns.foldl (fun m n => (m * 31 + codeU n) % 9973) m ∧ ns.foldl (fun m n => (m * 31 + codeU n) % 9973) m < 9973
  | [], m, h0, h1 => ⟨h0, h1⟩
  | n :: r, m, _, _ => foldm_bound r _ (Int.emod_nonneg _ (by decide)) (Int.emod_lt_of_pos _ (by decide))
theorem markF_bound (ns : List Int) : 0 ≤ markF ns ∧ markF ns < 9973 := foldm_bound ns 1 (by decide) (by decide)
def spMark : Sp := fun vs H Q _ => ∃ (a : Addr) (ns : List Int), vs = [.ref a] ∧ H a = some (.lst (ns.map V.int)) ∧ ns.length ≤ 64 ∧ ∀ H', Same H H' → Q (.int (markF ns)) H'
theorem use_mark {a : Addr} {ns : List Int} {H : Hp} {Q : VK} {E : XK} (h : H a = some (.lst (ns.map V.int))) (h2 : ns.length ≤ 64) (q : ∀ H', Same H H' → Q (.int (markF ns)) H') : spMark ([.ref a] ++ []) H Q E := ⟨a, ns, rfl, h, h2, q⟩
def jx (u v : V) : Bool := match u, v with
  | .int w, .int t => decide (0 < w) || decide (t = 0)
  | _, _ => false
def jt (u v : V) : Bool := inI u 0 8 && (inI v 0 3 && jx u v)
theorem dec_i0 (t : Int) : decide (V.int t = V.int 0) = decide (t = 0) := decide_eq_decide.mpr ⟨V.int.inj, congrArg V.int⟩
inductive JR (H : Hp) : V → Bool → Prop where
  | flat {x : V} (h : scalarV x = true) : JR H x false
  | lst {a : Addr} {xs : List V} (h : H a = some (.lst xs)) : JR H (.ref a) false
  | tupn {a : Addr} {xs : List V} (h : H a = some (.tup xs)) (n : xs.length ≠ 2) : JR H (.ref a) false
  | tup2 {a : Addr} {u v : V} (h : H a = some (.tup [u, v])) (hu : TyV H u) (hv : TyV H v) : JR H (.ref a) (jt u v)
def spJ : Sp := fun vs H Q _ => ∃ x b, vs = [x] ∧ JR H x b ∧ Q (.bl b) H
theorem use_j {x : V} {b : Bool} {H : Hp} {Q : VK} {E : XK} (h : JR H x b) (q : Q (.bl b) H) : spJ ([x] ++ []) H Q E := ⟨x, b, rfl, h, q⟩
theorem jt_no1 {u v : V} (h : inI u 0 8 = false) : jt u v = false := by unfold jt; rw [h]; rfl
theorem jt_no2 {u v : V} (h : inI v 0 3 = false) : jt u v = false := by unfold jt; rw [h, Bool.false_and, Bool.and_false]
theorem inI_isI {x : V} {lo hi : Int} (h : inI x lo hi = true) : isI x = true := by
  cases x <;> first | rfl | exact Bool.noConfusion h
theorem isI_yes {x : V} (h : isI x = true) : ∃ i, x = .int i := by
  cases x <;> first | exact ⟨_, rfl⟩ | exact Bool.noConfusion h
def spS : List Int → List Int
  | a :: b :: r => ((a + b) / 2) :: spS r
  | r => r
def spD : List Int → List Int
  | a :: b :: r => (a - b) :: spD r
  | _ => []
/-- behind i levels: the sums, and the differences -/
def lvS (ns : List Int) : Nat → List Int
  | 0 => ns
  | i + 1 => spS (lvS ns i)
def lvR (ns : List Int) : Nat → List Int
  | 0 => []
  | i + 1 => spD (lvS ns i) ++ lvR ns i
def splitL (ns : List Int) (i : Nat) : List Int := lvS ns i ++ lvR ns i
theorem cut_from (ns : List Int) (k : Nat) (hk : k ≤ ns.length) : cutV (ns.map V.int) (some (k : Int)) none = (ns.drop k).map V.int := by
  unfold cutV
  rw [show HT.sIx (ns.map V.int).length 0 (some (k : Int)) = min k (ns.map V.int).length from HT.sIx_nat _ 0 k, HT.sIx_none, List.length_map, Nat.min_eq_left hk, ← List.map_drop]
  rw [List.take_of_length_le (by rw [List.length_map, List.length_drop]; exact Nat.le_refl _)]
theorem rg2 (n : Nat) (h : n ≤ 64) : RgC 0 ((n : Int) - 1) 2 (n / 2) := by
  have hs : Builtin.Range.rangeSize 0 ((n : Int) - 1) 2 = ((n / 2 : Nat) : Int) := by
    unfold Builtin.Range.rangeSize
    rw [if_pos (by decide)]
    split <;> omega
  refine ⟨by decide, by decide, ?_, hs⟩
  unfold Builtin.Range.small
  rw [hs]
  simp only [Builtin.Range.rangeFitsLong, Bool.and_eq_true, Bool.or_eq_true, decide_eq_true_eq, beq_iff_eq, show ((2 : Int) > 0) by decide, if_true]
  omega
section
variable {K : PySem.W.Frag} {σ : L2.St} {H : Hp} {Q : VK} {g : TG} {tb : TS} {D : Ends}
theorem rd_for3 {ts : TA} (h : ts σ H fun vs H1 => ∃ (i j c : Int) (n : Nat), vs = [.int i, .int j, .int c] ∧ RgC i j c n ∧ LpW (Itc i c n) g tb D σ H1) : tFor (iRng3 ts) g tb D σ H := h
theorem rd_n3 {n : Nat} {A : Int → Int → Int → Nat → Prop} (h : n ≤ 64) (q : A 0 ((n : Int) - 1) 2 (n / 2)) : ∃ (i j c : Int) (k : Nat), [V.int 0, V.int ((n : Int) - 1), V.int 2] = [.int i, .int j, .int c] ∧ RgC i j c k ∧ A i j c k := ⟨_, _, _, _, rfl, rg2 n h, q⟩
theorem rd_catL {a b : Addr} {xs ys : List Int} (h1 : H a = some (.lst (xs.map V.int))) (h2 : H b = some (.lst (ys.map V.int))) (n : xs.length + ys.length ≤ 1000) (q : ∀ p, H p = none → Q (.ref p) (upd H p (.lst ((xs ++ ys).map V.int)))) : rCat (.ref a) (.ref b) H Q :=
  ⟨a, b, _, _, rfl, rfl, h1, h2, by rw [List.length_map, List.length_map]; exact Nat.le_of_lt (small1000 n), fun p hp => by rw [← List.map_append]; exact q p hp⟩
theorem rd_appI {a : Addr} {xs : List Int} {z : Int} (h : H a = some (.lst (xs.map V.int))) (n : xs.length ≤ 1000) (q : Q .non (upd H a (.lst ((xs ++ [z]).map V.int)))) : rAppend (.ref a) [.int z] H Q :=
  ⟨a, _, _, rfl, rfl, h, by rw [List.length_map]; exact small1000 n, by rw [List.map_append] at q; exact q⟩
theorem rd_sl {te : TE} {tl th : TO} {r : V → Option Int → Option Int → Hp → VK → Prop} (h : te σ H fun x H1 => tl σ H1 fun l H2 => th σ H2 fun u H3 => r x l u H3 Q) : L2.tSl r te tl th σ H Q := h
theorem rd_part {te : TE} {q : Option Int → Hp → Prop} (h : te σ H fun x H1 => ∃ i, x = .int i ∧ q (some i) H1) : tPart te σ H q := h
theorem rd_nopart {q : Option Int → Hp → Prop} (h : q none H) : tNoPart σ H q := h
theorem rd_oneI {i : Int} {P : Int → Prop} (h : P i) : ∃ j, V.int i = .int j ∧ P j := ⟨i, rfl, h⟩
theorem rd_bm {m : V → List V → Hp → VK → Prop} {to : TE} {ts : TA} (h : to σ H fun x H1 => tyV K "list" x H1 ∧ ts σ H1 fun xs H2 => m x xs H2 Q) : tBM K "list" m to ts σ H Q := h
theorem rd_tyL {a : Addr} {xs : List V} {P : Prop} (h : H a = some (.lst xs)) (q : P) : tyV K "list" (.ref a) H ∧ P := ⟨.inl ⟨rfl, _, .inl (.inl h)⟩, q⟩
theorem rd_slF {a : Addr} {ns : List Int} {k : Nat} (h : SqL K H a (ns.map V.int)) (hk : k ≤ ns.length) (q : ∀ p, H p = none → Q (.ref p) (upd H p (.lst ((ns.drop k).map V.int)))) : rSlL K (.ref a) (some (k : Int)) none H Q :=
  ⟨a, _, rfl, h, fun p hp => by rw [cut_from ns k hk]; exact q p hp⟩
end
def spOnce (K : PySem.W.Frag) : Sp := fun vs H Q _ => ∃ (a : Addr) (ns : List Int), vs = [.ref a] ∧ SqL K H a (ns.map V.int) ∧ ns.length ≤ 64 ∧ ∀ p s d H', Same H H' → H' p = some (.tup [.ref s, .ref d]) → H' s = some (.lst ((spS ns).map V.int)) → H' d = some (.lst ((spD ns).map V.int)) → H s = none → Q (.ref p) H'
theorem use_once {K : PySem.W.Frag} {a : Addr} {ns : List Int} {H : Hp} {Q : VK} {E : XK} (h : SqL K H a (ns.map V.int)) (n : ns.length ≤ 64) (q : ∀ p s d H', Same H H' → H' p = some (.tup [.ref s, .ref d]) → H' s = some (.lst ((spS ns).map V.int)) → H' d = some (.lst ((spD ns).map V.int)) → H s = none → Q (.ref p) H') : spOnce K ([.ref a] ++ []) H Q E := ⟨a, ns, rfl, h, n, q⟩
def spSplit : Sp := fun vs H Q _ => ∃ (a : Addr) (ns : List Int) (k : Int), vs = [.ref a, .int k] ∧ H a = some (.lst (ns.map V.int)) ∧ 1 ≤ ns.length ∧ ns.length ≤ 64 ∧ 0 ≤ k ∧ k ≤ 5 ∧ ∀ p H', H p = none → Same H H' → H' p = some (.lst ((splitL ns k.toNat).map V.int)) → Q (.ref p) H'
theorem use_split {a : Addr} {ns : List Int} {k : Int} {H : Hp} {Q : VK} {E : XK} (h : H a = some (.lst (ns.map V.int))) (h1 : 1 ≤ ns.length) (h2 : ns.length ≤ 64) (h3 : 0 ≤ k) (h4 : k ≤ 5) (q : ∀ p H', H p = none → Same H H' → H' p = some (.lst ((splitL ns k.toNat).map V.int)) → Q (.ref p) H') : spSplit ([.ref a, .int k] ++ []) H Q E := ⟨a, ns, k, rfl, h, h1, h2, h3, h4, q⟩
theorem use_splitK {a : Addr} {ns : List Int} {k : Int} {H : Hp} {Q : VK} {E : XK} (h : H a = some (.lst (ns.map V.int))) (h1 : 1 ≤ ns.length) (h2 : ns.length ≤ 64) (h3 : 0 ≤ k) (h4 : k ≤ 5) (q : ∀ p H', H p = none → Same H H' → H' p = some (.lst ((splitL ns k.toNat).map V.int)) → Q (.ref p) H') : spSplit (kg 0 2 [1, 0] [] [.int k, .ref a]) H Q E := ⟨a, ns, k, rfl, h, h1, h2, h3, h4, q⟩
def jn : List Int → List Int → List Int
  | s :: S, d :: D => (s - d / 2 + d) :: (s - d / 2) :: jn S D
  | S, _ => S
theorem jn_nil (S : List Int) : jn S [] = S := by
  cases S <;> simp [jn]
theorem jn_cons (s d : Int) (S D : List Int) : jn (s :: S) (d :: D) = (s - d / 2 + d) :: (s - d / 2) :: jn S D := by simp [jn]
theorem jn_length : ∀ S D : List Int, D.length ≤ S.length → (jn S D).length = S.length + D.length
  | S, [], _ => by rw [jn_nil]; rfl
  | [], d :: D, h => by simp at h
  | s :: S, d :: D, h => by
    rw [jn_cons]
    have := jn_length S D (by simpa using h)
    simp only [List.length_cons]
    omega
/-- how many are coarse -/
def cc (n : Nat) : Nat → Nat
  | 0 => n
  | i + 1 => (cc n i + 1) / 2
theorem cc_le (n : Nat) : ∀ i, cc n (i + 1) ≤ cc n i
  | 0 => by show (n + 1) / 2 ≤ n; omega
  | i + 1 => by show (cc n (i + 1) + 1) / 2 ≤ cc n (i + 1); omega
theorem cc_n (n : Nat) : ∀ i, cc n i ≤ n
  | 0 => Nat.le_refl _
  | i + 1 => Nat.le_trans (cc_le n i) (cc_n n i)
/-- the values when j of m levels are joined -/
def wv (ns : List Int) (m : Nat) : Nat → List Int
  | 0 => ns.take (cc ns.length m)
  | j + 1 => jn (wv ns m j) ((ns.drop (cc ns.length (m - j))).take (cc ns.length (m - (j + 1)) - cc ns.length (m - j)))
theorem wv_step {ns : List Int} {m j : Nat} (h : j + 1 ≤ m) (hl : (wv ns m j).length = cc ns.length (m - j)) :
    ((ns.drop (cc ns.length (m - j))).take (cc ns.length (m - (j + 1)) - cc ns.length (m - j))).length = cc ns.length (m - (j + 1)) - cc ns.length (m - j) ∧ cc ns.length (m - j) = (cc ns.length (m - (j + 1)) + 1) / 2 := by
  have e : m - j = (m - (j + 1)) + 1 := by omega
  have c : cc ns.length (m - j) = (cc ns.length (m - (j + 1)) + 1) / 2 := by rw [e]; rfl
  refine ⟨?_, c⟩
  have := cc_n ns.length (m - (j + 1))
  rw [List.length_take, List.length_drop]
  omega
theorem wv_length (ns : List Int) (m : Nat) : ∀ j, j ≤ m → (wv ns m j).length = cc ns.length (m - j)
  | 0, _ => by
    show (ns.take (cc ns.length m)).length = cc ns.length m
    have := cc_n ns.length m
    rw [List.length_take]
    omega
  | j + 1, h => by
    have ih := wv_length ns m j (by omega)
    obtain ⟨h1, h2⟩ := wv_step h ih
    show (jn (wv ns m j) _).length = _
    rw [jn_length _ _ (by rw [h1, ih]; omega), h1, ih]
    omega
def joinL (ns : List Int) (m : Nat) : List Int := wv ns m m
/-- the pairs of a join -/
def jp : List Int → List Int → List Int
  | s :: S, d :: D => (s - d / 2 + d) :: (s - d / 2) :: jp S D
  | _, _ => []
theorem jp_cons (s d : Int) (S D : List Int) : jp (s :: S) (d :: D) = (s - d / 2 + d) :: (s - d / 2) :: jp S D := by simp [jp]
theorem jn_jp : ∀ S D : List Int, D.length ≤ S.length → jn S D = jp S D ++ S.drop D.length
  | S, [], _ => by rw [jn_nil]; cases S <;> simp [jp]
  | [], d :: D, h => by simp at h
  | s :: S, d :: D, h => by
    rw [jn_cons, jp_cons, jn_jp S D (by simpa using h)]
    rfl
theorem jp_length : ∀ S D : List Int, D.length ≤ S.length → (jp S D).length = 2 * D.length
  | S, [], _ => by cases S <;> simp [jp]
  | [], d :: D, h => by simp at h
  | s :: S, d :: D, h => by
    rw [jp_cons]
    have := jp_length S D (by simpa using h)
    simp only [List.length_cons]
    omega
theorem jp_step : ∀ (S D : List Int) (i : Nat) (s d : Int), S[i]? = some s → D[i]? = some d → (jp S D).take (2 * (i + 1)) = (jp S D).take (2 * i) ++ [s - d / 2 + d, s - d / 2]
  | [], _, i, s, d, h, _ => by simp at h
  | _ :: _, [], i, s, d, _, h => by simp at h
  | x :: S, y :: D, 0, s, d, h1, h2 => by
    have e1 : x = s := Option.some.inj h1
    have e2 : y = d := Option.some.inj h2
    subst e1 e2
    rw [jp_cons]
    rfl
  | x :: S, y :: D, i + 1, s, d, h1, h2 => by
    have ih := jp_step S D i s d h1 h2
    rw [jp_cons, show 2 * (i + 1 + 1) = 2 * (i + 1) + 1 + 1 by omega, show 2 * (i + 1) = 2 * i + 1 + 1 by omega]
    rw [show 2 * (i + 1) = 2 * i + 1 + 1 by omega] at ih
    show (x - y / 2 + y) :: (x - y / 2) :: (jp S D).take (2 * i + 1 + 1) = (x - y / 2 + y) :: (x - y / 2) :: ((jp S D).take (2 * i) ++ _)
    rw [ih]
theorem cut_to (ns : List Int) (k : Nat) : cutV (ns.map V.int) none (some (k : Int)) = (ns.take k).map V.int := by
  unfold cutV
  rw [HT.sIx_none, show HT.sIx (ns.map V.int).length (ns.map V.int).length (some (k : Int)) = min k (ns.map V.int).length from HT.sIx_nat _ _ k, List.drop_zero, Nat.sub_zero, ← List.map_take]
  rw [List.length_map, show min k ns.length = min k ns.length from rfl, ← List.take_take, List.take_length]
section
variable {K : PySem.W.Frag} {σ : L2.St} {H : Hp} {Q : VK} {g : TG} {tb : TS} {D : Ends}
theorem rd_slT {a : Addr} {ns : List Int} {k : Nat} (h : SqL K H a (ns.map V.int)) (q : ∀ p, H p = none → Q (.ref p) (upd H p (.lst ((ns.take k).map V.int)))) : rSlL K (.ref a) none (some (k : Int)) H Q :=
  ⟨a, _, rfl, h, fun p hp => by rw [cut_to ns k]; exact q p hp⟩
theorem rd_forV {te : TE} (h : te σ H fun x H1 => ∃ n, x = .int n ∧ (-(2 ^ 62) ≤ (0 : Int) ∧ (0 : Int) < 2 ^ 62 ∧ -(2 ^ 62) ≤ n ∧ n < 2 ^ 62 ∧ LpW (Itc (0 + (((n - 0).toNat : Nat) : Int) - 1) (-1) (n - 0).toNat) g tb D σ H1)) : tFor (iRevR (tRg1 te)) g tb D σ H := h
theorem rd_nV {n : Int} {P : Prop} (h1 : -(2 ^ 62) ≤ n) (h2 : n < 2 ^ 62) (q : P) : -(2 ^ 62) ≤ (0 : Int) ∧ (0 : Int) < 2 ^ 62 ∧ -(2 ^ 62) ≤ n ∧ n < 2 ^ 62 ∧ P := ⟨by decide, by decide, h1, h2, q⟩
end
def spCoarse : Sp := fun vs H Q _ => ∃ (n k : Nat), vs = [.int (n : Int), .int (k : Int)] ∧ 1 ≤ n ∧ n ≤ 64 ∧ k ≤ 5 ∧ Q (.int (cc n k : Nat)) H
theorem use_coarse {n k : Nat} {H : Hp} {Q : VK} {E : XK} (h1 : 1 ≤ n) (h2 : n ≤ 64) (h3 : k ≤ 5) (q : Q (.int (cc n k : Nat)) H) : spCoarse ([.int (n : Int), .int (k : Int)] ++ []) H Q E := ⟨n, k, rfl, h1, h2, h3, q⟩
def spJoin1 : Sp := fun vs H Q _ => ∃ (s d : Addr) (S D : List Int), vs = [.ref s, .ref d] ∧ H s = some (.lst (S.map V.int)) ∧ H d = some (.lst (D.map V.int)) ∧ D.length ≤ S.length ∧ S.length ≤ 64 ∧ ∀ p H', Same H H' → H p = none → H' p = some (.lst ((jn S D).map V.int)) → Q (.ref p) H'
theorem use_join1 {s d : Addr} {S D : List Int} {H : Hp} {Q : VK} {E : XK} (h1 : H s = some (.lst (S.map V.int))) (h2 : H d = some (.lst (D.map V.int))) (h3 : D.length ≤ S.length) (h4 : S.length ≤ 64) (q : ∀ p H', Same H H' → H p = none → H' p = some (.lst ((jn S D).map V.int)) → Q (.ref p) H') : spJoin1 ([.ref s, .ref d] ++ []) H Q E := ⟨s, d, S, D, rfl, h1, h2, h3, h4, q⟩
def spJoin : Sp := fun vs H Q _ => ∃ (a : Addr) (ns : List Int) (k : Int), vs = [.ref a, .int k] ∧ H a = some (.lst (ns.map V.int)) ∧ 1 ≤ ns.length ∧ ns.length ≤ 64 ∧ 0 ≤ k ∧ k ≤ 5 ∧ ∀ p H', H p = none → Same H H' → H' p = some (.lst ((joinL ns k.toNat).map V.int)) → Q (.ref p) H'
theorem use_join {a : Addr} {ns : List Int} {k : Int} {H : Hp} {Q : VK} {E : XK} (h : H a = some (.lst (ns.map V.int))) (h1 : 1 ≤ ns.length) (h2 : ns.length ≤ 64) (h3 : 0 ≤ k) (h4 : k ≤ 5) (q : ∀ p H', H p = none → Same H H' → H' p = some (.lst ((joinL ns k.toNat).map V.int)) → Q (.ref p) H') : spJoin ([.ref a, .int k] ++ []) H Q E := ⟨a, ns, k, rfl, h, h1, h2, h3, h4, q⟩
theorem use_joinK {a : Addr} {ns : List Int} {k : Int} {H : Hp} {Q : VK} {E : XK} (h : H a = some (.lst (ns.map V.int))) (h1 : 1 ≤ ns.length) (h2 : ns.length ≤ 64) (h3 : 0 ≤ k) (h4 : k ≤ 5) (q : ∀ p H', H p = none → Same H H' → H' p = some (.lst ((joinL ns k.toNat).map V.int)) → Q (.ref p) H') : spJoin (kg 0 2 [1, 0] [] [.int k, .ref a]) H Q E := ⟨a, ns, k, rfl, h, h1, h2, h3, h4, q⟩
def spInts : Sp := fun vs H Q _ => ∃ (a : Addr) (ns : List Int) (n : Int), vs = [.ref a, .int n] ∧ H a = some (.lst (ns.map V.int)) ∧ (ns.length : Int) = n ∧ Q (.bl true) H
theorem use_ints {a : Addr} {ns : List Int} {n : Int} {H : Hp} {Q : VK} {E : XK} (h : H a = some (.lst (ns.map V.int))) (h1 : (ns.length : Int) = n) (q : Q (.bl true) H) : spInts ([.ref a, .int n] ++ []) H Q E := ⟨a, ns, n, rfl, h, h1, q⟩
section
variable {K : PySem.W.Frag} {σ : L2.St} {H : Hp} {Q : VK} {g : TG}
theorem rd_lcL {ti te : TE} {tt : TT} {vs : List Nat} (h : ti σ H fun x H1 => ∃ a, x = .ref a ∧ (∃ xs, SqL K H1 a xs) ∧ ∀ D, H1 D = none → LcW (Itl K a) g tt te vs Q σ H1 D) : tLc (iList K ti) g tt te vs σ H Q := h
theorem rd_lcP {a : Addr} {xs : List V} {te : TE} {tt : TT} {vs : List Nat} (e : SqL K H a xs) (h : ∀ D, H D = none → LcW (Itl K a) g tt te vs Q σ H D) : ∃ b, V.ref a = .ref b ∧ (∃ xs, SqL K H b xs) ∧ ∀ D, H D = none → LcW (Itl K b) g tt te vs Q σ H D := ⟨a, rfl, ⟨xs, e⟩, h⟩
end
structure Dn (K : PySem.W.Frag) (mg : Str → Option Value) (x : Str) (st : Stmt) (ps : List Str) (f : Addr) (fd : FuncData) : Prop where
  F : Fun K x x st f fd
  g : mg x = some (.ref f)
  b : Binds K fd ps []
structure Bi (mg : Str → Option Value) : Prop where
  int_ : mg "int" = none
  bool_ : mg "bool" = none
  str_ : mg "str" = none
  list_ : mg "list" = none
  tuple_ : mg "tuple" = none
  len_ : mg "len" = none
  abs_ : mg "abs" = none
  max_ : mg "max" = none
  min_ : mg "min" = none
  range_ : mg "range" = none
  zip_ : mg "zip" = none
  isinstance_ : mg "isinstance" = none
  enumerate_ : mg "enumerate" = none
  reversed_ : mg "reversed" = none
end Z
namespace Z
open PySem PySem.Spec PyProof.Rows L2
theorem mk_heap {H : Hp} {a d : Addr} {o1 o2 o3 o4 : HO} (ha : H a = none) (hd : d ≠ a) : upd (del (upd (upd (upd H a o1) d o2) a o3) a) d o4 = upd H d o4 := by
  funext b
  by_cases h1 : b = d
  · subst h1; rw [upd_same, upd_same]
  · rw [upd_ne h1, upd_ne h1]
    by_cases h2 : b = a
    · subst h2; rw [del_same, ha]
    · rw [del_ne h2, upd_ne h2, upd_ne h1, upd_ne h2]
/-- an own error class C, its name x, its one field f, its __init__ at fI -/
structure EC (K : PySem.W.Frag) (mg : Str → Option Value) (x f : Str) (C fI : Addr) : Prop where
  o : OexC K C
  xf : XfC K C
  ec : ExcC K C
  g : mg x = some (.ref C)
  noF : PySem.W.findIn K (.ref C) f = some none
  te : PySem.W.exmOne K (.ref C) (.ref C) = some true
  iC : PySem.W.findIn K (.ref C) "__init__" = some (some (.ref fI))
  tI : PySem.W.typeIn K (.ref fI) = some (.type "function")
def spInit (K : PySem.W.Frag) (C : Addr) (f : Str) : Sp := fun vs H Q _ => ∃ (a : Addr) (v : V), vs = [.ref a, v] ∧ H a = some (exo a C none) ∧ ∀ dx, H dx = none → dx ≠ a → Q .non (upd (upd H dx (exd dx [(f, v)])) a (exo a C (some dx)))
/-- the reading of raise C(e) -/
def tRaiseX (K : PySem.W.Frag) (C : Addr) (f : Str) (W : WX) (ta : TA) : TS := fun _ σ H => tMkO C (spInit K C f) [] ta σ H fun cls d H' => W cls d σ H'
section
variable {K : PySem.W.Frag} {σ : L2.St} {H : Hp} {C : Addr} {f : Str} {W : WX} {ta : TA} {D : Ends}
theorem rd_raiseX (h : ta σ H fun vs H1 => ∃ v, vs = [v] ∧ ∀ d, H1 d = none → W (.ref C) (some d) σ (upd H1 d (.xd [(f, v)]))) (hm : ∀ {q q' : List V → Hp → Prop}, (∀ vs H, q vs H → q' vs H) → ta σ H q → ta σ H q') : tRaiseX K C f W ta D σ H := by
  refine hm (fun vs H1 h => ?_) h
  obtain ⟨v, rfl, h⟩ := h
  refine ⟨by simp, fun a ha => ⟨a, v, rfl, upd_same, fun dx hdx hne => ⟨rfl, dx, [(f, v)], upd_same, ?_, ?_, ?_⟩⟩⟩
  · rw [upd_ne hne, upd_same]
  · rw [upd_ne hne] at hdx
    exact hdx
  · rw [mk_heap ha hne]
    rw [upd_ne hne] at hdx
    exact h dx hdx
theorem rd_raise1 {te : TE} (h : te σ H fun v H1 => ∀ d, H1 d = none → W (.ref C) (some d) σ (upd H1 d (.xd [(f, v)]))) (hm : ∀ {q q' : V → Hp → Prop}, (∀ v H, q v H → q' v H) → te σ H q → te σ H q') : tRaiseX K C f W (tCons te tNil) D σ H :=
  rd_raiseX (hm (fun v H1 z => ⟨v, rfl, z⟩) h) fun {q q'} hq hh => hm (fun v H1 z => hq _ _ z) hh
theorem rd_raiseV {i : Nat} {v : V} (e : σ[i]? = some (some v)) (h : ∀ d, H d = none → W (.ref C) (some d) σ (upd H d (.xd [(f, v)]))) : tRaiseX K C f W (tCons (tVar i) tNil) D σ H :=
  rd_raise1 ⟨v, e, h⟩ fun hq ⟨v, e, z⟩ => ⟨v, e, hq _ _ z⟩
theorem rd_raiseC {v : V} (h : ∀ d, H d = none → W (.ref C) (some d) σ (upd H d (.xd [(f, v)]))) : tRaiseX K C f W (tCons (tC v) tNil) D σ H := rd_raise1 (te := tC v) h fun hq z => hq _ _ z
end
/-- how an error leaves: of the class C, the field f holding v -/
def Err (C : Addr) (f : Str) (v : V) (H : Hp) (E : XK) : Prop := ∀ d H', Same H H' → H d = none → H' d = some (.xd [(f, v)]) → E (.ref C) (some d) H'
theorem Err.same {C : Addr} {f : Str} {v : V} {H H' : Hp} {E : XK} (s : Same H H') (h : Err C f v H E) : Err C f v H' E := fun d H2 s2 n e => h d H2 (s.trans s2) (s.free n) e
/-- an own error class with its own __init__, ready to be made -/
def ErrK (P : Program) (w : World) (K : PySem.W.Frag) (mg : Str → Option Value) (base : Heap) (x f : Str) (C : Addr) : Prop :=
  ∃ (fI : Addr) (fd : FuncData), EC K mg x f C fI ∧ FnOk P w K mg base CX0 1 fI fd ["self", f] (spInit K C f) ∧ Binds K fd ["self", f] []
section
variable {P : Program} {w : World} {K : PySem.W.Frag} {mg : Str → Option Value} {base : Heap} {x f : Str} {C : Addr}
theorem ErrK.g (T : ErrK P w K mg base x f C) : mg x = some (.ref C) := let ⟨_, _, t, _⟩ := T; t.g
end
open LamX
def KpN (p : Addr) (H H' : Hp) : Prop := ∀ b o, b ≠ p → H b = some o → (∀ ps, o ≠ .tbl ps) → H' b = some o
section
variable {p q : Addr} {H H' H1 H2 : Hp} {o u : HO}
theorem KpN.refl : KpN p H H := fun _ _ _ h _ => h
theorem KpN.trans (a : KpN p H H1) (b : KpN p H1 H2) : KpN p H H2 := fun c o n h t => b c o n (a c o n h t) t
theorem KpN.ofK (k : Kp p H H') : KpN p H H' := fun a o n h _ => k a o n h
theorem KpN.of (s : Same H H') : KpN p H H' := fun a o _ h _ => s a o h
theorem KpN.ofN (s : ExtN H H') : KpN p H H' := fun a o _ h t => s a o h t
theorem KpN.new (h : H q = none) : KpN p H (upd H q o) := .of (same_new h)
theorem KpN.at : KpN p H (upd H p o) := .ofK Kp.at
theorem lst_ntbl {xs : List V} : ∀ ps, HO.lst xs ≠ .tbl ps := fun _ z => nomatch z
theorem tup_ntbl {xs : List V} : ∀ ps, HO.tup xs ≠ .tbl ps := fun _ z => nomatch z
theorem look_extL {a : Addr} {xs : List V} (s : ExtN H H') (h : H a = some (.lst xs)) : H' a = some (.lst xs) := s _ _ h lst_ntbl
theorem look_extT {a : Addr} {xs : List V} (s : ExtN H H') (h : H a = some (.tup xs)) : H' a = some (.tup xs) := s _ _ h tup_ntbl
theorem Pool.ext (s : ExtN H H') (h : Pool H p) : Pool H' p := by
  obtain ⟨x, y, e, r⟩ := h
  exact ⟨x, y, s _ _ e lst_ntbl, r⟩
theorem Tabs.same {T : List (Addr × Str)} (s : Same H H') (t : Tabs T H) : Tabs T H' := t.ext fun b o h => s b o h
theorem Tabs.new {T : List (Addr × Str)} (n : H q = none) (t : Tabs T H) : Tabs T (upd H q o) := t.ext fun b o h => same_new n b o h
theorem codeO_lst {c : Addr} {q : Str} {xs : List V} : CodeO c q ≠ .lst xs := fun z => by
  unfold CodeO at z
  cases z
theorem Tabs.kp {T : List (Addr × Str)} (hp : Pool H p) (k : Kp p H H') (t : Tabs T H) : Tabs T H' := fun e he => by
  obtain ⟨x, y, hl, _⟩ := hp
  obtain ⟨ps, h1, h2, h3⟩ := t e he
  refine ⟨ps, k _ _ (fun z => by rw [z, hl] at h1; cases h1) h1, h2, fun pos cv hc => ?_⟩
  obtain ⟨c, e1, e2⟩ := h3 pos cv hc
  exact ⟨c, e1, k _ _ (fun z => by rw [z, hl] at e2; exact codeO_lst (Option.some.inj e2).symm) e2⟩
end
def DV (p : Addr) (H : Hp) (v : V) : Prop := scalarV v = true ∨ ∃ a xs, v = .ref a ∧ a ≠ p ∧ (H a = some (.lst xs) ∨ H a = some (.tup xs)) ∧ ∀ x ∈ xs, scalarV x = true
section
variable {p : Addr} {H H' : Hp} {v : V} {K : PySem.W.Frag}
theorem DV.ty (h : DV p H v) : TyV H v := by
  rcases h with h | ⟨a, xs, rfl, _, h | h, _⟩
  · cases v <;> first | exact True.intro | exact Bool.noConfusion h
  · exact .inl ⟨xs, h⟩
  · exact .inr ⟨xs, h⟩
theorem DV.sm (h : DV p H v) : SmV K H 1 v v := by
  rcases h with h | ⟨a, xs, rfl, _, h | h, s⟩
  · exact .inl ⟨rfl, h⟩
  · exact .inr (.inl ⟨a, a, xs, xs, rfl, rfl, .of h, .of h, rfl, fun i x y e1 e2 => by
      rw [e1] at e2
      exact ⟨Option.some.inj e2, s x (List.mem_of_getElem? e1)⟩⟩)
  · exact .inr (.inr ⟨a, a, xs, xs, rfl, rfl, .of h, .of h, rfl, fun i x y e1 e2 => by
      rw [e1] at e2
      exact ⟨Option.some.inj e2, s x (List.mem_of_getElem? e1)⟩⟩)
theorem DV.sc (h : scalarV v = true) : DV p H v := .inl h
theorem DV.lst {a : Addr} {xs : List V} (n : a ≠ p) (h : H a = some (.lst xs)) (s : ∀ x ∈ xs, scalarV x = true) : DV p H (.ref a) := .inr ⟨a, xs, rfl, n, .inl h, s⟩
theorem DV.tup {a : Addr} {xs : List V} (n : a ≠ p) (h : H a = some (.tup xs)) (s : ∀ x ∈ xs, scalarV x = true) : DV p H (.ref a) := .inr ⟨a, xs, rfl, n, .inr h, s⟩
end
/-- what the error that told caught becomes: a list of flags and of its field -/
def ErL (C : Addr) (f : Str) (L : V → List V) (Q : VK) : XK := fun cls d H' => cls = .ref C ∧ ∃ dd v, d = some dd ∧ H' dd = some (.xd [(f, v)]) ∧ ∀ p H'', Same H' H'' → H' p = none → H'' p = some (.lst (L v)) → Q (.ref p) H''
/-- try: a() / except C as e: return [.., e.f] / return None -/
def TTnone (C : Addr) (f : Str) (L : V → List V) : (XK → Hp → VK → Prop) → Hp → VK → Prop := fun tl H Q => tl (ErL C f L Q) H (fun _ H' => Q .non H')
section
variable {X : Cx} {K : PySem.W.Frag} {σ : L2.St} {H : Hp} {Q : VK} {D : Ends} {n : L2.St → Hp → Prop} {r : VK} {b c : L2.St → Hp → Prop}
theorem rd_xf {C a : Addr} {cls : Value} {d : Option Addr} {f : Str} {te : TE} (h : te σ H fun x H1 => x = .ref a ∧ cls = .ref C ∧ ∃ (dd : Addr) (fs : List (Str × V)) (v : V), d = some dd ∧ H1 dd = some (.xd fs) ∧ fs.lookup f = some v ∧ Q v H1) : tXf a cls d C f te σ H Q := h
theorem rd_lam {T : List (Addr × Str)} {TT : (XK → Hp → VK → Prop) → Hp → VK → Prop} {t : XK → TE} (h1 : Tabs T H) (h2 : ∀ H1, ExtN H H1 → Tabs T H1 → TT (fun E H' Q' => t E σ H' Q') H1 Q) : tLam T TT t σ H Q := ⟨h1, h2⟩
theorem rd_told {C : Addr} {f : Str} {L : V → List V} {tl : XK → Hp → VK → Prop} (h : tl (ErL C f L Q) H (fun _ H' => Q .non H')) : TTnone C f L tl H Q := h
end
end Z
namespace Z
open PySem PySem.Spec PyProof.Rows L2
def geZ : V → Bool
  | .int i => decide (0 ≤ i)
  | _ => false
def tt (u v : V) : Bool := isI u && (geZ u && inI v 1 15)
inductive TR (H : Hp) : V → Bool → Prop where
  | flat {x : V} (h : scalarV x = true) : TR H x false
  | lst {a : Addr} {xs : List V} (h : H a = some (.lst xs)) : TR H (.ref a) false
  | tupn {a : Addr} {xs : List V} (h : H a = some (.tup xs)) (n : xs.length ≠ 2) : TR H (.ref a) false
  | tup2 {a : Addr} {u v : V} (h : H a = some (.tup [u, v])) (hu : TyV H u) (hv : TyV H v) : TR H (.ref a) (tt u v)
inductive TSR (H : Hp) : V → Bool → Prop where
  | flat {x : V} (h : scalarV x = true) : TSR H x false
  | lst {a : Addr} {xs : List V} (h : H a = some (.lst xs)) : TSR H (.ref a) false
  | tupn {a : Addr} {xs : List V} (h : H a = some (.tup xs)) (n : xs.length ≠ 2) : TSR H (.ref a) false
  | tup2 {a : Addr} {u v : V} {b1 b2 : Bool} (h : H a = some (.tup [u, v])) (hu : TR H u b1) (hv : TR H v b2) : TSR H (.ref a) (b1 && b2)
theorem tt_int {t : Int} {v : V} : tt (.int t) v = (decide (0 ≤ t) && inI v 1 15) := rfl
/-- the parameter of a table -/
def par (t c : Int) : Nat := Builtin.Int.intBits ((if 1 > (t + c - 1) / c then 1 else (t + c - 1) / c) - 1)
theorem par_spec {t c : Int} (ht : 0 ≤ t) (hc : 1 ≤ c) : (∀ j : Nat, j < par t c → c * 2 ^ j < t) ∧ t ≤ c * 2 ^ par t c := by
  have d1 := Int.mul_ediv_self_le (x := t + c - 1) (k := c) (by omega)
  have d2 : t + c - 1 < c * ((t + c - 1) / c) + c := Int.lt_mul_ediv_self_add (by omega)
  unfold par
  generalize (t + c - 1) / c = q at d1 d2 ⊢
  have key : ∃ m : Int, (if 1 > q then 1 else q) - 1 = m ∧ 0 ≤ m ∧ t ≤ c * (m + 1) ∧ (0 < m → c * m < t) := by
    by_cases h : 1 > q
    · rw [if_pos h]
      refine ⟨0, rfl, Int.le_refl _, ?_, fun z => absurd z (by decide)⟩
      have : c * q ≤ 0 := by
        have := Int.mul_le_mul_of_nonneg_left (show q ≤ 0 by omega) (show 0 ≤ c by omega)
        rw [Int.mul_zero] at this
        exact this
      omega
    · rw [if_neg h]
      refine ⟨q - 1, rfl, by omega, ?_, fun _ => ?_⟩
      · rw [show q - 1 + 1 = q by omega]; omega
      · rw [Int.mul_sub, Int.mul_one]; omega
  obtain ⟨m, e, m0, m1, m2⟩ := key
  rw [e]
  obtain ⟨n, rfl⟩ : ∃ n : Nat, m = (n : Int) := ⟨m.toNat, by omega⟩
  refine ⟨fun j hj => ?_, ?_⟩
  · have h1 : ¬ (Builtin.Int.intBits (n : Int) ≤ j) := by omega
    rw [PySem.intBits_le_iff, Int.natAbs_natCast] at h1
    have h2 : (2 ^ j : Nat) ≤ n := by omega
    have h3 : (0 : Nat) < 2 ^ j := Nat.two_pow_pos j
    have h4 : ((2 ^ j : Nat) : Int) ≤ (n : Int) := by exact_mod_cast h2
    have h5 := Int.mul_le_mul_of_nonneg_left h4 (show 0 ≤ c by omega)
    have h6 := m2 (by omega)
    have h7 : ((2 : Int) ^ j) = ((2 ^ j : Nat) : Int) := by norm_cast
    rw [h7]
    omega
  · have h1 := PySem.intBits_le_iff.mp (Nat.le_refl (Builtin.Int.intBits (n : Int)))
    rw [Int.natAbs_natCast] at h1
    generalize Builtin.Int.intBits (n : Int) = k at h1 ⊢
    have h4 : ((n : Int) + 1) ≤ ((2 ^ k : Nat) : Int) := by exact_mod_cast h1
    have h5 := Int.mul_le_mul_of_nonneg_left h4 (show 0 ≤ c by omega)
    have h7 : ((2 : Int) ^ k) = ((2 ^ k : Nat) : Int) := by norm_cast
    rw [h7]
    omega
theorem par_le {t c : Int} (ht : 0 ≤ t) (hc : 1 ≤ c) (hb : t < 10 ^ 60) (hc2 : c ≤ 15) : par t c ≤ 300 := by
  have d1 := Int.mul_ediv_self_le (x := t + c - 1) (k := c) (by omega)
  unfold par
  rw [PySem.intBits_le_iff]
  have e : (10 : Int) ^ 60 + 20 < 2 ^ 300 := by decide
  have q0 : 0 ≤ (t + c - 1) / c := Int.ediv_nonneg (by omega) (by omega)
  have q1 : (t + c - 1) / c ≤ t + c - 1 := Int.ediv_le_self _ (by omega)
  generalize (t + c - 1) / c = q at q0 q1 ⊢
  have e2 : ((2 ^ 300 : Nat) : Int) = 2 ^ 300 := by norm_cast
  split <;> omega
/-- drawn rows: drawn values, their numbers not too long -/
def smallV : V → Prop
  | .int i => i.natAbs < 10 ^ 58
  | _ => True
def RV (p : Addr) (H : Hp) (v : V) : Prop := scalarV v = true ∨ ∃ a xs, v = .ref a ∧ a ≠ p ∧ (H a = some (.lst xs) ∨ H a = some (.tup xs)) ∧ (∀ x ∈ xs, scalarV x = true) ∧ ∀ x ∈ xs, smallV x
section
variable {p : Addr} {H H' : Hp} {v : V}
theorem RV.sc (h : scalarV v = true) : RV p H v := .inl h
theorem RV.lst {a : Addr} {xs : List V} (n : a ≠ p) (h : H a = some (.lst xs)) (s : ∀ x ∈ xs, scalarV x = true) (t : ∀ x ∈ xs, smallV x) : RV p H (.ref a) := .inr ⟨a, xs, rfl, n, .inl h, s, t⟩
theorem RV.tup {a : Addr} {xs : List V} (n : a ≠ p) (h : H a = some (.tup xs)) (s : ∀ x ∈ xs, scalarV x = true) (t : ∀ x ∈ xs, smallV x) : RV p H (.ref a) := .inr ⟨a, xs, rfl, n, .inr h, s, t⟩
theorem RV.ne {a : Addr} (h : RV p H (.ref a)) : a ≠ p := by
  rcases h with h | ⟨b, xs, e, n, _⟩
  · exact Bool.noConfusion h
  · cases e
    exact n
theorem RV.tsr (h : RV p H v) : TSR H v false := by
  rcases h with h | ⟨a, xs, rfl, n, h | h, s, t⟩
  · exact .flat h
  · exact .lst h
  · by_cases hl : xs.length = 2
    · obtain ⟨u, w, rfl⟩ := len2 hl
      exact .tup2 (b1 := false) (b2 := false) h (.flat (s u (by simp))) (.flat (s w (by simp)))
    · exact .tupn h hl
end
theorem tupV_K {K : PySem.W.Frag} {a : Addr} {od : Option Addr} {its : Array Value} {n : Nat} {sl : Array (Option Value)} {xs : List V} (l : K.lookup a = some ⟨.type "tuple", od, .seq its n, sl⟩) (hs : its.size ≤ sizeLine) (hv : Vals xs its.toList) : ∀ H, TupV K H a xs := fun H => ⟨seqT_K l hs hv H, .kTuple l rfl⟩
def spRow : Sp := fun vs H Q _ => ∃ p, vs = [.ref p] ∧ Pool H p ∧ ∀ v H', RV p H' v → Pool H' p → Kp p H H' → Q v H'
theorem use_row {p : Addr} {H : Hp} {Q : VK} {E : XK} (h : Pool H p) (q : ∀ v H', RV p H' v → Pool H' p → Kp p H H' → Q v H') : spRow ([.ref p] ++ []) H Q E := ⟨p, rfl, h, q⟩
section
variable {K : PySem.W.Frag} {σ : L2.St} {H : Hp} {Q : VK}
theorem rd_bits {te : TE} (h : te σ H fun x H1 => ∃ i, x = .int i ∧ Q (.int (Builtin.Int.intBits i : Nat)) H1) : tBits te σ H Q := h
end
end Z
namespace Z
open PySem PySem.Spec PyProof.Rows L2
/-- joints: place, width, shape -/
abbrev Jo := Nat × Nat × Nat
def stp (f : Int → Int → Int → Int × Int) (xs : List Int) (t : Nat × Nat × Nat) : List Int := (xs.set t.2.1 (f t.1 (xs.getD t.2.1 0) (xs.getD t.2.2 0)).1).set t.2.2 (f t.1 (xs.getD t.2.1 0) (xs.getD t.2.2 0)).2
/-- the joints have room: behind the place b of a joint of the width wb, in a list of n values -/
def Rm (n : Nat) : Nat → Nat → List Jo → Prop
  | _, _, [] => True
  | b, wb, j :: r => b < j.1 ∧ j.1 < n ∧ b + wb + j.2.1 ≤ j.1 ∧ j.1 + j.2.1 ≤ n ∧ j.2.1 ≤ 8 ∧ j.2.2 ≤ 3 ∧ (j.2.1 = 0 → j.2.2 = 0) ∧ Rm n j.1 j.2.1 r
def JsAt (H : Hp) (vs : List V) (js : List Jo) : Prop := vs.length = js.length ∧ ∀ (i : Nat) (v : V), vs[i]? = some v → ∃ (j : Jo) (a q : Addr), js[i]? = some j ∧ v = .ref a ∧ H a = some (.tup [.int (j.1 : Nat), .ref q]) ∧ H q = some (.tup [.int (j.2.1 : Nat), .int (j.2.2 : Nat)])
theorem JsAt.kp {p : Addr} {H H' : Hp} {vs : List V} {js : List Jo} (k : Kp p H H') (hp : ∃ xs, H p = some (.lst xs)) (h : JsAt H vs js) : JsAt H' vs js := ⟨h.1, fun i v e => by
  obtain ⟨j, a, q, e1, e2, e3, e4⟩ := h.2 i v e
  obtain ⟨xs, hp⟩ := hp
  exact ⟨j, a, q, e1, e2, k _ _ (fun z => by rw [z, hp] at e3; cases e3) e3, k _ _ (fun z => by rw [z, hp] at e4; cases e4) e4⟩⟩
theorem JsAt.same {H H' : Hp} {vs : List V} {js : List Jo} (k : Same H H') (h : JsAt H vs js) : JsAt H' vs js := ⟨h.1, fun i v e => by
  obtain ⟨j, a, q, e1, e2, e3, e4⟩ := h.2 i v e
  exact ⟨j, a, q, e1, e2, k _ _ e3, k _ _ e4⟩⟩
theorem jt_ok {j : Jo} (h1 : j.2.1 ≤ 8) (h2 : j.2.2 ≤ 3) (h3 : j.2.1 = 0 → j.2.2 = 0) : jt (.int (j.2.1 : Nat)) (.int (j.2.2 : Nat)) = true := by
  show (decide _ && (decide _ && (decide _ || decide _))) = true
  rw [decide_eq_true (by omega), decide_eq_true (by omega)]
  by_cases h : j.2.1 = 0
  · rw [h3 h, h]; rfl
  · rw [decide_eq_true (show (0 : Int) < (j.2.1 : Nat) by omega)]; rfl
section
variable {K : PySem.W.Frag} {H : Hp} {Q : VK}
theorem isiT_lst {a t : Addr} {xs : List V} (h : H a = some (.lst xs)) (ht : H t = some (.tup [.ty "list", .ty "tuple"])) (q : Q (.bl true) H) : rIsiT K [.ref a, .ref t] H Q :=
  ⟨.ref a, t, _, .type "list", [.type "list", .type "tuple"], true, rfl, ht, .cons (.ty "list") (.cons (.ty "tuple") .nil), .base (.lst h), rfl, q⟩
end
theorem rd_appG {a : Addr} {xs : List V} {v : V} {H : Hp} {Q : VK} (h : H a = some (.lst xs)) (n : xs.length ≤ 1000) (q : Q .non (upd H a (.lst (xs ++ [v])))) : rAppend (.ref a) [v] H Q := ⟨a, _, _, rfl, rfl, h, small1000 n, q⟩
theorem JsAt.snoc {H : Hp} {vs : List V} {js : List Jo} {j : Jo} {a q : Addr} (h : JsAt H vs js) (e1 : H a = some (.tup [.int (j.1 : Nat), .ref q])) (e2 : H q = some (.tup [.int (j.2.1 : Nat), .int (j.2.2 : Nat)])) : JsAt H (vs ++ [.ref a]) (js ++ [j]) := by
  refine ⟨by simp [h.1], fun i v hv => ?_⟩
  by_cases c : i < vs.length
  · rw [List.getElem?_append_left c] at hv
    obtain ⟨j', a', q', f1, f2, f3, f4⟩ := h.2 i v hv
    exact ⟨j', a', q', by rw [List.getElem?_append_left (by rw [← h.1]; exact c)]; exact f1, f2, f3, f4⟩
  · have hi : i = vs.length := by
      have := (List.getElem?_eq_some_iff.mp hv).1
      simp at this
      omega
    subst hi
    rw [List.getElem?_append_right (Nat.le_refl _), Nat.sub_self] at hv
    have ev : V.ref a = v := Option.some.inj hv
    subst ev
    refine ⟨j, a, q, ?_, rfl, e1, e2⟩
    rw [h.1, List.getElem?_append_right (Nat.le_refl _), Nat.sub_self]
    rfl
theorem JsAt.pool {p : Addr} {H H' : Hp} {vs : List V} {js : List Jo} (hp : Pool H p) (k : Kp p H H') (h : JsAt H vs js) : JsAt H' vs js := by
  obtain ⟨x, y, e, _⟩ := hp
  exact h.kp k ⟨_, e⟩
def KpL (l : List Addr) (H H' : Hp) : Prop := ∀ a o, a ∉ l → H a = some o → H' a = some o
section
variable {l : List Addr} {p q : Addr} {H H' H1 H2 : Hp} {o : HO}
theorem KpL.refl : KpL l H H := fun _ _ _ h => h
theorem KpL.trans (a : KpL l H H1) (b : KpL l H1 H2) : KpL l H H2 := fun c o n h => b c o n (a c o n h)
theorem KpL.ofS (s : Same H H') : KpL l H H' := fun a o _ h => s a o h
theorem KpL.ofK (m : p ∈ l) (k : Kp p H H') : KpL l H H' := fun a o n h => k a o (fun z => n (by rw [z]; exact m)) h
theorem KpL.new (n : H q = none) : KpL l H (upd H q o) := .ofS (same_new n)
theorem KpL.at (m : q ∈ l) : KpL l H (upd H q o) := fun a x n h => by
  have ne : a ≠ q := fun z => n (by rw [z]; exact m)
  rw [upd_ne ne]
  exact h
theorem KpL.mono {m : List Addr} (h : ∀ a ∈ l, a ∈ m) (k : KpL l H H') : KpL m H H' := fun a o n e => k a o (fun z => n (h a z)) e
theorem KpL.free (k : KpL l H H') (n : H' q = none) (m : q ∉ l) : H q = none := by
  cases e : H q with
  | none => rfl
  | some o => rw [k _ _ m e] at n; cases n
end
end Z
namespace Z
open PySem PySem.Spec PyProof.Rows L2
def LT (H : Hp) (a : Addr) (xs : List V) : Prop := H a = some (.lst xs) ∨ H a = some (.tup xs)
section
variable {K : PySem.W.Frag} {σ : L2.St} {H H' : Hp} {Q : VK} {g : TG} {tb : TS} {D : Ends} {a : Addr} {xs : List V}
theorem LT.same (s : Same H H') (h : LT H a xs) : LT H' a xs := h.imp (s _ _) (s _ _)
theorem LT.l (h : H a = some (.lst xs)) : LT H a xs := .inl h
theorem LT.ne {q : Addr} (h : LT H a xs) (n : H q = none) : a ≠ q := by
  rcases h with h | h
  · exact ne_of_none h n
  · exact ne_of_none h n
theorem rd_cut {t u : TS} (M : L2.St → Hp → Prop) (h1 : t { D with nx := M } σ H) (h2 : ∀ σ' H', M σ' H' → u D σ' H') : C8.tCut t u D σ H := ⟨M, h1, h2⟩
end
theorem getD_some {xs : List Int} {k : Nat} {z : Int} (h : xs[k]? = some z) : xs.getD k 0 = z := by rw [List.getD_eq_getElem?_getD, h]; rfl
def rToTup (K : PySem.W.Frag) : List V → Hp → VK → Prop := fun xs H Q => ∃ p ys, xs = [.ref p] ∧ ((SqL K H p ys ∧ ∀ l, H l = none → Q (.ref l) (upd H l (.tup ys))) ∨ (SqT K H p ys ∧ Q (.ref p) H))
theorem cTuple {X : Cx} : CallR X (.type "tuple") (rToTup X.K) := call_tuple_of
theorem rd_tupL {K : PySem.W.Frag} {H : Hp} {Q : VK} {p : Addr} {xs : List V} (h : SqL K H p xs) (q : ∀ l, H l = none → Q (.ref l) (upd H l (.tup xs))) : rToTup K [.ref p] H Q := ⟨p, xs, rfl, .inl ⟨h, q⟩⟩
end Z
namespace Z
open PySem PySem.Spec PyProof.Rows L2
/-- the last k binary digits of u, as signs -/
def lowB (u : Nat) : Nat → List Nat
  | 0 => []
  | k + 1 => lowB (u / 2) k ++ [48 + u % 2]
/-- the number of signs -/
def valB (l : List Nat) : Nat := l.foldl (fun a c => 2 * a + (c - 48)) 0
theorem lowB_length (u : Nat) : ∀ k, (lowB u k).length = k
  | 0 => rfl
  | k + 1 => by
    show (lowB (u / 2) k ++ [48 + u % 2]).length = k + 1
    rw [List.length_append, lowB_length (u / 2) k]
    rfl
theorem lowB_bin : ∀ (k u : Nat), ∀ c ∈ lowB u k, c = 48 ∨ c = 49
  | 0, _, c, h => absurd h List.not_mem_nil
  | k + 1, u, c, h => by
    rcases List.mem_append.mp h with h | h
    · exact lowB_bin k (u / 2) c h
    · rw [List.mem_singleton.mp h]
      omega
theorem valB_snoc (l : List Nat) (c : Nat) : valB (l ++ [c]) = 2 * valB l + (c - 48) := by
  unfold valB
  rw [List.foldl_append]
  rfl
theorem valB_lowB : ∀ k u : Nat, valB (lowB u k) = u % 2 ^ k
  | 0, u => by
    show 0 = u % 1
    omega
  | k + 1, u => by
    show valB (lowB (u / 2) k ++ [48 + u % 2]) = _
    rw [valB_snoc, valB_lowB k (u / 2), Nat.pow_succ, Nat.mul_comm (2 ^ k) 2, Nat.mod_mul]
    omega
/-- how many binary digits -/
def nb (u : Nat) : Nat := if u = 0 then 1 else Nat.log2 u + 1
theorem nb_lt (u : Nat) : u < 2 ^ nb u := by
  unfold nb
  split
  · omega
  · exact Nat.lt_log2_self
theorem nb_le {u : Nat} (h : u ≠ 0) : 2 ^ (nb u - 1) ≤ u := by
  unfold nb
  rw [if_neg h]
  exact Nat.log2_self_le h
/-- the binary digits, as Python writes them -/
def binB (u : Nat) : List Nat := lowB u (nb u)
theorem lowB_drop (a : Nat) : ∀ (k u : Nat), (lowB u (a + k)).drop a = lowB u k
  | 0, u => List.drop_eq_nil_of_le (by rw [lowB_length]; exact Nat.le_refl _)
  | k + 1, u => by
    show (lowB (u / 2) (a + k) ++ [48 + u % 2]).drop a = lowB (u / 2) k ++ [48 + u % 2]
    rw [List.drop_append_of_le_length (by rw [lowB_length]; omega), lowB_drop a k (u / 2)]
theorem lowB_zero : ∀ a : Nat, lowB 0 a = List.replicate a 48
  | 0 => rfl
  | a + 1 => by
    show lowB 0 a ++ [48] = _
    rw [lowB_zero a, List.replicate_succ']
theorem lowB_big (a : Nat) : ∀ (j u : Nat), u < 2 ^ j → lowB u (a + j) = List.replicate a 48 ++ lowB u j
  | 0, u, h => by
    have e : u = 0 := by have : (2 : Nat) ^ 0 = 1 := rfl; omega
    subst e
    rw [lowB_zero]
    exact (List.append_nil _).symm
  | j + 1, u, h => by
    show lowB (u / 2) (a + j) ++ [48 + u % 2] = List.replicate a 48 ++ (lowB (u / 2) j ++ [48 + u % 2])
    rw [lowB_big a j (u / 2) (by rw [Nat.pow_succ] at h; omega), List.append_assoc]
theorem lowB_front : ∀ (k u : Nat), lowB u (k + 1) = (48 + u / 2 ^ k % 2) :: lowB u k
  | 0, u => by
    show [] ++ [48 + u % 2] = [48 + u / 1 % 2]
    rw [Nat.div_one]
    rfl
  | k + 1, u => by
    show lowB (u / 2) (k + 1) ++ [48 + u % 2] = (48 + u / 2 ^ (k + 1) % 2) :: (lowB (u / 2) k ++ [48 + u % 2])
    rw [lowB_front k (u / 2), Nat.div_div_eq_div_mul, Nat.pow_succ, Nat.mul_comm 2 (2 ^ k)]
    rfl
theorem nb_min {u j : Nat} (h : u < 2 ^ j) (hj : 1 ≤ j) : nb u ≤ j := by
  by_cases e : u = 0
  · unfold nb
    rw [if_pos e]
    exact hj
  · have h1 := nb_le e
    have h2 : 2 ^ (nb u - 1) < 2 ^ j := Nat.lt_of_le_of_lt h1 h
    have h3 := (Nat.pow_lt_pow_iff_right (by decide : 1 < 2)).mp h2
    omega
theorem nb_pos (u : Nat) : 1 ≤ nb u := by
  unfold nb
  split <;> omega
theorem binB_length (u : Nat) : (binB u).length = nb u := lowB_length _ _
theorem low_fill2 (u k j : Nat) (h : u < 2 ^ j) : (List.replicate k 48 ++ lowB u j).drop ((List.replicate k 48 ++ lowB u j).length - k) = lowB u k := by
  rw [← lowB_big k j u h, lowB_length, show k + j - k = j by omega, Nat.add_comm k j]
  exact lowB_drop j k u
/-- the bits of a code number -/
def encB (u k : Nat) : List Nat := if u / 2 ^ k < 20 then List.replicate (u / 2 ^ k) 49 ++ [48] ++ lowB u k else List.replicate (19 + nb u) 49 ++ [48] ++ binB u
theorem encB_len (u k : Nat) : (encB u k).length ≤ 21 + k + 2 * nb u := by
  unfold encB
  split
  · rw [List.length_append, List.length_append, List.length_replicate, lowB_length]
    show _ + 1 + k ≤ _
    omega
  · rw [List.length_append, List.length_append, List.length_replicate, binB_length]
    show _ + 1 + _ ≤ _
    omega
theorem encB_bin (u k : Nat) : ∀ c ∈ encB u k, c = 48 ∨ c = 49 := by
  intro c h
  unfold encB at h
  split at h
  · rcases List.mem_append.mp h with h | h
    · rcases List.mem_append.mp h with h | h
      · exact .inr (List.eq_of_mem_replicate h)
      · exact .inl (List.mem_singleton.mp h)
    · exact lowB_bin _ _ c h
  · rcases List.mem_append.mp h with h | h
    · rcases List.mem_append.mp h with h | h
      · exact .inr (List.eq_of_mem_replicate h)
      · exact .inl (List.mem_singleton.mp h)
    · exact lowB_bin _ _ c h
abbrev Tb := Int × Int
def tbB (t : Tb) (u : Nat) : Tb := if t.2 + 1 > 15 then ((t.1 + (u : Int)) / 2, 8) else (t.1 + (u : Int), t.2 + 1)
def uOf (n : Int) : Nat := (codeU n).toNat
theorem uOf_eq (n : Int) : ((uOf n : Nat) : Int) = codeU n := by
  unfold uOf codeU
  split <;> omega
def wst (ns : List Int) (first : Nat) (T : Tb × Tb) : Nat → List (List Nat) × (Tb × Tb)
  | 0 => ([], T)
  | i + 1 =>
    let s := wst ns first T i
    let u := uOf (ns.getD i 0)
    if i < first then (s.1 ++ [encB u (par s.2.1.1 s.2.1.2)], (tbB s.2.1 u, s.2.2)) else (s.1 ++ [encB u (par s.2.2.1 s.2.2.2)], (s.2.1, tbB s.2.2 u))
/-- a table in its limits, its total at most m -/
def TbOk (m : Int) (t : Tb) : Prop := 0 ≤ t.1 ∧ t.1 ≤ m ∧ 1 ≤ t.2 ∧ t.2 ≤ 15
theorem tbB_ok {m : Int} {t : Tb} {u : Nat} (h : TbOk m t) (hu : (u : Int) ≤ 10 ^ 56) : TbOk (m + 10 ^ 56) (tbB t u) := by
  obtain ⟨h1, h2, h3, h4⟩ := h
  unfold tbB
  split
  · refine ⟨?_, ?_, by show (1 : Int) ≤ 8; decide, by show (8 : Int) ≤ 15; decide⟩
    · show 0 ≤ (t.1 + (u : Int)) / 2
      omega
    · show (t.1 + (u : Int)) / 2 ≤ m + 10 ^ 56
      omega
  · exact ⟨by show 0 ≤ t.1 + (u : Int); omega, by show t.1 + (u : Int) ≤ m + 10 ^ 56; omega, by show 1 ≤ t.2 + 1; omega, by show t.2 + 1 ≤ 15; omega⟩
theorem TbOk.mono {m n : Int} {t : Tb} (h : TbOk m t) (e : m ≤ n) : TbOk n t := ⟨h.1, Int.le_trans h.2.1 e, h.2.2⟩
theorem uOf_le {n : Int} (h : n.natAbs < 10 ^ 55) : ((uOf n : Nat) : Int) ≤ 10 ^ 56 := by
  rw [uOf_eq]
  unfold codeU
  split <;> omega
theorem wst_ok {ns : List Int} {first : Nat} {T : Tb × Tb} (hn : ∀ z ∈ ns, z.natAbs < 10 ^ 55) (h0 : TbOk (10 ^ 58) T.1) (h1 : TbOk (10 ^ 58) T.2) : ∀ i : Nat, i ≤ 64 → TbOk (10 ^ 58 + (i : Int) * 10 ^ 56) (wst ns first T i).2.1 ∧ TbOk (10 ^ 58 + (i : Int) * 10 ^ 56) (wst ns first T i).2.2
  | 0, _ => ⟨h0.mono (by omega), h1.mono (by omega)⟩
  | i + 1, hi => by
    obtain ⟨a, b⟩ := wst_ok (first := first) hn h0 h1 i (by omega)
    have hu : ((uOf (ns.getD i 0) : Nat) : Int) ≤ 10 ^ 56 := uOf_le (by
      rw [List.getD_eq_getElem?_getD]
      cases e : ns[i]? with
      | none => decide
      | some z => exact hn z (List.mem_of_getElem? e))
    show TbOk _ (if i < first then _ else _ : List (List Nat) × (Tb × Tb)).2.1 ∧ TbOk _ (if i < first then _ else _ : List (List Nat) × (Tb × Tb)).2.2
    by_cases c : i < first
    · rw [if_pos c]
      exact ⟨(tbB_ok a hu).mono (by push_cast; omega), b.mono (by push_cast; omega)⟩
    · rw [if_neg c]
      exact ⟨a.mono (by push_cast; omega), (tbB_ok b hu).mono (by push_cast; omega)⟩
theorem wst_len (ns : List Int) (first : Nat) (T : Tb × Tb) : ∀ i, (wst ns first T i).1.length = i
  | 0 => rfl
  | i + 1 => by
    show (if i < first then _ else _ : List (List Nat) × (Tb × Tb)).1.length = i + 1
    split
    · rw [List.length_append, wst_len ns first T i]; rfl
    · rw [List.length_append, wst_len ns first T i]; rfl
end Z
namespace Z
open PySem PySem.Spec PyProof.Rows L2
open SX (S S_len S_cat S_inj)
section
open PySem.Builtin PySem.Builtin.Str PySem.Builtin.Int PySem.Builtin.Float
theorem eb : Str.ofString "b" = S [98] := by rfl
end
end Z
namespace Z
open PySem PySem.Spec PyProof.Rows L2
open SX (S S_len S_cat S_inj)
theorem S_add (a b : List Nat) : S a ++ S b = S (a ++ b) := S_cat a b
def rAddT : R2 := fun x y H Q => ∃ a b : List Nat, x = .str (S a) ∧ y = .str (S b) ∧ a.length + b.length ≤ 16777216 ∧ Q (.str (S (a ++ b))) H
theorem op_addT {X : Cx} : OpR X (binaryOp .Add) rAddT := by
  intro pins s σ H x y v u Q I rx ry h
  obtain ⟨a, b, rfl, rfl, hl, q⟩ := h
  exact op_add_str pins s σ H _ _ v u Q I rx ry ⟨S a, S b, rfl, rfl, by rw [S_len, S_len]; exact hl, by rw [S_add]; exact q⟩
theorem fold_app : ∀ (n : Nat) (a acc : Array Nat), (List.replicate n a).foldl (· ++ ·) acc = acc ++ ((List.replicate n a.toList).flatten).toArray
  | 0, a, acc => by simp
  | n + 1, a, acc => by
    rw [List.replicate_succ, List.foldl_cons, fold_app n a, List.replicate_succ, List.flatten_cons]
    refine Array.toList_inj.mp ?_
    rw [Array.toList_append, Array.toList_append, Array.toList_append, List.append_assoc]
/-- a text, so many times -/
def repL (l : List Nat) (n : Nat) : List Nat := (List.replicate n l).flatten
theorem repL_one (c n : Nat) : repL [c] n = List.replicate n c := by
  induction n with
  | zero => rfl
  | succ n ih =>
    unfold repL at ih ⊢
    rw [List.replicate_succ, List.flatten_cons, ih]
    rfl
theorem repL_length (l : List Nat) : ∀ n, (repL l n).length = n * l.length
  | 0 => by simp [repL]
  | n + 1 => by
    have ih := repL_length l n
    unfold repL at ih ⊢
    rw [List.replicate_succ, List.flatten_cons, List.length_append, ih, Nat.succ_mul, Nat.add_comm]
theorem repL_nil : ∀ n, repL [] n = []
  | 0 => rfl
  | n + 1 => by
    have ih := repL_nil n
    unfold repL at ih ⊢
    rw [List.replicate_succ, List.flatten_cons, ih]
    rfl
def rMulT : R2 := fun x y H Q => ∃ (a : List Nat) (k : Int), x = .str (S a) ∧ y = .int k ∧ -1000000 ≤ k ∧ k ≤ 1000000 ∧ a.length * k.toNat ≤ 1000000 ∧ Q (.str (S (repL a k.toNat))) H
theorem tooLong_no {n : Nat} (h : n ≤ 1000000) : Builtin.Str.tooLong n = false := by
  have z : 1000000 < sizeLine := by decide
  unfold Builtin.Str.tooLong
  first
    | exact decide_eq_false (by omega)
    | (simp; omega)
theorem op_mulT {X : Cx} : OpR X (binaryOp .Mult) rMulT := by
  intro pins s σ H x y v u Q I rx ry h
  obtain ⟨a, k, rfl, rfl, h1, h2, hl, q⟩ := h
  obtain ⟨t, rfl⟩ := rx
  obtain ⟨t', rfl⟩ := ry
  refine P.mul_str (by rw [decide_eq_false (by omega), decide_eq_false (by omega)]; rfl) (fun c _ z => ?_) (fun _ _ => tooLong_no (by rw [S_len]; exact hl)) ?_
  · have hk : (1 : Int) ≤ k := by omega
    rw [S_len] at z
    have hl2 : (a.length : Int) * k ≤ 1000000 := by
      obtain ⟨m, rfl⟩ : ∃ m : Nat, k = (m : Int) := ⟨k.toNat, by omega⟩
      rw [Int.toNat_natCast] at hl
      have z0 := Int.ofNat_le.mpr hl
      rw [Int.natCast_mul] at z0
      exact z0
    have z2 : (a.length : Int) ≤ (a.length : Int) * k := by
      have := Int.mul_le_mul_of_nonneg_left hk (show (0 : Int) ≤ a.length by omega)
      rw [Int.mul_one] at this
      exact this
    have z3 : (1000000 : Int) ≤ (2 ^ 63 - 1) / k := (Int.le_ediv_iff_mul_le (by omega)).mpr (Int.le_trans (Int.mul_le_mul_of_nonneg_left h2 (show (0 : Int) ≤ 1000000 by decide)) (by decide))
    omega
  · by_cases c : k < 1
    · rw [if_pos c]
      have e : k.toNat = 0 := by omega
      rw [e] at q
      exact ⟨by decide, ⟨.str Str.empty, H, I.tok _, ⟨_, rfl⟩, q⟩⟩
    · rw [if_neg c]
      cases d : (k == 1 || (S a).length == 0) with
      | true =>
        rw [if_pos rfl]
        have e : repL a k.toNat = a := by
          rw [Bool.or_eq_true, beq_iff_eq, beq_iff_eq, S_len] at d
          rcases d with d | d
          · rw [d]
            exact List.append_nil a
          · rw [List.length_eq_zero_iff] at d
            rw [d]
            exact repL_nil _
        rw [e] at q
        exact ⟨.str (S a), H, I, ⟨t, rfl⟩, q⟩
      | false =>
        rw [if_neg Bool.false_ne_true]
        have e : (⟨(List.replicate k.toNat (S a).cps).foldl (· ++ ·) #[]⟩ : Str) = S (repL a k.toNat) := by
          rw [fold_app]
          exact TL.ext_tl (by
            show (#[] ++ _ : Array Nat).toList = _
            rw [Array.toList_append]
            rfl)
        rw [e]
        exact ⟨by rw [S_len, repL_length, Nat.mul_comm]; exact Nat.le_trans hl (by decide), ⟨.str _, H, I.tok _, ⟨_, rfl⟩, q⟩⟩
theorem e_empty : Str.ofString "" = S [] := by rfl
theorem e_0 : Str.ofString "0" = S [48] := by rfl
theorem e_1 : Str.ofString "1" = S [49] := by rfl
theorem e_01 : Str.ofString "01" = S [48, 49] := by rfl
section
variable {X : Cx}
def tFmtB (te ts : TE) : TE := fun σ H Q => te σ H fun x H1 => ts σ H1 fun y H2 => ∃ n : Nat, x = .int (n : Int) ∧ y = .str (S [98]) ∧ nb n ≤ 16777216 ∧ Q (.str (S (binB n))) H2
end
theorem joinL_flat : ∀ ys : List (List Nat), TL.joinL [] ys = ys.flatten
  | [] => rfl
  | [p] => (List.append_nil p).symm
  | p :: q :: r => by
    show p ++ ([] ++ TL.joinL [] (q :: r)) = p ++ (q :: r).flatten
    rw [joinL_flat (q :: r)]
    rfl
def rJoin (K : PySem.W.Frag) : V → List V → Hp → VK → Prop := fun x xs H Q => ∃ a p, ∃ ys : List Str, x = .str a ∧ xs = [.ref p] ∧ (SqL K H p (ys.map V.str) ∨ SqT K H p (ys.map V.str)) ∧
    (ys.map (·.length)).sum + ys.length * a.length ≤ 16777216 ∧ Q (.str (Txt.join a ys)) H
theorem mt_joinK {X : Cx} : MtR X "str.join" (rJoin X.K) := mt_join
section
variable {K : PySem.W.Frag} {σ : L2.St} {H : Hp} {Q : VK}
theorem rd_addT {a b : List Nat} {x y : Str} (e1 : x = S a) (e2 : y = S b) (hl : a.length + b.length ≤ 16777216) (h : Q (.str (S (a ++ b))) H) : rAddT (.str x) (.str y) H Q := ⟨a, b, congrArg V.str e1, congrArg V.str e2, hl, h⟩
theorem rd_mulT {c : Nat} {x : Str} {k : Nat} (e1 : x = S [c]) (hl : k ≤ 1000000) (h : Q (.str (S (List.replicate k c))) H) : rMulT (.str x) (.int (k : Int)) H Q :=
  ⟨[c], (k : Int), congrArg V.str e1, rfl, by omega, by omega, by rw [Int.toNat_natCast]; show 1 * k ≤ _; omega, by rw [Int.toNat_natCast, repL_one]; exact h⟩
theorem rd_lenS {l : List Nat} (hl : l.length ≤ 16777216) (h : Q (.int (l.length : Nat)) H) : rLen K [.str (S l)] H Q := ⟨.str (S l), l.length, rfl, ⟨by rw [S_len]; exact hl, (S_len l).symm⟩, h⟩
theorem rd_slSF {l : List Nat} {k : Nat} (hl : l.length ≤ 16777216) (h : Q (.str (S (l.drop k))) H) : C8.rSlX (.str (S l)) (some (k : Int)) none H Q := ⟨S l, rfl, by rw [S_len]; exact hl, by rw [SX.slice_from (by omega), Int.toNat_natCast]; exact h⟩
theorem rd_slST {l : List Nat} {k : Nat} (hl : l.length ≤ 16777216) (h : Q (.str (S (l.take k))) H) : C8.rSlX (.str (S l)) none (some (k : Int)) H Q := ⟨S l, rfl, by rw [S_len]; exact hl, by rw [SX.slice_to (by omega), Int.toNat_natCast]; exact h⟩
theorem rd_joinS {p : Addr} {ls : List (List Nat)} {x : Str} (e : x = S []) (hp : SqL K H p (ls.map fun l => V.str (S l))) (hl : ls.flatten.length ≤ 16777216) (h : Q (.str (S ls.flatten)) H) : rJoin K (.str x) [.ref p] H Q := by
  refine ⟨S [], p, ls.map S, congrArg V.str e, rfl, .inl ?_, ?_, ?_⟩
  · rw [List.map_map]
    exact hp
  · rw [SX.lens]
    show _ + _ * 0 ≤ _
    rw [Nat.mul_zero, Nat.add_zero, ← List.length_flatten]
    exact hl
  · rw [SX.join_S, joinL_flat]
    exact h
theorem rd_fmtb {te ts : TE} (h : te σ H fun x H1 => ts σ H1 fun y H2 => ∃ n : Nat, x = .int (n : Int) ∧ y = .str (S [98]) ∧ nb n ≤ 16777216 ∧ Q (.str (S (binB n))) H2) : tFmtB te ts σ H Q := h
theorem rd_fmtn {n : Nat} {x : Str} {P : Nat → Prop} (e : x = S [98]) (hl : nb n ≤ 16777216) (h : P n) : ∃ m : Nat, V.int (n : Int) = .int (m : Int) ∧ V.str x = .str (S [98]) ∧ nb m ≤ 16777216 ∧ P m := ⟨n, rfl, congrArg V.str e, hl, h⟩
theorem rd_ixS {l : List Nat} {x : Str} {i c : Nat} (e : x = S l) (hl : l.length ≤ 16777216) (a : l[i]? = some c) (h : Q (.str (S [c])) H) : rIxS (.str x) (.int (i : Int)) H Q := ⟨S l, (i : Int), c, congrArg V.str e, rfl, by rw [S_len]; exact hl, atI_nat a, h⟩
theorem rd_bmS {m : V → List V → Hp → VK → Prop} {to : TE} {ts : TA} (h : to σ H fun x H1 => tyV K "str" x H1 ∧ ts σ H1 fun xs H2 => m x xs H2 Q) : tBM K "str" m to ts σ H Q := h
theorem rd_tyS {x : Str} {P : Prop} (q : P) : tyV K "str" (.str x) H ∧ P := ⟨rfl, q⟩
end
end Z
namespace Z
open PySem PySem.Spec PyProof.Rows L2
open SX (S S_len S_cat S_inj)
def WlN (Pv : Nat → L2.St → Hp → Prop) (N i : Nat) (tb : TS) (D : Ends) (σ : L2.St) (H1 : Hp) : Prop :=
  ∃ Nx : L2.St → Hp → Prop, (∀ σ' H', Nx σ' H' → ∃ m', m' < N - i ∧ ∃ j, m' = N - j ∧ j ≤ N ∧ Pv j σ' H') ∧ tb { D with nx := Nx, ct := Nx, bk := D.nx } σ H1
section
variable {c : TT} {tb : TS} {D : Ends} {σ : L2.St} {H : Hp}
theorem while_n (Pv : Nat → L2.St → Hp → Prop) (N : Nat) (h0 : Pv 0 σ H) (hs : ∀ i σ H, i ≤ N → Pv i σ H → c σ H fun b H1 => if b = true then WlN Pv N i tb D σ H1 else D.nx σ H1) : tWhile c tb D σ H := by
  refine ⟨fun m σ H => ∃ j, m = N - j ∧ j ≤ N ∧ Pv j σ H, ⟨N, 0, rfl, Nat.zero_le _, h0⟩, ?_⟩
  rintro m σ H ⟨j, rfl, hj, p⟩
  exact hs j σ H hj p
theorem while_in {Pv : Nat → L2.St → Hp → Prop} {N i : Nat} (hi : i < N) (h : tb { D with nx := Pv (i + 1), ct := Pv (i + 1), bk := D.nx } σ H) : WlN Pv N i tb D σ H :=
  ⟨Pv (i + 1), fun σ' H' p => ⟨N - (i + 1), by omega, i + 1, rfl, hi, p⟩, h⟩
end
def LK (H H' : Hp) : Prop := ∀ b o, H b = some o → (∀ xs, o ≠ .lst xs) → H' b = some o
section
variable {K : PySem.W.Frag} {H H' H1 : Hp} {a q : Addr} {xs : List V} {o : HO}
theorem LK.refl : LK H H := fun _ _ h _ => h
theorem LK.trans (h : LK H H') (k : LK H' H1) : LK H H1 := fun b o e n => k b o (h b o e n) n
theorem LK.of (s : Same H H') : LK H H' := fun b o e _ => s b o e
theorem LK.new (n : H q = none) : LK H (upd H q o) := .of (same_new n)
theorem LK.at {ys : List V} (n : H q = some (.lst ys)) : LK H (upd H q o) := fun b x e nl => by
  have nb : b ≠ q := fun z => by
    rw [z, n] at e
    exact nl ys (Option.some.inj e).symm
  rw [upd_ne nb]
  exact e
theorem LK.pool {p : Addr} (h : Pool H p) (k : Kp p H H') : LK H H' := fun b x e nl => k b x (fun z => by
  obtain ⟨y1, y2, e2, _⟩ := h
  rw [z, e2] at e
  exact nl _ (Option.some.inj e).symm) e
theorem LK.seqT (s : LK H H') (h : SqT K H a xs) : SqT K H' a xs := by
  rcases h with (h | ⟨o, h⟩) | h
  · exact .inl (.inl (s _ _ h fun _ z => nomatch z))
  · exact .inl (.inr ⟨o, s _ _ h fun _ z => nomatch z⟩)
  · exact .inr h
theorem LK.tyo {t : Value} (ht : t = .type "tuple") (s : LK H H') (h : TyOf K H (.ref a) t) : TyOf K H' (.ref a) t := by
  cases h with
  | lst e => exact absurd ht (by decide)
  | frz e => exact .frz (s _ _ e fun _ z => nomatch z)
  | tup e => exact .tup (s _ _ e fun _ z => nomatch z)
  | dK e => exact .dK (s _ _ e fun _ z => nomatch z)
  | dT e => exact .dT (s _ _ e fun _ z => nomatch z)
  | ins e cl ha hn htk hm => exact .ins (s _ _ e fun _ z => nomatch z) cl ha hn htk hm
theorem LK.tyx (s : LK H H') (h : TyX K H (.ref a) (.type "tuple")) : TyX K H' (.ref a) (.type "tuple") := by
  generalize ht : (Value.type "tuple") = t at h ⊢
  cases h with
  | base b => exact .base (s.tyo ht.symm b)
  | set e => exact .set (s _ _ e fun _ z => nomatch z)
  | kList e c => exact .kList e c
  | kTuple e c => exact .kTuple e c
  | kDict e c => exact .kDict e c
  | fTuple e => exact .fTuple (s _ _ e fun _ z => nomatch z)
  | fDict e => exact .fDict (s _ _ e fun _ z => nomatch z)
theorem TupV.lk (s : LK H H') (h : TupV K H a xs) : TupV K H' a xs := ⟨s.seqT h.1, s.tyx h.2⟩
end
def TbV (K : PySem.W.Frag) (H : Hp) (r : Addr) (t : Tb) : Prop := TupV K H r [.int t.1, .int t.2]
def TbsV (K : PySem.W.Frag) (H : Hp) (a : Addr) (T : Tb × Tb) : Prop := ∃ r0 r1, TupV K H a [.ref r0, .ref r1] ∧ TbV K H r0 T.1 ∧ TbV K H r1 T.2
section
variable {K : PySem.W.Frag} {H H' : Hp} {a p : Addr} {t : Tb} {T : Tb × Tb}
theorem TbV.lk (s : LK H H') (h : TbV K H a t) : TbV K H' a t := TupV.lk s h
theorem TbsV.lk (s : LK H H') (h : TbsV K H a T) : TbsV K H' a T := let ⟨r0, r1, h0, h1, h2⟩ := h; ⟨r0, r1, h0.lk s, h1.lk s, h2.lk s⟩
theorem TbV.of (h : H a = some (.tup [.int t.1, .int t.2])) : TbV K H a t := TupV.of h
def spTblG (K : PySem.W.Frag) : Sp := fun vs H Q _ => ∃ (a : Addr) (t : Tb) (m : Int), vs = [.ref a] ∧ TbV K H a t ∧ TbOk m t ∧ Q (.bl true) H
def spTblsG (K : PySem.W.Frag) : Sp := fun vs H Q _ => ∃ (a : Addr) (T : Tb × Tb) (m : Int), vs = [.ref a] ∧ TbsV K H a T ∧ TbOk m T.1 ∧ TbOk m T.2 ∧ Q (.bl true) H
def spParG (K : PySem.W.Frag) : Sp := fun vs H Q _ => ∃ (a : Addr) (t : Tb) (m : Int), vs = [.ref a] ∧ TbV K H a t ∧ TbOk m t ∧ Q (.int (par t.1 t.2 : Nat)) H
def spBehind (K : PySem.W.Frag) : Sp := fun vs H Q _ => ∃ (a : Addr) (t : Tb) (m : Int) (u : Nat), vs = [.ref a, .int (u : Int)] ∧ TbV K H a t ∧ TbOk m t ∧ ∀ p, H p = none → Q (.ref p) (upd H p (.tup [.int (tbB t u).1, .int (tbB t u).2]))
def spBits : Sp := fun vs H Q _ => ∃ u k : Nat, vs = [.int (u : Int), .int (k : Int)] ∧ k ≤ 1000 ∧ nb u ≤ 100000 ∧ Q (.str (S (encB u k))) H
def spBinary : Sp := fun vs H Q _ => ∃ u : Nat, vs = [.int (u : Int)] ∧ nb u ≤ 100000 ∧ Q (.str (S (if u = 0 then [] else binB u))) H
def spCoding (K : PySem.W.Frag) : Sp := fun vs H Q _ => ∃ (n first : Nat) (a : Addr) (T : Tb × Tb) (m : Int), vs = [.int (n : Int), .int (first : Int), .ref a] ∧ first ≤ n ∧ TbsV K H a T ∧ TbOk m T.1 ∧ TbOk m T.2 ∧ Q .non H
def spWr (K : PySem.W.Frag) : Sp := fun vs H Q _ => ∃ (a : Addr) (ns : List Int) (first : Nat) (b : Addr) (T : Tb × Tb), vs = [.ref a, .int (first : Int), .ref b] ∧ H a = some (.lst (ns.map V.int)) ∧ ns.length ≤ 64 ∧ first ≤ ns.length ∧ (∀ z ∈ ns, z.natAbs < 10 ^ 55) ∧ TbsV K H b T ∧ TbOk (10 ^ 58) T.1 ∧ TbOk (10 ^ 58) T.2 ∧
  ∀ p q H', Same H H' → H p = none → H' p = some (.tup [.str (S (wst ns first T ns.length).1.flatten), .ref q]) → TbsV K H' q (wst ns first T ns.length).2 → Q (.ref p) H'
def spStart (K : PySem.W.Frag) : Sp := fun vs H Q _ => ∃ p, vs = [.ref p] ∧ Pool H p ∧ ∀ a T H', H a = none → TbsV K H' a T → TbOk (10 ^ 56) T.1 → TbOk (10 ^ 56) T.2 → Pool H' p → Kp p H H' → Q (.ref a) H'
end
theorem use_tblG {K : PySem.W.Frag} {H : Hp} {a : Addr} {t : Tb} {m : Int} {Q : VK} {E : XK} (h : TbV K H a t) (ok : TbOk m t) (q : Q (.bl true) H) : spTblG K ([.ref a] ++ []) H Q E := ⟨a, t, m, rfl, h, ok, q⟩
theorem use_tblsG {K : PySem.W.Frag} {H : Hp} {a : Addr} {T : Tb × Tb} {m : Int} {Q : VK} {E : XK} (h : TbsV K H a T) (o1 : TbOk m T.1) (o2 : TbOk m T.2) (q : Q (.bl true) H) : spTblsG K ([.ref a] ++ []) H Q E := ⟨a, T, m, rfl, h, o1, o2, q⟩
theorem use_parG {K : PySem.W.Frag} {H : Hp} {a : Addr} {t : Tb} {m : Int} {Q : VK} {E : XK} (h : TbV K H a t) (ok : TbOk m t) (q : Q (.int (par t.1 t.2 : Nat)) H) : spParG K ([.ref a] ++ []) H Q E := ⟨a, t, m, rfl, h, ok, q⟩
theorem use_behind {K : PySem.W.Frag} {H : Hp} {a : Addr} {t : Tb} {m : Int} {u : Nat} {Q : VK} {E : XK} (h : TbV K H a t) (ok : TbOk m t) (q : ∀ p, H p = none → Q (.ref p) (upd H p (.tup [.int (tbB t u).1, .int (tbB t u).2]))) : spBehind K ([.ref a, .int (u : Int)] ++ []) H Q E := ⟨a, t, m, u, rfl, h, ok, q⟩
theorem use_bits {u k : Nat} {H : Hp} {Q : VK} {E : XK} (hk : k ≤ 1000) (hu : nb u ≤ 100000) (q : Q (.str (S (encB u k))) H) : spBits ([.int (u : Int), .int (k : Int)] ++ []) H Q E := ⟨u, k, rfl, hk, hu, q⟩
theorem use_binary {u : Nat} {H : Hp} {Q : VK} {E : XK} (hu : nb u ≤ 100000) (q : Q (.str (S (if u = 0 then [] else binB u))) H) : spBinary ([.int (u : Int)] ++ []) H Q E := ⟨u, rfl, hu, q⟩
theorem use_coding {K : PySem.W.Frag} {n first : Nat} {a : Addr} {T : Tb × Tb} {m : Int} {H : Hp} {Q : VK} {E : XK} (h1 : first ≤ n) (h2 : TbsV K H a T) (o1 : TbOk m T.1) (o2 : TbOk m T.2) (q : Q .non H) : spCoding K ([.int (n : Int), .int (first : Int), .ref a] ++ []) H Q E := ⟨n, first, a, T, m, rfl, h1, h2, o1, o2, q⟩
theorem use_wr {K : PySem.W.Frag} {a b : Addr} {ns : List Int} {first : Nat} {T : Tb × Tb} {H : Hp} {Q : VK} {E : XK} (h1 : H a = some (.lst (ns.map V.int))) (h2 : ns.length ≤ 64) (h3 : first ≤ ns.length) (h4 : ∀ z ∈ ns, z.natAbs < 10 ^ 55) (h5 : TbsV K H b T) (h6 : TbOk (10 ^ 58) T.1) (h7 : TbOk (10 ^ 58) T.2)
    (q : ∀ p q H', Same H H' → H p = none → H' p = some (.tup [.str (S (wst ns first T ns.length).1.flatten), .ref q]) → TbsV K H' q (wst ns first T ns.length).2 → Q (.ref p) H') : spWr K ([.ref a, .int (first : Int), .ref b] ++ []) H Q E := ⟨a, ns, first, b, T, rfl, h1, h2, h3, h4, h5, h6, h7, q⟩
theorem use_start {K : PySem.W.Frag} {p : Addr} {H : Hp} {Q : VK} {E : XK} (h : Pool H p) (q : ∀ a T H', H a = none → TbsV K H' a T → TbOk (10 ^ 56) T.1 → TbOk (10 ^ 56) T.2 → Pool H' p → Kp p H H' → Q (.ref a) H') : spStart K ([.ref p] ++ []) H Q E := ⟨p, rfl, h, q⟩
theorem par_leG {m : Int} {t : Tb} (h : TbOk m t) (hm : m < 10 ^ 60) : par t.1 t.2 ≤ 300 := par_le h.1 h.2.2.1 (Int.lt_of_le_of_lt h.2.1 hm) h.2.2.2
theorem nb_small {u : Nat} (h : (u : Int) ≤ 10 ^ 56) : nb u ≤ 200 := by
  refine nb_min (j := 200) ?_ (by decide)
  have e : (10 : Nat) ^ 56 < 2 ^ 200 := by decide
  have h2 : u ≤ 10 ^ 56 := by
    have z : ((10 ^ 56 : Nat) : Int) = 10 ^ 56 := by norm_cast
    omega
  exact Nat.lt_of_le_of_lt h2 e
theorem shr_nat (u k : Nat) : ((u : Int) / 2 ^ ((k : Int)).toNat) = ((u / 2 ^ k : Nat) : Int) := by
  rw [Int.toNat_natCast]
  norm_cast
theorem rd_shr {u k : Nat} {H : Hp} {Q : VK} (h : Q (.int ((u / 2 ^ k : Nat) : Int)) H) : rI (fun _ j => 0 ≤ j) (fun i j => V.int (i / 2 ^ j.toNat)) (.int (u : Int)) (.int (k : Int)) H Q := ⟨(u : Int), (k : Int), rfl, rfl, by omega, by show Q (V.int ((u : Int) / 2 ^ ((k : Int)).toNat)) H; rw [shr_nat]; exact h⟩
theorem rd_bit {m : Nat} {H : Hp} {Q : VK} (h : Q (.str (S [48 + m % 2])) H) : rIxS (.str (Str.ofString "01")) (.int ((m : Int) % 2)) H Q := by
  rcases (show m % 2 = 0 ∨ m % 2 = 1 by omega) with e | e
  · rw [e] at h
    have e2 : (m : Int) % 2 = ((0 : Nat) : Int) := by omega
    rw [e2]
    exact rd_ixS e_01 (by decide) rfl h
  · rw [e] at h
    have e2 : (m : Int) % 2 = ((1 : Nat) : Int) := by omega
    rw [e2]
    exact rd_ixS e_01 (by decide) rfl h
theorem rd_listQ {K : PySem.W.Frag} {H : Hp} {Q : VK} {a : Addr} {xs : List V} (h : SqT K H a xs) (q : ∀ l, H l = none → Q (.ref l) (upd H l (.lst xs))) : rToList K [.ref a] H Q := ⟨a, xs, rfl, .inr h, q⟩
theorem half_nat (u : Nat) : ((u : Int) / 2) = ((u / 2 : Nat) : Int) := by omega
theorem wst_lo {ns : List Int} {first : Nat} {T : Tb × Tb} {i : Nat} (h : i < first) : wst ns first T (i + 1) = ((wst ns first T i).1 ++ [encB (uOf (ns.getD i 0)) (par (wst ns first T i).2.1.1 (wst ns first T i).2.1.2)], (tbB (wst ns first T i).2.1 (uOf (ns.getD i 0)), (wst ns first T i).2.2)) := if_pos h
theorem wst_hi {ns : List Int} {first : Nat} {T : Tb × Tb} {i : Nat} (h : ¬ i < first) : wst ns first T (i + 1) = ((wst ns first T i).1 ++ [encB (uOf (ns.getD i 0)) (par (wst ns first T i).2.2.1 (wst ns first T i).2.2.2)], ((wst ns first T i).2.1, tbB (wst ns first T i).2.2 (uOf (ns.getD i 0)))) := if_neg h
theorem uOf_getD {ns : List Int} (hn : ∀ z ∈ ns, z.natAbs < 10 ^ 55) (i : Nat) : ((uOf (ns.getD i 0) : Nat) : Int) ≤ 10 ^ 56 := uOf_le (by
  rw [List.getD_eq_getElem?_getD]
  cases e : ns[i]? with
  | none => decide
  | some z => exact hn z (List.mem_of_getElem? e))
theorem wst_flat {ns : List Int} {first : Nat} {T : Tb × Tb} (hn : ∀ z ∈ ns, z.natAbs < 10 ^ 55) (h0 : TbOk (10 ^ 58) T.1) (h1 : TbOk (10 ^ 58) T.2) : ∀ i : Nat, i ≤ 64 → (wst ns first T i).1.flatten.length ≤ 1000 * i
  | 0, _ => Nat.zero_le _
  | i + 1, hi => by
    have ih := wst_flat (first := first) hn h0 h1 i (by omega)
    obtain ⟨a, b⟩ := wst_ok (first := first) hn h0 h1 i (by omega)
    have hu := nb_small (uOf_getD hn i)
    have bnd : (10 ^ 58 + (i : Int) * 10 ^ 56) < 10 ^ 60 := by omega
    have pa := par_leG a bnd
    have pb := par_leG b bnd
    by_cases c : i < first
    · rw [wst_lo c]
      have e := encB_len (uOf (ns.getD i 0)) (par (wst ns first T i).2.1.1 (wst ns first T i).2.1.2)
      rw [List.flatten_append, List.length_append, List.flatten_cons, List.flatten_nil, List.append_nil]
      omega
    · rw [wst_hi c]
      have e := encB_len (uOf (ns.getD i 0)) (par (wst ns first T i).2.2.1 (wst ns first T i).2.2.2)
      rw [List.flatten_append, List.length_append, List.flatten_cons, List.flatten_nil, List.append_nil]
      omega
theorem par_cond {m : Int} {t : Tb} (h : TbOk m t) {i : Nat} (hi : i ≤ par t.1 t.2) : (t.2 * 2 ^ i < t.1 ↔ i < par t.1 t.2) := by
  obtain ⟨h1, h2⟩ := par_spec h.1 h.2.2.1
  constructor
  · intro c
    by_cases e : i = par t.1 t.2
    · subst e
      omega
    · omega
  · exact h1 i
end Z
namespace Z
open PySem PySem.Spec PyProof.Rows L2
open SX (S S_len S_cat S_inj)
section
open PySem.NumText PySem.Calls Hx
def IsB (c : Nat) : Prop := c = 48 ∨ c = 49
theorem IsB.hex {c : Nat} (h : IsB c) : IsHex c := by
  unfold IsB at h
  unfold IsHex
  omega
theorem hv_b {c : Nat} (h : IsB c) : hv c = c - 48 := by
  unfold IsB at h
  unfold hv
  rw [if_pos (by omega)]
theorem step_b {ds : Array Nat} {b : Bool} {c : Nat} (h : IsB c) : PySem.NumText.step 2 (ds, b) c = some (ds.push (c - 48), true) := by
  have hr := hex_rng h.hex
  unfold PySem.NumText.step
  rw [if_neg (by rw [beq_iff_eq]; exact hr.2.2), digit_hex h.hex, hv_b h]
  exact if_pos (by unfold IsB at h; omega)
theorem foldl_b : ∀ (cs : List Nat) (ds : Array Nat), (∀ c ∈ cs, IsB c) → cs.foldlM (PySem.NumText.step 2) (ds, true) = some (cs.foldl (fun acc c => acc.push (c - 48)) ds, true)
  | [], _, _ => rfl
  | c :: cs, ds, h => by
    rw [List.foldlM_cons, step_b (h c (List.mem_cons_self ..))]
    show cs.foldlM (PySem.NumText.step 2) (ds.push (c - 48), true) = _
    exact foldl_b cs (ds.push (c - 48)) fun d hd => h d (List.mem_cons_of_mem _ hd)
theorem digits_b {cs : List Nat} (h : ∀ c ∈ cs, IsB c) (hne : cs ≠ []) : digits? 2 cs = some (cs.foldl (fun acc c => acc.push (c - 48)) #[]) := by
  cases cs with
  | nil => exact absurd rfl hne
  | cons c cs =>
    unfold digits?
    rw [List.foldlM_cons, step_b (h c (List.mem_cons_self ..))]
    show (cs.foldlM (PySem.NumText.step 2) ((#[] : Array Nat).push (c - 48), true)).bind _ = _
    rw [foldl_b cs _ fun d hd => h d (List.mem_cons_of_mem _ hd)]
    rfl
theorem push_b : ∀ (cs : List Nat) (ds : Array Nat), (cs.foldl (fun acc c => acc.push (c - 48)) ds).foldl (fun acc d => acc * 2 + d) 0 = cs.foldl (fun a c => a * 2 + (c - 48)) (ds.foldl (fun acc d => acc * 2 + d) 0)
  | [], _ => rfl
  | c :: cs, ds => by
    rw [List.foldl_cons, push_b cs (ds.push (c - 48)), List.foldl_cons]
    congr 1
    simp
theorem based_b : ∀ {cs : List Nat}, (∀ c ∈ cs, IsB c) → based 2 cs = (2, false, cs)
  | [], _ => rfl
  | [a], h => by
    rcases h a List.mem_cons_self with rfl | rfl <;> rfl
  | a :: c :: r, h => by
    rcases h a List.mem_cons_self with rfl | rfl <;> rcases h c (List.mem_cons_of_mem _ List.mem_cons_self) with rfl | rfl <;> rfl
theorem valB_two (l : List Nat) : l.foldl (fun a c => a * 2 + (c - 48)) 0 = valB l := by
  unfold valB
  congr 1
  funext a c
  rw [Nat.mul_comm]
theorem read_b {cs : List Nat} (h : ∀ c ∈ cs, IsB c) (hne : cs ≠ []) : (int_private% "readNumeral") 0 2 cs = (int_private% "Numeral.value") ((valB cs : Nat) : Int) := by
  have hr : ∀ c ∈ cs.reverse, IsB c := fun c hc => h c (List.mem_reverse.mp hc)
  refine (readNumeral_eq 0 2 cs).trans ?_
  rw [dropB (fun c hc => (h c hc).hex), signH (fun c hc => (h c hc).hex)]
  show judge 0 false (based 2 cs).1 (based 2 cs).2.1 (digits? (based 2 cs).1 (((based 2 cs).2.2.reverse.dropWhile blank).reverse)) = _
  rw [based_b h]
  show judge 0 false 2 false (digits? 2 ((cs.reverse.dropWhile blank).reverse)) = _
  rw [dropB (fun c hc => (hr c hc).hex), List.reverse_reverse, digits_b h hne]
  show (int_private% "Numeral.value") (((cs.foldl (fun acc c => acc.push (c - 48)) (#[] : Array Nat)).foldl (fun acc d => acc * 2 + d) 0 : Nat) : Int) = _
  have z : (#[] : Array Nat).foldl (fun acc d => acc * 2 + d) 0 = 0 := by first | rfl | simp
  rw [push_b, z, valB_two]
set_option maxHeartbeats 4000000 in
theorem gives_b {x : PySem.Str} {u t : Tok} (hl : x.length ≤ 640) (h : ∀ c ∈ x.cps.toList, IsB c) (hne : x.cps.toList ≠ []) :
    Gives (Builtin.«int.__new__» ⟨[.type "int", .str x u, .int 2 t], []⟩) (.int ((valB x.cps.toList : Nat) : Int)) :=
  .of_wp fun M A E s Q hQ => by
    obtain ⟨hp, g, d, tk, os⟩ := s
    have f1 := F.conv_sub_int
    have f2 := F.madeHere_int
    have f6 : typeOf (.str x u) = pure (.type "str") := rfl
    obtain ⟨e1, e2⟩ := seen_hex (fun c hc => (h c hc).hex)
    have hs : (numSeenOf x).length ≤ 640 := by
      rw [e2, Array.length_toList]
      exact hl
    have hr : (int_private% "readNumeral") 0 2 (numSeenOf x) = (int_private% "Numeral.value") ((valB x.cps.toList : Nat) : Int) := by
      rw [e2]
      exact read_b h hne
    have ha : ((numSeenOf x).length == (numTextOf x).length) = true := by
      rw [e1, e2]
      exact beq_self_eq_true _
    have hk := Hid.mk (And.intro hs (And.intro hr ha))
    clear hs hr ha e1 e2 hl hne h
    repeat (any_goals (first
      | assumption
      | ((with_reducible show wpAny _ _ ((int_private% "intFromText") _ _ _) _ _ _); refine wp_textB hk.out.1 hk.out.2.1 hk.out.2.2 ?_)
      | wp_step))
    all_goals first | exact ⟨_, rfl, hQ⟩ | skip
theorem call_b {prog : Program} {w : World} {A : Around} {E : Value → Shared → Prop} {s : Shared} {Q : Value → Shared → Prop} {x : PySem.Str} {u t : Tok} (hl : x.length ≤ 640) (h : ∀ c ∈ x.cps.toList, IsB c) (hne : x.cps.toList ≠ [])
    (hQ : Q (.int ((valB x.cps.toList : Nat) : Int) s.toks) { s with toks := s.toks + 1 }) : wpAny (model prog w) A (call (.type "int") [.str x u, .int 2 t]) Q E s :=
  callType_new F.called_int F.newNe_int (typeCall_int_2 _ _) (newCall_int_2 _ _) (fun obj => F.initArgs_range_2 obj _ _) F.entry_int_new (gives_b hl h hne).meets (show (Made.int ((valB x.cps.toList : Nat) : Int)).post _ s from ⟨rfl, hQ⟩)
end
def rIntB : List V → Hp → VK → Prop := fun xs H Q => ∃ l : List Nat, xs = [.str (S l), .int 2] ∧ l ≠ [] ∧ l.length ≤ 640 ∧ (∀ c ∈ l, IsB c) ∧ Q (.int ((valB l : Nat) : Int)) H
theorem call_intB {X : Cx} : CallR X (.type "int") rIntB := by
  intro pins s σ H xs us Q I r h
  obtain ⟨l, rfl, hne, hl, hx, q⟩ := h
  obtain ⟨u, w', rfl, r1, r2⟩ := vals2 r
  obtain ⟨t1, rfl⟩ := r1
  obtain ⟨t2, rfl⟩ := r2
  exact call_b (x := S l) (by rw [S_len]; exact hl) hx hne ⟨.int ((valB l : Nat) : Int), H, I.tok _, ⟨_, rfl⟩, q⟩
def onesL : List Nat → Nat
  | [] => 0
  | c :: r => if c = 48 then 0 else onesL r + 1
theorem onesL_le : ∀ m : List Nat, onesL m ≤ m.length
  | [] => Nat.le_refl _
  | c :: r => by
    unfold onesL
    split
    · exact Nat.zero_le _
    · exact Nat.succ_le_succ (onesL_le r)
theorem onesL_lt : ∀ (m : List Nat) (i : Nat), i < onesL m → m[i]? ≠ some 48
  | [], i, h => absurd h (Nat.not_lt_zero _)
  | c :: r, i, h => by
    unfold onesL at h
    split at h
    · exact absurd h (Nat.not_lt_zero _)
    · rename_i e
      rcases i with _ | i
      · intro z
        exact e (Option.some.inj z)
      · exact onesL_lt r i (by omega)
theorem onesL_at : ∀ m : List Nat, onesL m < m.length → m[onesL m]? = some 48
  | [], h => absurd h (Nat.not_lt_zero _)
  | c :: r, h => by
    by_cases e : c = 48
    · have z : onesL (c :: r) = 0 := if_pos e
      rw [z, e]
      rfl
    · have z : onesL (c :: r) = onesL r + 1 := if_neg e
      rw [z] at h ⊢
      exact onesL_at r (by simpa using h)
theorem onesL_rep (n : Nat) (r : List Nat) : onesL (List.replicate n 49 ++ 48 :: r) = n := by
  induction n with
  | zero => rfl
  | succ n ih =>
    show (if (49 : Nat) = 48 then 0 else onesL (List.replicate n 49 ++ 48 :: r) + 1) = n + 1
    rw [if_neg (by decide), ih]
def fzI (l : List Nat) (pl : Nat) : Int := if pl + onesL (l.drop pl) < l.length then ((pl + onesL (l.drop pl) : Nat) : Int) else -1
theorem S_get (l : List Nat) (v : Nat) (hv : v < l.length) : (S l).cps.getD v 0 = 48 ↔ l[v]? = some 48 :=
  ⟨fun h => PySem.StrLaws.getElem?_of_getD (x := S l) (by rw [S_len]; exact hv) h, fun h => PySem.StrLaws.getD_of_getElem? (x := S l) h⟩
theorem find_S (l : List Nat) (pl : Nat) (hpl : pl ≤ l.length) : Txt.find3 (S l) (S [48]) (pl : Int) = fzI l pl := by
  have fi : fromIndex (S l).length (pl : Int) = pl := by
    unfold fromIndex
    omega
  have hd : ∀ v, pl ≤ v → l[v]? = (l.drop pl)[v - pl]? := fun v hv => by rw [List.getElem?_drop]; congr 1; omega
  have hol := onesL_le (l.drop pl)
  rw [List.length_drop] at hol
  rcases PySem.StrLaws.find3_spec (S l) 48 (pl : Int) with ⟨e, hn⟩ | ⟨k, e, h1, h2, h3, h4⟩
  · rw [fi] at hn
    have hlt : ¬ pl + onesL (l.drop pl) < l.length := fun hlt => by
      have a := onesL_at (l.drop pl) (by rw [List.length_drop]; omega)
      refine hn (pl + onesL (l.drop pl)) (by omega) (by rw [S_len]; exact hlt) ((S_get l _ hlt).mpr ?_)
      rw [hd _ (by omega), show pl + onesL (l.drop pl) - pl = onesL (l.drop pl) by omega]
      exact a
    unfold fzI
    rw [if_neg hlt]
    exact e
  · rw [fi] at h1 h4
    rw [S_len] at h2
    have hk := (S_get l k h2).mp h3
    rw [hd k h1] at hk
    have a1 : ¬ k - pl < onesL (l.drop pl) := fun z => onesL_lt _ _ z hk
    have a2 : ¬ onesL (l.drop pl) < k - pl := fun z => by
      have a := onesL_at (l.drop pl) (by rw [List.length_drop]; omega)
      refine h4 (pl + onesL (l.drop pl)) (by omega) (by omega) ((S_get l _ (by omega)).mpr ?_)
      rw [hd _ (by omega), show pl + onesL (l.drop pl) - pl = onesL (l.drop pl) by omega]
      exact a
    have e2 : k = pl + onesL (l.drop pl) := by omega
    unfold fzI
    rw [if_pos (by omega), ← e2]
    exact e
def rdC (l : List Nat) (pl k : Nat) : Option (Nat × Nat) :=
  if pl + onesL (l.drop pl) < l.length then
    if l.length < pl + onesL (l.drop pl) + 1 + (if onesL (l.drop pl) < 20 then k else onesL (l.drop pl) - 19) then none
    else if onesL (l.drop pl) < 20 then some (onesL (l.drop pl) * 2 ^ k + valB ((l.drop (pl + onesL (l.drop pl) + 1)).take k), pl + onesL (l.drop pl) + 1 + k)
    else if (l.drop (pl + onesL (l.drop pl) + 1))[0]? = some 48 ∨ valB ((l.drop (pl + onesL (l.drop pl) + 1)).take (onesL (l.drop pl) - 19)) / 2 ^ k < 20 then none
    else some (valB ((l.drop (pl + onesL (l.drop pl) + 1)).take (onesL (l.drop pl) - 19)), pl + onesL (l.drop pl) + 1 + (onesL (l.drop pl) - 19))
  else none
theorem binB_head {u : Nat} (h : u ≠ 0) : (binB u)[0]? = some 49 := by
  unfold binB
  obtain ⟨m, hm⟩ : ∃ m, nb u = m + 1 := ⟨nb u - 1, by have := nb_pos u; omega⟩
  have h1 := nb_le h
  have h2 := nb_lt u
  rw [hm] at h1 h2 ⊢
  rw [lowB_front]
  have e : u / 2 ^ m = 1 := by
    have h3 : 2 ^ m ≤ u := h1
    rw [Nat.pow_succ] at h2
    have a := (Nat.le_div_iff_mul_le (Nat.two_pow_pos m)).mpr (show 1 * 2 ^ m ≤ u by omega)
    have b := (Nat.div_lt_iff_lt_mul (Nat.two_pow_pos m)).mpr (show u < 2 * 2 ^ m by omega)
    omega
  rw [e]
  rfl
theorem rdC_good (pre post : List Nat) (u k : Nat) : rdC (pre ++ (encB u k ++ post)) pre.length k = some (u, pre.length + (encB u k).length) := by
  have hd : (pre ++ (encB u k ++ post)).drop pre.length = encB u k ++ post := List.drop_left
  have hd2 : ∀ n, (pre ++ (encB u k ++ post)).drop (pre.length + n) = (encB u k ++ post).drop n := fun n => by rw [← List.drop_drop, hd]
  have hl : (pre ++ (encB u k ++ post)).length = pre.length + ((encB u k).length + post.length) := by rw [List.length_append, List.length_append]
  by_cases c : u / 2 ^ k < 20
  · have e : encB u k = List.replicate (u / 2 ^ k) 49 ++ 48 :: lowB u k := by
      unfold encB
      rw [if_pos c, List.append_assoc]
      rfl
    have el : (encB u k).length = u / 2 ^ k + 1 + k := by
      rw [e, List.length_append, List.length_replicate, List.length_cons, lowB_length]
      omega
    have o : onesL (encB u k ++ post) = u / 2 ^ k := by
      rw [e, List.append_assoc]
      exact onesL_rep _ _
    have dd : ((pre ++ (encB u k ++ post)).drop (pre.length + u / 2 ^ k + 1)).take k = lowB u k := by
      rw [Nat.add_assoc, hd2, e, List.append_assoc, List.cons_append]
      rw [show u / 2 ^ k + 1 = (List.replicate (u / 2 ^ k) 49).length + 1 by rw [List.length_replicate]]
      rw [← List.drop_drop, List.drop_left]
      show (lowB u k ++ post).take k = lowB u k
      exact List.take_left' (lowB_length u k)
    unfold rdC
    rw [hd, o, if_pos (by rw [hl, el]; omega), if_pos c, if_neg (by rw [hl, el]; omega), if_pos c, dd, valB_lowB, el]
    rw [Nat.mul_comm, Nat.div_add_mod]
    congr 2
    omega
  · have hu : u ≠ 0 := fun z => c (by rw [z, Nat.zero_div]; decide)
    have hnb := nb_pos u
    have e : encB u k = List.replicate (19 + nb u) 49 ++ 48 :: binB u := by
      unfold encB
      rw [if_neg c, List.append_assoc]
      rfl
    have el : (encB u k).length = 19 + nb u + 1 + nb u := by
      rw [e, List.length_append, List.length_replicate, List.length_cons, binB_length]
      omega
    have o : onesL (encB u k ++ post) = 19 + nb u := by
      rw [e, List.append_assoc]
      exact onesL_rep _ _
    have dd : (pre ++ (encB u k ++ post)).drop (pre.length + (19 + nb u) + 1) = binB u ++ post := by
      rw [Nat.add_assoc, hd2, e, List.append_assoc, List.cons_append]
      rw [show 19 + nb u + 1 = (List.replicate (19 + nb u) 49).length + 1 by rw [List.length_replicate]]
      rw [← List.drop_drop, List.drop_left]
      rfl
    have tk : (binB u ++ post).take (nb u) = binB u := List.take_left' (binB_length u)
    have vb : valB (binB u) = u := by
      unfold binB
      rw [valB_lowB, Nat.mod_eq_of_lt (nb_lt u)]
    have hh : (binB u ++ post)[0]? = some 49 := by
      rw [List.getElem?_append_left (by rw [binB_length]; omega)]
      exact binB_head hu
    unfold rdC
    rw [hd, o, if_pos (by rw [hl, el]; omega), if_neg (show ¬ 19 + nb u < 20 by omega), show 19 + nb u - 19 = nb u by omega, if_neg (by rw [hl, el]; omega), if_neg (show ¬ 19 + nb u < 20 by omega), dd, tk, vb, hh, if_neg, el]
    · congr 2
      omega
    · intro z
      rcases z with z | z
      · cases z
      · exact c z
def unU (u : Nat) : Int := if u % 2 = 0 then ((u / 2 : Nat) : Int) else -((u / 2 : Nat) : Int) - 1
theorem unU_uOf (n : Int) : unU (uOf n) = n := by
  have e := uOf_eq n
  unfold unU
  unfold codeU at e
  split at e <;> split <;> omega
theorem tw_all (p : Nat → Bool) : ∀ l : List Nat, (∀ c ∈ l, p c = true) → l.takeWhile p = l
  | [], _ => rfl
  | c :: r, h => by
    rw [List.takeWhile_cons, if_pos (h c List.mem_cons_self), tw_all p r fun d hd => h d (List.mem_cons_of_mem _ hd)]
theorem strip_B {l : List Nat} (h : ∀ c ∈ l, IsB c) : Txt.stripChars (S l) (S [48, 49]) = S [] := by
  have hc : ∀ c ∈ l, (S [48, 49]).cps.contains c = true := fun c hc => by
    rcases h c hc with e | e
    · rw [e]; decide +kernel
    · rw [e]; decide +kernel
  have tw : l.takeWhile (S [48, 49]).cps.contains = l := tw_all _ l hc
  have lo : stripLo (S [48, 49]).cps.contains true (S l) = l.length := by
    unfold stripLo
    rw [if_pos rfl]
    show (l.takeWhile _).length = _
    rw [tw]
  have hi : stripHi (S [48, 49]).cps.contains true (S l) l.length = l.length := by
    unfold stripHi
    rw [if_pos rfl]
    show (S l).length - ((l.drop l.length).reverse.takeWhile _).length = _
    rw [List.drop_length, S_len]
    rfl
  unfold Txt.stripChars Txt.stripBy
  cases hs : stripSame (S [48, 49]).cps.contains true true (S l) with
  | true =>
    rw [if_pos rfl]
    unfold stripSame at hs
    rw [lo, Bool.and_eq_true, beq_iff_eq] at hs
    rw [List.length_eq_zero_iff.mp hs.1]
  | false =>
    rw [if_neg Bool.false_ne_true]
    unfold stripped
    rw [lo, hi]
    refine TL.ext_tl ?_
    rw [TL.tl_strSub]
    simp
def rFind3 : V → List V → Hp → VK → Prop := fun x xs H Q => ∃ (a b : Str) (i : Int), x = .str a ∧ xs = [.str b, .int i] ∧ Q (.int (Txt.find3 a b i)) H
theorem mt_find3K {X : Cx} : MtR X "str.find" rFind3 := mt_find3
def rStripC : V → List V → Hp → VK → Prop := fun x xs H Q => ∃ a b, x = .str a ∧ xs = [.str b] ∧ a.length ≤ sizeLine ∧ Q (.str (Txt.stripChars a b)) H
theorem mt_stripK {X : Cx} : MtR X "str.strip" rStripC := mt_stripChars
section
variable {H : Hp} {Q : VK}
theorem rd_find {l : List Nat} {x : Str} {pl : Nat} (e : x = S [48]) (hpl : pl ≤ l.length) (h : Q (.int (fzI l pl)) H) : rFind3 (.str (S l)) [.str x, .int (pl : Int)] H Q := ⟨S l, x, (pl : Int), rfl, rfl, by rw [e, find_S l pl hpl]; exact h⟩
theorem rd_strip {l : List Nat} {x : Str} (e : x = S [48, 49]) (hl : l.length ≤ 16777216) (hb : ∀ c ∈ l, IsB c) (h : Q (.str (S [])) H) : rStripC (.str (S l)) [.str x] H Q := ⟨S l, x, rfl, rfl, by rw [S_len]; exact hl, by rw [e, strip_B hb]; exact h⟩
theorem rd_intB {l : List Nat} (hne : l ≠ []) (hl : l.length ≤ 640) (hb : ∀ c ∈ l, IsB c) (h : Q (.int ((valB l : Nat) : Int)) H) : rIntB [.str (S l), .int 2] H Q := ⟨l, rfl, hne, hl, hb, h⟩
theorem rd_slSM {l : List Nat} {a b : Nat} (ha : a ≤ l.length) (hb : b ≤ l.length) (hl : l.length ≤ 16777216) (h : Q (.str (S ((l.drop a).take (b - a)))) H) : C8.rSlX (.str (S l)) (some (a : Int)) (some (b : Int)) H Q := by
  refine ⟨S l, rfl, by rw [S_len]; exact hl, ?_⟩
  rw [← C8.cutS_slice]
  unfold cutS
  rw [S_len, HT.sIx_nat, HT.sIx_nat, Nat.min_eq_left ha, Nat.min_eq_left hb]
  exact h
end
theorem valB_zero (l : List Nat) : valB (48 :: l) = valB l := rfl
def spRdC : Sp := fun vs H Q _ => ∃ (l : List Nat) (pl k : Nat), vs = [.str (S l), .int (pl : Int), .int (k : Int)] ∧ (∀ c ∈ l, IsB c) ∧ l.length ≤ 1000000 ∧ pl ≤ l.length ∧ k ≤ 600 ∧ onesL (l.drop pl) ≤ 600 ∧ (rdC l pl k = none → Q .non H) ∧
  ∀ u e, rdC l pl k = some (u, e) → ∀ p, H p = none → Q (.ref p) (upd H p (.tup [.int ((u : Nat) : Int), .int ((e : Nat) : Int)]))
theorem use_rdC {l : List Nat} {pl k u e : Nat} {H : Hp} {Q : VK} {E : XK} (h1 : ∀ c ∈ l, IsB c) (h2 : l.length ≤ 1000000) (h3 : pl ≤ l.length) (h4 : k ≤ 600) (h5 : onesL (l.drop pl) ≤ 600) (h6 : rdC l pl k = some (u, e))
    (q : ∀ p, H p = none → Q (.ref p) (upd H p (.tup [.int ((u : Nat) : Int), .int ((e : Nat) : Int)]))) : spRdC ([.str (S l), .int (pl : Int), .int (k : Int)] ++ []) H Q E :=
  ⟨l, pl, k, rfl, h1, h2, h3, h4, h5, fun z => (by rw [h6] at z; cases z), fun u' e' z => (by rw [h6] at z; cases z; exact q)⟩
def spNumW : Sp := fun vs H Q _ => ∃ u : Nat, vs = [.int (u : Int)] ∧ Q (.int (unU u)) H
theorem use_numW {u : Nat} {H : Hp} {Q : VK} {E : XK} (q : Q (.int (unU u)) H) : spNumW ([.int (u : Int)] ++ []) H Q E := ⟨u, rfl, q⟩
/-- reading what was written -/
def spRd (K : PySem.W.Frag) : Sp := fun vs H Q _ => ∃ (ns : List Int) (first : Nat) (b : Addr) (T : Tb × Tb), vs = [.str (S (wst ns first T ns.length).1.flatten), .int (ns.length : Nat), .int (first : Int), .ref b] ∧ ns.length ≤ 64 ∧ first ≤ ns.length ∧ (∀ z ∈ ns, z.natAbs < 10 ^ 55) ∧ TbsV K H b T ∧ TbOk (10 ^ 58) T.1 ∧ TbOk (10 ^ 58) T.2 ∧
  ∀ p m q H', Same H H' → H p = none → H' p = some (.tup [.ref m, .ref q]) → H' m = some (.lst (ns.map V.int)) → TbsV K H' q (wst ns first T ns.length).2 → Q (.ref p) H'
theorem wst_bin (ns : List Int) (first : Nat) (T : Tb × Tb) : ∀ i, ∀ c ∈ (wst ns first T i).1.flatten, IsB c
  | 0, c, h => absurd h List.not_mem_nil
  | i + 1, c, h => by
    by_cases d : i < first
    · rw [wst_lo d, List.flatten_append] at h
      rcases List.mem_append.mp h with h | h
      · exact wst_bin ns first T i c h
      · rw [List.flatten_cons, List.flatten_nil, List.append_nil] at h
        exact encB_bin _ _ c h
    · rw [wst_hi d, List.flatten_append] at h
      rcases List.mem_append.mp h with h | h
      · exact wst_bin ns first T i c h
      · rw [List.flatten_cons, List.flatten_nil, List.append_nil] at h
        exact encB_bin _ _ c h
/-- what stands behind the i-th word -/
theorem wst_split (ns : List Int) (first : Nat) (T : Tb × Tb) (i : Nat) : ∀ n, i ≤ n → ∃ post, (wst ns first T n).1.flatten = (wst ns first T i).1.flatten ++ post
  | 0, h => by
    obtain rfl : i = 0 := by omega
    exact ⟨[], (List.append_nil _).symm⟩
  | n + 1, h => by
    by_cases e : i = n + 1
    · subst e
      exact ⟨[], (List.append_nil _).symm⟩
    · obtain ⟨post, hp⟩ := wst_split ns first T i n (by omega)
      by_cases d : n < first
      · rw [wst_lo d, List.flatten_append, hp, List.append_assoc]
        exact ⟨_, rfl⟩
      · rw [wst_hi d, List.flatten_append, hp, List.append_assoc]
        exact ⟨_, rfl⟩
theorem ones_enc (u k : Nat) (post : List Nat) (h : nb u ≤ 200) : onesL (encB u k ++ post) ≤ 600 := by
  unfold encB
  split
  · rw [List.append_assoc, List.append_assoc]
    show onesL (List.replicate (u / 2 ^ k) 49 ++ 48 :: _) ≤ 600
    rw [onesL_rep]
    omega
  · rw [List.append_assoc, List.append_assoc]
    show onesL (List.replicate (19 + nb u) 49 ++ 48 :: _) ≤ 600
    rw [onesL_rep]
    omega
theorem use_rd {K : PySem.W.Frag} {ns : List Int} {first n : Nat} {b : Addr} {T : Tb × Tb} {l : List Nat} {H : Hp} {Q : VK} {E : XK} (e : l = (wst ns first T ns.length).1.flatten) (en : n = ns.length) (h1 : ns.length ≤ 64) (h2 : first ≤ ns.length) (h3 : ∀ z ∈ ns, z.natAbs < 10 ^ 55) (h4 : TbsV K H b T) (o1 : TbOk (10 ^ 58) T.1) (o2 : TbOk (10 ^ 58) T.2)
    (q : ∀ p m q H', Same H H' → H p = none → H' p = some (.tup [.ref m, .ref q]) → H' m = some (.lst (ns.map V.int)) → TbsV K H' q (wst ns first T ns.length).2 → Q (.ref p) H') : spRd K ([.str (S l), .int (n : Nat), .int (first : Int), .ref b] ++ []) H Q E := by
  subst e en
  exact ⟨ns, first, b, T, rfl, h1, h2, h3, h4, o1, o2, q⟩
theorem rd_notBl {a : Bool} {H : Hp} {Q : VK} (h : Q (.bl (!decide (a = true))) H) : rNotB (.bl a) (.bl true) H Q := by
  first
    | exact ⟨a, true, rfl, rfl, h⟩
    | (refine ⟨_, _, rfl, rfl, ?_⟩; cases a <;> exact h)
end Z
namespace Z
open PySem PySem.Spec PyProof.Rows L2
open SX (S S_len S_cat S_inj)
def bitsOf (z : Str) : Bool := decide (V.str (Txt.stripChars z (S [48, 49])) = V.str (Str.ofString ""))
inductive BitR (H : Hp) : V → Bool → Prop where
  | str {z : Str} (h : z.length ≤ 1000) : BitR H (.str z) (bitsOf z)
  | non : BitR H .non false
  | int {i : Int} : BitR H (.int i) false
  | lst {a : Addr} {xs : List V} (h : H a = some (.lst xs)) : BitR H (.ref a) false
def layB (ln : V) (b : Bool) (lv st : V) : Bool := (inI ln 1 64 && b) && (inI lv 0 5 && inI st 1 64)
def frB (v0 ln : V) (b : Bool) (lv st mk : V) (c : Bool) : Bool := decide (v0 = V.str (Str.ofString "frame")) && (layB ln b lv st && (inI mk 0 9972 && c))
inductive RecR (H : Hp) : V → Bool → Prop where
  | flat {x : V} (h : scalarV x = true) : RecR H x false
  | lst {a : Addr} {xs : List V} (h : H a = some (.lst xs)) : RecR H (.ref a) false
  | tupn {a : Addr} {xs : List V} (h : H a = some (.tup xs)) (n : xs.length ≠ 2) (m : xs.length ≠ 7) : RecR H (.ref a) false
  | st {a : Addr} {s : Str} {v : V} {b : Bool} (h : H a = some (.tup [.str s, v])) (hv : TSR H v b) : RecR H (.ref a) (decide (V.str s = V.str (Str.ofString "state")) && b)
  | fr {a : Addr} {v0 ln jt lv st mk bt : V} {b c : Bool} (h : H a = some (.tup [v0, ln, jt, lv, st, mk, bt])) (h0 : scalarV v0 = true) (hl : TyV H ln) (hj : JR H jt b) (h3 : TyV H lv) (h4 : TyV H st) (h5 : TyV H mk) (hb : BitR H bt c) : RecR H (.ref a) (frB v0 ln b lv st mk c)
section
variable {H H' : Hp} {x : V} {b : Bool}
theorem tyv_same (s : Same H H') (h : TyV H x) : TyV H' x := by
  cases x with
  | ref a =>
    rcases h with ⟨xs, h⟩ | ⟨xs, h⟩
    · exact .inl ⟨xs, s _ _ h⟩
    · exact .inr ⟨xs, s _ _ h⟩
  | _ => exact h
theorem JR.same (s : Same H H') (h : JR H x b) : JR H' x b := by
  cases h with
  | flat h => exact .flat h
  | lst h => exact .lst (s _ _ h)
  | tupn h n => exact .tupn (s _ _ h) n
  | tup2 h hu hv => exact .tup2 (s _ _ h) (tyv_same s hu) (tyv_same s hv)
theorem TR.same (s : Same H H') (h : TR H x b) : TR H' x b := by
  cases h with
  | flat h => exact .flat h
  | lst h => exact .lst (s _ _ h)
  | tupn h n => exact .tupn (s _ _ h) n
  | tup2 h hu hv => exact .tup2 (s _ _ h) (tyv_same s hu) (tyv_same s hv)
theorem TSR.same (s : Same H H') (h : TSR H x b) : TSR H' x b := by
  cases h with
  | flat h => exact .flat h
  | lst h => exact .lst (s _ _ h)
  | tupn h n => exact .tupn (s _ _ h) n
  | tup2 h hu hv => exact .tup2 (s _ _ h) (hu.same s) (hv.same s)
theorem BitR.same (s : Same H H') (h : BitR H x b) : BitR H' x b := by
  cases h with
  | str h => exact .str h
  | non => exact .non
  | int => exact .int
  | lst h => exact .lst (s _ _ h)
theorem RecR.same (s : Same H H') (h : RecR H x b) : RecR H' x b := by
  cases h with
  | flat h => exact .flat h
  | lst h => exact .lst (s _ _ h)
  | tupn h n m => exact .tupn (s _ _ h) n m
  | st h hv => exact .st (s _ _ h) (hv.same s)
  | fr h h0 hl hj h3 h4 h5 hb => exact .fr (s _ _ h) h0 (tyv_same s hl) (hj.same s) (tyv_same s h3) (tyv_same s h4) (tyv_same s h5) (hb.same s)
end
theorem rd_slTp {K : PySem.W.Frag} {H : Hp} {Q : VK} {a : Addr} {xs : List V} {lo hi : Option Int} {ys : List V} (h : SqT K H a xs) (e : cutV xs lo hi = ys) (n : ¬ (HT.sIx xs.length 0 lo = 0 ∧ HT.sIx xs.length xs.length hi = xs.length)) (q : ∀ p, H p = none → Q (.ref p) (upd H p (.tup ys))) : rSlT K (.ref a) lo hi H Q := ⟨a, xs, rfl, h, n, fun p hp => by rw [e]; exact q p hp⟩
inductive GR (H : Hp) (a : Addr) : Nat → Prop where
  | st {v : V} (h : H a = some (.tup [.str (Str.ofString "state"), v])) (hv : TSR H v true) : GR H a 80
  | fr {ln lv st mk : Int} {jt : V} {l : List Nat} (h : H a = some (.tup [.str (Str.ofString "frame"), .int ln, jt, .int lv, .int st, .int mk, .str (S l)])) (hj : JR H jt true) (h1 : inI (.int ln) 1 64 = true) (h2 : inI (.int lv) 0 5 = true) (h3 : inI (.int st) 1 64 = true) (h4 : inI (.int mk) 0 9972 = true) (hl : l.length ≤ 1000) (hb : ∀ c ∈ l, IsB c) : GR H a (40 + l.length)
theorem GR.same {H H' : Hp} {a : Addr} {n : Nat} (s : Same H H') (h : GR H a n) : GR H' a n := by
  cases h with
  | st h hv => exact .st (s _ _ h) (hv.same s)
  | fr h hj h1 h2 h3 h4 hl hb => exact .fr (s _ _ h) (hj.same s) h1 h2 h3 h4 hl hb
theorem GR.tup {H : Hp} {a : Addr} {n : Nat} (h : GR H a n) : ∃ xs, H a = some (.tup xs) := by
  cases h with
  | st h _ => exact ⟨_, h⟩
  | fr h _ _ _ _ _ _ _ => exact ⟨_, h⟩
theorem st_ne_fr : ¬ V.str (Str.ofString "frame") = V.str (Str.ofString "state") := by decide
/-- what spoils a frame at a place -/
def Bad (H : Hp) : Nat → V → Prop
  | 0, v => scalarV v = true ∧ v ≠ V.str (Str.ofString "frame")
  | 1, v => TyV H v ∧ inI v 1 64 = false
  | 2, v => JR H v false
  | 3, v => TyV H v ∧ inI v 0 5 = false
  | 4, v => TyV H v ∧ inI v 1 64 = false
  | 5, v => TyV H v ∧ inI v 0 9972 = false
  | 6, v => BitR H v false
  | _, _ => False
theorem Bad.same {H H' : Hp} (s : Same H H') : ∀ {n : Nat} {v : V}, Bad H n v → Bad H' n v
  | 0, _, h => h
  | 1, _, h => ⟨tyv_same s h.1, h.2⟩
  | 2, _, h => JR.same s h
  | 3, _, h => ⟨tyv_same s h.1, h.2⟩
  | 4, _, h => ⟨tyv_same s h.1, h.2⟩
  | 5, _, h => ⟨tyv_same s h.1, h.2⟩
  | 6, _, h => BitR.same s h
  | _ + 7, _, h => h
def frL (j : Addr) : List V := [.str (Str.ofString "frame"), .int 4, .ref j, .int 2, .int 1, .int 7, .str (Str.ofString "010")]
theorem tr_ok {H : Hp} {r : Addr} {t c : Int} (h : H r = some (.tup [.int t, .int c])) (h0 : 0 ≤ t) (h1 : 1 ≤ c) (h2 : c ≤ 15) : TR H (.ref r) true := by
  have z := TR.tup2 h trivial trivial
  rw [show tt (.int t) (.int c) = true by rw [tt_int, decide_eq_true h0]; simp [inI, h1, h2]] at z
  exact z
def msk (p : Addr) (H : Hp) : Hp := fun a => if a = p then none else H a
section
variable {p a : Addr} {H H' : Hp} {o : HO}
theorem msk_same (s : Same H H') : Same (msk p H) (msk p H') := fun b x e => by
  unfold msk at e ⊢
  split at e
  · cases e
  · rename_i n
    rw [if_neg n]
    exact s _ _ e
end
/-- the tables and the frame of the law's bad records -/
def OS (p tl fr j : Addr) (xs : List V) (G : Hp) : Prop := msk p G tl = some (.lst xs) ∧ xs.length ≤ 20 ∧ (∀ v ∈ xs, TSR (msk p G) v false) ∧ msk p G fr = some (.lst (frL j)) ∧ msk p G j = some (.tup [.int 1, .int 2])
theorem OS.same {p tl fr j : Addr} {xs : List V} {G G' : Hp} (s : Same G G') (h : OS p tl fr j xs G) : OS p tl fr j xs G' := ⟨msk_same s _ _ h.1, h.2.1, fun v hv => (h.2.2.1 v hv).same (msk_same s), msk_same s _ _ h.2.2.2.1, msk_same s _ _ h.2.2.2.2⟩
def Fld (G : Hp) (i : Nat) (v : V) : Prop := ∃ a xs, v = .ref a ∧ G a = some (.lst xs) ∧ xs.length ≤ 10 ∧ ∀ x ∈ xs, Bad G i x
theorem Fld.same {G G' : Hp} (s : Same G G') {i : Nat} {v : V} (h : Fld G i v) : Fld G' i v := let ⟨a, xs, e, e1, n, b⟩ := h; ⟨a, xs, e, s _ _ e1, n, fun x hx => (b x hx).same s⟩
def FldL (G : Hp) (fs : List V) : Prop := ∀ (i : Nat) v, fs[i]? = some v → Fld G i v
theorem FldL.same {G G' : Hp} (s : Same G G') {fs : List V} (h : FldL G fs) : FldL G' fs := fun i v e => (h i v e).same s
theorem FldL.app {G : Hp} {fs ys : List V} (h : FldL G fs) (k : ∀ (i : Nat) v, ys[i]? = some v → Fld G (fs.length + i) v) : FldL G (fs ++ ys) := fun i v e => by
  by_cases c : i < fs.length
  · rw [List.getElem?_append_left c] at e
    exact h i v e
  · rw [List.getElem?_append_right (by omega)] at e
    have z := k _ v e
    rw [show fs.length + (i - fs.length) = i by omega] at z
    exact z
theorem FldL.nil {G : Hp} : FldL G [] := fun i v e => by simp at e
end Z
namespace Z
open PySem PySem.Spec PyProof.Rows L2
/-- told: what the errors of a call become, and what its end becomes -/
def ErM (L : List (Addr × Str × (V → List V))) (Q : VK) : XK := fun cls d H' => ∃ e ∈ L, ErL e.1 e.2.1 e.2.2 Q cls d H'
def TTm (L : List (Addr × Str × (V → List V))) (Fin : V → Hp → VK → Prop) : (XK → Hp → VK → Prop) → Hp → VK → Prop := fun tl H Q => ∀ Qn : VK, (∀ v H', Fin v H' Q → Qn v H') → tl (ErM L Q) H Qn
theorem rd_toldM {L : List (Addr × Str × (V → List V))} {Fin : V → Hp → VK → Prop} {tl : XK → Hp → VK → Prop} {H : Hp} {Q : VK} (h : ∀ Qn : VK, (∀ v H', Fin v H' Q → Qn v H') → tl (ErM L Q) H Qn) : TTm L Fin tl H Q := h
def mk2 (t : Str) : V → List V := fun v => [.str t, v]
/-- the first item that is no integer -/
inductive IT (H : Hp) (xs : List V) : Option Nat → Prop where
  | bad {i : Nat} {v : V} (b : ∀ j, j < i → ∃ z, xs[j]? = some (.int z)) (e : xs[i]? = some v) (n : isI v = false) (t : ∀ x ∈ xs, TyV H x) : IT H xs (some i)
  | good {ns : List Int} (e : xs = ns.map V.int) : IT H xs none
theorem tyvS {H H' : Hp} {v : V} (s : Same H H') (h : TyV H v) : TyV H' v := by
  cases v with
  | ref a => exact h.elim (fun ⟨xs, e⟩ => .inl ⟨xs, s _ _ e⟩) fun ⟨xs, e⟩ => .inr ⟨xs, s _ _ e⟩
  | _ => exact h
theorem IT.same {H H' : Hp} {xs : List V} {o : Option Nat} (s : Same H H') (h : IT H xs o) : IT H' xs o := by
  cases h with
  | bad b e n t => exact .bad b e n fun x hx => tyvS s (t x hx)
  | good e => exact .good e
theorem IT.at {H : Hp} {xs : List V} {o : Option Nat} {i : Nat} {v : V} (h : IT H xs o) (e : xs[i]? = some v) (hi : ∀ k, o = some k → i ≤ k) : (o = some i ∧ isI v = false ∧ TyV H v) ∨ (∃ z, v = .int z) ∧ ∀ k, o = some k → i + 1 ≤ k := by
  cases h with
  | @bad k u b eu n t =>
    have hk := hi k rfl
    by_cases hik : i = k
    · subst hik
      rw [e] at eu
      cases eu
      exact .inl ⟨rfl, n, t v (List.mem_of_getElem? e)⟩
    · obtain ⟨z, hz⟩ := b i (by omega)
      rw [e] at hz
      cases hz
      exact .inr ⟨⟨z, rfl⟩, fun k' e' => by cases e'; omega⟩
  | @good ns eu =>
    subst eu
    rw [List.getElem?_map] at e
    cases g : ns[i]? with
    | none => rw [g] at e; cases e
    | some z => rw [g] at e; cases e; exact .inr ⟨⟨z, rfl⟩, fun k' e' => nomatch e'⟩
theorem IT.len {H : Hp} {xs : List V} {o : Option Nat} (h : IT H xs o) (hi : ∀ k, o = some k → xs.length ≤ k) : o = none := by
  cases h with
  | bad b e n t => exact absurd (hi _ rfl) (Nat.not_le.mpr (List.getElem?_eq_some_iff.mp e).1)
  | good e => rfl
/-- what a block check says of a value -/
inductive BR (H : Hp) : V → Option V → Prop where
  | flat {x : V} (h : scalarV x = true) : BR H x (some .non)
  | tup {a : Addr} {xs : List V} (h : H a = some (.tup xs)) : BR H (.ref a) (some .non)
  | size {a : Addr} {xs : List V} (h : H a = some (.lst xs)) (n : ¬ (1 ≤ xs.length ∧ xs.length ≤ 64)) (m : xs.length ≤ 1000) : BR H (.ref a) (some .non)
  | item {a : Addr} {xs : List V} {o : Option Nat} (h : H a = some (.lst xs)) (n1 : 1 ≤ xs.length) (n2 : xs.length ≤ 64) (t : IT H xs o) : BR H (.ref a) (o.map fun i => .int (i : Nat))
theorem BR.same {H H' : Hp} {x : V} {o : Option V} (s : Same H H') (h : BR H x o) : BR H' x o := by
  cases h with
  | flat h => exact .flat h
  | tup h => exact .tup (s _ _ h)
  | size h n m => exact .size (s _ _ h) n m
  | item h n1 n2 t => exact .item (s _ _ h) n1 n2 (t.same s)
theorem BR.fine {H : Hp} {x : V} (h : BR H x none) : ∃ (a : Addr) (ns : List Int), x = .ref a ∧ H a = some (.lst (ns.map V.int)) ∧ 1 ≤ ns.length ∧ ns.length ≤ 64 := by
  obtain ⟨o, ho, h⟩ : ∃ o : Option V, o = none ∧ BR H x o := ⟨_, rfl, h⟩
  cases h with
  | flat _ => cases ho
  | tup _ => cases ho
  | size _ _ _ => cases ho
  | @item a xs o h n1 n2 t =>
    cases t with
    | bad _ _ _ _ => cases ho
    | @good ns e =>
      subst e
      rw [List.length_map] at n1 n2
      exact ⟨a, ns, rfl, h, n1, n2⟩
theorem BR.ty {H : Hp} {x : V} {o : Option V} (h : BR H x o) : TyV H x := by
  cases h with
  | flat h => cases x <;> first | exact True.intro | exact Bool.noConfusion h
  | tup h => exact .inr ⟨_, h⟩
  | size h _ _ => exact .inl ⟨_, h⟩
  | item h _ _ _ => exact .inl ⟨_, h⟩
def scOk : V → Bool
  | .non => true
  | .bl _ => true
  | .int _ => true
  | .str s => PyData.strOk s
  | _ => false
theorem scOk.sc {v : V} (h : scOk v = true) : scalarV v = true := by cases v <;> first | rfl | exact Bool.noConfusion h
def EV (l : List Addr) (H : Hp) (v : V) : Prop := scOk v = true ∨ ∃ a xs, v = .ref a ∧ a ∉ l ∧ (H a = some (.lst xs) ∨ H a = some (.tup xs)) ∧ ∀ x ∈ xs, scOk x = true
def KpLN (l : List Addr) (H H' : Hp) : Prop := ∀ a o, a ∉ l → H a = some o → (∀ ps, o ≠ .tbl ps) → H' a = some o
section
variable {l : List Addr} {p q : Addr} {H H' H1 H2 : Hp} {o : HO} {v : V} {K : PySem.W.Frag}
theorem nm_cons {a b : Addr} {m : List Addr} (h : a ≠ b) (k : a ∉ m) : a ∉ b :: m := fun z => (List.mem_cons.mp z).elim h k
theorem ne_new {a b : Addr} {u : HO} (h : H a = none) (k : H b = some u) : a ≠ b := fun z => by rw [z, k] at h; cases h
theorem ixN_int {n : Nat} {r : Int} (h0 : 0 ≤ r) (h1 : r < n) : ixN n r = some r.toNat := by
  obtain ⟨j, rfl⟩ : ∃ j : Nat, r = (j : Int) := ⟨r.toNat, by omega⟩
  exact ixN_nat (by omega)
theorem KpLN.refl : KpLN l H H := fun _ _ _ h _ => h
theorem KpLN.trans (a : KpLN l H H1) (b : KpLN l H1 H2) : KpLN l H H2 := fun c o n h t => b c o n (a c o n h t) t
theorem KpLN.ofL (k : KpL l H H') : KpLN l H H' := fun a o n h _ => k a o n h
theorem KpLN.of (s : Same H H') : KpLN l H H' := fun a o _ h _ => s a o h
theorem KpLN.ofN (s : LamX.ExtN H H') : KpLN l H H' := fun a o _ h t => s a o h t
theorem KpLN.ofK (m : p ∈ l) (k : Kp p H H') : KpLN l H H' := .ofL (KpL.ofK m k)
theorem KpLN.new (n : H q = none) : KpLN l H (upd H q o) := .of (same_new n)
theorem KpLN.at (m : q ∈ l) : KpLN l H (upd H q o) := .ofL (KpL.at m)
theorem EV.kp (k : KpLN l H H') (h : EV l H v) : EV l H' v := by
  rcases h with h | ⟨a, xs, e, n, h | h, s⟩
  · exact .inl h
  · exact .inr ⟨a, xs, e, n, .inl (k _ _ n h lst_ntbl), s⟩
  · exact .inr ⟨a, xs, e, n, .inr (k _ _ n h tup_ntbl), s⟩
theorem EV.set {xs : List V} {j : Nat} {S : Addr} {u : HO} (h : ∀ x ∈ xs, EV l H x) (hv : EV l H v) (m : S ∈ l) : ∀ x ∈ xs.set j v, EV l (upd H S u) x := fun x hx => by
  have k : KpLN l H (upd H S u) := .at m
  rcases List.mem_or_eq_of_mem_set hx with hx | rfl
  · exact (h x hx).kp k
  · exact hv.kp k
theorem EV.ty (h : EV l H v) : TyV H v := by
  rcases h with h | ⟨a, xs, rfl, _, h | h, _⟩
  · cases v <;> first | exact True.intro | exact Bool.noConfusion h
  · exact .inl ⟨xs, h⟩
  · exact .inr ⟨xs, h⟩
theorem EV.sm (h : EV l H v) : SmV K H 1 v v := by
  rcases h with h | ⟨a, xs, rfl, _, h | h, s⟩
  · exact .inl ⟨rfl, scOk.sc h⟩
  · exact .inr (.inl ⟨a, a, xs, xs, rfl, rfl, .of h, .of h, rfl, fun i x y e1 e2 => by
      rw [e1] at e2
      exact ⟨Option.some.inj e2, scOk.sc (s x (List.mem_of_getElem? e1))⟩⟩)
  · exact .inr (.inr ⟨a, a, xs, xs, rfl, rfl, .of h, .of h, rfl, fun i x y e1 e2 => by
      rw [e1] at e2
      exact ⟨Option.some.inj e2, scOk.sc (s x (List.mem_of_getElem? e1))⟩⟩)
theorem EV.sc (h : scOk v = true) : EV l H v := .inl h
theorem EV.lst {a : Addr} {xs : List V} (n : a ∉ l) (h : H a = some (.lst xs)) (s : ∀ x ∈ xs, scOk x = true) : EV l H (.ref a) := .inr ⟨a, xs, rfl, n, .inl h, s⟩
theorem EV.tup {a : Addr} {xs : List V} (n : a ∉ l) (h : H a = some (.tup xs)) (s : ∀ x ∈ xs, scOk x = true) : EV l H (.ref a) := .inr ⟨a, xs, rfl, n, .inr h, s⟩
theorem all_dp {P : V → Prop} {m : Nat} (hP : ∀ v, P v → ∃ d, Dp K H v d ∧ PyData.canLay0 d = true ∧ PyData.depth d ≤ m) : ∀ xs : List V, (∀ x ∈ xs, P x) → ∃ ds, DpAll K H xs ds ∧ PyData.canLayAll0 ds = true ∧ PyData.depthAll ds ≤ m
  | [], _ => ⟨[], .nil, rfl, Nat.zero_le _⟩
  | x :: r, h => by
    obtain ⟨d, a1, a2, a3⟩ := hP x (h x List.mem_cons_self)
    obtain ⟨ds, b1, b2, b3⟩ := all_dp hP r fun y hy => h y (List.mem_cons_of_mem _ hy)
    exact ⟨d :: ds, .cons a1 b1, by show (_ && _) = true; rw [a2, b2]; rfl, Nat.max_le.mpr ⟨a3, b3⟩⟩
def spOddE : Sp := fun vs H Q _ => ∃ (p : Addr), vs = [.ref p] ∧ Pool H p ∧ ∀ v H', EV [p] H' v → Pool H' p → Kp p H H' → Q v H'
theorem use_oddE {Q : VK} {E : XK} (h : Pool H p) (q : ∀ v H', EV [p] H' v → Pool H' p → Kp p H H' → Q v H') : spOddE ([.ref p] ++ []) H Q E := ⟨p, rfl, h, q⟩
end
def GV (p : Addr) (H : Hp) (xs : List V) (x : V) : Prop := (∃ a, x = .ref a ∧ a ≠ p ∧ H a = some (.lst xs)) ∨ scalarV x = true ∨ ∃ a ys, x = .ref a ∧ a ≠ p ∧ H a = some (.tup ys)
section
variable {p S : Addr} {H H' H1 H2 H3 : Hp} {xs ys : List V} {x : V} {o : Option V} {T : List (Addr × Str)}
theorem GV.kp (k : KpLN [p] H H') (h : GV p H xs x) : GV p H' xs x := by
  rcases h with ⟨a, e, n, h⟩ | h | ⟨a, ys, e, n, h⟩
  · exact .inl ⟨a, e, n, k _ _ (nm_cons n List.not_mem_nil) h lst_ntbl⟩
  · exact .inr (.inl h)
  · exact .inr (.inr ⟨a, ys, e, n, k _ _ (nm_cons n List.not_mem_nil) h tup_ntbl⟩)
theorem tyvE (s : LamX.ExtN H H') (h : TyV H x) : TyV H' x := by
  cases x with
  | ref a => exact h.elim (fun ⟨xs, e⟩ => .inl ⟨xs, s _ _ e lst_ntbl⟩) fun ⟨xs, e⟩ => .inr ⟨xs, s _ _ e tup_ntbl⟩
  | _ => exact h
theorem BR.ext (s : LamX.ExtN H H') (h : BR H x o) : BR H' x o := by
  cases h with
  | flat h => exact .flat h
  | tup h => exact .tup (s _ _ h tup_ntbl)
  | size h n m => exact .size (s _ _ h lst_ntbl) n m
  | item h n1 n2 t =>
    refine .item (s _ _ h lst_ntbl) n1 n2 ?_
    cases t with
    | bad b e n t => exact .bad b e n fun x hx => tyvE s (t x hx)
    | good e => exact .good e
theorem KpLN.drop {l : List Addr} (k : KpLN (S :: l) H H') (n : H S = none) : KpLN l H H' := fun a o m h t => k a o (nm_cons (fun z => by rw [z, n] at h; cases h) m) h t
theorem Tabs.setL (h : H S = some (.lst xs)) (t : LamX.Tabs T H) : LamX.Tabs T (upd H S (.lst ys)) := fun e he => by
  obtain ⟨ps, h1, h2, h3⟩ := t e he
  refine ⟨ps, by rw [upd_ne (fun z => by rw [z, h] at h1; cases h1)]; exact h1, h2, fun pos cv hc => ?_⟩
  obtain ⟨c, e1, e2⟩ := h3 pos cv hc
  exact ⟨c, e1, by rw [upd_ne (fun z => by rw [z, h] at e2; exact codeO_lst (Option.some.inj e2).symm)]; exact e2⟩
theorem Pool.setL (n : S ≠ p) (h : Pool H p) {u : HO} : Pool (upd H S u) p := by
  obtain ⟨x, y, e, r⟩ := h
  exact ⟨x, y, by rw [upd_ne n.symm]; exact e, r⟩
theorem extN_same (s : Same H H') : LamX.ExtN H H' := .of fun b o e => s b o e
end
end Z
namespace Z
open PySem PySem.Spec PyProof.Rows L2
def PV (l : List Addr) (H : Hp) : Nat → V → Prop
  | 0, v => scOk v = true
  | n + 1, v => scOk v = true ∨ ∃ a xs, v = .ref a ∧ a ∉ l ∧ LT H a xs ∧ ∀ x ∈ xs, PV l H n x
section
variable {l : List Addr} {p q S : Addr} {H H' : Hp} {v : V} {K : PySem.W.Frag}
theorem LT.kpln {a : Addr} {xs : List V} (k : KpLN l H H') (n : a ∉ l) (h : LT H a xs) : LT H' a xs := h.imp (fun e => k _ _ n e lst_ntbl) fun e => k _ _ n e tup_ntbl
theorem PV.kp (k : KpLN l H H') : ∀ {n : Nat} {v : V}, PV l H n v → PV l H' n v
  | 0, _, h => h
  | n + 1, v, h => by
    rcases h with h | ⟨a, xs, e, m, h, s⟩
    · exact .inl h
    · exact .inr ⟨a, xs, e, m, h.kpln k m, fun x hx => PV.kp k (s x hx)⟩
theorem PV.sc (h : scOk v = true) : ∀ {n : Nat}, PV l H n v
  | 0 => h
  | _ + 1 => .inl h
theorem PV.up : ∀ {n : Nat} {v : V}, PV l H n v → PV l H (n + 1) v
  | 0, _, h => .inl h
  | n + 1, v, h => by
    rcases h with h | ⟨a, xs, e, k, h, t⟩
    · exact .inl h
    · exact .inr ⟨a, xs, e, k, h, fun x hx => (t x hx).up⟩
theorem PV.tup {n : Nat} {a : Addr} {xs : List V} (m : a ∉ l) (h : H a = some (.tup xs)) (s : ∀ x ∈ xs, PV l H n x) : PV l H (n + 1) (.ref a) := .inr ⟨a, xs, rfl, m, .inr h, s⟩
theorem PV.lst {n : Nat} {a : Addr} {xs : List V} (m : a ∉ l) (h : H a = some (.lst xs)) (s : ∀ x ∈ xs, PV l H n x) : PV l H (n + 1) (.ref a) := .inr ⟨a, xs, rfl, m, .inl h, s⟩
theorem PV.ty : ∀ {n : Nat} {v : V}, PV l H n v → TyV H v
  | 0, v, h => by cases v <;> first | exact True.intro | exact Bool.noConfusion h
  | n + 1, v, h => by
    rcases h with h | ⟨a, xs, rfl, m, h | h, s⟩
    · cases v <;> first | exact True.intro | exact Bool.noConfusion h
    · exact .inl ⟨xs, h⟩
    · exact .inr ⟨xs, h⟩
theorem PV.set {n : Nat} {xs : List V} {j : Nat} {u : HO} (h : ∀ x ∈ xs, PV l H n x) (hv : PV l H n v) (m : S ∈ l) : ∀ x ∈ xs.set j v, PV l (upd H S u) n x := fun x hx => by
  have k : KpLN l H (upd H S u) := .at m
  rcases List.mem_or_eq_of_mem_set hx with hx | rfl
  · exact (h x hx).kp k
  · exact hv.kp k
theorem PV.app {n : Nat} {xs : List V} {u : HO} (h : ∀ x ∈ xs, PV l H n x) (hv : PV l H n v) (m : S ∈ l) : ∀ x ∈ xs ++ [v], PV l (upd H S u) n x := fun x hx => by
  have k : KpLN l H (upd H S u) := .at m
  rcases List.mem_append.mp hx with hx | hx
  · exact (h x hx).kp k
  · rw [List.mem_singleton.mp hx]; exact hv.kp k
end
inductive SR (H : Hp) (n : Nat) : V → Option V → Prop where
  | flat {x : V} (h : scalarV x = true) : SR H n x (some .non)
  | seq {a : Addr} {xs : List V} {o : Option Nat} (h : LT H a xs) (e : xs.length = n) (m : n ≤ 1000) (t : IT H xs o) : SR H n (.ref a) (o.map fun i => .int (i : Nat))
inductive PJ (H : Hp) : V → Option (Int × Int × Int) → Prop where
  | flat {x : V} (h : scalarV x = true) : PJ H x none
  | lst {a : Addr} {xs : List V} (h : H a = some (.lst xs)) : PJ H (.ref a) none
  | tupn {a : Addr} {xs : List V} (h : H a = some (.tup xs)) (n : xs.length ≠ 2) : PJ H (.ref a) none
  | noi {a : Addr} {u v : V} (h : H a = some (.tup [u, v])) (t : TyV H u) (n : isI u = false) : PJ H (.ref a) none
  | noj {a : Addr} {i : Int} {v : V} (h : H a = some (.tup [.int i, v])) (t : JR H v false) : PJ H (.ref a) none
  | good {a b : Addr} {i w s : Int} (h : H a = some (.tup [.int i, .ref b])) (g : H b = some (.tup [.int w, .int s])) (t : jt (.int w) (.int s) = true) : PJ H (.ref a) (some (i, w, s))
inductive All2 {α β : Type} (R : α → β → Prop) : List α → List β → Prop where
  | nil : All2 R [] []
  | cons {a : α} {b : β} {as : List α} {bs : List β} (h : R a b) (t : All2 R as bs) : All2 R (a :: as) (b :: bs)
theorem All2.imp {α β : Type} {R S : α → β → Prop} (f : ∀ a b, R a b → S a b) {as : List α} {bs : List β} (h : All2 R as bs) : All2 S as bs := by
  induction h with
  | nil => exact .nil
  | cons h _ ih => exact .cons (f _ _ h) ih
theorem All2.get {α β : Type} {R : α → β → Prop} {as : List α} {bs : List β} (h : All2 R as bs) : ∀ (i : Nat) (a : α), as[i]? = some a → ∃ b r, R a b ∧ bs.drop i = b :: r ∧ bs.drop (i + 1) = r := by
  induction h with
  | nil => intro i a e; simp at e
  | @cons a b as bs h t ih =>
    intro i x e
    cases i with
    | zero => cases e; exact ⟨b, bs, h, rfl, rfl⟩
    | succ i => exact ih i x e
theorem All2.len {α β : Type} {R : α → β → Prop} {as : List α} {bs : List β} (h : All2 R as bs) : as.length = bs.length := by
  induction h with
  | nil => rfl
  | cons _ _ ih => exact congrArg (· + 1) ih
def rmB (n : Nat) (l b : Int) (i w : Int) : Bool := decide (l < i ∧ i < n ∧ l + b + w ≤ i ∧ i + w ≤ n)
/-- the first item that can not stand -/
def jb (n : Nat) : Nat → Int → Int → List (Option (Int × Int × Int)) → Option Nat
  | _, _, _, [] => none
  | k, _, _, none :: _ => some k
  | k, l, b, some (i, w, s) :: r => if rmB n l b i w then jb n (k + 1) i w r else some k
inductive JP (H : Hp) (n : Nat) : V → Option V → Prop where
  | flat {x : V} (h : scalarV x = true) : JP H n x (some .non)
  | seq {a : Addr} {xs : List V} {ps : List (Option (Int × Int × Int))} (h : LT H a xs) (m : xs.length ≤ 1000) (t : All2 (PJ H) xs ps) : JP H n (.ref a) ((jb n 0 0 0 ps).map fun i => .int (i : Nat))
section
variable {H H' : Hp} {n : Nat} {x : V} {o : Option V}
theorem jr_ext (s : LamX.ExtN H H') {b : Bool} (h : JR H x b) : JR H' x b := by
  cases h with
  | flat h => exact .flat h
  | lst h => exact .lst (s _ _ h lst_ntbl)
  | tupn h n => exact .tupn (s _ _ h tup_ntbl) n
  | tup2 h u v => exact .tup2 (s _ _ h tup_ntbl) (tyvE s u) (tyvE s v)
theorem pj_ext (s : LamX.ExtN H H') {j : Option (Int × Int × Int)} (h : PJ H x j) : PJ H' x j := by
  cases h with
  | flat h => exact .flat h
  | lst h => exact .lst (s _ _ h lst_ntbl)
  | tupn h n => exact .tupn (s _ _ h tup_ntbl) n
  | noi h t n => exact .noi (s _ _ h tup_ntbl) (tyvE s t) n
  | noj h t => exact .noj (s _ _ h tup_ntbl) (jr_ext s t)
  | good h g t => exact .good (s _ _ h tup_ntbl) (s _ _ g tup_ntbl) t
theorem lt_ext {a : Addr} {xs : List V} (s : LamX.ExtN H H') (h : LT H a xs) : LT H' a xs := h.imp (fun e => s _ _ e lst_ntbl) fun e => s _ _ e tup_ntbl
theorem it_ext {xs : List V} {o : Option Nat} (s : LamX.ExtN H H') (h : IT H xs o) : IT H' xs o := by
  cases h with
  | bad b e n t => exact .bad b e n fun x hx => tyvE s (t x hx)
  | good e => exact .good e
theorem SR.ext (s : LamX.ExtN H H') (h : SR H n x o) : SR H' n x o := by
  cases h with
  | flat h => exact .flat h
  | seq h e m t => exact .seq (lt_ext s h) e m (it_ext s t)
theorem JP.ext (s : LamX.ExtN H H') (h : JP H n x o) : JP H' n x o := by
  cases h with
  | flat h => exact .flat h
  | seq h m t => exact .seq (lt_ext s h) m (t.imp fun _ _ => pj_ext s)
theorem SR.same (s : Same H H') (h : SR H n x o) : SR H' n x o := h.ext (extN_same s)
theorem JP.same (s : Same H H') (h : JP H n x o) : JP H' n x o := h.ext (extN_same s)
theorem jt_nat {w s : Int} (h : jt (.int w) (.int s) = true) : ∃ a b : Nat, w = (a : Int) ∧ s = (b : Int) ∧ a ≤ 8 ∧ b ≤ 3 ∧ (a = 0 → b = 0) := by
  unfold jt at h
  simp only [Bool.and_eq_true, jx, Bool.or_eq_true, decide_eq_true_eq, inI] at h
  obtain ⟨h1, h2, h3⟩ := h
  exact ⟨w.toNat, s.toNat, by omega, by omega, by omega, by omega, by omega⟩
/-- no item is refused: they are joints with room -/
theorem jb_none : ∀ (ps : List (Option (Int × Int × Int))) (xs : List V) (k l b : Nat), All2 (PJ H) xs ps → jb n k (l : Int) (b : Int) ps = none → ∃ js : List Jo, JsAt H xs js ∧ Rm n l b js
  | _, _, k, l, b, .nil, _ => ⟨[], ⟨rfl, fun i v e => by simp at e⟩, True.intro⟩
  | none :: _, _, k, l, b, .cons _ _, h => by cases h
  | some (i, w, s) :: r, x :: xs, k, l, b, .cons hp t, h => by
    have h' : (if rmB n l b i w then jb n (k + 1) i w r else some k) = none := h
    by_cases c : rmB n l b i w = true
    · rw [if_pos c] at h'
      have c := of_decide_eq_true c
      cases hp with
      | @good a q _ _ _ e1 e2 ht =>
        obtain ⟨w', s', rfl, rfl, w8, s3, w0⟩ := jt_nat ht
        obtain ⟨i', rfl⟩ : ∃ i' : Nat, i = (i' : Int) := ⟨i.toNat, by omega⟩
        obtain ⟨js, hj, hr⟩ := jb_none r xs (k + 1) i' w' t h'
        refine ⟨(i', w', s') :: js, ⟨congrArg (· + 1) hj.1, fun m v e => ?_⟩, ?_⟩
        · cases m with
          | zero => cases e; exact ⟨(i', w', s'), a, q, rfl, rfl, e1, e2⟩
          | succ m => exact hj.2 m v e
        · exact ⟨by dsimp only; omega, by dsimp only; omega, by dsimp only; omega, by dsimp only; omega, w8, s3, w0, hr⟩
    · rw [if_neg c] at h'
      cases h'
end
theorem SR.fine {H : Hp} {n : Nat} {x : V} (h : SR H n x none) : ∃ (a : Addr) (ns : List Int), x = .ref a ∧ LT H a (ns.map V.int) ∧ ns.length = n ∧ n ≤ 1000 := by
  obtain ⟨o, ho, h⟩ : ∃ o : Option V, o = none ∧ SR H n x o := ⟨_, rfl, h⟩
  cases h with
  | flat _ => cases ho
  | @seq a xs o h e m t =>
    cases t with
    | bad _ _ _ _ => cases ho
    | @good ns e2 =>
      subst e2
      exact ⟨a, ns, rfl, h, by rw [← e, List.length_map], m⟩
theorem JP.fine {H : Hp} {n : Nat} {x : V} (h : JP H n x none) : ∃ (a : Addr) (refs : List V) (js : List Jo), x = .ref a ∧ LT H a refs ∧ JsAt H refs js ∧ Rm n 0 0 js := by
  obtain ⟨o, ho, h⟩ : ∃ o : Option V, o = none ∧ JP H n x o := ⟨_, rfl, h⟩
  cases h with
  | flat _ => cases ho
  | @seq a xs ps hL m t =>
    cases g : jb n 0 0 0 ps with
    | some k => rw [g] at ho; cases ho
    | none =>
      obtain ⟨js, h1, h2⟩ := jb_none ps xs 0 0 0 t g
      exact ⟨a, xs, js, rfl, hL, h1, h2⟩
def Al (l : List Addr) (H : Hp) : Prop := ∀ a ∈ l, ∃ o, H a = some o
theorem nm_al {l : List Addr} {p q : Addr} {H H1 : Hp} (hl : Al l H) (k : Kp p H H1) (hp : Pool H1 p) (n : H1 q = none) : q ∉ l := fun z => by
  obtain ⟨o, e⟩ := hl _ z
  by_cases c : q = p
  · obtain ⟨x, y, e2, _⟩ := hp
    rw [c, e2] at n
    cases n
  · rw [k _ _ c e] at n
    cases n
def GQ (p : Addr) (H : Hp) (xs : List V) (x : V) : Prop := (∃ a, x = .ref a ∧ a ≠ p ∧ LT H a xs) ∨ scalarV x = true
section
variable {p : Addr} {H H' : Hp} {xs : List V} {x : V} {m : Nat}
theorem GQ.kp (k : KpLN [p] H H') (h : GQ p H xs x) : GQ p H' xs x := h.imp (fun ⟨a, e, n, h⟩ => ⟨a, e, n, h.kpln k (nm_cons n List.not_mem_nil)⟩) id
end
end Z
namespace Z
open PySem PySem.Spec PyProof.Rows L2
open SX (S S_len S_cat S_inj)
inductive BZ (H : Hp) (n : Nat) : V → Option V → Prop where
  | flat {x : V} (h : scalarV x = true) : BZ H n x (some .non)
  | tup {a : Addr} {xs : List V} (h : H a = some (.tup xs)) : BZ H n (.ref a) (some .non)
  | size {a : Addr} {xs : List V} (h : H a = some (.lst xs)) (e : xs.length = n) (c : 64 < n) (m : n ≤ 1000) : BZ H n (.ref a) (some .non)
  | item {a : Addr} {xs : List V} {o : Option Nat} (h : H a = some (.lst xs)) (e : xs.length = n) (c : n ≤ 64) (t : IT H xs o) : BZ H n (.ref a) (o.map fun i => .int (i : Nat))
section
variable {H H' : Hp} {n : Nat} {x v : V} {o : Option V} {b : Bool} {p : Addr}
theorem BZ.ext (s : LamX.ExtN H H') (h : BZ H n x o) : BZ H' n x o := by
  cases h with
  | flat h => exact .flat h
  | tup h => exact .tup (s _ _ h tup_ntbl)
  | size h e c m => exact .size (s _ _ h lst_ntbl) e c m
  | item h e c t => exact .item (s _ _ h lst_ntbl) e c (it_ext s t)
theorem it_move {xs : List V} {o : Option Nat} (t : ∀ y ∈ xs, TyV H' y) (h : IT H xs o) : IT H' xs o := by
  cases h with
  | bad b e n _ => exact .bad b e n t
  | good e => exact .good e
/-- the pool may be drawn from -/
theorem BZ.kp (k : KpLN [p] H H') (q : ∀ a, x = .ref a → a ≠ p) (t : ∀ a xs, x = .ref a → H a = some (.lst xs) → ∀ y ∈ xs, PV [p] H 1 y) (h : BZ H n x o) : BZ H' n x o := by
  cases h with
  | flat h => exact .flat h
  | @tup a xs h => exact .tup (k _ _ (nm_cons (q a rfl) List.not_mem_nil) h tup_ntbl)
  | @size a xs h e c m => exact .size (k _ _ (nm_cons (q a rfl) List.not_mem_nil) h lst_ntbl) e c m
  | @item a xs o h e c i => exact .item (k _ _ (nm_cons (q a rfl) List.not_mem_nil) h lst_ntbl) e c (it_move (fun y hy => ((t a xs rfl h y hy).kp k).ty) i)
theorem BZ.fine (h : BZ H n x none) : ∃ (a : Addr) (ns : List Int), x = .ref a ∧ H a = some (.lst (ns.map V.int)) ∧ ns.length = n ∧ n ≤ 64 := by
  obtain ⟨o, ho, h⟩ : ∃ o : Option V, o = none ∧ BZ H n x o := ⟨_, rfl, h⟩
  cases h with
  | flat _ => cases ho
  | tup _ => cases ho
  | size _ _ _ _ => cases ho
  | @item a xs o hL e c t =>
    cases t with
    | bad _ _ _ _ => cases ho
    | @good ns e2 =>
      subst e2
      exact ⟨a, ns, rfl, hL, by rw [← e, List.length_map], c⟩
def TbsH (H : Hp) (a : Addr) (T : Tb × Tb) : Prop := ∃ r0 r1, H a = some (.tup [.ref r0, .ref r1]) ∧ H r0 = some (.tup [.int T.1.1, .int T.1.2]) ∧ H r1 = some (.tup [.int T.2.1, .int T.2.2])
theorem TbsH.tv {K : PySem.W.Frag} {a : Addr} {T : Tb × Tb} (h : TbsH H a T) : TbsV K H a T := let ⟨r0, r1, h0, h1, h2⟩ := h; ⟨r0, r1, .of h0, .of h1, .of h2⟩
def StQ (H : Hp) (v : V) (b : Bool) : Prop := TSR H v b ∧ (b = true → ∃ a T, v = .ref a ∧ TbsH H a T ∧ TbOk (10 ^ 56) T.1 ∧ TbOk (10 ^ 56) T.2)
theorem tr_ext (s : LamX.ExtN H H') (h : TR H v b) : TR H' v b := by
  cases h with
  | flat h => exact .flat h
  | lst h => exact .lst (s _ _ h lst_ntbl)
  | tupn h n => exact .tupn (s _ _ h tup_ntbl) n
  | tup2 h hu hv => exact .tup2 (s _ _ h tup_ntbl) (tyvE s hu) (tyvE s hv)
theorem tsr_ext (s : LamX.ExtN H H') (h : TSR H v b) : TSR H' v b := by
  cases h with
  | flat h => exact .flat h
  | lst h => exact .lst (s _ _ h lst_ntbl)
  | tupn h n => exact .tupn (s _ _ h tup_ntbl) n
  | tup2 h hu hv => exact .tup2 (s _ _ h tup_ntbl) (tr_ext s hu) (tr_ext s hv)
theorem StQ.ext (s : LamX.ExtN H H') (h : StQ H v b) : StQ H' v b := ⟨tsr_ext s h.1, fun z => by
  obtain ⟨a, T, e, ⟨r0, r1, h0, h1, h2⟩, o1, o2⟩ := h.2 z
  exact ⟨a, T, e, ⟨r0, r1, s _ _ h0 tup_ntbl, s _ _ h1 tup_ntbl, s _ _ h2 tup_ntbl⟩, o1, o2⟩⟩
theorem PV.mem {m : Nat} {a : Addr} {xs : List V} (h : PV [p] H (m + 1) (.ref a)) (e : H a = some (.tup xs)) : a ≠ p ∧ ∀ x ∈ xs, PV [p] H m x := by
  rcases h with h | ⟨c, ys, e1, n, h, s⟩
  · exact Bool.noConfusion h
  · cases e1
    rcases h with h | h
    · rw [h] at e; cases e
    · rw [h] at e; cases e; exact ⟨fun z => n (by rw [z]; exact List.mem_singleton.mpr rfl), s⟩
theorem PV.memL {m : Nat} {a : Addr} (h : PV [p] H (m + 1) (.ref a)) : a ≠ p := by
  rcases h with h | ⟨c, ys, e1, n, h, s⟩
  · exact Bool.noConfusion h
  · cases e1
    exact fun z => n (by rw [z]; exact List.mem_singleton.mpr rfl)
theorem tr_kp (k : KpLN [p] H H') (g : PV [p] H 1 v) (h : TR H v b) : TR H' v b := by
  cases h with
  | flat h => exact .flat h
  | lst h => exact .lst (k _ _ (nm_cons g.memL List.not_mem_nil) h lst_ntbl)
  | tupn h n => exact .tupn (k _ _ (nm_cons g.memL List.not_mem_nil) h tup_ntbl) n
  | @tup2 a u v h hu hv =>
    obtain ⟨n, s⟩ := g.mem h
    exact .tup2 (k _ _ (nm_cons n List.not_mem_nil) h tup_ntbl) ((s u (by simp)).kp k).ty ((s v (by simp)).kp k).ty
theorem StQ.kp (k : KpLN [p] H H') (g : PV [p] H 2 v) (h : StQ H v b) : StQ H' v b := by
  obtain ⟨h, q⟩ := h
  refine ⟨?_, fun z => ?_⟩
  · cases h with
    | flat h => exact .flat h
    | lst h => exact .lst (k _ _ (nm_cons g.memL List.not_mem_nil) h lst_ntbl)
    | tupn h n => exact .tupn (k _ _ (nm_cons g.memL List.not_mem_nil) h tup_ntbl) n
    | @tup2 a u v _ _ h hu hv =>
      obtain ⟨n, s⟩ := g.mem h
      exact .tup2 (k _ _ (nm_cons n List.not_mem_nil) h tup_ntbl) (tr_kp k (s u (by simp)) hu) (tr_kp k (s v (by simp)) hv)
  · obtain ⟨a, T, rfl, ⟨r0, r1, h0, h1, h2⟩, o1, o2⟩ := q z
    obtain ⟨n, s⟩ := g.mem h0
    have n0 := (s _ (by simp : V.ref r0 ∈ [V.ref r0, V.ref r1])).mem h1
    have n1 := (s _ (by simp : V.ref r1 ∈ [V.ref r0, V.ref r1])).mem h2
    exact ⟨a, T, rfl, ⟨r0, r1, k _ _ (nm_cons n List.not_mem_nil) h0 tup_ntbl, k _ _ (nm_cons n0.1 List.not_mem_nil) h1 tup_ntbl, k _ _ (nm_cons n1.1 List.not_mem_nil) h2 tup_ntbl⟩, o1, o2⟩
theorem PV.sm {K : PySem.W.Frag} {l : List Addr} : ∀ {n : Nat} {v : V}, PV l H n v → SmV K H n v v
  | 0, _, h => ⟨rfl, scOk.sc h⟩
  | n + 1, v, h => by
    rcases h with h | ⟨a, xs, rfl, m, h | h, s⟩
    · exact .inl ⟨rfl, scOk.sc h⟩
    · exact .inr (.inl ⟨a, a, xs, xs, rfl, rfl, .of h, .of h, rfl, fun i x y e1 e2 => by
        rw [e1] at e2
        cases e2
        exact (s x (List.mem_of_getElem? e1)).sm⟩)
    · exact .inr (.inr ⟨a, a, xs, xs, rfl, rfl, .of h, .of h, rfl, fun i x y e1 e2 => by
        rw [e1] at e2
        cases e2
        exact (s x (List.mem_of_getElem? e1)).sm⟩)
end
def TxR (v : V) : Prop := scalarV v = true ∧ ∀ s, v = .str s → ∃ l : List Nat, s = S l ∧ (∀ c ∈ l, IsB c) ∧ l.length ≤ 100
theorem TbOk.up {m m' : Int} {t : Tb} (h : TbOk m t) (l : m ≤ m') : TbOk m' t := ⟨h.1, by have := h.2.1; omega, h.2.2⟩
def SmallL (H : Hp) (x : V) : Prop := ∀ (a : Addr) (ns : List Int), x = .ref a → H a = some (.lst (ns.map V.int)) → ∀ z ∈ ns, z.natAbs < 10 ^ 55
theorem tsr_ii {H : Hp} {a : Addr} {u v : Int} (h : H a = some (.tup [.int u, .int v])) : TSR H (.ref a) false := show TSR H (.ref a) (false && false) from .tup2 h (.flat rfl) (.flat rfl)
def spStartX : Sp := fun vs H Q _ => ∃ p, vs = [.ref p] ∧ Pool H p ∧ ∀ v b H', PV [p] H' 2 v → StQ H' v b → Pool H' p → Kp p H H' → Q v H'
theorem use_startX {p : Addr} {H : Hp} {Q : VK} {E : XK} (h : Pool H p) (q : ∀ v b H', PV [p] H' 2 v → StQ H' v b → Pool H' p → Kp p H H' → Q v H') : spStartX ([.ref p] ++ []) H Q E := ⟨p, rfl, h, q⟩
def LV (p : Addr) (H : Hp) (v : V) : Prop := scalarV v = true ∨ ∃ a xs, v = .ref a ∧ a ≠ p ∧ LT H a xs ∧ xs.length ≤ 66 ∧ (∀ x ∈ xs, PV [p] H 1 x) ∧ ∀ z : Int, V.int z ∈ xs → z.natAbs < 10 ^ 55
def spListV : Sp := fun vs H Q _ => ∃ p, vs = [.ref p] ∧ Pool H p ∧ ∀ v H', LV p H' v → Pool H' p → Kp p H H' → Q v H'
theorem use_listV {p : Addr} {H : Hp} {Q : VK} {E : XK} (h : Pool H p) (q : ∀ v H', LV p H' v → Pool H' p → Kp p H H' → Q v H') : spListV ([.ref p] ++ []) H Q E := ⟨p, rfl, h, q⟩
section
variable {p : Addr} {H H' : Hp} {v : V}
theorem LV.kp (k : KpLN [p] H H') (h : LV p H v) : LV p H' v := by
  rcases h with h | ⟨a, xs, e, n, h, l, s, z⟩
  · exact .inl h
  · exact .inr ⟨a, xs, e, n, h.kpln k (nm_cons n List.not_mem_nil), l, fun x hx => (s x hx).kp k, z⟩
theorem LV.ne (h : LV p H v) : ∀ a, v = .ref a → a ≠ p := fun a e => by
  rcases h with h | ⟨c, xs, e2, n, _⟩
  · rw [e] at h; exact Bool.noConfusion h
  · rw [e] at e2; cases e2; exact n
theorem LV.small (h : LV p H v) : SmallL H v := fun a ns e e2 z hz => by
  rcases h with h | ⟨c, ys, e3, n, h, l, s, q⟩
  · rw [e] at h; exact Bool.noConfusion h
  · rw [e] at e3; cases e3
    rcases h with h | h
    · rw [h] at e2; cases e2; exact q z (List.mem_map.mpr ⟨z, hz, rfl⟩)
    · rw [h] at e2; cases e2
end
theorem SmallL.ext {H H' : Hp} {x : V} (o : Option V) {n : Nat} (s : LamX.ExtN H H') (b : BZ H n x o) (h : SmallL H x) : SmallL H' x := fun a ns e e2 => by
  refine h a ns e ?_
  cases b with
  | flat f => rw [e] at f; exact Bool.noConfusion f
  | tup f => cases e; rw [s _ _ f tup_ntbl] at e2; cases e2
  | size f _ _ _ => cases e; rw [s _ _ f lst_ntbl] at e2; rw [f]; exact e2
  | item f _ _ _ => cases e; rw [s _ _ f lst_ntbl] at e2; rw [f]; exact e2
section
variable {o : Option V} {m n : Nat} {s f t e : V} {b : Bool} {H : Hp} {x : V}
theorem BZ.le (h : BZ H n x o) (ho : o = none) : n ≤ 64 := by
  subst ho
  obtain ⟨_, _, _, _, _, l⟩ := h.fine
  exact l
theorem TxR.of {v : V} (h : v = .non ∨ (∃ i, v = .int i) ∨ ∃ l : List Nat, v = .str (S l) ∧ (∀ c ∈ l, IsB c) ∧ l.length ≤ 100) : TxR v := by
  rcases h with rfl | ⟨i, rfl⟩ | ⟨l, rfl, h1, h2⟩
  · exact ⟨rfl, fun s e => nomatch e⟩
  · exact ⟨rfl, fun s e => nomatch e⟩
  · exact ⟨rfl, fun s e => ⟨l, (V.str.inj e).symm, h1, h2⟩⟩
end
end Z
namespace Z
open PySem PySem.Spec PyProof.Rows L2
open SX (S S_len S_cat S_inj)
theorem wst_small {ns : List Int} {first : Nat} {T : Tb × Tb} {m : Int} (hn : ∀ z ∈ ns, z.natAbs ≤ 30000) (h1 : TbOk m T.1) (h2 : TbOk m T.2) : ∀ i, i ≤ ns.length → TbOk (m + (i : Int) * 60001) (wst ns first T i).2.1 ∧ TbOk (m + (i : Int) * 60001) (wst ns first T i).2.2
  | 0, _ => ⟨h1.up (by omega), h2.up (by omega)⟩
  | i + 1, hi => by
    obtain ⟨a1, a2⟩ := wst_small (first := first) hn h1 h2 i (by omega)
    have hu : (uOf (ns.getD i 0) : Int) ≤ 60001 := by
      have hz := hn _ (List.getElem_mem (show i < ns.length by omega))
      rw [getD_some (List.getElem?_eq_getElem (show i < ns.length by omega))]
      unfold uOf codeU
      split <;> omega
    have step : ∀ t : Tb, TbOk (m + (i : Int) * 60001) t → TbOk (m + ((i + 1 : Nat) : Int) * 60001) (tbB t (uOf (ns.getD i 0))) := fun t ⟨b1, b2, b3, b4⟩ => by
      unfold tbB
      split
      · exact ⟨by dsimp only; omega, by dsimp only; omega, by dsimp only; omega, by dsimp only; omega⟩
      · exact ⟨by dsimp only; omega, by dsimp only; omega, by dsimp only; omega, by dsimp only; omega⟩
    by_cases c : i < first
    · rw [wst_lo c]
      exact ⟨step _ a1, a2.up (by push_cast; omega)⟩
    · rw [wst_hi c]
      exact ⟨a1.up (by push_cast; omega), step _ a2⟩
def spCounts : Sp := fun vs H Q _ => ∃ n k : Nat, vs = [.int (n : Nat), .int (k : Nat)] ∧ n ≤ 1000 ∧ k ≤ 5 ∧ ∀ D H', H D = none → Same H H' → H' D = some (.lst ((List.range (k + 1)).map fun i => V.int (cc n i : Nat))) → Q (.ref D) H'
theorem use_counts {n k : Nat} {H : Hp} {Q : VK} {E : XK} (hn : n ≤ 1000) (hk : k ≤ 5) (q : ∀ D H', H D = none → Same H H' → H' D = some (.lst ((List.range (k + 1)).map fun i => V.int (cc n i : Nat))) → Q (.ref D) H') : spCounts ([.int (n : Nat), .int (k : Nat)] ++ []) H Q E := ⟨n, k, rfl, hn, hk, q⟩
theorem last_range {α : Type} (f : Nat → α) (k : Nat) : ((List.range (k + 1)).map f)[k]? = some (f k) := by simp
theorem at_last {xs : List V} {v : V} {k : Nat} (hl : xs.length = k + 1) (h : xs[k]? = some v) : atI xs (-1) = some v := by
  have e : ixN xs.length (-1) = some k := by
    rw [hl]
    unfold ixN
    rw [if_neg (by decide), if_pos (by omega)]
    exact congrArg some (by omega)
  unfold atI
  rw [e]
  exact h
def spTabsX : Sp := fun vs H Q _ => ∃ p, vs = [.ref p] ∧ Pool H p ∧ ∀ t T H', TbsH H' t T → TbOk 100 T.1 → TbOk 100 T.2 → Pool H' p → Kp p H H' → Q (.ref t) H'
theorem use_tabsX {p : Addr} {H : Hp} {Q : VK} {E : XK} (h : Pool H p) (q : ∀ t T H', TbsH H' t T → TbOk 100 T.1 → TbOk 100 T.2 → Pool H' p → Kp p H H' → Q (.ref t) H') : spTabsX ([.ref p] ++ []) H Q E := ⟨p, rfl, h, q⟩
def spSomeX : Sp := fun vs H Q _ => ∃ (p : Addr) (n : Nat), vs = [.ref p, .int (n : Nat)] ∧ Pool H p ∧ n ≤ 64 ∧ ∀ D (ns : List Int) H', H D = none → H' D = some (.lst (ns.map V.int)) → ns.length = n → (∀ z ∈ ns, z.natAbs ≤ 30000) → Pool H' p → Kp p H H' → Q (.ref D) H'
theorem use_someX {p : Addr} {n : Nat} {H : Hp} {Q : VK} {E : XK} (h : Pool H p) (hn : n ≤ 64) (q : ∀ D (ns : List Int) H', H D = none → H' D = some (.lst (ns.map V.int)) → ns.length = n → (∀ z ∈ ns, z.natAbs ≤ 30000) → Pool H' p → Kp p H H' → Q (.ref D) H') : spSomeX ([.ref p, .int (n : Nat)] ++ []) H Q E := ⟨p, n, rfl, h, hn, q⟩
/-- length, width, shape, levels, step -/
abbrev Hd := Nat × Nat × Nat × Nat × Nat
def HdAt (H : Hp) (h : Addr) (j : Addr) (d : Hd) : Prop := H h = some (.tup [.int (d.1 : Nat), .ref j, .int (d.2.2.2.1 : Nat), .int (d.2.2.2.2 : Nat)]) ∧ H j = some (.tup [.int (d.2.1 : Nat), .int (d.2.2.1 : Nat)])
def HdOk (d : Hd) : Prop := 1 ≤ d.1 ∧ d.1 ≤ 64 ∧ d.2.1 ≤ 8 ∧ d.2.2.1 ≤ 3 ∧ (d.2.1 = 0 → d.2.2.1 = 0) ∧ d.2.2.2.1 ≤ 5 ∧ 1 ≤ d.2.2.2.2 ∧ d.2.2.2.2 ≤ 64
/-- the bits of a frame -/
def bitsF (d : Hd) (ns : List Int) (T : Tb × Tb) : List Nat := (wst ns (cc d.1 d.2.2.2.1) T ns.length).1.flatten
def nextF (d : Hd) (ns : List Int) (T : Tb × Tb) : Tb × Tb := (wst ns (cc d.1 d.2.2.2.1) T ns.length).2
def FrAt (H : Hp) (r : Addr) (j : Addr) (d : Hd) (ns : List Int) (T : Tb × Tb) : Prop := H r = some (.tup [.str (Str.ofString "frame"), .int (d.1 : Nat), .ref j, .int (d.2.2.2.1 : Nat), .int (d.2.2.2.2 : Nat), .int (markF ns), .str (S (bitsF d ns T))])
def spFrameX (K : PySem.W.Frag) : Sp := fun vs H Q _ => ∃ (h j a b : Addr) (d : Hd) (ns : List Int) (T : Tb × Tb), vs = [.ref h, .ref a, .ref b] ∧ HdAt H h j d ∧ HdOk d ∧ H a = some (.lst (ns.map V.int)) ∧ ns.length = d.1 ∧ (∀ z ∈ ns, z.natAbs ≤ 30000) ∧ TbsV K H b T ∧ TbOk (10 ^ 56) T.1 ∧ TbOk (10 ^ 56) T.2 ∧
  ∀ p r q H', Same H H' → H p = none → H' p = some (.tup [.ref r, .ref q]) → FrAt H' r j d ns T → TbsV K H' q (nextF d ns T) → Q (.ref p) H'
theorem use_frameX {K : PySem.W.Frag} {h j a b : Addr} {d : Hd} {ns : List Int} {T : Tb × Tb} {H : Hp} {Q : VK} {E : XK} (h1 : HdAt H h j d) (h2 : HdOk d) (h3 : H a = some (.lst (ns.map V.int))) (h4 : ns.length = d.1) (h5 : ∀ z ∈ ns, z.natAbs ≤ 30000) (h6 : TbsV K H b T) (o1 : TbOk (10 ^ 56) T.1) (o2 : TbOk (10 ^ 56) T.2)
    (q : ∀ p r q H', Same H H' → H p = none → H' p = some (.tup [.ref r, .ref q]) → FrAt H' r j d ns T → TbsV K H' q (nextF d ns T) → Q (.ref p) H') : spFrameX K ([.ref h, .ref a, .ref b] ++ []) H Q E := ⟨h, j, a, b, d, ns, T, rfl, h1, h2, h3, h4, h5, h6, o1, o2, q⟩
def spValues : Sp := fun vs H Q _ => ∃ (a : Addr) (ns : List Int) (k : Nat), vs = [.ref a, .int (k : Nat)] ∧ H a = some (.lst (ns.map V.int)) ∧ 1 ≤ ns.length ∧ ns.length ≤ 64 ∧ k ≤ 5 ∧ ∀ D H', H D = none → Same H H' → H' D = some (.lst ((joinL ns k).map V.int)) → Q (.ref D) H'
theorem use_values {a : Addr} {ns : List Int} {k : Nat} {H : Hp} {Q : VK} {E : XK} (h1 : H a = some (.lst (ns.map V.int))) (h2 : 1 ≤ ns.length) (h3 : ns.length ≤ 64) (h4 : k ≤ 5) (q : ∀ D H', H D = none → Same H H' → H' D = some (.lst ((joinL ns k).map V.int)) → Q (.ref D) H') : spValues ([.ref a, .int (k : Nat)] ++ []) H Q E := ⟨a, ns, k, rfl, h1, h2, h3, h4, q⟩
theorem rd_extG {a b : Addr} {xs zs : List V} {H : Hp} {Q : VK} (h : H a = some (.lst xs)) (hb : H b = some (.lst zs)) (n : xs.length + zs.length ≤ 1000) (q : Q .non (upd H a (.lst (xs ++ zs)))) : rExtend (.ref a) [.ref b] H Q := ⟨a, b, xs, zs, rfl, rfl, h, hb, Nat.le_of_lt (small1000 n), q⟩
theorem at_range {f : Nat → V} {k j : Nat} {z : Int} (e : z = (j : Int)) (h : j ≤ k) : atI ((List.range (k + 1)).map f) z = some (f j) := by
  subst e
  exact atI_nat (by rw [List.getElem?_map, List.getElem?_range (by omega)]; rfl)
theorem at_int {ns : List Int} {j : Nat} {z : Int} (e : z = (j : Int)) (h : j < ns.length) : atI (ns.map V.int) z = some (.int (ns.getD j 0)) := by
  subst e
  refine atI_nat ?_
  rw [List.getElem?_map, List.getElem?_eq_getElem h, getD_some (List.getElem?_eq_getElem h)]
  rfl
theorem rd_min3 {a b c : Int} {H : Hp} {Q : VK} (h : Q (.int (if c < (if b < a then b else a) then c else (if b < a then b else a))) H) : rNuC3 nuMin3 [.int a, .int b, .int c] H Q := by
  refine ⟨_, _, _, .int (if c < (if b < a then b else a) then c else (if b < a then b else a)), rfl, ?_, h⟩
  have m2 : ∀ x y : Int, nuMin2 (.int x) (.int y) = some (.int (if y < x then y else x)) := fun x y => by
    show (some (decide (y < x))).map (fun c => if c = true then V.int y else V.int x) = _
    by_cases c : y < x
    · rw [if_pos c]; simp [c]
    · rw [if_neg c]; simp [c]
  unfold nuMin3
  rw [m2]
  exact m2 _ _
/-- frames that follow each other: the width at the left end of the first, at the right end of the last -/
def Ch : Nat → List Hd → Nat → Prop
  | l, [], e => l = e
  | l, d :: r, e => HdOk d ∧ l + d.2.1 ≤ d.1 ∧ Ch d.2.1 r e
theorem Ch.snoc {d : Hd} (hd : HdOk d) : ∀ {hs : List Hd} {l e : Nat}, Ch l hs e → e + d.2.1 ≤ d.1 → Ch l (hs ++ [d]) d.2.1
  | [], l, e, h, k => by
    have h : l = e := h
    subst h
    exact ⟨hd, k, rfl⟩
  | c :: r, l, e, ⟨h1, h2, h3⟩, k => ⟨h1, h2, Ch.snoc hd h3 k⟩
def HdsAt (H : Hp) (refs : List V) (hs : List Hd) : Prop := All2 (fun v d => ∃ h j, v = .ref h ∧ HdAt H h j d) refs hs
theorem HdAt.lk {H H' : Hp} {h j : Addr} {d : Hd} (s : LK H H') (k : HdAt H h j d) : HdAt H' h j d := ⟨s _ _ k.1 (fun _ z => nomatch z), s _ _ k.2 (fun _ z => nomatch z)⟩
theorem HdsAt.lk {H H' : Hp} {refs : List V} {hs : List Hd} (s : LK H H') (k : HdsAt H refs hs) : HdsAt H' refs hs := k.imp fun _ _ ⟨h, j, e, q⟩ => ⟨h, j, e, q.lk s⟩
theorem All2.app {α β : Type} {R : α → β → Prop} {as : List α} {bs : List β} {a : α} {b : β} (h : All2 R as bs) (k : R a b) : All2 R (as ++ [a]) (bs ++ [b]) := by
  induction h with
  | nil => exact .cons k .nil
  | cons h _ ih => exact .cons h ih
def spHeads : Sp := fun vs H Q _ => ∃ (p : Addr) (m : Nat), vs = [.ref p, .int (m : Nat)] ∧ Pool H p ∧ m ≤ 20 ∧ ∀ D refs hs H', H D = none → H' D = some (.lst refs) → HdsAt H' refs hs → Ch 0 hs 0 → hs.length = m → Pool H' p → Kp p H H' → Q (.ref D) H'
theorem use_heads {p : Addr} {m : Nat} {H : Hp} {Q : VK} {E : XK} (h : Pool H p) (hm : m ≤ 20) (q : ∀ D refs hs H', H D = none → H' D = some (.lst refs) → HdsAt H' refs hs → Ch 0 hs 0 → hs.length = m → Pool H' p → Kp p H H' → Q (.ref D) H') : spHeads ([.ref p, .int (m : Nat)] ++ []) H Q E := ⟨p, m, rfl, h, hm, q⟩
def nv (n : Nat) : V := .int (n : Nat)
theorem at_nat {zs : List Nat} {j : Nat} {z : Int} (e : z = (j : Int)) (h : j < zs.length) : atI (zs.map nv) z = some (.int (zs.getD j 0 : Nat)) := by
  subst e
  refine atI_nat ?_
  rw [List.getElem?_map, List.getElem?_eq_getElem h, List.getD_eq_getElem?_getD, List.getElem?_eq_getElem h]
  rfl
theorem min3_nat (a b c : Nat) : ∃ mo : Nat, (if (c : Int) < (if (b : Int) < (a : Int) then (b : Int) else (a : Int)) then (c : Int) else (if (b : Int) < (a : Int) then (b : Int) else (a : Int))) = (mo : Int) ∧ mo ≤ a ∧ mo ≤ b ∧ mo ≤ c := by
  by_cases h1 : (b : Int) < (a : Int)
  · rw [if_pos h1]
    by_cases h2 : (c : Int) < (b : Int)
    · rw [if_pos h2]; exact ⟨c, rfl, by omega, by omega, by omega⟩
    · rw [if_neg h2]; exact ⟨b, rfl, by omega, by omega, by omega⟩
  · rw [if_neg h1]
    by_cases h2 : (c : Int) < (a : Int)
    · rw [if_pos h2]; exact ⟨c, rfl, by omega, by omega, by omega⟩
    · rw [if_neg h2]; exact ⟨a, rfl, by omega, by omega, by omega⟩
theorem none_of {p D : Addr} {H G : Hp} (k : Kp p H G) (n : D ≠ p) (h : G D = none) : H D = none := by
  cases z : H D with
  | none => rfl
  | some u => rw [k _ _ n z] at h; cases h
inductive Rc where
  | st (T : Tb × Tb)
  | fr (d : Hd) (ns : List Int) (T : Tb × Tb)
def TkOk (T : Tb × Tb) : Prop := TbOk (10 ^ 9) T.1 ∧ TbOk (10 ^ 9) T.2
def RcAt (K : PySem.W.Frag) (H : Hp) (v : V) : Rc → Prop
  | .st T => ∃ a t, v = .ref a ∧ H a = some (.tup [.str (Str.ofString "state"), .ref t]) ∧ TbsV K H t T
  | .fr d ns T => ∃ a j, v = .ref a ∧ FrAt H a j d ns T ∧ H j = some (.tup [.int (d.2.1 : Nat), .int (d.2.2.1 : Nat)])
theorem RcAt.lk {K : PySem.W.Frag} {H H' : Hp} {v : V} (s : LK H H') : ∀ {r : Rc}, RcAt K H v r → RcAt K H' v r
  | .st T, ⟨a, t, e, h, q⟩ => ⟨a, t, e, s _ _ h (fun _ z => nomatch z), q.lk s⟩
  | .fr d ns T, ⟨a, j, e, h, q⟩ => ⟨a, j, e, s _ _ h (fun _ z => nomatch z), s _ _ q (fun _ z => nomatch z)⟩
def RcsAt (K : PySem.W.Frag) (H : Hp) (vs : List V) (rs : List Rc) : Prop := All2 (RcAt K H) vs rs
theorem RcsAt.lk {K : PySem.W.Frag} {H H' : Hp} {vs : List V} {rs : List Rc} (s : LK H H') (h : RcsAt K H vs rs) : RcsAt K H' vs rs := h.imp fun _ _ q => q.lk s
/-- a row of the index: record, place, frame, left joint, origin -/
abbrev Rw := Nat × Nat × Hd × (Nat × Nat) × Nat
structure Run where
  i : Nat
  pl : Nat
  lj : Nat × Nat
  o : Nat
  rows : List Rw
def stpR (s : Run) : Rc → Run
  | .st _ => ⟨s.i + 1, s.pl, s.lj, s.i, s.rows⟩
  | .fr d _ _ => ⟨s.i + 1, s.pl + d.1, (d.2.1, d.2.2.1), s.o, s.rows ++ [(s.i, s.pl, d, s.lj, s.o)]⟩
def runR (rs : List Rc) : Run := rs.foldl stpR ⟨0, 0, (0, 0), 0, []⟩
theorem runR_snoc (rs : List Rc) (r : Rc) : runR (rs ++ [r]) = stpR (runR rs) r := by unfold runR; rw [List.foldl_append]; rfl
theorem runR_i : ∀ rs : List Rc, (runR rs).i = rs.length := fun rs => by
  have key : ∀ (rs : List Rc) (s : Run), (rs.foldl stpR s).i = s.i + rs.length := by
    intro rs
    induction rs with
    | nil => intro s; rfl
    | cons r rs ih =>
      intro s
      rw [List.foldl_cons, ih, List.length_cons]
      cases r <;> (show s.i + 1 + _ = _; omega)
  have z := key rs ⟨0, 0, (0, 0), 0, []⟩
  rw [Nat.zero_add] at z
  exact z
def JtAt (H : Hp) (j : Addr) (x : Nat × Nat) : Prop := H j = some (.tup [.int (x.1 : Nat), .int (x.2 : Nat)])
def RwAt (H : Hp) (v : V) (r : Rw) : Prop := ∃ a jl j, v = .ref a ∧ H a = some (.tup [.int (r.1 : Nat), .int (r.2.1 : Nat), .int (r.2.2.1.1 : Nat), .ref jl, .ref j, .int (r.2.2.1.2.2.2.1 : Nat), .int (r.2.2.1.2.2.2.2 : Nat), .int (r.2.2.2.2 : Nat)]) ∧ JtAt H jl r.2.2.2.1 ∧ JtAt H j (r.2.2.1.2.1, r.2.2.1.2.2.1)
theorem RwAt.lk {H H' : Hp} {v : V} {r : Rw} (s : LK H H') (h : RwAt H v r) : RwAt H' v r := by
  obtain ⟨a, jl, j, e, h1, h2, h3⟩ := h
  exact ⟨a, jl, j, e, s _ _ h1 (fun _ z => nomatch z), s _ _ h2 (fun _ z => nomatch z), s _ _ h3 (fun _ z => nomatch z)⟩
def RwsAt (H : Hp) (vs : List V) (rs : List Rw) : Prop := All2 (RwAt H) vs rs
theorem RwsAt.lk {H H' : Hp} {vs : List V} {rs : List Rw} (s : LK H H') (h : RwsAt H vs rs) : RwsAt H' vs rs := h.imp fun _ _ q => q.lk s
/-- what is kept of the frames -/
def blkF (kf : Hd → List Int → List Int) : List Rc → List (List Int)
  | [] => []
  | .st _ :: r => blkF kf r
  | .fr d ns _ :: r => kf d ns :: blkF kf r
abbrev kfB : Hd → List Int → List Int := fun d ns => joinL (ns.map (· * (d.2.2.2.2 : Int))) d.2.2.2.1
abbrev blkR := blkF kfB
theorem blkF_snoc (kf : Hd → List Int → List Int) : ∀ (rs : List Rc) (r : Rc), blkF kf (rs ++ [r]) = blkF kf rs ++ blkF kf [r]
  | [], r => rfl
  | .st _ :: rs, r => blkF_snoc kf rs r
  | .fr d ns _ :: rs, r => congrArg (kf d ns :: ·) (blkF_snoc kf rs r)
def BksAt (l : List Addr) (H : Hp) (vs : List V) (bs : List (List Int)) : Prop := All2 (fun v b => ∃ a, v = .ref a ∧ a ∉ l ∧ H a = some (.lst (b.map V.int))) vs bs
theorem BksAt.kp {l : List Addr} {H H' : Hp} {vs : List V} {bs : List (List Int)} (k : KpL l H H') (h : BksAt l H vs bs) : BksAt l H' vs bs := h.imp fun _ _ ⟨a, e, n, q⟩ => ⟨a, e, n, k _ _ n q⟩
/-- records that can be read one after the other: from tables and a width at the left, to tables and a width -/
def Vd : Tb × Tb → Nat → List Rc → Tb × Tb → Nat → Prop
  | T, l, [], T2, l2 => T = T2 ∧ l = l2
  | _, l, .st T' :: r, T2, l2 => TkOk T' ∧ Vd T' l r T2 l2
  | T, l, .fr d ns T0 :: r, T2, l2 => T0 = T ∧ HdOk d ∧ l + d.2.1 ≤ d.1 ∧ ns.length = d.1 ∧ (∀ z ∈ ns, z.natAbs ≤ 30000) ∧ TkOk T ∧ Vd (nextF d ns T) d.2.1 r T2 l2
theorem Vd.st' {T' : Tb × Tb} (ok : TkOk T') : ∀ {rs : List Rc} {T : Tb × Tb} {l : Nat} {T2 : Tb × Tb} {l2 : Nat}, Vd T l rs T2 l2 → Vd T l (rs ++ [.st T']) T' l2
  | [], _, _, _, _, ⟨_, e⟩ => ⟨ok, rfl, e⟩
  | .st _ :: _, _, _, _, _, ⟨h, q⟩ => ⟨h, Vd.st' ok q⟩
  | .fr _ _ _ :: _, _, _, _, _, ⟨h1, h2, h3, h4, h5, h6, q⟩ => ⟨h1, h2, h3, h4, h5, h6, Vd.st' ok q⟩
theorem Vd.fr' {d : Hd} {ns : List Int} {T2 : Tb × Tb} {l2 : Nat} (a1 : HdOk d) (a2 : l2 + d.2.1 ≤ d.1) (a3 : ns.length = d.1) (a4 : ∀ z ∈ ns, z.natAbs ≤ 30000) (a5 : TkOk T2) : ∀ {rs : List Rc} {T : Tb × Tb} {l : Nat}, Vd T l rs T2 l2 → Vd T l (rs ++ [.fr d ns T2]) (nextF d ns T2) d.2.1
  | [], _, _, ⟨e1, e2⟩ => by
    subst e1 e2
    exact ⟨rfl, a1, a2, a3, a4, a5, rfl, rfl⟩
  | .st _ :: _, _, _, ⟨h, q⟩ => ⟨h, Vd.fr' a1 a2 a3 a4 a5 q⟩
  | .fr _ _ _ :: _, _, _, ⟨h1, h2, h3, h4, h5, h6, q⟩ => ⟨h1, h2, h3, h4, h5, h6, Vd.fr' a1 a2 a3 a4 a5 q⟩
def T0 : Tb × Tb := ((2, 1), (2, 1))
def spStreamF (kf : Hd → List Int → List Int) (K : PySem.W.Frag) : Sp := fun vs H Q _ => ∃ (p : Addr) (m : Nat), vs = [.ref p, .int (m : Nat)] ∧ Pool H p ∧ m ≤ 9 ∧ ∀ L R W B refs rws bks rs T H', H L = none → H R = none → H W = none → H B = none → H' L = some (.lst [.ref R, .ref W, .ref B]) → H' R = some (.lst refs) → H' W = some (.lst rws) → H' B = some (.lst bks) → refs.length ≤ 30 →
  RcsAt K H' refs rs → RwsAt H' rws (runR rs).rows → BksAt [p, R, W, B] H' bks (blkF kf rs) → Vd T0 0 rs T 0 → Pool H' p → Kp p H H' → Q (.ref L) H'
abbrev spStream := spStreamF kfB
theorem use_stream {K : PySem.W.Frag} {p : Addr} {m : Nat} {H : Hp} {Q : VK} {E : XK} (h : Pool H p) (hm : m ≤ 9) (q : ∀ L R W B refs rws bks rs T H', H L = none → H R = none → H W = none → H B = none → H' L = some (.lst [.ref R, .ref W, .ref B]) → H' R = some (.lst refs) → H' W = some (.lst rws) → H' B = some (.lst bks) → refs.length ≤ 30 →
  RcsAt K H' refs rs → RwsAt H' rws (runR rs).rows → BksAt [p, R, W, B] H' bks (blkR rs) → Vd T0 0 rs T 0 → Pool H' p → Kp p H H' → Q (.ref L) H') : spStream K ([.ref p, .int (m : Nat)] ++ []) H Q E := ⟨p, m, rfl, h, hm, q⟩
/-- what the writing of a stream keeps -/
structure SI (kf : Hd → List Int → List Int) (K : PySem.W.Frag) (p R W B : Addr) (H : Hp) (refs rws bks : List V) (rs : List Rc) (T : Tb × Tb) (jl : Addr) (lj : Nat × Nat) (o pl n : Nat) : Prop where
  eR : H R = some (.lst refs)
  eW : H W = some (.lst rws)
  eB : H B = some (.lst bks)
  rc : RcsAt K H refs rs
  rw : RwsAt H rws (runR rs).rows
  bk : BksAt [p, R, W, B] H bks (blkF kf rs)
  vd : Vd T0 0 rs T lj.1
  jt : JtAt H jl lj
  r1 : (runR rs).lj = lj
  r2 : (runR rs).pl = pl
  r3 : (runR rs).o = o
  ln : refs.length = rs.length
  le : rs.length ≤ n
  po : Pool H p
  nRp : R ≠ p
  nWp : W ≠ p
  nBp : B ≠ p
  nRW : R ≠ W
  nRB : R ≠ B
  nWB : W ≠ B
section
variable {kf : Hd → List Int → List Int} {K : PySem.W.Frag} {p R W B jl : Addr} {H H' : Hp} {refs rws bks : List V} {rs : List Rc} {T : Tb × Tb} {lj : Nat × Nat} {o pl n : Nat}
theorem JtAt.lk {j : Addr} {x : Nat × Nat} (s : LK H H') (h : JtAt H j x) : JtAt H' j x := s _ _ h fun _ z => nomatch z
theorem SI.kp (h : SI kf K p R W B H refs rws bks rs T jl lj o pl n) (k : Kp p H H') (hP : Pool H' p) : SI kf K p R W B H' refs rws bks rs T jl lj o pl n :=
  have lk := LK.pool h.po k
  { h with eR := k _ _ h.nRp h.eR, eW := k _ _ h.nWp h.eW, eB := k _ _ h.nBp h.eB, rc := h.rc.lk lk, rw := h.rw.lk lk, bk := h.bk.kp (KpL.ofK List.mem_cons_self k), jt := h.jt.lk lk, po := hP }
theorem SI.new {q : Addr} {u : HO} (h : SI kf K p R W B H refs rws bks rs T jl lj o pl n) (nq : H q = none) : SI kf K p R W B (upd H q u) refs rws bks rs T jl lj o pl n := h.kp (Kp.new nq) (h.po.new nq)
theorem SI.same (h : SI kf K p R W B H refs rws bks rs T jl lj o pl n) (s : Same H H') : SI kf K p R W B H' refs rws bks rs T jl lj o pl n := h.kp (fun a x _ e => s a x e) (h.po.same s)
theorem pool_upd {a : Addr} {u : HO} (ne : a ≠ p) (h : Pool H p) : Pool (upd H a u) p := by
  obtain ⟨x, y, e, r⟩ := h
  exact ⟨x, y, by rw [upd_ne ne.symm]; exact e, r⟩
theorem SI.addSt (h : SI kf K p R W B H refs rws bks rs T jl lj o pl n) {a t : Addr} {T' : Tb × Tb} (ha : H a = some (.tup [.str (Str.ofString "state"), .ref t])) (ht : TbsV K H t T') (ok : TkOk T') : SI kf K p R W B (upd H R (.lst (refs ++ [.ref a]))) (refs ++ [.ref a]) rws bks (rs ++ [.st T']) T' jl lj rs.length pl (n + 1) :=
  have lk : LK H (upd H R (.lst (refs ++ [.ref a]))) := LK.at h.eR
  { eR := upd_same, eW := by rw [upd_ne h.nRW.symm]; exact h.eW, eB := by rw [upd_ne h.nRB.symm]; exact h.eB
    rc := (h.rc.lk lk).app ⟨a, t, rfl, lk _ _ ha (fun _ z => nomatch z), ht.lk lk⟩
    rw := by rw [runR_snoc]; exact h.rw.lk lk
    bk := by rw [blkF_snoc kf, show blkF kf [Rc.st T'] = [] from rfl, List.append_nil]; exact h.bk.kp (KpL.at (by simp))
    vd := h.vd.st' ok, jt := h.jt.lk lk, r1 := by rw [runR_snoc]; exact h.r1, r2 := by rw [runR_snoc]; exact h.r2
    r3 := by rw [runR_snoc]; show (runR rs).i = _; exact runR_i rs
    ln := by rw [List.length_append, List.length_append, h.ln]; rfl, le := by rw [List.length_append]; exact Nat.succ_le_succ h.le
    po := pool_upd h.nRp h.po, nRp := h.nRp, nWp := h.nWp, nBp := h.nBp, nRW := h.nRW, nRB := h.nRB, nWB := h.nWB }
theorem SI.addFr (h : SI kf K p R W B H refs rws bks rs T jl lj o pl n) {H3 : Hp} {w0 r0 j b0 : Addr} {d : Hd} {ns : List Int} (hd : HdOk d) (hw : lj.1 + d.2.1 ≤ d.1) (hl : ns.length = d.1) (hn : ∀ z ∈ ns, z.natAbs ≤ 30000) (ok : TkOk T) (hj : JtAt H j (d.2.1, d.2.2.1)) (fr : FrAt H r0 j d ns T)
    (ew : H w0 = some (.tup [.int (refs.length : Nat), .int (pl : Nat), .int (d.1 : Nat), .ref jl, .ref j, .int (d.2.2.2.1 : Nat), .int (d.2.2.2.2 : Nat), .int (o : Nat)]))
    (s : Same (upd (upd H W (.lst (rws ++ [.ref w0]))) R (.lst (refs ++ [.ref r0]))) H3) (eb : H3 b0 = some (.lst ((kf d ns).map V.int))) (nb : b0 ∉ [p, R, W, B]) :
    SI kf K p R W B (upd H3 B (.lst (bks ++ [.ref b0]))) (refs ++ [.ref r0]) (rws ++ [.ref w0]) (bks ++ [.ref b0]) (rs ++ [.fr d ns T]) (nextF d ns T) j (d.2.1, d.2.2.1) o (pl + d.1) (n + 1) := by
  have lk1 : LK H (upd H W (.lst (rws ++ [.ref w0]))) := LK.at h.eW
  have eR1 : (upd H W (.lst (rws ++ [.ref w0]))) R = some (.lst refs) := by rw [upd_ne h.nRW]; exact h.eR
  have lk2 : LK (upd H W (.lst (rws ++ [.ref w0]))) (upd (upd H W (.lst (rws ++ [.ref w0]))) R (.lst (refs ++ [.ref r0]))) := LK.at eR1
  have eB3 : H3 B = some (.lst bks) := s _ _ (by rw [upd_ne h.nRB.symm, upd_ne h.nWB.symm]; exact h.eB)
  have lk4 : LK H3 (upd H3 B (.lst (bks ++ [.ref b0]))) := LK.at eB3
  have lk : LK H (upd H3 B (.lst (bks ++ [.ref b0]))) := ((lk1.trans lk2).trans (.of s)).trans lk4
  have kL : KpL [p, R, W, B] H (upd H3 B (.lst (bks ++ [.ref b0]))) := (((KpL.at (by simp)).trans (KpL.at (by simp))).trans (KpL.ofS s)).trans (KpL.at (by simp))
  have hrow : (stpR (runR rs) (.fr d ns T)).rows = (runR rs).rows ++ [(refs.length, pl, d, lj, o)] := by
    show (runR rs).rows ++ [((runR rs).i, (runR rs).pl, d, (runR rs).lj, (runR rs).o)] = _
    rw [runR_i, h.r1, h.r2, h.r3, h.ln]
  exact
  { eR := by rw [upd_ne h.nRB]; exact s _ _ upd_same
    eW := by rw [upd_ne h.nWB]; exact s _ _ (by rw [upd_ne h.nRW.symm]; exact upd_same)
    eB := upd_same
    rc := (h.rc.lk lk).app ⟨r0, j, rfl, lk _ _ fr (fun _ z => nomatch z), lk _ _ hj (fun _ z => nomatch z)⟩
    rw := by
      rw [runR_snoc, hrow]
      exact (h.rw.lk lk).app ⟨w0, jl, j, rfl, lk _ _ ew (fun _ z => nomatch z), h.jt.lk lk, hj.lk lk⟩
    bk := by
      rw [blkF_snoc kf]
      exact (h.bk.kp kL).app ⟨b0, rfl, nb, by rw [upd_ne (fun z => nb (by rw [z]; simp))]; exact eb⟩
    vd := Vd.fr' hd hw hl hn ok h.vd
    jt := hj.lk lk
    r1 := by rw [runR_snoc]; rfl
    r2 := by rw [runR_snoc]; show (runR rs).pl + d.1 = _; rw [h.r2]
    r3 := by rw [runR_snoc]; exact h.r3
    ln := by rw [List.length_append, List.length_append, h.ln]; rfl
    le := by rw [List.length_append]; exact Nat.succ_le_succ h.le
    po := pool_upd h.nBp ((pool_upd h.nRp (pool_upd h.nWp h.po)).same s)
    nRp := h.nRp, nWp := h.nWp, nBp := h.nBp, nRW := h.nRW, nRB := h.nRB, nWB := h.nWB }
end
theorem next_ok {d : Hd} {ns : List Int} {T : Tb × Tb} {m : Int} (hl : ns.length = d.1) (h64 : d.1 ≤ 64) (hn : ∀ z ∈ ns, z.natAbs ≤ 30000) (h1 : TbOk m T.1) (h2 : TbOk m T.2) : TbOk (m + 3840064) (nextF d ns T).1 ∧ TbOk (m + 3840064) (nextF d ns T).2 := by
  obtain ⟨a, b⟩ := wst_small (first := cc d.1 d.2.2.2.1) hn h1 h2 ns.length (Nat.le_refl _)
  exact ⟨a.up (by omega), b.up (by omega)⟩
theorem SI.up {kf : Hd → List Int → List Int} {K : PySem.W.Frag} {p R W B jl : Addr} {H : Hp} {refs rws bks : List V} {rs : List Rc} {T : Tb × Tb} {lj : Nat × Nat} {o pl n m : Nat} (h : SI kf K p R W B H refs rws bks rs T jl lj o pl n) (k : n ≤ m) : SI kf K p R W B H refs rws bks rs T jl lj o pl m := { h with le := Nat.le_trans h.le k }
theorem tok_of {m : Int} {T : Tb × Tb} (h1 : TbOk m T.1) (h2 : TbOk m T.2) (k : m ≤ 10 ^ 9) : TkOk T := ⟨h1.up k, h2.up k⟩
theorem rows_le (rs : List Rc) : (runR rs).rows.length ≤ rs.length := by
  have key : ∀ (rs : List Rc) (s : Run), (rs.foldl stpR s).rows.length ≤ s.rows.length + rs.length := by
    intro rs
    induction rs with
    | nil => intro s; exact Nat.le_refl _
    | cons r rs ih =>
      intro s
      rw [List.foldl_cons, List.length_cons]
      have := ih (stpR s r)
      cases r with
      | st T => exact Nat.le_trans this (by show s.rows.length + _ ≤ _; omega)
      | fr d ns T => exact Nat.le_trans this (by show (s.rows ++ [_]).length + _ ≤ _; rw [List.length_append]; simp only [List.length_cons, List.length_nil]; omega)
  have z : (runR rs).rows.length ≤ 0 + rs.length := key rs ⟨0, 0, (0, 0), 0, []⟩
  omega
theorem blk_le (kf : Hd → List Int → List Int) : ∀ rs : List Rc, (blkF kf rs).length ≤ rs.length
  | [] => Nat.le_refl _
  | .st _ :: r => Nat.le_succ_of_le (blk_le kf r)
  | .fr _ _ _ :: r => Nat.succ_le_succ (blk_le kf r)
theorem SI.lw {kf : Hd → List Int → List Int} {K : PySem.W.Frag} {p R W B jl : Addr} {H : Hp} {refs rws bks : List V} {rs : List Rc} {T : Tb × Tb} {lj : Nat × Nat} {o pl n : Nat} (h : SI kf K p R W B H refs rws bks rs T jl lj o pl n) : refs.length ≤ n ∧ rws.length ≤ n ∧ bks.length ≤ n := by
  have a := h.rw.len
  have b := h.bk.len
  have c := rows_le rs
  have d := blk_le kf rs
  have e := h.le
  have f := h.ln
  exact ⟨by omega, by omega, by omega⟩
theorem lc_mapM {K : PySem.W.Frag} {σ : L2.St} {Q : VK} {vs : List Nat} {k : Nat} {a D : Addr} {xs : List Int} {H1 : Hp} {te : TE} (f : Int → Int) (hS : SqL K H1 a (xs.map V.int)) (hn : xs.length ≤ 1000) (hw : ∀ v, wipe ((wipe σ vs).set k (some v)) vs = wipe σ vs) (hD : H1 D = none)
    (turn : ∀ z ∈ xs, ∀ (H : Hp) (Q' : VK), Same H1 H → Q' (.int (f z)) H → te ((wipe σ vs).set k (some (.int z))) H Q')
    (q : ∀ H', Same H1 H' → H' D = some (.lst ((xs.map f).map V.int)) → Q (.ref D) H') : LcW (Itl K a) (gName k) tYes te vs Q σ H1 D := by
  refine lc_list (xs := xs.map V.int) (Pv := fun j H => Same H1 H ∧ H D = some (.lst (((xs.map f).take j).map V.int))) ⟨same_new hD, upd_same⟩ (fun j H _ hI => hI.1.seq hS) (fun j v H hv hI => ?_) (fun H hI => ?_)
  · obtain ⟨hs, hd⟩ := hI
    obtain ⟨z, rfl, hz⟩ : ∃ z, v = .int z ∧ xs[j]? = some z := by
      rw [List.getElem?_map] at hv
      cases g : xs[j]? with
      | none => rw [g] at hv; cases hv
      | some z => rw [g] at hv; exact ⟨z, (Option.some.inj hv).symm, rfl⟩
    have hj := (List.getElem?_eq_some_iff.mp hz).1
    refine ⟨hw _, rd_yes ?_⟩
    refine turn z (List.mem_of_getElem? hz) H _ hs ⟨_, hd, small1000 (by rw [List.length_map, List.length_take, List.length_map]; omega), ?_, ?_⟩
    · exact fun b o e => by rw [upd_ne (ne_of_none e hD)]; exact hs _ _ e
    · have hz2 : (xs.map f)[j]? = some (f z) := by rw [List.getElem?_map, hz]; rfl
      rw [upd_same, List.take_add_one, hz2, List.map_append]
      rfl
  · obtain ⟨hs, hd⟩ := hI
    rw [List.take_of_length_le (by rw [List.length_map, List.length_map]; exact Nat.le_refl _)] at hd
    exact q H hs hd
end Z
namespace Z
open PySem PySem.Spec PyProof.Rows L2
open SX (S S_len S_cat S_inj)
structure Mn (K : PySem.W.Frag) (C : Addr) (x q : Str) (st : Stmt) (ps : List Str) (f : Addr) (fd : FuncData) : Prop where
  F : Fun K x q st f fd
  m : Meth K C x f
  b : Binds K fd ps []
structure Pn (K : PySem.W.Frag) (C : Addr) (x q : Str) (st : Stmt) (ps : List Str) (p f : Addr) (fd : FuncData) : Prop where
  F : Fun K x q st f fd
  p : PropOf K C x p f
  b : Binds K fd ps []
structure StmC (K : PySem.W.Frag) (mg : Str → Option Value) (C : Addr) : Prop where
  cl : Cls K C
  g : mg "Stream" = some (.ref C)
  mks : PySem.W.makesIn K C = true
  kc : PySem.W.keepIn K (.ref C) = true
  nh : NoAttr K C "held"
  nr : NoAttr K C "read"
theorem rd_decT {p : Prop} [Decidable p] {H : Hp} {Q : VK} (h : p) (q : Q (.bl true) H) : Q (.bl (decide p)) H := by rw [decide_eq_true h]; exact q
def spIsB : Sp := fun vs H Q _ => ∃ l : List Nat, vs = [.str (S l)] ∧ (∀ c ∈ l, IsB c) ∧ l.length ≤ 1000000 ∧ Q (.bl true) H
theorem use_isb {l : List Nat} {H : Hp} {Q : VK} {E : XK} (h1 : ∀ c ∈ l, IsB c) (h2 : l.length ≤ 1000000) (q : Q (.bl true) H) : spIsB ([.str (S l)] ++ []) H Q E := ⟨l, rfl, h1, h2, q⟩
def spIsLay : Sp := fun vs H Q _ => ∃ (a j : Addr) (d : Hd), vs = [.ref a] ∧ HdAt H a j d ∧ HdOk d ∧ Q (.bl true) H
theorem use_islay {a j : Addr} {d : Hd} {H : Hp} {Q : VK} {E : XK} (h : HdAt H a j d) (ok : HdOk d) (q : Q (.bl true) H) : spIsLay ([.ref a] ++ []) H Q E := ⟨a, j, d, rfl, h, ok, q⟩
/-- a record that is valid -/
def RcOk : Rc → Prop
  | .st T => TkOk T
  | .fr d ns T => HdOk d ∧ ns.length = d.1 ∧ (∀ z ∈ ns, z.natAbs ≤ 30000) ∧ TkOk T
def isSt : Rc → Bool
  | .st _ => true
  | .fr _ _ _ => false
def spIsSt (K : PySem.W.Frag) : Sp := fun vs H Q _ => ∃ v r, vs = [v] ∧ RcAt K H v r ∧ RcOk r ∧ Q (.bl (isSt r)) H
theorem use_isst {K : PySem.W.Frag} {v : V} {r : Rc} {H : Hp} {Q : VK} {E : XK} (h : RcAt K H v r) (ok : RcOk r) (q : Q (.bl (isSt r)) H) : spIsSt K ([v] ++ []) H Q E := ⟨v, r, rfl, h, ok, q⟩
def spIsFr (K : PySem.W.Frag) : Sp := fun vs H Q _ => ∃ v d ns T, vs = [v] ∧ RcAt K H v (.fr d ns T) ∧ RcOk (.fr d ns T) ∧ ∀ H', Same H H' → Q (.bl true) H'
theorem use_isfr {K : PySem.W.Frag} {v : V} {d : Hd} {ns : List Int} {T : Tb × Tb} {H : Hp} {Q : VK} {E : XK} (h : RcAt K H v (.fr d ns T)) (ok : RcOk (.fr d ns T)) (q : ∀ H', Same H H' → Q (.bl true) H') : spIsFr K ([v] ++ []) H Q E := ⟨v, d, ns, T, rfl, h, ok, q⟩
def spIsRc (K : PySem.W.Frag) : Sp := fun vs H Q _ => ∃ v r, vs = [v] ∧ RcAt K H v r ∧ RcOk r ∧ ∀ H', Same H H' → Q (.bl true) H'
theorem use_isrc {K : PySem.W.Frag} {v : V} {r : Rc} {H : Hp} {Q : VK} {E : XK} (h : RcAt K H v r) (ok : RcOk r) (q : ∀ H', Same H H' → Q (.bl true) H') : spIsRc K ([v] ++ []) H Q E := ⟨v, r, rfl, h, ok, q⟩
def spCkRc (K : PySem.W.Frag) : Sp := fun vs H Q _ => ∃ a refs rs, vs = [.ref a] ∧ H a = some (.lst refs) ∧ RcsAt K H refs rs ∧ (∀ r ∈ rs, RcOk r) ∧ ∀ H', Same H H' → Q .non H'
theorem use_ckrc {K : PySem.W.Frag} {a : Addr} {refs : List V} {rs : List Rc} {H : Hp} {Q : VK} {E : XK} (h : H a = some (.lst refs)) (k : RcsAt K H refs rs) (ok : ∀ r ∈ rs, RcOk r) (q : ∀ H', Same H H' → Q .non H') : spCkRc K ([.ref a] ++ []) H Q E := ⟨a, refs, rs, rfl, h, k, ok, q⟩
theorem bitsF_len {d : Hd} {ns : List Int} {T : Tb × Tb} (ok : RcOk (.fr d ns T)) : (bitsF d ns T).length ≤ 1000000 ∧ ∀ c ∈ bitsF d ns T, IsB c := by
  obtain ⟨h1, h2, h3, h4, h5⟩ := ok
  refine ⟨?_, wst_bin _ _ _ _⟩
  have z := wst_flat (first := cc d.1 d.2.2.2.1) (fun z hz => Nat.lt_of_le_of_lt (h3 z hz) (by decide)) (h4.up (by decide : (10:Int) ^ 9 ≤ 10 ^ 58)) (h5.up (by decide : (10:Int) ^ 9 ≤ 10 ^ 58)) ns.length (by have := h1.2.1; omega)
  have := h1.2.1
  unfold bitsF
  omega
def spRf (K : PySem.W.Frag) : Sp := fun vs H Q _ => ∃ v d ns T t, vs = [v, .ref t] ∧ RcAt K H v (.fr d ns T) ∧ RcOk (.fr d ns T) ∧ TbsV K H t T ∧
  ∀ p m q H', Same H H' → H p = none → H' p = some (.tup [.ref m, .ref q]) → H' m = some (.lst (ns.map V.int)) → TbsV K H' q (nextF d ns T) → Q (.ref p) H'
theorem use_rf {K : PySem.W.Frag} {v : V} {d : Hd} {ns : List Int} {T : Tb × Tb} {t : Addr} {H : Hp} {Q : VK} {E : XK} (h : RcAt K H v (.fr d ns T)) (ok : RcOk (.fr d ns T)) (hT : TbsV K H t T)
    (q : ∀ p m q H', Same H H' → H p = none → H' p = some (.tup [.ref m, .ref q]) → H' m = some (.lst (ns.map V.int)) → TbsV K H' q (nextF d ns T) → Q (.ref p) H') : spRf K ([v, .ref t] ++ []) H Q E := ⟨v, d, ns, T, t, rfl, h, ok, hT, q⟩
/-- index, place, head, left joint, numbers, tables -/
abbrev Fm := Nat × Nat × Hd × (Nat × Nat) × List Int × (Tb × Tb)
def frR : Nat → Nat → (Nat × Nat) → List Rc → List Fm
  | _, _, _, [] => []
  | i, pl, lj, .st _ :: r => frR (i + 1) pl lj r
  | i, pl, lj, .fr d ns T :: r => (i, pl, d, lj, ns, T) :: frR (i + 1) (pl + d.1) (d.2.1, d.2.2.1) r
def JtV (K : PySem.W.Frag) (H : Hp) (j : Addr) (x : Nat × Nat) : Prop := TupV K H j [.int (x.1 : Nat), .int (x.2 : Nat)]
theorem JtAt.v {K : PySem.W.Frag} {H : Hp} {j : Addr} {x : Nat × Nat} (h : JtAt H j x) : JtV K H j x := TupV.of h
theorem JtV.lk {K : PySem.W.Frag} {H H' : Hp} {j : Addr} {x : Nat × Nat} (s : LK H H') (h : JtV K H j x) : JtV K H' j x := TupV.lk s h
def FmAt (K : PySem.W.Frag) (l : List Addr) (H : Hp) (v : V) (f : Fm) : Prop := ∃ a b jl j m t q, v = .ref a ∧ H a = some (.tup [.ref b, .ref m, .ref t, .ref q]) ∧ H b = some (.tup [.int (f.1 : Nat), .int (f.2.1 : Nat), .int (f.2.2.1.1 : Nat), .ref jl, .ref j]) ∧ JtV K H jl f.2.2.2.1 ∧ JtAt H j (f.2.2.1.2.1, f.2.2.1.2.2.1) ∧
  m ∉ l ∧ H m = some (.lst (f.2.2.2.2.1.map V.int)) ∧ TbsV K H t f.2.2.2.2.2 ∧ TbsV K H q (nextF f.2.2.1 f.2.2.2.2.1 f.2.2.2.2.2)
theorem FmAt.kp {K : PySem.W.Frag} {l : List Addr} {H H' : Hp} {v : V} {f : Fm} (s : LK H H') (k : KpL l H H') (h : FmAt K l H v f) : FmAt K l H' v f := by
  obtain ⟨a, b, jl, j, m, t, q, e, h1, h2, h3, h4, h5, h6, h7, h8⟩ := h
  exact ⟨a, b, jl, j, m, t, q, e, s _ _ h1 (fun _ z => nomatch z), s _ _ h2 (fun _ z => nomatch z), h3.lk s, h4.lk s, h5, k _ _ h5 h6, h7.lk s, h8.lk s⟩
theorem FmAt.same {K : PySem.W.Frag} {l : List Addr} {H H' : Hp} {v : V} {f : Fm} (s : Same H H') (h : FmAt K l H v f) : FmAt K l H' v f := h.kp (.of s) (.ofS s)
theorem FmAt.out {K : PySem.W.Frag} {l : List Addr} {H : Hp} {v : V} {f : Fm} (h : FmAt K l H v f) : FmAt K [] H v f := by
  obtain ⟨a, b, jl, j, m, t, q, e, h1, h2, h3, h4, h5, h⟩ := h
  exact ⟨a, b, jl, j, m, t, q, e, h1, h2, h3, h4, List.not_mem_nil, h⟩
def FmsAt (K : PySem.W.Frag) (l : List Addr) (H : Hp) (vs : List V) (fs : List Fm) : Prop := All2 (FmAt K l H) vs fs
def spFrs (K : PySem.W.Frag) : Sp := fun vs H Q _ => ∃ a refs rs T, vs = [.ref a] ∧ H a = some (.lst refs) ∧ refs.length ≤ 40 ∧ RcsAt K H refs rs ∧ Vd T0 0 rs T 0 ∧ ∀ F fms H', H F = none → H' F = some (.lst fms) → FmsAt K [] H' fms (frR 0 0 (0, 0) rs) → Same H H' → Q (.ref F) H'
theorem use_frs {K : PySem.W.Frag} {a : Addr} {refs : List V} {rs : List Rc} {T : Tb × Tb} {H : Hp} {Q : VK} {E : XK} (h : H a = some (.lst refs)) (hl : refs.length ≤ 40) (hR : RcsAt K H refs rs) (hV : Vd T0 0 rs T 0) (q : ∀ F fms H', H F = none → H' F = some (.lst fms) → FmsAt K [] H' fms (frR 0 0 (0, 0) rs) → Same H H' → Q (.ref F) H') : spFrs K ([.ref a] ++ []) H Q E := ⟨a, refs, rs, T, rfl, h, hl, hR, hV, q⟩
theorem Vd.ok : ∀ {rs : List Rc} {T : Tb × Tb} {l : Nat} {T2 : Tb × Tb} {l2 : Nat}, Vd T l rs T2 l2 → ∀ r ∈ rs, RcOk r
  | [], _, _, _, _, _, r, h => absurd h List.not_mem_nil
  | .st T' :: rs, _, _, _, _, ⟨h, q⟩, r, hm => by
    rcases List.mem_cons.mp hm with rfl | hm
    · exact h
    · exact Vd.ok q r hm
  | .fr d ns T' :: rs, _, _, _, _, ⟨e, h2, h3, h4, h5, h6, q⟩, r, hm => by
    rcases List.mem_cons.mp hm with rfl | hm
    · subst e; exact ⟨h2, h4, h5, h6⟩
    · exact Vd.ok q r hm
theorem All2.drop_head {α β : Type} {R : α → β → Prop} {as : List α} {bs : List β} (h : All2 R as bs) {i : Nat} {a : α} (e : as[i]? = some a) : ∃ b r, R a b ∧ bs.drop i = b :: r ∧ bs.drop (i + 1) = r ∧ b ∈ bs := by
  obtain ⟨b, r, h1, h2, h3⟩ := h.get _ _ e
  exact ⟨b, r, h1, h2, h3, List.mem_of_mem_drop (i := i) (by rw [h2]; exact List.mem_cons_self)⟩
structure FI (K : PySem.W.Frag) (F : Addr) (H0 H : Hp) (rs : List Rc) (Te : Tb × Tb) (i : Nat) (fms : List V) (dn : List Fm) (t : Addr) (T : Tb × Tb) (pl : Nat) (jl : Addr) (lj : Nat × Nat) : Prop where
  eF : H F = some (.lst fms)
  nF : H0 F = none
  fm : FmsAt K [F] H fms dn
  sp : frR 0 0 (0, 0) rs = dn ++ frR i pl lj (rs.drop i)
  vd : Vd T lj.1 (rs.drop i) Te 0
  jt : JtV K H jl lj
  j0 : lj.1 = 0 → lj.2 = 0
  tb : TbsV K H t T
  sm : Same H0 H
  le : dn.length ≤ i
section
variable {K : PySem.W.Frag} {F t jl : Addr} {H0 H H' : Hp} {rs : List Rc} {Te T : Tb × Tb} {i pl : Nat} {fms : List V} {dn : List Fm} {lj : Nat × Nat}
theorem FI.same (h : FI K F H0 H rs Te i fms dn t T pl jl lj) (s : Same H H') : FI K F H0 H' rs Te i fms dn t T pl jl lj :=
  { h with eF := s _ _ h.eF, fm := h.fm.imp fun _ _ q => q.same s, jt := h.jt.lk (.of s), tb := h.tb.lk (.of s), sm := h.sm.trans s }
theorem FI.len (h : FI K F H0 H rs Te i fms dn t T pl jl lj) : fms.length ≤ i := by rw [h.fm.len]; exact h.le
theorem FI.st (h : FI K F H0 H rs Te i fms dn t T pl jl lj) {T' : Tb × Tb} {r : List Rc} (e : rs.drop i = .st T' :: r) (e' : rs.drop (i + 1) = r) {t' : Addr} (ht : TbsV K H t' T') : FI K F H0 H rs Te (i + 1) fms dn t' T' pl jl lj := by
  have sp := h.sp
  have vd := h.vd
  rw [e] at sp vd
  exact { h with sp := by rw [e']; exact sp, vd := by rw [e']; exact vd.2, tb := ht, le := Nat.le_succ_of_le h.le }
theorem FI.fr (h : FI K F H0 H rs Te i fms dn t T pl jl lj) {d : Hd} {ns : List Int} {T0 : Tb × Tb} {r : List Rc} (e : rs.drop i = .fr d ns T0 :: r) (e' : rs.drop (i + 1) = r) {v : V} {q j : Addr} (hv : FmAt K [F] H v (i, pl, d, lj, ns, T)) (hj : JtAt H j (d.2.1, d.2.2.1)) (hq : TbsV K H q (nextF d ns T)) :
    FI K F H0 (upd H F (.lst (fms ++ [v]))) rs Te (i + 1) (fms ++ [v]) (dn ++ [(i, pl, d, lj, ns, T)]) q (nextF d ns T) (pl + d.1) j (d.2.1, d.2.2.1) := by
  have sp := h.sp
  have vd := h.vd
  rw [e] at sp vd
  obtain ⟨rfl, v2, v3, v4, v5, v6, v7⟩ := vd
  have lk : LK H (upd H F (.lst (fms ++ [v]))) := LK.at h.eF
  have kp : KpL [F] H (upd H F (.lst (fms ++ [v]))) := KpL.at (by simp)
  exact { eF := upd_same, nF := h.nF, fm := (h.fm.imp fun _ _ q => q.kp lk kp).app (hv.kp lk kp)
          sp := by rw [e', sp, List.append_assoc]; rfl
          vd := by rw [e']; exact v7
          jt := (hj.lk lk).v, j0 := v2.2.2.2.2.1, tb := hq.lk lk
          sm := fun b o eb => by rw [upd_ne (ne_of_none eb h.nF)]; exact h.sm _ _ eb
          le := by rw [List.length_append]; exact Nat.succ_le_succ h.le }
end
/-- a list of numbers is not the list of frames -/
theorem ne_fms {F m : Addr} {H : Hp} {fms : List V} {ns : List Int} (hF : H F = some (.lst fms)) (hm : H m = some (.lst (ns.map V.int))) (h1 : 1 ≤ ns.length) (hr : ∀ v ∈ fms, ∃ a, v = .ref a) : m ≠ F := fun z => by
  rw [z, hF] at hm
  cases ns with
  | nil => simp at h1
  | cons n ns =>
    have e := HO.lst.inj (Option.some.inj hm)
    obtain ⟨a, ha⟩ := hr _ (by rw [e]; exact List.mem_cons_self)
    cases ha
theorem fms_ref {K : PySem.W.Frag} {l : List Addr} {H : Hp} {vs : List V} {fs : List Fm} (h : FmsAt K l H vs fs) : ∀ v ∈ vs, ∃ a, v = .ref a := by
  induction h with
  | nil => exact fun v h => absurd h List.not_mem_nil
  | cons h _ ih =>
    intro v hv
    rcases List.mem_cons.mp hv with rfl | hv
    · obtain ⟨a, b, jl, j, m, t, q, e, _⟩ := h
      exact ⟨a, e⟩
    · exact ih v hv
def LKI (H H' : Hp) : Prop := ∀ b o, H b = some o → (∀ xs, o ≠ .lst xs) → (∀ C dx fs, o ≠ .ins C dx fs) → H' b = some o
theorem LK.i {H H' : Hp} (s : LK H H') : LKI H H' := fun b o e n _ => s b o e n
theorem LKI.ofK {x C dx : Addr} {fs : List (Str × V)} {H H' : Hp} (hx : H x = some (.ins C dx fs)) (k : Kp x H H') : LKI H H' := fun b o e _ n => k b o (fun z => by
  rw [z, hx] at e
  exact n _ _ _ (Option.some.inj e).symm) e
theorem TupV.lki {K : PySem.W.Frag} {H H' : Hp} {a : Addr} {xs : List V} (s : LKI H H') (h : TupV K H a xs) : TupV K H' a xs := by
  obtain ⟨h1, h2⟩ := h
  refine ⟨?_, ?_⟩
  · rcases h1 with (h | ⟨o, h⟩) | h
    · exact .inl (.inl (s _ _ h (fun _ z => nomatch z) (fun _ _ _ z => nomatch z)))
    · exact .inl (.inr ⟨o, s _ _ h (fun _ z => nomatch z) (fun _ _ _ z => nomatch z)⟩)
    · exact .inr h
  · generalize ht : (Value.type "tuple") = t at h2 ⊢
    cases h2 with
    | base b =>
      cases b with
      | lst e => exact absurd ht (by decide)
      | frz e => exact absurd ht (by decide)
      | tup e => exact .base (.tup (s _ _ e (fun _ z => nomatch z) (fun _ _ _ z => nomatch z)))
      | dK e => exact absurd ht (by decide)
      | dT e => exact absurd ht (by decide)
      | ins e => cases ht
    | set e => exact absurd ht (by decide)
    | kList e c => exact .kList e c
    | kTuple e c => exact .kTuple e c
    | kDict e c => exact .kDict e c
    | fTuple e => exact .fTuple (s _ _ e (fun _ z => nomatch z) (fun _ _ _ z => nomatch z))
    | fDict e => exact absurd ht (by decide)
section
variable {K : PySem.W.Frag} {H H' : Hp}
theorem TbsV.lki {a : Addr} {T : Tb × Tb} (s : LKI H H') (h : TbsV K H a T) : TbsV K H' a T := let ⟨r0, r1, h0, h1, h2⟩ := h; ⟨r0, r1, h0.lki s, TupV.lki s h1, TupV.lki s h2⟩
theorem JtV.lki {j : Addr} {x : Nat × Nat} (s : LKI H H') (h : JtV K H j x) : JtV K H' j x := TupV.lki s h
theorem JtAt.lki {j : Addr} {x : Nat × Nat} (s : LKI H H') (h : JtAt H j x) : JtAt H' j x := s _ _ h (fun _ z => nomatch z) (fun _ _ _ z => nomatch z)
theorem RcAt.lki {v : V} (s : LKI H H') : ∀ {r : Rc}, RcAt K H v r → RcAt K H' v r
  | .st T, ⟨a, t, e, h, q⟩ => ⟨a, t, e, s _ _ h (fun _ z => nomatch z) (fun _ _ _ z => nomatch z), q.lki s⟩
  | .fr d ns T, ⟨a, j, e, h, q⟩ => ⟨a, j, e, s _ _ h (fun _ z => nomatch z) (fun _ _ _ z => nomatch z), s _ _ q (fun _ z => nomatch z) (fun _ _ _ z => nomatch z)⟩
theorem RcsAt.lki {vs : List V} {rs : List Rc} (s : LKI H H') (h : RcsAt K H vs rs) : RcsAt K H' vs rs := h.imp fun _ _ q => q.lki s
theorem FmAt.lki {l : List Addr} {v : V} {f : Fm} (s : LKI H H') (k : ∀ m ns, H m = some (.lst ns) → H' m = some (.lst ns)) (h : FmAt K l H v f) : FmAt K l H' v f := by
  obtain ⟨a, b, jl, j, m, t, q, e, h1, h2, h3, h4, h5, h6, h7, h8⟩ := h
  exact ⟨a, b, jl, j, m, t, q, e, s _ _ h1 (fun _ z => nomatch z) (fun _ _ _ z => nomatch z), s _ _ h2 (fun _ z => nomatch z) (fun _ _ _ z => nomatch z), h3.lki s, h4.lki s, h5, k _ _ h6, h7.lki s, h8.lki s⟩
theorem lst_kp {x C dx : Addr} {fs : List (Str × V)} (hx : H x = some (.ins C dx fs)) (k : Kp x H H') : ∀ m ns, H m = some (.lst ns) → H' m = some (.lst ns) := fun m ns e => k m _ (fun z => by rw [z, hx] at e; cases e) e
theorem FmsAt.fld {l : List Addr} {x C dx : Addr} {fs : List (Str × V)} {vs : List V} {fms : List Fm} (hx : H x = some (.ins C dx fs)) (k : Kp x H H') (h : FmsAt K l H vs fms) : FmsAt K l H' vs fms := h.imp fun _ _ q => q.lki (.ofK hx k) (lst_kp hx k)
end
theorem held_ (L : Addr) : (putF "held" (.ref L) []).lookup ("held" : Str) = some (V.ref L) := by
  rw [lookup_putF, if_pos rfl]
theorem hr_ : ¬ (("held" : Str) = "read") := by decide +kernel
def sf (L F : Addr) : List (Str × V) := putF "read" (.ref F) (putF "held" (.ref L) [])
theorem sf_held (L F : Addr) : (sf L F).lookup ("held" : Str) = some (.ref L) := by
  unfold sf
  rw [lookup_putF, if_neg hr_, lookup_putF, if_pos rfl]
theorem sf_read (L F : Addr) : (sf L F).lookup ("read" : Str) = some (.ref F) := by
  unfold sf
  rw [lookup_putF, if_pos rfl]
theorem sf_no (L F : Addr) {m : Str} (h1 : ¬ m = "read") (h2 : ¬ m = "held") : (sf L F).lookup m = none := by
  unfold sf
  rw [lookup_putF, if_neg h1, lookup_putF, if_neg h2]
  all_goals rfl
def StmAt (K : PySem.W.Frag) (C : Addr) (H : Hp) (x : Addr) (refs : List V) (rs : List Rc) : Prop := ∃ dx L F fms Te, H x = some (.ins C dx (sf L F)) ∧ H L = some (.lst refs) ∧ refs.length ≤ 40 ∧ RcsAt K H refs rs ∧ Vd T0 0 rs Te 0 ∧ H F = some (.lst fms) ∧ FmsAt K [] H fms (frR 0 0 (0, 0) rs)
theorem StmAt.same {K : PySem.W.Frag} {C x : Addr} {H H' : Hp} {refs : List V} {rs : List Rc} (s : Same H H') (h : StmAt K C H x refs rs) : StmAt K C H' x refs rs := by
  obtain ⟨dx, L, F, fms, Te, h1, h2, h3, h4, h5, h6, h7⟩ := h
  exact ⟨dx, L, F, fms, Te, s _ _ h1, s _ _ h2, h3, h4.lk (.of s), h5, s _ _ h6, h7.imp fun _ _ q => q.same s⟩
def spInitS (K : PySem.W.Frag) (C : Addr) : Sp := fun vs H Q _ => ∃ (x a dx : Addr) (refs : List V) (rs : List Rc) (Te : Tb × Tb), vs = [.ref x, .ref a] ∧ H x = some (.ins C dx []) ∧ H a = some (.lst refs) ∧ refs.length ≤ 40 ∧ RcsAt K H refs rs ∧ Vd T0 0 rs Te 0 ∧ ∀ H', StmAt K C H' x refs rs → Kp x H H' → Q .non H'
theorem use_init {K : PySem.W.Frag} {C x a dx : Addr} {refs : List V} {rs : List Rc} {Te : Tb × Tb} {H : Hp} {Q : VK} {E : XK} (hx : H x = some (.ins C dx [])) (h : H a = some (.lst refs)) (hl : refs.length ≤ 40) (hR : RcsAt K H refs rs) (hV : Vd T0 0 rs Te 0) (q : ∀ H', StmAt K C H' x refs rs → Kp x H H' → Q .non H') : spInitS K C (.ref x :: ([.ref a] ++ [])) H Q E := ⟨x, a, dx, refs, rs, Te, rfl, hx, h, hl, hR, hV, q⟩
def spRecs (K : PySem.W.Frag) (C : Addr) : Sp := fun vs H Q _ => ∃ (x : Addr) (refs : List V) (rs : List Rc), vs = [.ref x] ∧ StmAt K C H x refs rs ∧ ∀ p, H p = none → Q (.ref p) (upd H p (.lst refs))
def BlAt (K : PySem.W.Frag) (H : Hp) (b : Addr) (f : Fm) : Prop := ∃ jl j, H b = some (.tup [.int (f.1 : Nat), .int (f.2.1 : Nat), .int (f.2.2.1.1 : Nat), .ref jl, .ref j]) ∧ JtV K H jl f.2.2.2.1 ∧ JtAt H j (f.2.2.1.2.1, f.2.2.1.2.2.1)
def spPart (K : PySem.W.Frag) (C : Addr) : Sp := fun vs H Q _ => ∃ (x : Addr) (refs : List V) (rs : List Rc) (n k : Nat) (f : Fm), vs = [.ref x, .int (n : Nat), .int (k : Nat)] ∧ StmAt K C H x refs rs ∧ (frR 0 0 (0, 0) rs)[n]? = some f ∧ k < 4 ∧
  ∀ b m t q v, BlAt K H b f → H m = some (.lst (f.2.2.2.2.1.map V.int)) → TbsV K H t f.2.2.2.2.2 → TbsV K H q (nextF f.2.2.1 f.2.2.2.2.1 f.2.2.2.2.2) → ([.ref b, .ref m, .ref t, .ref q] : List V)[k]? = some v → Q v H
theorem use_part {K : PySem.W.Frag} {C x : Addr} {refs : List V} {rs : List Rc} {n : Nat} {z : Int} {f : Fm} {H : Hp} {Q : VK} {E : XK} (k : Nat) (ez : z = (k : Int)) (h : StmAt K C H x refs rs) (hf : (frR 0 0 (0, 0) rs)[n]? = some f) (hk : k < 4)
    (q : ∀ b m t q v, BlAt K H b f → H m = some (.lst (f.2.2.2.2.1.map V.int)) → TbsV K H t f.2.2.2.2.2 → TbsV K H q (nextF f.2.2.1 f.2.2.2.2.1 f.2.2.2.2.2) → ([.ref b, .ref m, .ref t, .ref q] : List V)[k]? = some v → Q v H) : spPart K C (.ref x :: ([.int (n : Nat), .int z] ++ [])) H Q E := by
  subst ez
  exact ⟨x, refs, rs, n, k, f, rfl, h, hf, hk, q⟩
def spBlk (K : PySem.W.Frag) (C : Addr) : Sp := fun vs H Q _ => ∃ (x : Addr) (refs : List V) (rs : List Rc) (n : Nat) (f : Fm), vs = [.ref x, .int (n : Nat)] ∧ StmAt K C H x refs rs ∧ (frR 0 0 (0, 0) rs)[n]? = some f ∧ ∀ b, BlAt K H b f → Q (.ref b) H
theorem use_blk {K : PySem.W.Frag} {C x : Addr} {refs : List V} {rs : List Rc} {n : Nat} {f : Fm} {H : Hp} {Q : VK} {E : XK} (h : StmAt K C H x refs rs) (hf : (frR 0 0 (0, 0) rs)[n]? = some f) (q : ∀ b, BlAt K H b f → Q (.ref b) H) : spBlk K C (.ref x :: ([.int (n : Nat)] ++ [])) H Q E := ⟨x, refs, rs, n, f, rfl, h, hf, q⟩
section
variable {K : PySem.W.Frag} {mg : Str → Option Value} {σ : L2.St} {H : Hp} {Q : VK} {C x L F dx : Addr} {ta : TE}
theorem rd_heldV {i : Nat} (T : StmC K mg C) (e : H x = some (.ins C dx (sf L F))) (ei : σ[i]? = some (some (.ref x))) (q : Q (.ref L) H) : tFld K (tVar i) "held" σ H Q := ⟨.ref x, ei, x, C, dx, _, _, rfl, e, T.cl, T.nh, sf_held L F, q⟩
theorem rd_readV {i : Nat} (T : StmC K mg C) (e : H x = some (.ins C dx (sf L F))) (ei : σ[i]? = some (some (.ref x))) (q : Q (.ref F) H) : tFld K (tVar i) "read" σ H Q := ⟨.ref x, ei, x, C, dx, _, _, rfl, e, T.cl, T.nr, sf_read L F, q⟩
theorem rd_setF {n : L2.St → Hp → Prop} {r : VK} {b c : L2.St → Hp → Prop} {tv : TE} {f : Str} {i : Nat} (h : tv σ H fun y H1 => ∃ x C dx fs, σ[i]? = some (some (.ref x)) ∧ H1 x = some (.ins C dx fs) ∧ Cls K C ∧ NoAttr K C f ∧ fs.length < 1000 ∧ n σ (upd H1 x (.ins C dx (putF f y fs)))) : sFld K (tVar i) tv f ⟨n, r, b, c⟩ σ H := by
  show tv σ H fun y H1 => ∃ v, σ[i]? = some (some v) ∧ ∃ a C dx fs, v = .ref a ∧ H1 a = some (.ins C dx fs) ∧ Cls K C ∧ NoAttr K C f ∧ fs.length < 1000 ∧ n σ (upd H1 a (.ins C dx (putF f y fs)))
  have e : (fun y H1 => ∃ x C dx fs, σ[i]? = some (some (V.ref x)) ∧ H1 x = some (.ins C dx fs) ∧ Cls K C ∧ NoAttr K C f ∧ fs.length < 1000 ∧ n σ (upd H1 x (.ins C dx (putF f y fs)))) = (fun (y : V) (H1 : Hp) => ∃ v, σ[i]? = some (some v) ∧ ∃ a C dx fs, v = V.ref a ∧ H1 a = some (.ins C dx fs) ∧ Cls K C ∧ NoAttr K C f ∧ fs.length < 1000 ∧ n σ (upd H1 a (.ins C dx (putF f y fs)))) := by
    funext y H1
    refine propext ⟨?_, ?_⟩
    · rintro ⟨x, C, dx, fs, e, h⟩
      exact ⟨_, e, x, C, dx, fs, rfl, h⟩
    · rintro ⟨v, e, x, C, dx, fs, rfl, h⟩
      exact ⟨x, C, dx, fs, e, h⟩
  rw [← e]
  exact h
theorem rd_methS {i : Nat} {m : Str} {sp : Sp} {dvs : List V} {E : XK} {t : TA} {refs : List V} {rs : List Rc} (hS : StmAt K C H x refs rs) (ei : σ[i]? = some (some (.ref x))) (h1 : ¬ m = "read") (h2 : ¬ m = "held") (h : t σ H fun vs H2 => sp (.ref x :: (vs ++ dvs)) H2 Q E) : tMeth C m sp dvs E (tVar i) t σ H Q := by
  obtain ⟨dx, L, F, fms, Te, e, _⟩ := hS
  exact ⟨.ref x, ei, x, dx, _, rfl, e, sf_no L F h1 h2, h⟩
theorem rd_propS {i : Nat} {sp : Sp} {dvs : List V} {E : XK} {refs : List V} {rs : List Rc} (hS : StmAt K C H x refs rs) (ei : σ[i]? = some (some (.ref x))) (h : sp (.ref x :: dvs) H Q E) : tProp C sp dvs E (tVar i) σ H Q := by
  obtain ⟨dx, L, F, fms, Te, e, _⟩ := hS
  exact ⟨.ref x, ei, x, dx, _, rfl, e, h⟩
end
def rowsF : Nat → Nat → (Nat × Nat) → Nat → List Rc → List Rw
  | _, _, _, _, [] => []
  | i, pl, lj, _, .st _ :: r => rowsF (i + 1) pl lj i r
  | i, pl, lj, o, .fr d _ _ :: r => (i, pl, d, lj, o) :: rowsF (i + 1) (pl + d.1) (d.2.1, d.2.2.1) o r
theorem run_rows : ∀ (rs : List Rc) (s : Run), (rs.foldl stpR s).rows = s.rows ++ rowsF s.i s.pl s.lj s.o rs
  | [], s => by rw [show rowsF s.i s.pl s.lj s.o [] = [] from rfl, List.append_nil]; rfl
  | .st T :: rs, s => by
    rw [List.foldl_cons, run_rows rs]
    rfl
  | .fr d ns T :: rs, s => by
    rw [List.foldl_cons, run_rows rs]
    show s.rows ++ [(s.i, s.pl, d, s.lj, s.o)] ++ _ = _
    rw [List.append_assoc]
    rfl
theorem runR_rows (rs : List Rc) : (runR rs).rows = rowsF 0 0 (0, 0) 0 rs := run_rows rs ⟨0, 0, (0, 0), 0, []⟩
def RwV (K : PySem.W.Frag) (H : Hp) (v : V) (r : Rw) : Prop := ∃ a jl j, v = .ref a ∧ H a = some (.tup [.int (r.1 : Nat), .int (r.2.1 : Nat), .int (r.2.2.1.1 : Nat), .ref jl, .ref j, .int (r.2.2.1.2.2.2.1 : Nat), .int (r.2.2.1.2.2.2.2 : Nat), .int (r.2.2.2.2 : Nat)]) ∧ JtV K H jl r.2.2.2.1 ∧ JtAt H j (r.2.2.1.2.1, r.2.2.1.2.2.1)
theorem RwV.lk {K : PySem.W.Frag} {H H' : Hp} {v : V} {r : Rw} (s : LK H H') (h : RwV K H v r) : RwV K H' v r := by
  obtain ⟨a, jl, j, e, h1, h2, h3⟩ := h
  exact ⟨a, jl, j, e, s _ _ h1 (fun _ z => nomatch z), h2.lk s, h3.lk s⟩
theorem RwAt.v {K : PySem.W.Frag} {H : Hp} {v : V} {r : Rw} (h : RwAt H v r) : RwV K H v r := by
  obtain ⟨a, jl, j, e, h1, h2, h3⟩ := h
  exact ⟨a, jl, j, e, h1, h2.v, h3⟩
def RwsV (K : PySem.W.Frag) (H : Hp) (vs : List V) (rs : List Rw) : Prop := All2 (RwV K H) vs rs
def spIdx (K : PySem.W.Frag) (C : Addr) : Sp := fun vs H Q _ => ∃ (x : Addr) (refs : List V) (rs : List Rc), vs = [.ref x] ∧ StmAt K C H x refs rs ∧ ∀ D idx H', H D = none → H' D = some (.lst idx) → RwsV K H' idx (runR rs).rows → Same H H' → Q (.ref D) H'
theorem use_idx {K : PySem.W.Frag} {C x : Addr} {refs : List V} {rs : List Rc} {H : Hp} {Q : VK} {E : XK} (h : StmAt K C H x refs rs) (q : ∀ D idx H', H D = none → H' D = some (.lst idx) → RwsV K H' idx (runR rs).rows → Same H H' → Q (.ref D) H') : spIdx K C ([.ref x] ++ []) H Q E := ⟨x, refs, rs, rfl, h, q⟩
theorem rd_catT2 {K : PySem.W.Frag} {H : Hp} {Q : VK} {a b : Addr} {xs ys zs : List V} (h : SqT K H a xs) (hb : SqT K H b ys) (n : xs ≠ []) (m : ys ≠ []) (l : xs.length + ys.length ≤ 1000) (ez : xs ++ ys = zs) (q : ∀ p, H p = none → Q (.ref p) (upd H p (.tup zs))) : rCatT K (.ref a) (.ref b) H Q := by
  subst ez
  exact ⟨a, b, xs, ys, rfl, rfl, h, hb, n, Nat.le_of_lt (small1000 l), fun z => absurd z m, fun _ => q⟩
structure II (K : PySem.W.Frag) (D : Addr) (H0 H : Hp) (rs : List Rc) (i : Nat) (idx : List V) (dn : List Rw) (fd : List Fm) (pl : Nat) (lj : Nat × Nat) (o : Nat) : Prop where
  eD : H D = some (.lst idx)
  nD : H0 D = none
  ix : RwsV K H idx dn
  s1 : rowsF 0 0 (0, 0) 0 rs = dn ++ rowsF i pl lj o (rs.drop i)
  s2 : frR 0 0 (0, 0) rs = fd ++ frR i pl lj (rs.drop i)
  ln : dn.length = fd.length
  sm : Same H0 H
  le : dn.length ≤ i
section
variable {K : PySem.W.Frag} {D : Addr} {H0 H H' : Hp} {rs : List Rc} {i pl o : Nat} {idx : List V} {dn : List Rw} {fd : List Fm} {lj : Nat × Nat}
theorem II.same (h : II K D H0 H rs i idx dn fd pl lj o) (s : Same H H') : II K D H0 H' rs i idx dn fd pl lj o :=
  { h with eD := s _ _ h.eD, ix := h.ix.imp fun _ _ q => q.lk (.of s), sm := h.sm.trans s }
theorem II.len (h : II K D H0 H rs i idx dn fd pl lj o) : idx.length ≤ i := by rw [h.ix.len]; exact h.le
theorem II.st (h : II K D H0 H rs i idx dn fd pl lj o) {T' : Tb × Tb} {r : List Rc} (e : rs.drop i = .st T' :: r) (e' : rs.drop (i + 1) = r) : II K D H0 H rs (i + 1) idx dn fd pl lj i := by
  have s1 := h.s1
  have s2 := h.s2
  rw [e] at s1 s2
  exact { h with s1 := by rw [e']; exact s1, s2 := by rw [e']; exact s2, le := Nat.le_succ_of_le h.le }
theorem II.at (h : II K D H0 H rs i idx dn fd pl lj o) {d : Hd} {ns : List Int} {T : Tb × Tb} {r : List Rc} (e : rs.drop i = .fr d ns T :: r) : (frR 0 0 (0, 0) rs)[idx.length]? = some (i, pl, d, lj, ns, T) := by
  have s2 := h.s2
  rw [e] at s2
  rw [s2, h.ix.len, h.ln, List.getElem?_append_right (Nat.le_refl _), Nat.sub_self]
  rfl
theorem II.fr (h : II K D H0 H rs i idx dn fd pl lj o) {d : Hd} {ns : List Int} {T : Tb × Tb} {r : List Rc} (e : rs.drop i = .fr d ns T :: r) (e' : rs.drop (i + 1) = r) {v : V} (hv : RwV K H v (i, pl, d, lj, o)) :
    II K D H0 (upd H D (.lst (idx ++ [v]))) rs (i + 1) (idx ++ [v]) (dn ++ [(i, pl, d, lj, o)]) (fd ++ [(i, pl, d, lj, ns, T)]) (pl + d.1) (d.2.1, d.2.2.1) o := by
  have s1 := h.s1
  have s2 := h.s2
  rw [e] at s1 s2
  have lk : LK H (upd H D (.lst (idx ++ [v]))) := LK.at h.eD
  exact { eD := upd_same, nD := h.nD, ix := (h.ix.imp fun _ _ q => q.lk lk).app (hv.lk lk)
          s1 := by rw [e', s1, List.append_assoc]; rfl
          s2 := by rw [e', s2, List.append_assoc]; rfl
          ln := by rw [List.length_append, List.length_append, h.ln]; rfl
          sm := fun b x eb => by rw [upd_ne (ne_of_none eb h.nD)]; exact h.sm _ _ eb
          le := by rw [List.length_append]; exact Nat.succ_le_succ h.le }
end
theorem sm_jt {K : PySem.W.Frag} {H : Hp} {a b : Addr} {x : Nat × Nat} (h : JtV K H a x) (g : JtV K H b x) : SmV K H 1 (.ref a) (.ref b) :=
  .inr (.inr ⟨a, b, _, _, rfl, rfl, h, g, rfl, fun i x y e1 e2 => by
    rw [e1] at e2
    have e := Option.some.inj e2
    subst e
    rcases i with _ | _ | i
    · cases e1; exact ⟨rfl, rfl⟩
    · cases e1; exact ⟨rfl, rfl⟩
    · simp at e1⟩)
theorem sm_rw {K : PySem.W.Frag} {H : Hp} {v w : V} {r : Rw} (h : RwV K H v r) (g : RwV K H w r) : SmV K H 2 v w := by
  obtain ⟨a, jl, j, rfl, h1, h2, h3⟩ := h
  obtain ⟨b, ml, m, rfl, g1, g2, g3⟩ := g
  refine .inr (.inr ⟨a, b, _, _, rfl, rfl, .of h1, .of g1, rfl, fun i x y e1 e2 => ?_⟩)
  rcases i with _ | _ | _ | _ | _ | _ | _ | _ | i
  · cases e1; cases e2; exact sm_sc rfl
  · cases e1; cases e2; exact sm_sc rfl
  · cases e1; cases e2; exact sm_sc rfl
  · cases e1; cases e2; exact sm_jt h2 g2
  · cases e1; cases e2; exact sm_jt h3.v g3.v
  · cases e1; cases e2; exact sm_sc rfl
  · cases e1; cases e2; exact sm_sc rfl
  · cases e1; cases e2; exact sm_sc rfl
  · simp at e1
theorem sm_rows {K : PySem.W.Frag} {H : Hp} {a b : Addr} {xs ys : List V} {rs : List Rw} (ha : H a = some (.lst xs)) (hb : H b = some (.lst ys)) (h : RwsV K H xs rs) (g : RwsV K H ys rs) : SmV K H 3 (.ref a) (.ref b) :=
  .inr (.inl ⟨a, b, _, _, rfl, rfl, .of ha, .of hb, h.len.trans g.len.symm, fun i x y e1 e2 => by
    obtain ⟨r, rr, h1, h2, _⟩ := h.get _ _ e1
    obtain ⟨r', rr', g1, g2, _⟩ := g.get _ _ e2
    rw [h2] at g2
    cases g2
    exact sm_rw h1 g1⟩)
theorem RwsAt.v {K : PySem.W.Frag} {H : Hp} {vs : List V} {rs : List Rw} (h : RwsAt H vs rs) : RwsV K H vs rs := h.imp fun _ _ q => q.v
theorem RwsV.lk {K : PySem.W.Frag} {H H' : Hp} {vs : List V} {rs : List Rw} (s : LK H H') (h : RwsV K H vs rs) : RwsV K H' vs rs := h.imp fun _ _ q => q.lk s
theorem rd_glst {K : PySem.W.Frag} {σ : L2.St} {H : Hp} {a : Addr} {xs : List V} {k : Nat} {ts : TGs} {q : L2.St → Hp → Prop} (e : SqL K H a xs) (l : xs.length = k) (h : ts xs σ H q) : gLst K k ts (.ref a) σ H q := ⟨a, xs, rfl, e, l, h⟩
theorem rd_mk {σ : L2.St} {H : Hp} {Q : VK} {C : Addr} {sp : Sp} {dvs : List V} {E : XK} {t : TA} (h : t σ H fun vs H1 => ∀ (x dx : Addr), H1 x = none → H1 dx = none → dx ≠ x → sp (.ref x :: (vs ++ dvs)) (upd (upd H1 dx (.own x)) x (.ins C dx [])) (fun v H2 => v = .non ∧ Q (.ref x) H2) E) : tMake C sp dvs E t σ H Q := h
end Z
namespace Z
open PySem PySem.Spec PyProof.Rows L2
abbrev Sz := Int × Int
def SzAt (H : Hp) (v : V) (s : Sz) : Prop := ∃ a, v = .ref a ∧ H a = some (.tup [.int s.1, .int s.2])
def SzsAt (H : Hp) (vs : List V) (ss : List Sz) : Prop := All2 (SzAt H) vs ss
def LKT (H H' : Hp) : Prop := ∀ b o, H b = some o → (∀ xs, o ≠ .lst xs) → H' b = some o
theorem SzsAt.lk {H H' : Hp} {vs : List V} {ss : List Sz} (s : LKT H H') (h : SzsAt H vs ss) : SzsAt H' vs ss := h.imp fun _ _ ⟨a, e, q⟩ => ⟨a, e, s _ _ q (fun _ z => nomatch z)⟩
theorem LKT.of {H H' : Hp} (s : Same H H') : LKT H H' := fun b o e _ => s b o e
theorem LKT.new {H : Hp} {q : Addr} {o : HO} (n : H q = none) : LKT H (upd H q o) := .of (same_new n)
theorem LKT.trans {H H1 H2 : Hp} (a : LKT H H1) (b : LKT H1 H2) : LKT H H2 := fun x o e n => b x o (a x o e n) n
theorem LKT.pool {H H' : Hp} {p : Addr} (h : Pool H p) (k : Kp p H H') : LKT H H' := fun b x e nl => k b x (fun z => by
  obtain ⟨x', y', e', _⟩ := h
  rw [z, e'] at e
  cases e
  exact nl _ rfl) e
theorem LKT.at {H : Hp} {q : Addr} {o : HO} {ys : List V} (n : H q = some (.lst ys)) : LKT H (upd H q o) := fun b x e nl => by
  rw [upd_ne (fun z => by rw [z, n] at e; cases e; exact nl _ rfl)]
  exact e
theorem SzsAt.same {H H' : Hp} {vs : List V} {ss : List Sz} (s : Same H H') (h : SzsAt H vs ss) : SzsAt H' vs ss := h.lk (.of s)
theorem All2.at_ {α β : Type} {R : α → β → Prop} {as : List α} {bs : List β} (h : All2 R as bs) : ∀ (i : Nat) (a : α), as[i]? = some a → ∃ b, bs[i]? = some b ∧ R a b ∧ bs.drop i = b :: bs.drop (i + 1) := by
  induction h with
  | nil => intro i a e; simp at e
  | @cons a b as bs h t ih =>
    intro i x e
    cases i with
    | zero => cases e; exact ⟨b, rfl, h, rfl⟩
    | succ i => exact ih i x e
end Z
namespace Z
open PySem PySem.Spec PyProof.Rows L2
def rend (r : Rw) : Nat := r.2.1 + r.2.2.1.1
def rnear (r : Rw) : Int := (r.2.1 : Int) - (r.2.2.2.1.1 : Int)
def rfar (r : Rw) : Int := (r.2.1 : Int) + (r.2.2.1.1 : Int) + (r.2.2.1.2.1 : Int)
def lenW (rows : List Rw) : Nat := match rows.getLast? with
  | none => 0
  | some r => rend r
structure RwO (r : Rw) : Prop where
  o : r.2.2.2.2 ≤ r.1
  l1 : 1 ≤ r.2.2.1.1
  l2 : r.2.2.1.1 ≤ 64
  w : r.2.2.1.2.1 ≤ 8
  v : r.2.2.2.1.1 ≤ 8
structure RunO (s : Run) : Prop where
  each : ∀ r ∈ s.rows, RwO r ∧ r.1 < s.i ∧ r.2.2.2.2 ≤ s.o ∧ rend r ≤ s.pl
  asc : s.rows.Pairwise fun a b => a.1 < b.1 ∧ a.2.2.2.2 ≤ b.2.2.2.2
  last : lenW s.rows = s.pl
  oi : s.o ≤ s.i
  pl : s.pl ≤ 64 * s.rows.length
  lj : s.lj.1 ≤ 8
  le : s.rows.length ≤ s.i
theorem RunO.step {s : Run} {r : Rc} (h : RunO s) (ok : RcOk r) : RunO (stpR s r) := by
  cases r with
  | st T =>
    exact { each := fun r hr => by
              obtain ⟨a, b, c, d⟩ := h.each r hr
              exact ⟨a, by show r.1 < s.i + 1; omega, by show _ ≤ s.i; have := a.o; omega, d⟩
            asc := h.asc, last := h.last, oi := Nat.le_succ s.i, pl := h.pl, lj := h.lj, le := Nat.le_succ_of_le h.le }
  | fr d ns T =>
    obtain ⟨hd, _, _, _⟩ := id ok
    obtain ⟨d1, d2, d3, _⟩ := hd
    have hlen : (s.rows ++ [(s.i, s.pl, d, s.lj, s.o)]).length = s.rows.length + 1 := by simp
    exact { each := fun r hr => by
              rcases List.mem_append.mp hr with hr | hr
              · obtain ⟨a, b, c, e⟩ := h.each r hr
                exact ⟨a, by show r.1 < s.i + 1; omega, c, by show _ ≤ s.pl + d.1; omega⟩
              · rw [List.mem_singleton.mp hr]
                exact ⟨⟨h.oi, d1, d2, d3, h.lj⟩, Nat.lt_succ_self _, Nat.le_refl _, Nat.le_refl _⟩
            asc := by
              show (s.rows ++ [(s.i, s.pl, d, s.lj, s.o)]).Pairwise _
              rw [List.pairwise_append]
              refine ⟨h.asc, List.pairwise_singleton _ _, fun a ha b hb => ?_⟩
              rw [List.mem_singleton.mp hb]
              exact ⟨(h.each a ha).2.1, (h.each a ha).2.2.1⟩
            last := by
              show lenW (s.rows ++ [(s.i, s.pl, d, s.lj, s.o)]) = s.pl + d.1
              unfold lenW
              rw [List.getLast?_append]
              rfl
            oi := Nat.le_succ_of_le h.oi
            pl := by
              show s.pl + d.1 ≤ 64 * (s.rows ++ [(s.i, s.pl, d, s.lj, s.o)]).length
              rw [hlen]
              have := h.pl
              omega
            lj := d3
            le := by
              show (s.rows ++ [(s.i, s.pl, d, s.lj, s.o)]).length ≤ s.i + 1
              rw [hlen]
              have := h.le
              omega }
theorem RunO.fold : ∀ (rs : List Rc) (s : Run), RunO s → (∀ r ∈ rs, RcOk r) → RunO (rs.foldl stpR s)
  | [], _, h, _ => h
  | r :: rs, s, h, ok => RunO.fold rs _ (h.step (ok r List.mem_cons_self)) fun x hx => ok x (List.mem_cons_of_mem _ hx)
theorem runO {rs : List Rc} (ok : ∀ r ∈ rs, RcOk r) : RunO (runR rs) := RunO.fold rs _ { each := fun r hr => (List.not_mem_nil hr).elim, asc := .nil, last := rfl, oi := Nat.le_refl _, pl := Nat.le_refl _, lj := Nat.zero_le _, le := Nat.le_refl _ } ok
def selW (s e : Int) (r : Rw) : Bool := decide (rnear r < e) && decide (s < rfar r)
def ndW (s e : Int) (rows : List Rw) : List Rw := if s = e then [] else rows.filter (selW s e)
def rngI (a b : Int) : List Int := (List.range (b - a).toNat).map fun i => a + (i : Nat)
theorem rngI_mem {a b x : Int} : x ∈ rngI a b ↔ a ≤ x ∧ x < b := by
  unfold rngI
  rw [List.mem_map]
  constructor
  · rintro ⟨i, hi, rfl⟩
    have := List.mem_range.mp hi
    omega
  · intro h
    exact ⟨(x - a).toNat, List.mem_range.mpr (by omega), by omega⟩
theorem rngI_asc (a b : Int) : (rngI a b).Pairwise (· < ·) := by
  unfold rngI
  rw [List.pairwise_map]
  exact (List.pairwise_lt_range).imp fun h => by omega
theorem rngI_len (a b : Int) : (rngI a b).length = (b - a).toNat := by unfold rngI; simp
theorem rngV_eq (a b : Int) : rgV a b = (rngI a b).map V.int := by
  unfold rgV rngI
  rw [List.map_map]
  rfl
def lowW (r : Rw) (b : Int) : Int := if b > (r.2.2.2.2 : Int) then b else (r.2.2.2.2 : Int)
def rcU : List Rw → Int → List Int
  | [], _ => []
  | r :: t, b => rngI (lowW r b) ((r.1 : Int) + 1) ++ rcU t ((r.1 : Int) + 1)
theorem rcU_mem : ∀ (rows : List Rw) (b x : Int), (rows.Pairwise fun a b => a.1 < b.1 ∧ a.2.2.2.2 ≤ b.2.2.2.2) → (∀ r ∈ rows, b ≤ r.1) → (x ∈ rcU rows b ↔ b ≤ x ∧ ∃ r ∈ rows, (r.2.2.2.2 : Int) ≤ x ∧ x ≤ r.1)
  | [], b, x, _, _ => by simp [rcU]
  | r :: t, b, x, h, hb => by
    obtain ⟨h1, h2⟩ := List.pairwise_cons.mp h
    have hr := hb r List.mem_cons_self
    have ih := rcU_mem t ((r.1 : Int) + 1) x h2 fun y hy => by have := (h1 y hy).1; omega
    unfold rcU
    rw [List.mem_append, rngI_mem, ih]
    unfold lowW
    constructor
    · rintro (⟨a1, a2⟩ | ⟨a1, r2, m2, a2, a3⟩)
      · split at a1
        · exact ⟨a1, r, List.mem_cons_self, by omega, by omega⟩
        · exact ⟨by omega, r, List.mem_cons_self, a1, by omega⟩
      · exact ⟨by omega, r2, List.mem_cons_of_mem _ m2, a2, a3⟩
    · rintro ⟨a1, r2, m2, a2, a3⟩
      by_cases c : x ≤ r.1
      · refine .inl ⟨?_, by omega⟩
        have : (r.2.2.2.2 : Int) ≤ x := by
          rcases List.mem_cons.mp m2 with rfl | m2
          · exact a2
          · have := (h1 r2 m2).2
            omega
        split <;> omega
      · rcases List.mem_cons.mp m2 with rfl | m2
        · omega
        · exact .inr ⟨by omega, r2, m2, a2, a3⟩
theorem rcU_asc : ∀ (rows : List Rw) (b : Int), (rows.Pairwise fun a b => a.1 < b.1 ∧ a.2.2.2.2 ≤ b.2.2.2.2) → (∀ r ∈ rows, b ≤ r.1) → (rcU rows b).Pairwise (· < ·)
  | [], _, _, _ => .nil
  | r :: t, b, h, hb => by
    obtain ⟨h1, h2⟩ := List.pairwise_cons.mp h
    have hb2 : ∀ y ∈ t, (r.1 : Int) + 1 ≤ y.1 := fun y hy => by have := (h1 y hy).1; omega
    unfold rcU
    rw [List.pairwise_append]
    refine ⟨rngI_asc _ _, rcU_asc t _ h2 hb2, fun x hx y hy => ?_⟩
    have a := (rngI_mem.mp hx).2
    have c := ((rcU_mem t _ y h2 hb2).mp hy).1
    omega
theorem rcU_len : ∀ (rows : List Rw) (b : Int), (rows.Pairwise fun a b => a.1 < b.1 ∧ a.2.2.2.2 ≤ b.2.2.2.2) → (∀ r ∈ rows, b ≤ r.1) → 0 ≤ b → ∀ m : Nat, (∀ r ∈ rows, r.1 < m) → ((rcU rows b).length : Int) ≤ m - b ∨ rows = []
  | [], _, _, _, _, _, _ => .inr rfl
  | r :: t, b, h, hb, h0, m, hm => by
    obtain ⟨h1, h2⟩ := List.pairwise_cons.mp h
    have hb2 : ∀ y ∈ t, (r.1 : Int) + 1 ≤ y.1 := fun y hy => by have := (h1 y hy).1; omega
    have hr := hb r List.mem_cons_self
    have hm1 := hm r List.mem_cons_self
    left
    unfold rcU
    rw [List.length_append, rngI_len]
    have hl : b ≤ lowW r b := by unfold lowW; split <;> omega
    rcases rcU_len t ((r.1 : Int) + 1) h2 hb2 (by omega) m (fun y hy => hm y (List.mem_cons_of_mem _ hy)) with z | rfl
    · omega
    · simp only [rcU, List.length_nil]
      omega
/-- two ascending lists of the same things -/
theorem asc_eq : ∀ {xs ys : List Int}, xs.Pairwise (· < ·) → ys.Pairwise (· < ·) → (∀ z, z ∈ xs ↔ z ∈ ys) → xs = ys
  | [], [], _, _, _ => rfl
  | [], y :: ys, _, _, h => by have := (h y).mpr List.mem_cons_self; cases this
  | x :: xs, [], _, _, h => by have := (h x).mp List.mem_cons_self; cases this
  | x :: xs, y :: ys, h1, h2, h => by
    obtain ⟨a1, a2⟩ := List.pairwise_cons.mp h1
    obtain ⟨b1, b2⟩ := List.pairwise_cons.mp h2
    have e : x = y := by
      rcases List.mem_cons.mp ((h x).mp List.mem_cons_self) with e | m
      · exact e
      · rcases List.mem_cons.mp ((h y).mpr List.mem_cons_self) with e | m2
        · exact e.symm
        · have := a1 y m2
          have := b1 x m
          omega
    subst e
    rw [asc_eq a2 b2 fun z => ?_]
    constructor
    · intro m
      rcases List.mem_cons.mp ((h z).mp (List.mem_cons_of_mem _ m)) with e | m2
      · have := a1 z m
        omega
      · exact m2
    · intro m
      rcases List.mem_cons.mp ((h z).mpr (List.mem_cons_of_mem _ m)) with e | m2
      · have := b1 z m
        omega
      · exact m2
theorem lt_of_nodup {xs : List Int} (h : xs.Pairwise (· ≤ ·)) (n : xs.Nodup) : xs.Pairwise (· < ·) := by
  have := List.Pairwise.and h n
  exact this.imp fun ⟨a, b⟩ => by omega
theorem nd_sub {s e : Int} {rows : List Rw} : (ndW s e rows).Sublist rows := by
  unfold ndW
  split
  · exact List.nil_sublist _
  · exact List.filter_sublist
end Z
namespace Z
open PySem PySem.Spec PyProof.Rows L2
section
variable {K : PySem.W.Frag} {σ : L2.St} {H : Hp} {Q : VK}
theorem rd_lstRg {te : L2.St → Hp → (Int → Int → Hp → Prop) → Prop} (h : te σ H fun a b H1 => RgOk a b ∧ ∀ q, H1 q = none → Q (.ref q) (upd H1 q (.lst (rgV a b)))) : tLstRg te σ H Q := h
theorem rd_rg2 {ta tb : TE} {R : Int → Int → Hp → Prop} (h : ta σ H fun x H1 => tb σ H1 fun y H2 => ∃ i j, x = .int i ∧ y = .int j ∧ R i j H2) : tRg2 ta tb σ H R := h
theorem rd_ij {i j : Int} {P : Int → Int → Prop} (h : P i j) : ∃ k l : Int, V.int i = .int k ∧ V.int j = .int l ∧ P k l := ⟨i, j, rfl, rfl, h⟩
end
theorem RwV.same {K : PySem.W.Frag} {H H' : Hp} {v : V} {r : Rw} (s : Same H H') (h : RwV K H v r) : RwV K H' v r := h.lk (.of s)
theorem RwsV.same {K : PySem.W.Frag} {H H' : Hp} {vs : List V} {rs : List Rw} (s : Same H H') (h : RwsV K H vs rs) : RwsV K H' vs rs := h.imp fun _ _ q => q.same s
def spStretch : Sp := fun vs H Q _ => ∃ s e n : Int, vs = [.int s, .int e, .int n] ∧ 0 ≤ s ∧ s ≤ e ∧ e ≤ n ∧ ∀ H', Same H H' → Q .non H'
theorem use_stretch {s e n : Int} {H : Hp} {Q : VK} {E : XK} (h0 : 0 ≤ s) (h1 : s ≤ e) (h2 : e ≤ n) (q : ∀ H', Same H H' → Q .non H') : spStretch ([.int s, .int e, .int n] ++ []) H Q E := ⟨s, e, n, rfl, h0, h1, h2, q⟩
def spSndLen (K : PySem.W.Frag) : Sp := fun vs H Q _ => ∃ (a : Addr) (idx : List V) (rows : List Rw), vs = [.ref a] ∧ H a = some (.lst idx) ∧ RwsV K H idx rows ∧ Q (.int (lenW rows : Nat)) H
theorem use_sndlen {K : PySem.W.Frag} {a : Addr} {idx : List V} {rows : List Rw} {H : Hp} {Q : VK} {E : XK} (h : H a = some (.lst idx)) (r : RwsV K H idx rows) (q : Q (.int (lenW rows : Nat)) H) : spSndLen K ([.ref a] ++ []) H Q E := ⟨a, idx, rows, rfl, h, r, q⟩
def spReach (K : PySem.W.Frag) : Sp := fun vs H Q _ => ∃ (v : V) (r : Rw), vs = [v] ∧ RwV K H v r ∧ ∀ p H', H p = none → Same H H' → H' p = some (.tup [.int (rnear r), .int (rfar r)]) → Q (.ref p) H'
theorem use_reach {K : PySem.W.Frag} {v : V} {r : Rw} {H : Hp} {Q : VK} {E : XK} (h : RwV K H v r) (q : ∀ p H', H p = none → Same H H' → H' p = some (.tup [.int (rnear r), .int (rfar r)]) → Q (.ref p) H') : spReach K ([v] ++ []) H Q E := ⟨v, r, rfl, h, q⟩
def spNdE (K : PySem.W.Frag) : Sp := fun vs H Q _ => ∃ (a : Addr) (s e : Int) (idx : List V) (rows : List Rw), vs = [.ref a, .int s, .int e] ∧ H a = some (.lst idx) ∧ RwsV K H idx rows ∧ idx.length ≤ 40 ∧ ∀ D sel H', H D = none → H' D = some (.lst sel) → RwsV K H' sel (ndW s e rows) → Same H H' → Q (.ref D) H'
theorem use_ndE {K : PySem.W.Frag} {a : Addr} {s e : Int} {idx : List V} {rows : List Rw} {H : Hp} {Q : VK} {E : XK} (h : H a = some (.lst idx)) (r : RwsV K H idx rows) (l : idx.length ≤ 40) (q : ∀ D sel H', H D = none → H' D = some (.lst sel) → RwsV K H' sel (ndW s e rows) → Same H H' → Q (.ref D) H') : spNdE K ([.ref a, .int s, .int e] ++ []) H Q E := ⟨a, s, e, idx, rows, rfl, h, r, l, q⟩
/-- rows that stand in order -/
structure RowsO (rows : List Rw) : Prop where
  each : ∀ r ∈ rows, RwO r ∧ r.1 < 40
  asc : rows.Pairwise fun a b => a.1 < b.1 ∧ a.2.2.2.2 ≤ b.2.2.2.2
theorem RowsO.sub {rows sel : List Rw} (h : RowsO rows) (s : sel.Sublist rows) : RowsO sel := ⟨fun r hr => h.each r (s.subset hr), h.asc.sublist s⟩
theorem RunO.rows {s : Run} (h : RunO s) (i : s.i ≤ 40) : RowsO s.rows := ⟨fun r hr => ⟨(h.each r hr).1, by have := (h.each r hr).2.1; omega⟩, h.asc⟩
def spRcU (K : PySem.W.Frag) : Sp := fun vs H Q _ => ∃ (a : Addr) (sel : List V) (rows : List Rw), vs = [.ref a] ∧ H a = some (.lst sel) ∧ RwsV K H sel rows ∧ RowsO rows ∧ ∀ D H', H D = none → H' D = some (.lst ((rcU rows 0).map V.int)) → Same H H' → Q (.ref D) H'
theorem use_rcU {K : PySem.W.Frag} {a : Addr} {sel : List V} {rows : List Rw} {H : Hp} {Q : VK} {E : XK} (h : H a = some (.lst sel)) (r : RwsV K H sel rows) (o : RowsO rows) (q : ∀ D H', H D = none → H' D = some (.lst ((rcU rows 0).map V.int)) → Same H H' → Q (.ref D) H') : spRcU K ([.ref a] ++ []) H Q E := ⟨a, sel, rows, rfl, h, r, o, q⟩
def spNdd (K : PySem.W.Frag) : Sp := fun vs H Q _ => ∃ (a : Addr) (s e : Int) (idx : List V) (rows : List Rw), vs = [.ref a, .int s, .int e] ∧ H a = some (.lst idx) ∧ RwsV K H idx rows ∧ idx.length ≤ 40 ∧ RowsO rows ∧ 0 ≤ s ∧ s ≤ e ∧ e ≤ (lenW rows : Nat) ∧ ∀ D H', H D = none → H' D = some (.lst ((rcU (ndW s e rows) 0).map V.int)) → Same H H' → Q (.ref D) H'
theorem use_ndd {K : PySem.W.Frag} {a : Addr} {s e : Int} {idx : List V} {rows : List Rw} {H : Hp} {Q : VK} {E : XK} (h : H a = some (.lst idx)) (r : RwsV K H idx rows) (l : idx.length ≤ 40) (o : RowsO rows) (h0 : 0 ≤ s) (h1 : s ≤ e) (h2 : e ≤ (lenW rows : Nat)) (q : ∀ D H', H D = none → H' D = some (.lst ((rcU (ndW s e rows) 0).map V.int)) → Same H H' → Q (.ref D) H') : spNdd K ([.ref a, .int s, .int e] ++ []) H Q E := ⟨a, s, e, idx, rows, rfl, h, r, l, o, h0, h1, h2, q⟩
theorem All2.lastE {α β : Type} {R : α → β → Prop} {xs : List α} {ys : List β} (h : All2 R xs ys) : (xs = [] ∧ ys = []) ∨ ∃ xs' x ys' y, xs = xs' ++ [x] ∧ ys = ys' ++ [y] ∧ R x y := by
  induction h with
  | nil => exact .inl ⟨rfl, rfl⟩
  | @cons a b as bs h t ih =>
    rcases ih with ⟨rfl, rfl⟩ | ⟨xs', x, ys', y, rfl, rfl, r⟩
    · exact .inr ⟨[], a, [], b, rfl, rfl, h⟩
    · exact .inr ⟨a :: xs', x, b :: ys', y, rfl, rfl, r⟩
theorem same_put {H H1 : Hp} {D : Addr} {o : HO} (s : Same H H1) (n : H D = none) : Same H (upd H1 D o) := fun b x e => by rw [upd_ne (ne_of_none e n)]; exact s b x e
theorem All2.takeS {α β : Type} {R : α → β → Prop} {as : List α} {bs : List β} (h : All2 R as bs) {i : Nat} {a : α} (e : as[i]? = some a) : ∃ b, R a b ∧ b ∈ bs ∧ bs[i]? = some b ∧ bs.take (i + 1) = bs.take i ++ [b] := by
  obtain ⟨b, r, h1, h2, _, h4⟩ := h.drop_head e
  have e2 : bs[i]? = some b := by
    have z : (bs.drop i)[0]? = (b :: r)[0]? := by rw [h2]
    rw [List.getElem?_drop] at z
    simpa using z
  refine ⟨b, h1, h4, e2, ?_⟩
  rw [List.take_add_one, e2]
  rfl
theorem lenW_snoc (rows : List Rw) (r : Rw) : lenW (rows ++ [r]) = rend r := by unfold lenW; rw [List.getLast?_append]; rfl
theorem rcU_snoc (r : Rw) : ∀ (rows : List Rw) (b : Int), rcU (rows ++ [r]) b = rcU rows b ++ rngI (lowW r (match rows.getLast? with | none => b | some q => (q.1 : Int) + 1)) ((r.1 : Int) + 1)
  | [], b => by simp [rcU]
  | [q], b => by simp [rcU]
  | q :: q2 :: t, b => by
    have ih := rcU_snoc r (q2 :: t) ((q.1 : Int) + 1)
    show rngI _ _ ++ rcU (q2 :: t ++ [r]) _ = rngI _ _ ++ rcU (q2 :: t) _ ++ _
    rw [ih, List.append_assoc]
    congr 2
def behW (rows : List Rw) : Int := match rows.getLast? with
  | none => 0
  | some q => (q.1 : Int) + 1
theorem rcU_put (r : Rw) (rows : List Rw) : rcU (rows ++ [r]) 0 = rcU rows 0 ++ rngI (lowW r (behW rows)) ((r.1 : Int) + 1) := rcU_snoc r rows 0
theorem behW_snoc (rows : List Rw) (r : Rw) : behW (rows ++ [r]) = (r.1 : Int) + 1 := by unfold behW; rw [List.getLast?_append]; rfl
theorem RowsO.lenU {rows : List Rw} (o : RowsO rows) : (rcU rows 0).length ≤ 40 := by
  rcases rcU_len rows 0 o.asc (fun _ _ => by omega) (Int.le_refl _) 40 (fun r hr => (o.each r hr).2) with h | rfl
  · omega
  · simp [rcU]
theorem RowsO.beh {rows : List Rw} (o : RowsO rows) : 0 ≤ behW rows ∧ behW rows ≤ 40 := by
  unfold behW
  split
  · omega
  · rename_i q h
    have := (o.each q (List.mem_of_getLast? h)).2
    omega
theorem RowsO.rg {rows : List Rw} (o : RowsO rows) {i : Nat} {r : Rw} (hm : r ∈ rows) : RgOk (lowW r (behW (rows.take i))) ((r.1 : Int) + 1) ∧ (rngI (lowW r (behW (rows.take i))) ((r.1 : Int) + 1)).length ≤ 40 := by
  have h1 := (o.sub (List.take_sublist i rows)).beh
  obtain ⟨h2, h3⟩ := o.each r hm
  have h4 := h2.o
  have h5 : 0 ≤ lowW r (behW (rows.take i)) ∧ lowW r (behW (rows.take i)) ≤ 40 := by unfold lowW; split <;> omega
  refine ⟨.of_le h5.1 (by omega) (by omega) (by omega), ?_⟩
  rw [rngI_len]
  omega
end Z
namespace Z
open PySem PySem.Spec PyProof.Rows L2
section
variable {σ : L2.St} {H : Hp} {Q : VK}
theorem rd_lc2 {ts : TA} {g : TG} {tt : TT} {te : TE} {vs : List Nat} (h : ts σ H fun us H1 => ∃ i j : Int, us = [.int i, .int j] ∧ (-(2 ^ 62) ≤ i ∧ i < 2 ^ 62 ∧ -(2 ^ 62) ≤ j ∧ j < 2 ^ 62) ∧ ∀ D, H1 D = none → LcW (Itr i (j - i).toNat) g tt te vs Q σ H1 D) : tLc (iRng2 ts) g tt te vs σ H Q := h
end
theorem rngI_snoc (lo : Int) (j : Nat) : rngI lo (lo + ((j + 1 : Nat) : Int)) = rngI lo (lo + (j : Nat)) ++ [lo + (j : Nat)] := by
  unfold rngI
  rw [show (lo + ((j + 1 : Nat) : Int) - lo).toNat = j + 1 by omega, show (lo + ((j : Nat) : Int) - lo).toNat = j by omega, List.range_succ, List.map_append]
  rfl
theorem rngI_none (lo : Int) : rngI lo (lo + ((0 : Nat) : Int)) = [] := by
  unfold rngI
  rw [show (lo + ((0 : Nat) : Int) - lo).toNat = 0 by omega]
  rfl
theorem lc_filtI {σ : L2.St} {Q : VK} {vs : List Nat} {k : Nat} {D : Addr} {lo : Int} {n : Nat} {H1 : Hp} {tt : TT} {te : TE} (f : Int → Bool) (hw : ∀ v, wipe ((wipe σ vs).set k (some v)) vs = wipe σ vs) (hD : H1 D = none) (hn : n ≤ 10000)
    (turn : ∀ (x : Int) (H : Hp) (q : Bool → Hp → Prop), Same H1 H → q (f x) H → tt ((wipe σ vs).set k (some (.int x))) H q)
    (el : ∀ (x : Int) (H : Hp) (Q' : VK), Q' (.int x) H → te ((wipe σ vs).set k (some (.int x))) H Q')
    (q : ∀ H', Same H1 H' → H' D = some (.lst (((rngI lo (lo + (n : Nat))).filter f).map V.int)) → Q (.ref D) H') : LcW (Itr lo n) (gName k) tt te vs Q σ H1 D := by
  refine lc_range (Pv := fun j H => Same H1 H ∧ H D = some (.lst (((rngI lo (lo + (j : Nat))).filter f).map V.int))) ⟨same_new hD, by rw [rngI_none]; exact upd_same⟩ (fun j H hj hI => ?_) (fun H hI => ?_)
  · obtain ⟨hs, hd⟩ := hI
    refine ⟨hw _, ?_⟩
    refine turn _ _ _ hs ?_
    rw [rngI_snoc, List.filter_append]
    cases e : f (lo + (j : Nat)) with
    | true =>
      rw [if_pos rfl]
      refine el _ _ _ ⟨_, hd, ?_, fun b x e => ?_, ?_⟩
      · have h1 := List.length_filter_le f (rngI lo (lo + (j : Nat)))
        rw [rngI_len] at h1
        rw [List.length_map]
        exact Nat.lt_of_le_of_lt (show _ ≤ 10000 by omega) (by unfold sizeLine; decide)
      · rw [upd_ne (ne_of_none e hD)]
        exact hs _ _ e
      · rw [upd_same, List.filter_cons_of_pos e, List.map_append]
        rfl
    | false =>
      rw [if_neg Bool.false_ne_true, List.filter_cons_of_neg (by rw [e]; exact Bool.false_ne_true), List.filter_nil, List.append_nil]
      exact ⟨hs, hd⟩
  · obtain ⟨hs, hd⟩ := hI
    exact q H hs hd
theorem dp_rw {K : PySem.W.Frag} {H : Hp} {v : V} {r : Rw} (h : RwV K H v r) : ∃ d, Dp K H v d ∧ PyData.canLay0 d = true ∧ PyData.depth d ≤ 3 := by
  obtain ⟨a, jl, j, rfl, h, hl, hj⟩ := h
  exact ⟨_, .tup (SqT.of h) (.cons (.int _) (.cons (.int _) (.cons (.int _) (.cons (.tup hl.1 (.cons (.int _) (.cons (.int _) .nil))) (.cons (.tup (SqT.of hj) (.cons (.int _) (.cons (.int _) .nil))) (.cons (.int _) (.cons (.int _) (.cons (.int _) .nil)))))))), rfl, Nat.le_of_ble_eq_true rfl⟩
theorem rd_neRw {K : PySem.W.Frag} {H : Hp} {Q : VK} {p q : Addr} {xs : List V} {rows : List Rw} (hp : SqL K H p xs) (hq : SqL K H q []) (hR : RwsV K H xs rows) (h : Q (.bl (!decide (xs = []))) H) : rNeD K (.ref p) (.ref q) H Q := by
  obtain ⟨ds, h1, h2, h3⟩ := all_dp (K := K) (H := H) (P := fun v => ∃ r, RwV K H v r) (m := 3) (fun v ⟨r, a⟩ => dp_rw a) xs (fun v hv => by
    obtain ⟨i, hi, e⟩ := List.mem_iff_getElem.mp hv
    obtain ⟨r, a, _⟩ := hR.takeS (i := i) (a := v) (by rw [List.getElem?_eq_getElem hi, e])
    exact ⟨r, a⟩)
  have sh : SeqAt.shaped (.list ds) = true := by
    show (PyData.canLayAll0 ds && decide (PyData.depthAll ds + 1 ≤ 64)) = true
    rw [h2, decide_eq_true (by omega)]
    rfl
  refine ⟨.list ds, .list [], .lst hp h1, .lst hq .nil, sh, rfl, ?_⟩
  have e : PyData.eqv (.list ds) (.list []) = decide (xs = []) := by
    cases h1 with
    | nil => rfl
    | cons a b => rfl
  rw [e]
  exact h
def ixsW (f : Rw → Bool) (rows : List Rw) (i : Nat) : List Nat := (List.range i).filter fun j => match rows[j]? with
  | some r => f r
  | none => false
theorem ixsW_snoc {f : Rw → Bool} {rows : List Rw} {i : Nat} {r : Rw} (h : rows[i]? = some r) : ixsW f rows (i + 1) = ixsW f rows i ++ if f r = true then [i] else [] := by
  unfold ixsW
  rw [List.range_succ, List.filter_append]
  congr 1
  simp only [List.filter_cons, List.filter_nil, h]
theorem ixsW_len (f : Rw → Bool) (rows : List Rw) (i : Nat) : (ixsW f rows i).length ≤ i := by
  unfold ixsW
  refine Nat.le_trans (List.length_filter_le _ _) ?_
  rw [List.length_range]
  exact Nat.le_refl _
theorem ixsW_lt {f : Rw → Bool} {rows : List Rw} {i j : Nat} (h : j ∈ ixsW f rows i) : j < i := List.mem_range.mp (List.mem_filter.mp h).1
theorem ixsW_mem {f : Rw → Bool} {rows : List Rw} (r : Rw) : (∃ j ∈ ixsW f rows rows.length, rows[j]? = some r) ↔ r ∈ rows.filter f := by
  unfold ixsW
  rw [List.mem_filter]
  constructor
  · rintro ⟨j, h, e⟩
    have h2 := (List.mem_filter.mp h).2
    rw [e] at h2
    exact ⟨List.mem_of_getElem? e, h2⟩
  · rintro ⟨h, e⟩
    obtain ⟨j, hj, e2⟩ := List.mem_iff_getElem.mp h
    have e3 : rows[j]? = some r := by rw [List.getElem?_eq_getElem hj, e2]
    exact ⟨j, List.mem_filter.mpr ⟨List.mem_range.mpr hj, by rw [e3]; exact e⟩, e3⟩
def hitW (s e : Int) (r : Rw) : Bool := !((rngI s e).filter fun x => decide (rnear r ≤ x) && decide (x < rfar r)).isEmpty
theorem hitW_eq {s e : Int} {r : Rw} (h : rnear r < rfar r) (se : s ≤ e) (rows : List Rw) (hm : r ∈ rows) : (hitW s e r = true) ↔ r ∈ ndW s e rows := by
  unfold hitW ndW
  rw [Bool.not_eq_true', List.isEmpty_eq_false_iff, ne_eq, List.filter_eq_nil_iff]
  constructor
  · intro z
    have : ∃ x, x ∈ rngI s e ∧ rnear r ≤ x ∧ x < rfar r := by
      by_cases c : ∃ x, x ∈ rngI s e ∧ rnear r ≤ x ∧ x < rfar r
      · exact c
      · refine (z fun x hx hh => c ⟨x, hx, ?_⟩).elim
        rw [Bool.and_eq_true, decide_eq_true_eq, decide_eq_true_eq] at hh
        exact hh
    obtain ⟨x, hx, a, b⟩ := this
    have hx := rngI_mem.mp hx
    rw [if_neg (by omega)]
    refine List.mem_filter.mpr ⟨hm, ?_⟩
    unfold selW
    rw [decide_eq_true (show rnear r < e by omega), decide_eq_true (show s < rfar r by omega)]
    rfl
  · intro z w
    split at z
    · cases z
    · have := (List.mem_filter.mp z).2
      unfold selW at this
      rw [Bool.and_eq_true, decide_eq_true_eq, decide_eq_true_eq] at this
      by_cases c : rnear r ≤ s
      · exact w s (rngI_mem.mpr ⟨Int.le_refl _, by omega⟩) (by rw [decide_eq_true c, decide_eq_true this.2]; rfl)
      · exact w (rnear r) (rngI_mem.mpr ⟨by omega, this.1⟩) (by rw [decide_eq_true (Int.le_refl _), decide_eq_true h]; rfl)
def putX (ks : List Int) (x : Int) : List Int := if x ∈ ks then ks else ks ++ [x]
def keysK (ks : List Int) : List (Key × V) := ks.map fun k => (.inl k, .bl true)
theorem putK_keys (ks : List Int) (x : Int) : putK (keysK ks) (.inl x) (.bl true) = keysK (putX ks x) := by
  unfold putK putX keysK
  have e : ((ks.map fun k => ((Sum.inl k : Key), V.bl true)).any fun kv => decide (kv.1 = .inl x)) = decide (x ∈ ks) := by
    rw [List.any_map, Bool.eq_iff_iff, List.any_eq_true, decide_eq_true_eq]
    constructor
    · rintro ⟨y, hy, h⟩
      have h2 : (Sum.inl y : Key) = .inl x := of_decide_eq_true h
      rw [← Sum.inl.inj h2]
      exact hy
    · intro h
      exact ⟨x, h, decide_eq_true rfl⟩
  rw [e]
  by_cases c : x ∈ ks
  · rw [decide_eq_true c, if_pos rfl, if_pos c, List.map_map]
    refine List.map_congr_left fun y _ => ?_
    show (if (Sum.inl y : Key) = .inl x then ((Sum.inl y : Key), V.bl true) else (Sum.inl y, V.bl true)) = _
    split <;> rfl
  · rw [decide_eq_false c, if_neg Bool.false_ne_true, if_neg c, List.map_append]
    rfl
theorem putX_mem {ks : List Int} {x y : Int} : y ∈ putX ks x ↔ y ∈ ks ∨ y = x := by
  unfold putX
  split
  · rename_i h
    constructor
    · exact .inl
    · rintro (h2 | rfl)
      · exact h2
      · exact h
  · rw [List.mem_append, List.mem_singleton]
theorem putX_nd {ks : List Int} {x : Int} (h : ks.Nodup) : (putX ks x).Nodup := by
  unfold putX
  split
  · exact h
  · rename_i c
    rw [List.nodup_append]
    refine ⟨h, List.nodup_cons.mpr ⟨List.not_mem_nil, .nil⟩, fun a ha b hb => ?_⟩
    rw [List.mem_singleton.mp hb]
    exact fun z => c (z ▸ ha)
theorem putX_len (ks : List Int) (x : Int) : (putX ks x).length ≤ ks.length + 1 := by
  unfold putX
  split
  · omega
  · simp
def spReached (K : PySem.W.Frag) : Sp := fun vs H Q _ => ∃ (a : Addr) (s e : Int) (rws : List V) (rows : List Rw), vs = [.ref a, .int s, .int e] ∧ H a = some (.lst rws) ∧ RwsV K H rws rows ∧ rws.length ≤ 40 ∧ 0 ≤ s ∧ s ≤ e ∧ e ≤ 5000 ∧ ∀ D H', H D = none → H' D = some (.lst ((ixsW (hitW s e) rows rows.length).map nv)) → Same H H' → Q (.ref D) H'
theorem use_reached {K : PySem.W.Frag} {a : Addr} {s e : Int} {rws : List V} {rows : List Rw} {H : Hp} {Q : VK} {E : XK} (h : H a = some (.lst rws)) (r : RwsV K H rws rows) (l : rws.length ≤ 40) (h0 : 0 ≤ s) (h1 : s ≤ e) (h2 : e ≤ 5000) (q : ∀ D H', H D = none → H' D = some (.lst ((ixsW (hitW s e) rows rows.length).map nv)) → Same H H' → Q (.ref D) H') : spReached K ([.ref a, .int s, .int e] ++ []) H Q E := ⟨a, s, e, rws, rows, rfl, h, r, l, h0, h1, h2, q⟩
def spNeedL (K : PySem.W.Frag) : Sp := fun vs H Q _ => ∃ (a b : Addr) (rws : List V) (rows : List Rw) (js : List Nat), vs = [.ref a, .ref b] ∧ H a = some (.lst rws) ∧ RwsV K H rws rows ∧ H b = some (.lst (js.map nv)) ∧ js.length ≤ 40 ∧ (∀ j ∈ js, j < rows.length) ∧ (∀ r ∈ rows, r.1 < 40 ∧ r.2.2.2.2 ≤ r.1) ∧ ∀ D (ns : List Int) H', H D = none → H' D = some (.lst (ns.map V.int)) → ns.Pairwise (· < ·) → (∀ x, x ∈ ns ↔ ∃ j ∈ js, ∃ r, rows[j]? = some r ∧ (r.2.2.2.2 : Int) ≤ x ∧ x ≤ r.1) → Same H H' → Q (.ref D) H'
theorem use_needL {K : PySem.W.Frag} {a b : Addr} {rws : List V} {rows : List Rw} {js : List Nat} {H : Hp} {Q : VK} {E : XK} (h : H a = some (.lst rws)) (r : RwsV K H rws rows) (hb : H b = some (.lst (js.map nv))) (l : js.length ≤ 40) (lt : ∀ j ∈ js, j < rows.length) (o : ∀ r ∈ rows, r.1 < 40 ∧ r.2.2.2.2 ≤ r.1) (q : ∀ D (ns : List Int) H', H D = none → H' D = some (.lst (ns.map V.int)) → ns.Pairwise (· < ·) → (∀ x, x ∈ ns ↔ ∃ j ∈ js, ∃ r, rows[j]? = some r ∧ (r.2.2.2.2 : Int) ≤ x ∧ x ≤ r.1) → Same H H' → Q (.ref D) H') : spNeedL K ([.ref a, .ref b] ++ []) H Q E := ⟨a, b, rws, rows, js, rfl, h, r, hb, l, lt, o, q⟩
def spLenL (K : PySem.W.Frag) : Sp := fun vs H Q _ => ∃ (a : Addr) (rws : List V) (rows : List Rw), vs = [.ref a] ∧ H a = some (.lst rws) ∧ RwsV K H rws rows ∧ ∀ H', Same H H' → Q (.int (lenW rows : Nat)) H'
theorem use_lenL {K : PySem.W.Frag} {a : Addr} {rws : List V} {rows : List Rw} {H : Hp} {Q : VK} {E : XK} (h : H a = some (.lst rws)) (r : RwsV K H rws rows) (q : ∀ H', Same H H' → Q (.int (lenW rows : Nat)) H') : spLenL K ([.ref a] ++ []) H Q E := ⟨a, rws, rows, rfl, h, r, q⟩
def spStrL (K : PySem.W.Frag) : Sp := fun vs H Q _ => ∃ (p a : Addr) (rws : List V) (rows : List Rw), vs = [.ref p, .ref a] ∧ Pool H p ∧ a ≠ p ∧ H a = some (.lst rws) ∧ RwsV K H rws rows ∧ rws.length ≤ 40 ∧ (∀ r ∈ rows, rend r ≤ lenW rows) ∧ lenW rows ≤ 5000 ∧ ∀ t (s e : Int) H', H' t = some (.tup [.int s, .int e]) → 0 ≤ s → s ≤ e → e ≤ (lenW rows : Nat) → Pool H' p → Kp p H H' → Q (.ref t) H'
theorem use_strL {K : PySem.W.Frag} {p a : Addr} {rws : List V} {rows : List Rw} {H : Hp} {Q : VK} {E : XK} (hP : Pool H p) (n : a ≠ p) (h : H a = some (.lst rws)) (r : RwsV K H rws rows) (l : rws.length ≤ 40) (le : ∀ r ∈ rows, rend r ≤ lenW rows) (l5 : lenW rows ≤ 5000) (q : ∀ t (s e : Int) H', H' t = some (.tup [.int s, .int e]) → 0 ≤ s → s ≤ e → e ≤ (lenW rows : Nat) → Pool H' p → Kp p H H' → Q (.ref t) H') : spStrL K ([.ref p, .ref a] ++ []) H Q E := ⟨p, a, rws, rows, rfl, hP, n, h, r, l, le, l5, q⟩
theorem rd_dput {σ : L2.St} {H : Hp} {td ty tv : TE} {D : Ends} (h : tv σ H fun v H1 => td σ H1 fun x H2 => ty σ H2 fun y H3 => ∃ a H4, x = .ref a ∧ DPut H3 a y v H4 ∧ D.nx σ H4) : sDPut td ty tv D σ H := h
theorem keysK_list (ks : List Int) : ((keysK ks).map fun kv => kV kv.1) = ks.map V.int := by
  unfold keysK
  rw [List.map_map]
  rfl
theorem runR_iF : ∀ (rs : List Rc) (s : Run), (rs.foldl stpR s).i = s.i + rs.length
  | [], s => rfl
  | r :: rs, s => by
    have h : (stpR s r).i = s.i + 1 := by cases r <;> rfl
    rw [List.foldl_cons, runR_iF rs, h, List.length_cons]
    omega
theorem runR_at (rs : List Rc) : (runR rs).i = rs.length := (runR_iF rs _).trans (Nat.zero_add _)
theorem RowsO.near {rows : List Rw} (o : RowsO rows) {r : Rw} (h : r ∈ rows) : rnear r < rfar r := by
  have := (o.each r h).1.l1
  unfold rnear rfar
  omega
theorem need_same {s e : Int} {rows : List Rw} {ns : List Int} (ro : RowsO rows) (se : s ≤ e) (as : ns.Pairwise (· < ·)) (mem : ∀ x, x ∈ ns ↔ ∃ j ∈ ixsW (hitW s e) rows rows.length, ∃ r, rows[j]? = some r ∧ (r.2.2.2.2 : Int) ≤ x ∧ x ≤ r.1) : rcU (ndW s e rows) 0 = ns := by
  have o2 : (ndW s e rows).Pairwise fun a b => a.1 < b.1 ∧ a.2.2.2.2 ≤ b.2.2.2.2 := (ro.sub nd_sub).asc
  refine asc_eq (rcU_asc _ 0 o2 fun _ _ => by omega) as fun z => ?_
  rw [rcU_mem _ 0 z o2 (fun _ _ => by omega), mem]
  constructor
  · rintro ⟨_, r, hr, a, b⟩
    have hm := nd_sub.subset hr
    have hh := (hitW_eq (ro.near hm) se rows hm).mpr hr
    obtain ⟨j, hj, e⟩ := (ixsW_mem r).mpr (List.mem_filter.mpr ⟨hm, hh⟩)
    exact ⟨j, hj, r, e, a, b⟩
  · rintro ⟨j, hj, r, e, a, b⟩
    obtain ⟨hm, hh⟩ := List.mem_filter.mp ((ixsW_mem r).mp ⟨j, hj, e⟩)
    exact ⟨by omega, r, (hitW_eq (ro.near hm) se rows hm).mp hh, a, b⟩
theorem sm_ints3 {K : PySem.W.Frag} {H : Hp} {p q : Addr} {ns : List Int} (hp : H p = some (.lst (ns.map V.int))) (hq : H q = some (.lst (ns.map V.int))) : SmV K H 3 (.ref p) (.ref q) :=
  .inr (.inl ⟨p, q, _, _, rfl, rfl, .of hp, .of hq, rfl, fun i x y e1 e2 => by
    rw [e1] at e2
    have e := Option.some.inj e2
    subst e
    rw [List.getElem?_map] at e1
    cases g : ns[i]? with
    | none => rw [g] at e1; cases e1
    | some z => rw [g] at e1; cases e1; exact .inl ⟨rfl, rfl⟩⟩)
end Z
namespace Z
open PySem PySem.Spec PyProof.Rows L2
def topS (i : Nat) : Stmt := PySem.Challenge.pw_framejoins_k32_needed_records.main.body.getD i (.Pass ⟨0, 0, 0, 0⟩)
local macro_rules | `(tactic| walk_at "hg") => `(tactic| first
  | assumption
  | (with_reducible exact upd_same)
  | ((with_reducible refine' look_new ?k1 ?k2); (case k1 => assumption); (case k2 => walk_at "hg"))
  | ((with_reducible refine' look_same ?k1 ?k2); (case k1 => assumption); (case k2 => walk_at "hg"))
  | ((with_reducible refine' look_kp ?k1 ?k2 ?k3); (case k1 => assumption); (case k2 => walk_at "ne"); (case k3 => walk_at "hg"))
  | ((with_reducible refine' look_upd ?k1 ?k2); (case k1 => assumption); (case k2 => walk_at "hg"))
  | fail)
local macro_rules | `(tactic| walk_at "ne") => `(tactic| first
  | assumption
  | ((with_reducible refine' Pool.ne' ?k1 ?k2); (case k1 => assumption); (case k2 => walk_at "pl"))
  | fail)
local macro_rules | `(tactic| walk_at "r1") => `(tactic| first
  | (with_reducible refine rd_seq ?_) | (with_reducible refine rd_asg ?_) | (with_reducible refine rd_gname ?_) | (with_reducible refine rd_ret ?_) | (with_reducible refine rd_ifs ?_)
  | ((with_reducible refine' rd_var ?k1 ?_); (case k1 => exact rfl))
  | ((with_reducible refine' rd_ixL ?k1 ?k2 ?_); (case k1 => walk_at "sq"); (case k2 => walk_at "at"))
  | ((with_reducible refine' rd_ixT ?k1 ?k2 ?_); (case k1 => walk_at "sqt"); (case k2 => walk_at "at"))
  | ((with_reducible refine' rd_setL ?k1 ?k2 ?_); (case k1 => walk_at "hg"); (case k2 => walk_at "ixn"))
  | ((with_reducible refine' rd_lenL ?k1 ?_); (case k1 => walk_at "sq"))
  | ((with_reducible refine' rd_listL ?k1 fun _ _ => ?_); (case k1 => walk_at "sq"))
  | ((with_reducible refine' rd_lenT ?k1 ?_); (case k1 => walk_at "sqt"))
  | ((with_reducible refine' rd_gtup ?k1 ?k2 ?_); (case k1 => walk_at "sqt"); (case k2 => exact rfl))
  | (with_reducible refine rd_gcons ?_) | (with_reducible refine rd_gnil ?_) | (with_reducible refine rd_forT ?_) | (with_reducible refine rd_forL ?_) | (with_reducible refine rd_for2 ?_)
  | ((with_reducible refine' rd_neT2 ?k1 ?k2 ?k3 ?k4 ?_); (case k1 => walk_at "sqt"); (case k2 => walk_at "sqt"); (case k3 => walk_at "f1"); (case k4 => walk_at "f2"))
  | ((with_reducible refine rd_n1 ?k1 ?k2 ?_); (case k1 => omega); (case k2 => omega))
  | ((with_reducible refine rd_n2 ?k1 ?_); (case k1 => exact ⟨by omega, by omega, by omega, by omega⟩))
  | (with_reducible refine rd_lcD fun _ _ => ?_)
  | ((with_reducible refine' lc_numbers ?k1 ?k2 ?k3 ?k4 ?k5 fun _ _ _ _ _ _ _ => ?_); (case k1 => exact fun _ => rfl); (case k2 => exact fun _ => rfl); (case k3 => walk_at "pl"); (case k4 => assumption); (case k5 => walk_at "sd"))
  | (with_reducible refine rd_for3 ?_) | (with_reducible refine rd_bm ?_)
  | ((with_reducible refine rd_n3 ?k1 ?_); (case k1 => walk_at "sd"))
  | ((with_reducible refine' rd_tyL ?k1 ?_); (case k1 => walk_at "hg"))
  | ((with_reducible refine' rd_catL ?k1 ?k2 ?k3 fun _ _ => ?_); (case k1 => walk_at "hg"); (case k2 => walk_at "hg"); (case k3 => walk_at "sd"))
  | ((with_reducible refine' rd_appI ?k1 ?k2 ?_); (case k1 => walk_at "hg"); (case k2 => walk_at "sd"))
  | ((with_reducible refine' use_once ?k1 ?k2 fun _ _ _ _ _ _ _ _ _ => ?_); (case k1 => walk_at "sq"); (case k2 => walk_at "sd"))
  | ((with_reducible refine' use_split ?k1 ?k2 ?k3 ?k4 ?k5 fun _ _ _ _ _ => ?_); (case k1 => walk_at "hg"); (case k2 => walk_at "sd"); (case k3 => walk_at "sd"); (case k4 => walk_at "sd"); (case k5 => walk_at "sd"))
  | ((with_reducible refine' use_splitK ?k1 ?k2 ?k3 ?k4 ?k5 fun _ _ _ _ _ => ?_); (case k1 => walk_at "hg"); (case k2 => walk_at "sd"); (case k3 => walk_at "sd"); (case k4 => walk_at "sd"); (case k5 => walk_at "sd"))
  | (with_reducible refine rd_sl ?_) | (with_reducible refine rd_part ?_) | (with_reducible refine rd_nopart ?_) | (with_reducible refine rd_oneI ?_)
  | (with_reducible refine rd_lcL ?_)
  | (with_reducible refine rd_forV ?_)
  | ((with_reducible refine rd_nV ?k1 ?k2 ?_); (case k1 => omega); (case k2 => omega))
  | ((with_reducible refine' use_join1 ?k1 ?k2 ?k3 ?k4 fun _ _ _ _ _ => ?_); (case k1 => walk_at "hg"); (case k2 => walk_at "hg"); (case k3 => walk_at "sd"); (case k4 => walk_at "sd"))
  | ((with_reducible refine' use_join ?k1 ?k2 ?k3 ?k4 ?k5 fun _ _ _ _ _ => ?_); (case k1 => walk_at "hg"); (case k2 => walk_at "sd"); (case k3 => walk_at "sd"); (case k4 => walk_at "sd"); (case k5 => walk_at "sd"))
  | ((with_reducible refine' use_joinK ?k1 ?k2 ?k3 ?k4 ?k5 fun _ _ _ _ _ => ?_); (case k1 => walk_at "hg"); (case k2 => walk_at "sd"); (case k3 => walk_at "sd"); (case k4 => walk_at "sd"); (case k5 => walk_at "sd"))
  | ((with_reducible refine' use_ints ?k1 ?k2 ?_); (case k1 => walk_at "hg"); (case k2 => walk_at "sd"))
  | (with_reducible refine rd_isN ?_) | (with_reducible refine rd_lc1 ?_) | (with_reducible refine rd_forE ?_) | (with_reducible refine rd_forZ ?_)
  | ((with_reducible refine' rd_neL ?k1 ?k2 ?_); (case k1 => walk_at "sq"); (case k2 => walk_at "sq"))
  | ((with_reducible refine' rd_eqL ?k1 ?k2 ?_); (case k1 => walk_at "sq"); (case k2 => walk_at "sq"))
  | ((with_reducible refine' rd_neN ?k1 ?k2 ?_); (case k1 => walk_at "sq"); (case k2 => walk_at "sq"))
  | (with_reducible refine rd_c ?_) | (with_reducible refine rd_op ?_) | (with_reducible refine rd_un ?_) | (with_reducible refine rd_i0 ?_)
  | ((with_reducible refine rd_i ?k1 ?_); (case k1 => walk_at "side"))
  | (with_reducible refine rd_u ?_)
  | (with_reducible refine rd_eq rfl ?_) | (with_reducible refine rd_ne rfl ?_) | (with_reducible refine rd_test ?_) | (with_reducible refine rd_b ?_) | (with_reducible refine rd_bl ?_)
  | (with_reducible refine rd_not ?_) | (with_reducible refine rd_and ?_) | (with_reducible refine rd_or ?_) | (with_reducible refine rd_andV ?_) | (with_reducible refine rd_orV ?_) | (with_reducible refine rd_notV ?_)
  | (with_reducible refine rd_if ?_) | (with_reducible refine rd_chain ?_) | (with_reducible refine rd_call ?_) | (with_reducible refine rd_callK ?_) | (with_reducible refine rd_cb ?_)
  | (with_reducible refine rd_cons ?_) | (with_reducible refine rd_nil ?_) | (with_reducible refine rd_next ?_) | (with_reducible refine rd_drop ?_) | (with_reducible refine rd_gsub ?_)
  | (with_reducible refine rd_int ?_) | (with_reducible refine rd_intb ?_) | (with_reducible refine rd_abs ?_) | (with_reducible refine rd_max ?_) | (with_reducible refine rd_min ?_)
  | (with_reducible refine rd_par ?_) | (with_reducible refine rd_par3 ?_) | (with_reducible refine rd_two ?_) | (with_reducible refine rd_three ?_)
  | (with_reducible refine rd_retn ?_) | (with_reducible refine rd_tup ?_) | (with_reducible refine rd_lst ?_) | (with_reducible refine rd_for1 ?_) | (with_reducible refine rd_one ?_)
  | ((with_reducible refine rd_all ?k1 fun _ _ => ?_); (case k1 => exact Nat.le_of_ble_eq_true rfl))
  | ((with_reducible refine use_take ?k1 ?k2 ?k3 fun _ _ _ _ _ _ => ?_); (case k1 => walk_at "pl"); (case k2 => walk_at "sd"); (case k3 => walk_at "sd"))
  | ((with_reducible refine use_number ?k1 fun _ _ _ _ _ => ?_); (case k1 => walk_at "pl"))
  | ((with_reducible refine' use_pool ?k1 ?k2 ?k3 ?k4 fun _ _ _ _ _ => ?_); (case k1 => walk_at "sq"); (case k2 => assumption); (case k3 => walk_at "sd"); (case k4 => walk_at "sd"))
  | ((with_reducible refine use_ckp ?k1 ?k2 ?_); (case k1 => walk_at "sd"); (case k2 => walk_at "sd"))
  | ((with_reducible refine use_pair ?k1 ?k2 fun _ _ => ?_); (case k1 => walk_at "sd"); (case k2 => walk_at "sd"))
  | ((with_reducible refine use_lfold ?k1 ?k2 fun _ _ _ _ => ?_); (case k1 => walk_at "sd"); (case k2 => walk_at "sd"))
  | ((with_reducible refine' use_ispair ?k1 ?_); (case k1 => walk_at "hg"))
  | ((with_reducible refine' use_items ?k1 fun _ _ => ?_); (case k1 => walk_at "sq"))
  | ((with_reducible refine' use_block ?k1 ?k2 ?k3 fun _ _ => ?_); (case k1 => walk_at "hg"); (case k2 => walk_at "sd"); (case k3 => walk_at "sd"))
  | ((with_reducible refine' use_mark ?k1 ?k2 fun _ _ => ?_); (case k1 => walk_at "hg"); (case k2 => walk_at "sd"))
  | (with_reducible refine use_code ?_)
  | ((with_reducible refine' use_same ?k1 fun _ _ => ?_); (case k1 => walk_at "smv"))
  | ((with_reducible refine use_quant ?k1 ?k2 ?_); (case k1 => walk_at "sd"); (case k2 => walk_at "sd"))
  | ((with_reducible refine use_quantK ?k1 ?k2 ?_); (case k1 => walk_at "sd"); (case k2 => walk_at "sd"))
  | (with_reducible refine use_isi_int ?_) | (with_reducible refine use_within_int ?_) | (with_reducible refine use_cki ?_)
  | ((with_reducible refine use_ckw ?k1 ?k2 ?_); (case k1 => walk_at "sd"); (case k2 => walk_at "sd"))
  | (with_reducible refine iteT ?_) | (with_reducible refine iteF ?_)
  | (with_reducible refine iteNT ?_) | (with_reducible refine iteNF ?_)
  | (walk_at "isi")
  | fail)
local macro_rules | `(tactic| walk_at "isi") => `(tactic| first
  | (with_reducible refine isi_int_int ?_)
  | (with_reducible refine isi_int_bool ?_)
  | (with_reducible refine isi_int_str ?_)
  | (with_reducible refine isi_int_list ?_)
  | (with_reducible refine isi_int_tuple ?_)
  | (with_reducible refine isi_bl_int ?_)
  | (with_reducible refine isi_bl_bool ?_)
  | (with_reducible refine isi_bl_str ?_)
  | (with_reducible refine isi_bl_list ?_)
  | (with_reducible refine isi_bl_tuple ?_)
  | (with_reducible refine isi_non_int ?_)
  | (with_reducible refine isi_non_bool ?_)
  | (with_reducible refine isi_non_str ?_)
  | (with_reducible refine isi_non_list ?_)
  | (with_reducible refine isi_non_tuple ?_)
  | (with_reducible refine isi_str_int ?_)
  | (with_reducible refine isi_str_bool ?_)
  | (with_reducible refine isi_str_str ?_)
  | (with_reducible refine isi_str_list ?_)
  | (with_reducible refine isi_str_tuple ?_)
  | ((with_reducible refine' isi_lst_int ?k1 ?_); (case k1 => walk_at "hg"))
  | ((with_reducible refine' isi_lst_bool ?k1 ?_); (case k1 => walk_at "hg"))
  | ((with_reducible refine' isi_lst_str ?k1 ?_); (case k1 => walk_at "hg"))
  | ((with_reducible refine' isi_lst_list ?k1 ?_); (case k1 => walk_at "hg"))
  | ((with_reducible refine' isi_lst_tuple ?k1 ?_); (case k1 => walk_at "hg"))
  | ((with_reducible refine' isi_tup_int ?k1 ?_); (case k1 => walk_at "hg"))
  | ((with_reducible refine' isi_tup_bool ?k1 ?_); (case k1 => walk_at "hg"))
  | ((with_reducible refine' isi_tup_str ?k1 ?_); (case k1 => walk_at "hg"))
  | ((with_reducible refine' isi_tup_list ?k1 ?_); (case k1 => walk_at "hg"))
  | ((with_reducible refine' isi_tup_tuple ?k1 ?_); (case k1 => walk_at "hg"))
  | fail)
local macro_rules | `(tactic| walk_at "side") => `(tactic| first
  | (show (0 : Int) < _; omega)
  | exact ⟨by omega, by omega⟩
  | exact .inl ⟨by omega, by omega⟩
  | exact .inr ⟨by omega, by omega⟩
  | exact .inr ⟨by decide, by decide⟩
  | exact ⟨by decide, by decide, by decide⟩
  | decide
  | fail)
local macro_rules | `(tactic| walk_at "rd") => `(tactic| (repeat walk_at "r1"))
local macro_rules | `(tactic| walk_at "sq") => `(tactic| first
  | assumption
  | ((with_reducible refine' SqL.of ?k1); (case k1 => walk_at "hg"))
  | ((with_reducible refine' sqL_new ?k1 ?k2); (case k1 => assumption); (case k2 => walk_at "sq"))
  | ((with_reducible refine' sqL_same ?k1 ?k2); (case k1 => assumption); (case k2 => walk_at "sq"))
  | fail)
local macro_rules | `(tactic| walk_at "sqt") => `(tactic| first
  | assumption
  | exact by_all (by assumption)
  | ((with_reducible refine' SqT.of ?k1); (case k1 => walk_at "hg"))
  | fail)
local macro_rules | `(tactic| walk_at "at") => `(tactic| first | assumption | exact atI_nat (j := 0) rfl | exact atI_nat (j := 1) rfl | exact atI_nat (j := 2) rfl | exact atI_nat (j := 3) rfl | fail)
local macro_rules | `(tactic| walk_at "ixn") => `(tactic| first | assumption | rfl | fail)
local macro_rules | `(tactic| walk_at "sd") => `(tactic| first | omega | decide +kernel | fail)
local macro_rules | `(tactic| walk_at "pl") => `(tactic| first
  | assumption
  | ((with_reducible refine' Pool.new' ?k1 ?k2); (case k1 => assumption); (case k2 => walk_at "pl"))
  | ((with_reducible refine' Pool.same' ?k1 ?k2); (case k1 => assumption); (case k2 => walk_at "pl"))
  | fail)
local macro_rules | `(tactic| walk_at "allm") => `(tactic| ((repeat (refine List.forall_mem_cons.mpr ⟨⟨_, rfl, by first | decide | omega, by first | decide | omega⟩, ?_⟩)); exact List.forall_mem_nil _))
local macro_rules | `(tactic| walk_at "kp") => `(tactic| first
  | assumption
  | exact Kp.refl
  | ((with_reducible refine' Kp.trans ?k1 (Kp.new ?k2)); (case k2 => assumption); walk_at "kp")
  | (refine' Kp.trans ?k1 ?k2; (case k2 => assumption); walk_at "kp")
  | (refine' Kp.trans ?k1 (Kp.of ?k2); (case k2 => assumption); walk_at "kp")
  | ((with_reducible refine' Kp.trans ?k1 Kp.at); walk_at "kp")
  | fail)
local macro_rules | `(tactic| walk_at "ct") => `(tactic| (refine' close_turn ?k1 ?k2 ?k3 ?k4; (case k1 => assumption); (case k2 => assumption); (case k3 => assumption); (case k4 => walk_at "kp")))
local macro_rules | `(tactic| walk_at "sm") => `(tactic| first
  | (with_reducible assumption)
  | (with_reducible exact Same.refl _)
  | ((with_reducible refine' Same.trans ?k1 (same_new ?k2)); (case k2 => assumption); walk_at "sm")
  | ((with_reducible refine' Same.trans ?k1 ?k2); (case k2 => (with_reducible assumption)); walk_at "sm")
  | fail)
local macro_rules | `(tactic| walk_at "f1") => `(tactic| first | rfl | exact congrArg Prod.fst (fold_unfold _ _ _) | exact congrArg Prod.fst (unfold_fold _ _ _) | fail)
local macro_rules | `(tactic| walk_at "f2") => `(tactic| first | rfl | exact congrArg Prod.snd (fold_unfold _ _ _) | exact congrArg Prod.snd (unfold_fold _ _ _) | fail)
local macro_rules | `(tactic| walk_at "smv") => `(tactic| first
  | (with_reducible assumption)
  | ((with_reducible refine sm_sc ?k1); (case k1 => exact rfl))
  | ((with_reducible refine' sm_ints ?k1 ?k2); (case k1 => walk_at "hg"); (case k2 => walk_at "hg"))
  | fail)
local macro_rules | `(tactic| walk_at "kp2") => `(tactic| first
  | exact Kp2.refl
  | exact Kp2.at
  | ((with_reducible refine' Kp2.trans ?k1 Kp2.at); walk_at "kp2")
  | ((with_reducible refine' Kp2.trans ?k1 (Kp2.new ?k2)); (case k2 => assumption); walk_at "kp2")
  | (refine' Kp2.trans ?k1 (Kp2.ofK ?k2); (case k2 => assumption); walk_at "kp2")
  | (refine' Kp2.trans ?k1 (Kp2.ofS ?k2); (case k2 => assumption); walk_at "kp2")
  | fail)
local macro_rules | `(tactic| walk_at "ty") => `(tactic| first
  | exact True.intro
  | ((refine' Or.inl ⟨_, ?k1⟩); (case k1 => walk_at "hg"))
  | ((refine' Or.inr ⟨_, ?k1⟩); (case k1 => walk_at "hg"))
  | fail)
local macro_rules | `(tactic| walk_at "jr") => `(tactic| first
  | exact ⟨_, JR.flat rfl⟩
  | ((refine' ⟨_, JR.tup2 ?k1 ?k2 ?k3⟩); (case k1 => walk_at "hg"); (case k2 => walk_at "ty"); (case k3 => walk_at "ty"))
  | ((refine' ⟨_, JR.tupn ?k1 ?k2⟩); (case k1 => walk_at "hg"); (case k2 => simp))
  | ((refine' ⟨_, JR.lst ?k1⟩); (case k1 => walk_at "hg"))
  | fail)
local macro_rules | `(tactic| walk_at "jr1") => `(tactic| ((refine' List.forall_mem_cons.mpr ⟨?k1, ?_⟩); (case k1 => walk_at "jr")))
local macro_rules | `(tactic| walk_at "alljr") => `(tactic| ((repeat walk_at "jr1"); exact List.forall_mem_nil _))
local macro_rules | `(tactic| walk_at "r1") => `(tactic| first
  | ((with_reducible refine' rd_raiseV ?k1 ?_); (case k1 => exact rfl))
  | (with_reducible refine rd_raiseC ?_)
  | ((with_reducible refine' rd_lam ?k1 fun _ _ _ => ?_); (case k1 => walk_at "tb"))
  | (with_reducible refine rd_told ?_)
  | (with_reducible refine rd_xf ?_)
  | fail)
local macro_rules | `(tactic| walk_at "tb") => `(tactic| first
  | assumption
  | ((with_reducible refine' Tabs.new ?k1 ?k2); (case k1 => assumption); (case k2 => walk_at "tb"))
  | ((with_reducible refine' Tabs.same ?k1 ?k2); (case k1 => assumption); (case k2 => walk_at "tb"))
  | ((with_reducible refine' Tabs.kp ?k0 ?k1 ?k2); (case k1 => assumption); (case k0 => walk_at "pl"); (case k2 => walk_at "tb"))
  | fail)
local macro_rules | `(tactic| walk_at "kpn") => `(tactic| first
  | assumption
  | exact KpN.refl
  | ((with_reducible refine' KpN.trans ?k1 (KpN.new ?k2)); (case k2 => assumption); walk_at "kpn")
  | ((with_reducible refine' KpN.trans ?k1 ?k2); (case k2 => assumption); walk_at "kpn")
  | ((with_reducible refine' KpN.trans ?k1 (KpN.ofK ?k2)); (case k2 => assumption); walk_at "kpn")
  | ((with_reducible refine' KpN.trans ?k1 (KpN.of ?k2)); (case k2 => assumption); walk_at "kpn")
  | ((with_reducible refine' KpN.trans ?k1 (KpN.ofN ?k2)); (case k2 => assumption); walk_at "kpn")
  | ((with_reducible refine' KpN.trans ?k1 KpN.at); walk_at "kpn")
  | fail)
local macro_rules | `(tactic| walk_at "hg") => `(tactic| first
  | ((with_reducible refine' look_extL ?k1 ?k2); (case k1 => assumption); (case k2 => walk_at "hg"))
  | ((with_reducible refine' look_extT ?k1 ?k2); (case k1 => assumption); (case k2 => walk_at "hg"))
  | fail)
local macro_rules | `(tactic| walk_at "als") => `(tactic| ((repeat (refine List.forall_mem_cons.mpr ⟨rfl, ?_⟩)); exact List.forall_mem_nil _))
local macro_rules | `(tactic| walk_at "dv1") => `(tactic| first
  | exact DV.sc rfl
  | ((refine' DV.lst ?n ?e ?s); (case n => walk_at "ne"); (case e => walk_at "hg"); (case s => walk_at "als"))
  | ((refine' DV.tup ?n ?e ?s); (case n => walk_at "ne"); (case e => walk_at "hg"); (case s => walk_at "als"))
  | fail)
local macro_rules | `(tactic| walk_at "dvm1") => `(tactic| ((refine' List.forall_mem_cons.mpr ⟨⟨?d, ?i⟩, ?_⟩); (case d => walk_at "dv1"); (case i => first | rfl | decide)))
local macro_rules | `(tactic| walk_at "dvm") => `(tactic| ((repeat walk_at "dvm1"); exact List.forall_mem_nil _))
local macro_rules | `(tactic| walk_at "r1") => `(tactic| first
  | (with_reducible refine rd_bits ?_)
  | ((with_reducible refine' use_row ?k1 fun _ _ _ _ _ => ?_); (case k1 => walk_at "pl"))
  | fail)
local macro_rules | `(tactic| walk_at "smm1") => `(tactic| ((refine' List.forall_mem_cons.mpr ⟨?a, ?_⟩); (case a => first | exact True.intro | (show Int.natAbs _ < _; omega) | (show Int.natAbs _ < _; decide))))
local macro_rules | `(tactic| walk_at "smm") => `(tactic| ((repeat walk_at "smm1"); exact List.forall_mem_nil _))
local macro_rules | `(tactic| walk_at "rv1") => `(tactic| first
  | exact RV.sc rfl
  | ((refine' RV.lst ?n ?e ?s ?t); (case n => walk_at "ne"); (case e => walk_at "hg"); (case s => walk_at "als"); (case t => walk_at "smm"))
  | ((refine' RV.tup ?n ?e ?s ?t); (case n => walk_at "ne"); (case e => walk_at "hg"); (case s => walk_at "als"); (case t => walk_at "smm"))
  | fail)
local macro_rules | `(tactic| walk_at "rvm1") => `(tactic| ((refine' List.forall_mem_cons.mpr ⟨?d, ?_⟩); (case d => walk_at "rv1")))
local macro_rules | `(tactic| walk_at "rvm") => `(tactic| ((repeat walk_at "rvm1"); exact List.forall_mem_nil _))
local macro_rules | `(tactic| walk_at "tsr1") => `(tactic| first
  | exact TSR.flat rfl
  | ((refine' TSR.lst ?e); (case e => walk_at "hg"))
  | ((refine' TSR.tupn ?e ?n); (case e => walk_at "hg"); (case n => simp))
  | exact RV.tsr (by assumption)
  | fail)
local macro_rules | `(tactic| walk_at "tsrm1") => `(tactic| ((refine' List.forall_mem_cons.mpr ⟨?d, ?_⟩); (case d => walk_at "tsr1")))
local macro_rules | `(tactic| walk_at "tsrm") => `(tactic| ((repeat walk_at "tsrm1"); exact List.forall_mem_nil _))
local macro_rules | `(tactic| walk_at "sl") => `(tactic| first
  | (with_reducible exact e_0)
  | (with_reducible exact e_1)
  | (with_reducible exact e_01)
  | (with_reducible exact e_empty)
  | (with_reducible exact eb)
  | (with_reducible exact rfl)
  | fail)
local macro_rules | `(tactic| walk_at "sdl") => `(tactic| first
  | assumption
  | omega
  | (simp only [List.length_append, List.length_replicate, lowB_length, binB_length, List.length_cons, List.length_nil, List.length_map, List.length_drop, List.length_take]; omega)
  | fail)
local macro_rules | `(tactic| walk_at "r1") => `(tactic| first
  | ((with_reducible refine' rd_addT ?k1 ?k2 ?k3 ?_); (case k1 => walk_at "sl"); (case k2 => walk_at "sl"); (case k3 => walk_at "sdl"))
  | ((with_reducible refine' rd_mulT ?k1 ?k2 ?_); (case k1 => walk_at "sl"); (case k2 => walk_at "sdl"))
  | ((with_reducible refine' rd_lenS ?k1 ?_); (case k1 => walk_at "sdl"))
  | ((with_reducible refine' rd_slSF ?k1 ?_); (case k1 => walk_at "sdl"))
  | ((with_reducible refine' rd_slST ?k1 ?_); (case k1 => walk_at "sdl"))
  | ((with_reducible refine' rd_joinS ?k1 ?k2 ?k3 ?_); (case k1 => walk_at "sl"); (case k2 => walk_at "sq"); (case k3 => walk_at "sdl"))
  | (with_reducible refine rd_bit ?_)
  | ((with_reducible refine' rd_tupL ?k1 fun _ _ => ?_); (case k1 => walk_at "sq"))
  | (with_reducible refine rd_fmtb ?_) | (with_reducible refine rd_shr ?_)
  | ((with_reducible refine' rd_fmtn ?k1 ?k2 ?_); (case k1 => walk_at "sl"); (case k2 => walk_at "sdl"))
  | (with_reducible refine rd_bmS ?_) | (with_reducible refine rd_tyS ?_)
  | ((with_reducible refine' use_start ?k1 fun _ _ _ _ _ _ _ _ _ => ?_); (case k1 => walk_at "pl"))
  | fail)
local macro_rules | `(tactic| walk_at "r1") => `(tactic| first
  | (with_reducible refine use_numW ?_) | (with_reducible refine rd_notBl ?_)
  | ((with_reducible refine' rd_find ?k1 ?k2 ?_); (case k1 => walk_at "sl"); (case k2 => walk_at "sdl"))
  | ((with_reducible refine' rd_strip ?k1 ?k2 ?k3 ?_); (case k1 => walk_at "sl"); (case k2 => walk_at "sdl"); (case k3 => assumption))
  | fail)
local macro_rules | `(tactic| walk_at "r1") => `(tactic| first
  | (with_reducible refine rd_toldM fun _ _ => ?_)
  | ((with_reducible refine' use_oddE ?k1 fun _ _ _ _ _ => ?_); (case k1 => walk_at "pl"))
  | fail)
local macro_rules | `(tactic| walk_at "ne") => `(tactic| first
  | (refine' ne_new ?k1 ?k2; (case k1 => assumption); (case k2 => walk_at "hg"))
  | fail)
local macro_rules | `(tactic| walk_at "alo") => `(tactic| ((repeat (refine List.forall_mem_cons.mpr ⟨?_, ?_⟩; first | rfl | decide +kernel)); exact List.forall_mem_nil _))
local macro_rules | `(tactic| walk_at "nm") => `(tactic| ((refine' nm_cons ?n1 ?n2); (case n1 => walk_at "ne"); (case n2 => first | exact List.not_mem_nil | walk_at "nm")))
local macro_rules | `(tactic| walk_at "ev1") => `(tactic| first
  | exact EV.sc rfl
  | exact EV.sc (by decide +kernel)
  | ((refine' EV.lst ?n ?e ?s); (case n => walk_at "nm"); (case e => walk_at "hg"); (case s => walk_at "alo"))
  | ((refine' EV.tup ?n ?e ?s); (case n => walk_at "nm"); (case e => walk_at "hg"); (case s => walk_at "alo"))
  | fail)
local macro_rules | `(tactic| walk_at "evm1") => `(tactic| ((refine' List.forall_mem_cons.mpr ⟨?d, ?_⟩); (case d => walk_at "ev1")))
local macro_rules | `(tactic| walk_at "evm") => `(tactic| ((repeat walk_at "evm1"); exact List.forall_mem_nil _))
local macro_rules | `(tactic| walk_at "kln") => `(tactic| first
  | assumption
  | exact KpLN.refl
  | ((with_reducible refine' KpLN.trans ?k1 (KpLN.new ?k2)); (case k2 => assumption); walk_at "kln")
  | ((with_reducible refine' KpLN.trans ?k1 ?k2); (case k2 => assumption); walk_at "kln")
  | ((with_reducible refine' KpLN.trans ?k1 (KpLN.ofK ?k3 ?k2)); (case k2 => assumption); (case k3 => simp); walk_at "kln")
  | ((with_reducible refine' KpLN.trans ?k1 (KpLN.of ?k2)); (case k2 => assumption); walk_at "kln")
  | ((with_reducible refine' KpLN.trans ?k1 (KpLN.ofN ?k2)); (case k2 => assumption); walk_at "kln")
  | ((with_reducible refine' KpLN.trans ?k1 (KpLN.ofL ?k2)); (case k2 => assumption); walk_at "kln")
  | fail)
local macro_rules | `(tactic| walk_at "pv0") => `(tactic| first
  | exact PV.sc rfl
  | exact PV.sc (by decide +kernel)
  | fail)
local macro_rules | `(tactic| walk_at "pv1") => `(tactic| first
  | walk_at "pv0"
  | ((refine' PV.tup ?n ?e ?s); (case n => walk_at "nm"); (case e => walk_at "hg"); (case s => walk_at "pvm0"))
  | ((refine' PV.lst ?n ?e ?s); (case n => walk_at "nm"); (case e => walk_at "hg"); (case s => walk_at "pvm0"))
  | fail)
local macro_rules | `(tactic| walk_at "pv2") => `(tactic| first
  | walk_at "pv0"
  | ((refine' PV.tup ?n ?e ?s); (case n => walk_at "nm"); (case e => walk_at "hg"); (case s => walk_at "pvm1"))
  | ((refine' PV.lst ?n ?e ?s); (case n => walk_at "nm"); (case e => walk_at "hg"); (case s => walk_at "pvm1"))
  | fail)
local macro_rules | `(tactic| walk_at "pvs0") => `(tactic| ((refine' List.forall_mem_cons.mpr ⟨?d, ?_⟩); (case d => walk_at "pv0")))
local macro_rules | `(tactic| walk_at "pvm0") => `(tactic| ((repeat walk_at "pvs0"); exact List.forall_mem_nil _))
local macro_rules | `(tactic| walk_at "pvs1") => `(tactic| ((refine' List.forall_mem_cons.mpr ⟨?d, ?_⟩); (case d => walk_at "pv1")))
local macro_rules | `(tactic| walk_at "pvm1") => `(tactic| ((repeat walk_at "pvs1"); exact List.forall_mem_nil _))
local macro_rules | `(tactic| walk_at "pvs2") => `(tactic| ((refine' List.forall_mem_cons.mpr ⟨?d, ?_⟩); (case d => walk_at "pv2")))
local macro_rules | `(tactic| walk_at "pvm2") => `(tactic| ((repeat walk_at "pvs2"); exact List.forall_mem_nil _))
local macro_rules | `(tactic| walk_at "nm") => `(tactic| first
  | (refine' nm_al ?hl ?k ?hp ?n; (case hl => assumption); (case n => assumption); (case k => walk_at "kp"); (case hp => walk_at "pl"))
  | fail)
local macro_rules | `(tactic| walk_at "trt") => `(tactic| (refine' tr_ok ?h ?a ?b ?c; (case h => walk_at "hg"); (case a => first | decide | omega); (case b => first | decide | omega); (case c => first | decide | omega)))
local macro_rules | `(tactic| walk_at "stf1") => `(tactic| ((refine' List.forall_mem_cons.mpr ⟨⟨?d, ?e⟩, ?_⟩); (case d => walk_at "pv2"); (case e => first | walk_at "tsf" | (refine' tsr_ii ?h; (case h => walk_at "hg")))))
local macro_rules | `(tactic| walk_at "stfm") => `(tactic| ((repeat walk_at "stf1"); exact List.forall_mem_nil _))
local macro_rules | `(tactic| walk_at "pni1") => `(tactic| ((refine' List.forall_mem_cons.mpr ⟨⟨?d, ?e⟩, ?_⟩); (case d => walk_at "pv1"); (case e => exact fun _ z => nomatch z)))
local macro_rules | `(tactic| walk_at "pnim") => `(tactic| ((repeat walk_at "pni1"); exact List.forall_mem_nil _))
local macro_rules | `(tactic| walk_at "r1") => `(tactic| first
  | ((with_reducible refine' use_listV ?k1 fun _ _ _ _ _ => ?_); (case k1 => walk_at "pl"))
  | ((with_reducible refine' use_startX ?k1 fun _ _ _ _ _ _ _ => ?_); (case k1 => walk_at "pl"))
  | fail)
local macro_rules | `(tactic| walk_at "r1") => `(tactic| first
  | ((with_reducible refine' use_tabsX ?k1 fun _ _ _ _ _ _ _ _ => ?_); (case k1 => walk_at "pl"))
  | ((with_reducible refine' use_heads ?k1 ?k2 fun _ _ _ _ _ _ _ _ _ _ _ => ?_); (case k1 => walk_at "pl"); (case k2 => walk_at "sd"))
  | ((with_reducible refine' use_someX ?k1 ?k2 fun _ _ _ _ _ _ _ _ _ => ?_); (case k1 => walk_at "pl"); (case k2 => walk_at "sd"))
  | fail)
local macro_rules | `(tactic| walk_at "at") => `(tactic| first | exact atI_nat (j := 4) rfl | exact atI_nat (j := 5) rfl | exact atI_nat (j := 6) rfl | exact atI_nat (j := 7) rfl | fail)
abbrev s_is_integer : Stmt := topS 11
theorem sc_is_integer : FnScope ["value"] ["value"] (defScope s_is_integer) := ⟨rfl, rfl, rfl, by decide +kernel, rfl, by decide +kernel, by decide +kernel⟩
abbrev s_is_within : Stmt := topS 12
theorem sc_is_within : FnScope ["value", "low", "high"] ["value", "low", "high"] (defScope s_is_within) := ⟨rfl, rfl, rfl, by decide +kernel, rfl, by decide +kernel, by decide +kernel⟩
abbrev s_check_integer : Stmt := topS 13
theorem sc_check_integer : FnScope ["value"] ["value"] (defScope s_check_integer) := ⟨rfl, rfl, rfl, by decide +kernel, rfl, by decide +kernel, by decide +kernel⟩
abbrev s_check_within : Stmt := topS 14
theorem sc_check_within : FnScope ["value", "low", "high"] ["value", "low", "high"] (defScope s_check_within) := ⟨rfl, rfl, rfl, by decide +kernel, rfl, by decide +kernel, by decide +kernel⟩
abbrev s_check_stretch : Stmt := topS 15
theorem sc_check_stretch : FnScope ["start", "end", "length", "place"] ["start", "end", "length"] (defScope s_check_stretch) := ⟨rfl, rfl, rfl, by decide +kernel, rfl, by decide +kernel, by decide +kernel⟩
abbrev s_check_items : Stmt := topS 16
theorem sc_check_items : FnScope ["values", "index", "value"] ["values"] (defScope s_check_items) := ⟨rfl, rfl, rfl, by decide +kernel, rfl, by decide +kernel, by decide +kernel⟩
abbrev s_check_block : Stmt := topS 18
theorem sc_check_block : FnScope ["values", "least"] ["values", "least"] (defScope s_check_block) := ⟨rfl, rfl, rfl, by decide +kernel, rfl, by decide +kernel, by decide +kernel⟩
abbrev s_is_joint : Stmt := topS 24
theorem sc_is_joint : FnScope ["value", "width", "shape"] ["value"] (defScope s_is_joint) := ⟨rfl, rfl, rfl, by decide +kernel, rfl, by decide +kernel, by decide +kernel⟩
abbrev s_coarse_count : Stmt := topS 37
theorem sc_coarse_count : FnScope ["length", "levels", "many", "level"] ["length", "levels"] (defScope s_coarse_count) := ⟨rfl, rfl, rfl, by decide +kernel, rfl, by decide +kernel, by decide +kernel⟩
abbrev s_is_table : Stmt := topS 45
theorem sc_is_table : FnScope ["value", "total", "count"] ["value"] (defScope s_is_table) := ⟨rfl, rfl, rfl, by decide +kernel, rfl, by decide +kernel, by decide +kernel⟩
abbrev s_is_tables : Stmt := topS 46
theorem sc_is_tables : FnScope ["value"] ["value"] (defScope s_is_tables) := ⟨rfl, rfl, rfl, by decide +kernel, rfl, by decide +kernel, by decide +kernel⟩
abbrev s_parameter : Stmt := topS 47
theorem sc_parameter : FnScope ["table", "total", "count", "least"] ["table"] (defScope s_parameter) := ⟨rfl, rfl, rfl, by decide +kernel, rfl, by decide +kernel, by decide +kernel⟩
abbrev s_table_behind : Stmt := topS 48
theorem sc_table_behind : FnScope ["table", "code", "total", "count"] ["table", "code"] (defScope s_table_behind) := ⟨rfl, rfl, rfl, by decide +kernel, rfl, by decide +kernel, by decide +kernel⟩
abbrev s_code_number : Stmt := topS 49
theorem sc_code_number : FnScope ["number"] ["number"] (defScope s_code_number) := ⟨rfl, rfl, rfl, by decide +kernel, rfl, by decide +kernel, by decide +kernel⟩
abbrev s_number_with : Stmt := topS 50
theorem sc_number_with : FnScope ["code"] ["code"] (defScope s_number_with) := ⟨rfl, rfl, rfl, by decide +kernel, rfl, by decide +kernel, by decide +kernel⟩
abbrev s_read_numbers : Stmt := topS 51
theorem sc_read_numbers : FnScope ["bits", "length", "coarse", "tables", "now", "numbers", "place", "at", "which", "found", "code"] ["bits", "length", "coarse", "tables"] (defScope s_read_numbers) := ⟨rfl, rfl, rfl, by decide +kernel, rfl, by decide +kernel, by decide +kernel⟩
abbrev s_check_coding : Stmt := topS 52
theorem sc_check_coding : FnScope ["length", "coarse", "tables"] ["length", "coarse", "tables"] (defScope s_check_coding) := ⟨rfl, rfl, rfl, by decide +kernel, rfl, by decide +kernel, by decide +kernel⟩
abbrev s_read_code : Stmt := topS 53
theorem sc_read_code : FnScope ["bits", "place", "k", "zero", "ones", "many", "end", "digits", "low"] ["bits", "place", "k"] (defScope s_read_code) := ⟨rfl, rfl, rfl, by decide +kernel, rfl, by decide +kernel, by decide +kernel⟩
abbrev s_mark_of : Stmt := topS 54
theorem sc_mark_of : FnScope ["numbers", "mark", "number"] ["numbers"] (defScope s_mark_of) := ⟨rfl, rfl, rfl, by decide +kernel, rfl, by decide +kernel, by decide +kernel⟩
abbrev s_is_record : Stmt := topS 57
theorem sc_is_record : FnScope ["value"] ["value"] (defScope s_is_record) := ⟨rfl, rfl, rfl, by decide +kernel, rfl, by decide +kernel, by decide +kernel⟩
abbrev s_is_state : Stmt := topS 58
theorem sc_is_state : FnScope ["value"] ["value"] (defScope s_is_state) := ⟨rfl, rfl, rfl, by decide +kernel, rfl, by decide +kernel, by decide +kernel⟩
abbrev s_is_frame : Stmt := topS 59
theorem sc_is_frame : FnScope ["value", "mark", "bits"] ["value"] (defScope s_is_frame) := ⟨rfl, rfl, rfl, by decide +kernel, rfl, by decide +kernel, by decide +kernel⟩
abbrev s_is_layout : Stmt := topS 60
theorem sc_is_layout : FnScope ["value", "length", "joint", "levels", "step"] ["value"] (defScope s_is_layout) := ⟨rfl, rfl, rfl, by decide +kernel, rfl, by decide +kernel, by decide +kernel⟩
abbrev s_is_bits : Stmt := topS 61
theorem sc_is_bits : FnScope ["value"] ["value"] (defScope s_is_bits) := ⟨rfl, rfl, rfl, by decide +kernel, rfl, by decide +kernel, by decide +kernel⟩
abbrev s_read_frame : Stmt := topS 62
theorem sc_read_frame : FnScope ["record", "tables", "length", "joint", "levels", "step", "mark", "bits", "found"] ["record", "tables"] (defScope s_read_frame) := ⟨rfl, rfl, rfl, by decide +kernel, rfl, by decide +kernel, by decide +kernel⟩
abbrev s_check_records : Stmt := topS 66
theorem sc_check_records : FnScope ["records", "index", "record"] ["records"] (defScope s_check_records) := ⟨rfl, rfl, rfl, by decide +kernel, rfl, by decide +kernel, by decide +kernel⟩
abbrev s_read_frames : Stmt := topS 67
theorem sc_read_frames : FnScope ["records", "frames", "tables", "start", "left", "index", "record", "length", "right", "found", "numbers", "behind"] ["records"] (defScope s_read_frames) := ⟨rfl, rfl, rfl, by decide +kernel, rfl, by decide +kernel, by decide +kernel⟩
abbrev s_index_of : Stmt := topS 70
theorem sc_index_of : FnScope ["stream", "index", "origin", "at", "record"] ["stream"] (defScope s_index_of) := ⟨rfl, rfl, rfl, by decide +kernel, rfl, by decide +kernel, by decide +kernel⟩
abbrev s_needed_records : Stmt := topS 71
theorem sc_needed_records : FnScope ["index", "start", "end"] ["index", "start", "end"] (defScope s_needed_records) := ⟨rfl, rfl, rfl, by decide +kernel, rfl, by decide +kernel, by decide +kernel⟩
abbrev s_sound_length : Stmt := topS 72
theorem sc_sound_length : FnScope ["index"] ["index"] (defScope s_sound_length) := ⟨rfl, rfl, rfl, by decide +kernel, rfl, by decide +kernel, by decide +kernel⟩
abbrev s_reach : Stmt := topS 73
theorem sc_reach : FnScope ["entry", "record", "start", "length", "left", "right"] ["entry"] (defScope s_reach) := ⟨rfl, rfl, rfl, by decide +kernel, rfl, by decide +kernel, by decide +kernel⟩
abbrev s_needed_entries : Stmt := topS 74
theorem sc_needed_entries : FnScope ["index", "start", "end", "needed", "entry", "first", "last"] ["index", "start", "end"] (defScope s_needed_entries) := ⟨rfl, rfl, rfl, by decide +kernel, rfl, by decide +kernel, by decide +kernel⟩
abbrev s_records_up_to : Stmt := topS 75
theorem sc_records_up_to : FnScope ["entries", "records", "behind", "entry", "record", "origin"] ["entries"] (defScope s_records_up_to) := ⟨rfl, rfl, rfl, by decide +kernel, rfl, by decide +kernel, by decide +kernel⟩
abbrev s_pool : Stmt := topS 77
theorem sc_pool : FnScope ["_law_script", "_law_k", "_law_cell", "_law_great", "_law_seed"] ["_law_script", "_law_k"] (defScope s_pool) := ⟨rfl, rfl, rfl, by decide +kernel, rfl, by decide +kernel, by decide +kernel⟩
abbrev s_take : Stmt := topS 78
theorem sc_take : FnScope ["_law_pool_here", "_law_many", "_law_found"] ["_law_pool_here", "_law_many"] (defScope s_take) := ⟨rfl, rfl, rfl, by decide +kernel, rfl, by decide +kernel, by decide +kernel⟩
abbrev s_same : Stmt := topS 79
theorem sc_same : FnScope ["_law_actual", "_law_due", "_law_one", "_law_other"] ["_law_actual", "_law_due"] (defScope s_same) := ⟨rfl, rfl, rfl, by decide +kernel, rfl, by decide +kernel, by decide +kernel⟩
abbrev s_binary : Stmt := topS 80
theorem sc_binary : FnScope ["_law_u_here", "_law_found"] ["_law_u_here"] (defScope s_binary) := ⟨rfl, rfl, rfl, by decide +kernel, rfl, by decide +kernel, by decide +kernel⟩
abbrev s_l_parameter : Stmt := topS 81
theorem sc_l_parameter : FnScope ["_law_row", "_law_k", "_law_product"] ["_law_row"] (defScope s_l_parameter) := ⟨rfl, rfl, rfl, by decide +kernel, rfl, by decide +kernel, by decide +kernel⟩
abbrev s_code : Stmt := topS 82
theorem sc_code : FnScope ["_law_u_here", "_law_k", "_law_head", "_law_digits", "_law_turn", "_law_padded"] ["_law_u_here", "_law_k"] (defScope s_code) := ⟨rfl, rfl, rfl, by decide +kernel, rfl, by decide +kernel, by decide +kernel⟩
abbrev s_behind : Stmt := topS 83
theorem sc_behind : FnScope ["_law_row", "_law_u_here", "_law_total", "_law_count"] ["_law_row", "_law_u_here"] (defScope s_behind) := ⟨rfl, rfl, rfl, by decide +kernel, rfl, by decide +kernel, by decide +kernel⟩
abbrev s_u : Stmt := topS 84
theorem sc_u : FnScope ["_law_number"] ["_law_number"] (defScope s_u) := ⟨rfl, rfl, rfl, by decide +kernel, rfl, by decide +kernel, by decide +kernel⟩
abbrev s_written : Stmt := topS 85
theorem sc_written : FnScope ["_law_some_here", "_law_first", "_law_start", "_law_found", "_law_current", "_law_at", "_law_number", "_law_which"] ["_law_some_here", "_law_first", "_law_start"] (defScope s_written) := ⟨rfl, rfl, rfl, by decide +kernel, rfl, by decide +kernel, by decide +kernel⟩
abbrev s_mark : Stmt := topS 86
theorem sc_mark : FnScope ["_law_some_here", "_law_found", "_law_number"] ["_law_some_here"] (defScope s_mark) := ⟨rfl, rfl, rfl, by decide +kernel, rfl, by decide +kernel, by decide +kernel⟩
abbrev s_counts : Stmt := topS 87
theorem sc_counts : FnScope ["_law_size", "_law_many", "_law_counts_here", "_law_turn"] ["_law_size", "_law_many"] (defScope s_counts) := ⟨rfl, rfl, rfl, by decide +kernel, rfl, by decide +kernel, by decide +kernel⟩
abbrev s_values : Stmt := topS 88
theorem sc_values : FnScope ["_law_some_here", "_law_many", "_law_counts_here", "_law_found", "_law_turn", "_law_high", "_law_low", "_law_row", "_law_at", "_law_left"] ["_law_some_here", "_law_many"] (defScope s_values) := ⟨rfl, rfl, rfl, by decide +kernel, rfl, by decide +kernel, by decide +kernel⟩
abbrev s_heads : Stmt := topS 91
theorem sc_heads : FnScope ["_law_pool_here", "_law_many", "_law_sizes", "_law_turn", "_law_long", "_law_found", "_law_left", "_law_at", "_law_size", "_law_most", "_law_width", "_law_joint"] ["_law_pool_here", "_law_many"] (defScope s_heads) := ⟨rfl, rfl, rfl, by decide +kernel, rfl, by decide +kernel, by decide +kernel⟩
abbrev s_some : Stmt := topS 92
theorem sc_some : FnScope ["_law_pool_here", "_law_size", "_law_top", "_law_at"] ["_law_pool_here", "_law_size"] (defScope s_some) := ⟨rfl, rfl, rfl, by decide +kernel, rfl, by decide +kernel, by decide +kernel⟩
abbrev s_frame : Stmt := topS 93
theorem sc_frame : FnScope ["_law_head", "_law_some_here", "_law_start", "_law_first", "_law_text", "_law_behind_here"] ["_law_head", "_law_some_here", "_law_start"] (defScope s_frame) := ⟨rfl, rfl, rfl, by decide +kernel, rfl, by decide +kernel, by decide +kernel⟩
abbrev s_tables : Stmt := topS 94
theorem sc_tables : FnScope ["_law_pool_here", "_law_first"] ["_law_pool_here"] (defScope s_tables) := ⟨rfl, rfl, rfl, by decide +kernel, rfl, by decide +kernel, by decide +kernel⟩
abbrev s_stream : Stmt := topS 95
theorem sc_stream : FnScope ["_law_pool_here", "_law_many", "_law_records", "_law_rows", "_law_blocks", "_law_current", "_law_origin", "_law_place", "_law_left", "_law_head", "_law_some_here", "_law_record", "_law_number"] ["_law_pool_here", "_law_many"] (defScope s_stream) := ⟨rfl, rfl, rfl, by decide +kernel, rfl, by decide +kernel, by decide +kernel⟩
abbrev s_reached : Stmt := topS 96
theorem sc_reached : FnScope ["_law_rows", "_law_first", "_law_last", "_law_found", "_law_at", "_law_row", "_law_near", "_law_far", "_law_place"] ["_law_rows", "_law_first", "_law_last"] (defScope s_reached) := ⟨rfl, rfl, rfl, by decide +kernel, rfl, by decide +kernel, by decide +kernel⟩
abbrev s_needed : Stmt := topS 97
theorem sc_needed : FnScope ["_law_rows", "_law_frames", "_law_known", "_law_at", "_law_place"] ["_law_rows", "_law_frames"] (defScope s_needed) := ⟨rfl, rfl, rfl, by decide +kernel, rfl, by decide +kernel, by decide +kernel⟩
abbrev s_length : Stmt := topS 98
theorem sc_length : FnScope ["_law_rows"] ["_law_rows"] (defScope s_length) := ⟨rfl, rfl, rfl, by decide +kernel, rfl, by decide +kernel, by decide +kernel⟩
abbrev s_stretch : Stmt := topS 99
theorem sc_stretch : FnScope ["_law_pool_here", "_law_rows", "_law_size", "_law_first", "_law_last", "_law_row"] ["_law_pool_here", "_law_rows"] (defScope s_stretch) := ⟨rfl, rfl, rfl, by decide +kernel, rfl, by decide +kernel, by decide +kernel⟩
abbrev s_law : Stmt := topS 100
theorem sc_law : FnScope ["_law_script", "_law_k", "_law_pool_here", "_law_records", "_law_rows", "_law_blocks", "_law_index", "_law_turn", "_law_first", "_law_last", "_law_due", "_law_actual"] ["_law_script"] (defScope s_law) := ⟨rfl, rfl, rfl, by decide +kernel, rfl, by decide +kernel, by decide +kernel⟩
abbrev s_Stream___init__ : Stmt := inClass (topS 68) 0
theorem sc_Stream___init__ : FnScope ["self", "records"] ["self", "records"] (defScope s_Stream___init__) := ⟨rfl, rfl, rfl, by decide +kernel, rfl, by decide +kernel, by decide +kernel⟩
abbrev s_Stream_records : Stmt := inClass (topS 68) 4
theorem sc_Stream_records : FnScope ["self"] ["self"] (defScope s_Stream_records) := ⟨rfl, rfl, rfl, by decide +kernel, rfl, by decide +kernel, by decide +kernel⟩
abbrev s_Stream_block : Stmt := inClass (topS 68) 8
theorem sc_Stream_block : FnScope ["self", "frame"] ["self", "frame"] (defScope s_Stream_block) := ⟨rfl, rfl, rfl, by decide +kernel, rfl, by decide +kernel, by decide +kernel⟩
abbrev s_Stream_part_of : Stmt := inClass (topS 68) 13
theorem sc_Stream_part_of : FnScope ["self", "frame", "part"] ["self", "frame", "part"] (defScope s_Stream_part_of) := ⟨rfl, rfl, rfl, by decide +kernel, rfl, by decide +kernel, by decide +kernel⟩
section
variable {P : Program} {w : World} {K : PySem.W.Frag} {mg : Str → Option Value} {base : Heap}
theorem ok_take {f : Addr} {fd : FuncData}     (D : Dn K mg "_law_take" s_take ["_law_pool_here", "_law_many"] f fd) (bi : Bi mg)     : FnOk P w K mg base CX0 1 f fd ["_law_pool_here", "_law_many"] spTake := by
  refine lt_out ?_
  simp (disch := with_unfolding_all
    refine D.F.ok sc_take (fun vs H Q E h => ?_) (fun cdv A outer s H vs Q E hr h => ?_)
    · obtain ⟨p, m, rfl, _⟩ := h
      rfl
    · obtain ⟨p, m, rfl, ⟨x, y, hp, hx, hy0, hy1⟩, hm0, hm1, q⟩ := h
      refine ⟨_, (pss_cons (ps_if (pt_cmpR op_gt (pe_ix ix_list (pv 0) pe_int (fun _ _ => rfl)) pe_int (nomark _))
   (pss_cons (ps_set (i := 2) sc_take.nd rfl (Or.inl rfl) (pe_op op_mod (pe_callTy cInt (by rfl) bi.int_ (by decide +kernel) (pa_cons (pe_ix ix_list (pv 0) pe_int (fun _ _ => rfl)) pa_nil)) (pv 1)))
   (pss_cons (ps_asg (pe_op op_fdiv (pe_callTy cInt (by rfl) bi.int_ (by decide +kernel) (pa_cons (pe_ix ix_list (pv 0) pe_int (fun _ _ => rfl)) pa_nil)) (pv 1)) (pg_sub (pv 0) pe_int set_list))
   (pss_one (ps_ret (pv 2)))))
   pss_nil)
   (pss_cons (ps_asg (pe_op op_mod (pe_callTy cInt (by rfl) bi.int_ (by decide +kernel) (pa_cons (pe_op op_add (pe_op op_mul (pe_ix ix_list (pv 0) pe_int (fun _ _ => rfl)) pe_int) pe_int) pa_nil)) pe_int) (pg_sub (pv 0) pe_int set_list))
   (pss_one (ps_ret (pe_op op_mod (pe_op op_fdiv (pe_op op_mod (pe_callTy cInt (by rfl) bi.int_ (by decide +kernel) (pa_cons (pe_op op_mul (pe_ix ix_list (pv 0) pe_int (fun _ _ => rfl)) (pe_ix ix_list (pv 0) pe_int (fun _ _ => rfl))) pa_nil)) pe_int) pe_int) (pv 1)))))), ?_⟩
      refine rd_start (σ := [some (.ref p), some (.int m), none]) rfl ?_
      walk_at "rd"
      refine rd_iteD (fun c => ?_) (fun c => ?_)
      · walk_at "rd"
        exact q _ _ (Int.emod_nonneg _ (by omega)) (Int.emod_lt_of_pos _ hm0) ⟨x / m, y, upd_same, Int.ediv_nonneg hx (by omega), hy0, hy1⟩ Kp.at
      · have e0 := Int.emod_nonneg (y * 48271 + 11) (show (2147483647 : Int) ≠ 0 by decide)
        have e1 := Int.emod_lt_of_pos (y * 48271 + 11) (show (0 : Int) < 2147483647 by decide)
        walk_at "rd"
        exact q _ _ (Int.emod_nonneg _ (by omega)) (Int.emod_lt_of_pos _ hm0) ⟨x, (y * 48271 + 11) % 2147483647, upd_same, hx, e0, e1⟩ Kp.at
    ) only [↓lt_eq]
theorem ok_pool {f : Addr} {fd : FuncData}     (D : Dn K mg "_law_pool" s_pool ["_law_script", "_law_k"] f fd) (bi : Bi mg)     : FnOk P w K mg base CX0 1 f fd ["_law_script", "_law_k"] (spPool K) := by
  refine lt_out ?_
  simp (disch := with_unfolding_all
    refine D.F.ok sc_pool (fun vs H Q E h => ?_) (fun cdv A outer s H vs Q E hr h => ?_)
    · obtain ⟨a, ns, k, rfl, _⟩ := h
      rfl
    · obtain ⟨a, ns, k, rfl, hS, hl, hk0, hk1, q⟩ := h
      refine ⟨_, (pss_cons (ps_set (i := 2) sc_pool.nd rfl (Or.inl rfl) pe_int)
   (pss_cons (ps_if (pt_cmpR op_lt (pv 1) (pe_callB cLen (by rfl) bi.len_ (by decide +kernel) (pa_cons (pv 0) pa_nil)) (nomark _))
   (pss_one (ps_set (i := 2) sc_pool.nd rfl (Or.inl rfl) (pe_callTy cInt (by rfl) bi.int_ (by decide +kernel) (pa_cons (pe_ix ix_list (pv 0) (pv 1) (fun _ _ => rfl)) pa_nil))))
   pss_nil)
   (pss_cons (ps_set (i := 3) sc_pool.nd rfl (Or.inl rfl) (pe_callB cAbs (by rfl) bi.abs_ (by decide +kernel) (pa_cons (pv 2) pa_nil)))
   (pss_cons (ps_set (i := 4) sc_pool.nd rfl (Or.inl rfl) (pe_op op_add (pe_op op_add (pe_op op_mod (pe_callTy cInt (by rfl) bi.int_ (by decide +kernel) (pa_cons (pv 2) pa_nil)) pe_int) (pe_op op_mul pe_int (pv 1))) pe_int))
   (pss_one (ps_ret (pe_lst (pa_cons (pe_op op_mul (pv 3) (pe_callTy cInt (by rfl) bi.int_ (by decide +kernel) (pa_cons (pe_cmpR op_ge (pv 3) (pe_op op_pow pe_int pe_int) (nomark _)) pa_nil))) (pa_cons (pe_op op_mod (pe_callTy cInt (by rfl) bi.int_ (by decide +kernel) (pa_cons (pe_op op_add (pe_op op_mul (pe_op op_mul (pv 4) (pv 4)) (pv 4)) (pe_op op_mul pe_int (pv 1))) pa_nil)) pe_int) pa_nil))))))))), ?_⟩
      refine rd_start (σ := [some (.ref a), some (.int k), none, none, none]) rfl ?_
      have hS' : SqL (cxOf CX0 P w K mg base ["_law_script", "_law_k", "_law_cell", "_law_great", "_law_seed"] "_law_pool" (defScope s_pool) f cdv A outer s H E).nox.K H a (ns.map V.int) := hS
      walk_at "rd"
      refine rd_iteD (fun c => ?_) (fun c => ?_)
      · rw [List.length_map] at c
        obtain ⟨j, rfl⟩ : ∃ j : Nat, k = (j : Int) := ⟨k.toNat, by omega⟩
        have hj : j < ns.length := by omega
        have hat : atI (ns.map V.int) (j : Int) = some (.int ns[j]) := atI_nat (by rw [List.getElem?_map, List.getElem?_eq_getElem hj]; rfl)
        have e0 := Int.emod_nonneg ns[j] (show (2147483629 : Int) ≠ 0 by decide)
        have e1 := Int.emod_lt_of_pos ns[j] (show (0 : Int) < 2147483629 by decide)
        walk_at "rd"
        rename_i p hp
        exact q _ _ hp (same_new hp) ⟨_, _, upd_same, great_nn _ _, Int.emod_nonneg _ (by decide), Int.emod_lt_of_pos _ (by decide)⟩
      · walk_at "rd"
        rename_i p hp
        exact q _ _ hp (same_new hp) ⟨_, _, upd_same, great_nn 0 _, Int.emod_nonneg _ (by decide), Int.emod_lt_of_pos _ (by decide)⟩
    ) only [↓lt_eq]
theorem ok_binary {f : Addr} {fd : FuncData}     (D : Dn K mg "_law_binary" s_binary ["_law_u_here"] f fd) (bi : Bi mg)     : FnOk P w K mg base CX0 1 f fd ["_law_u_here"] spBinary := by
  refine lt_out ?_
  simp (disch := with_unfolding_all
    refine D.F.ok sc_binary (fun vs H Q E h => ?_) (fun cdv A outer s H vs Q E hr h => ?_)
    · obtain ⟨u, rfl, _⟩ := h
      rfl
    · obtain ⟨u, rfl, hu, q⟩ := h
      refine ⟨_, (pss_cons (ps_set (i := 1) sc_binary.nd rfl (Or.inl rfl) pe_str)
   (pss_cons (ps_while PassesOwn.never (pt_cmpR op_gt (pv 0) pe_int (nomark _))
   (pss_cons (ps_set (i := 1) sc_binary.nd rfl (Or.inl rfl) (pe_op op_addT (pe_ix ix_str pe_str (pe_op op_mod (pe_callTy cInt (by rfl) bi.int_ (by decide +kernel) (pa_cons (pv 0) pa_nil)) pe_int) (fun _ _ => rfl)) (pv 1)))
   (pss_one (ps_set (i := 0) sc_binary.nd rfl (Or.inl rfl) (pe_op op_fdiv (pv 0) pe_int)))))
   (pss_one (ps_ret (pv 1))))), ?_⟩
      refine rd_start (σ := [some (.int (u : Int)), none]) rfl ?_
      walk_at "rd"
      refine while_n (fun i σ H' => σ = [some (.int ((u / 2 ^ i : Nat) : Int)), some (.str (SX.S (lowB u i)))] ∧ H' = H) (if u = 0 then 0 else nb u) ⟨by rw [Nat.pow_zero, Nat.div_one]; rfl, rfl⟩ (fun i σ H' hi hI => ?_)
      obtain ⟨rfl, rfl⟩ := hI
      walk_at "rd"
      have hii : i ≤ nb u := by split at hi <;> omega
      refine rd_iteD (fun c => ?_) (fun c => ?_)
      · refine while_in ?_ ?_
        · have c' : 0 < u / 2 ^ i := by omega
          by_cases z : u = 0
          · subst z
            rw [Nat.zero_div] at c'
            omega
          · rw [if_neg z] at hi ⊢
            by_cases e : i = nb u
            · subst e
              rw [Nat.div_eq_of_lt (nb_lt u)] at c'
              omega
            · omega
        · walk_at "rd"
          refine ⟨?_, rfl⟩
          rw [half_nat, Nat.div_div_eq_div_mul, ← Nat.pow_succ, lowB_front]
          rfl
      · walk_at "rd"
        have c' : ¬ 0 < u / 2 ^ i := fun z => c (by omega)
        have hlt : u < 2 ^ i := by
          rcases Nat.lt_or_ge u (2 ^ i) with z | z
          · exact z
          · exact absurd (Nat.div_pos z (Nat.two_pow_pos i)) c'
        by_cases z : u = 0
        · rw [if_pos z] at hi q
          obtain rfl : i = 0 := by omega
          exact q
        · rw [if_neg z] at hi q
          have hi1 : 1 ≤ i := by
            rcases i with _ | i
            · have : (2 : Nat) ^ 0 = 1 := rfl
              omega
            · omega
          have e := nb_min hlt hi1
          obtain rfl : i = nb u := by omega
          exact q
    ) only [↓lt_eq]
theorem ok_l_parameter {f : Addr} {fd : FuncData}     (D : Dn K mg "_law_parameter" s_l_parameter ["_law_row"] f fd) (bi : Bi mg)     : FnOk P w K mg base CX0 1 f fd ["_law_row"] (spParG K) := by
  refine lt_out ?_
  simp (disch := with_unfolding_all
    refine D.F.ok sc_l_parameter (fun vs H Q E h => ?_) (fun cdv A outer s H vs Q E hr h => ?_)
    · obtain ⟨a, t, m, rfl, _⟩ := h
      rfl
    · obtain ⟨a, t, m, rfl, h1, ok, q⟩ := h
      have L1 := h1.1
      refine ⟨_, (pss_cons (ps_par (i := 1) (j := 2) rfl sc_l_parameter.nd rfl rfl (by decide) rfl rfl (pa_cons pe_int (pa_cons (pe_ix ix_tup (pv 0) pe_int (fun _ _ => rfl)) pa_nil)) rfl)
   (pss_cons (ps_while PassesOwn.never (pt_cmpR op_lt (pv 2) (pe_ix ix_tup (pv 0) pe_int (fun _ _ => rfl)) (nomark _))
   (pss_cons (ps_set (i := 2) sc_l_parameter.nd rfl (Or.inl rfl) (pe_op op_mul (pv 2) pe_int))
   (pss_one (ps_set (i := 1) sc_l_parameter.nd rfl (Or.inl rfl) (pe_op op_add (pv 1) pe_int)))))
   (pss_one (ps_ret (pv 1))))), ?_⟩
      refine rd_start (σ := [some (.ref a), none, none]) rfl ?_
      walk_at "rd"
      refine while_n (fun i σ H' => σ = [some (.ref a), some (.int ((i : Nat) : Int)), some (.int (t.2 * 2 ^ i))] ∧ H' = H) (par t.1 t.2) ⟨by rw [Int.pow_zero, Int.mul_one]; rfl, rfl⟩ (fun i σ H' hi hI => ?_)
      obtain ⟨rfl, rfl⟩ := hI
      walk_at "rd"
      refine rd_iteD (fun c => ?_) (fun c => ?_)
      · refine while_in ((par_cond ok hi).mp c) ?_
        walk_at "rd"
        refine ⟨?_, rfl⟩
        rw [Int.pow_succ, ← Int.mul_assoc]
        rfl
      · have e : i = par t.1 t.2 := by
          have z : ¬ i < par t.1 t.2 := fun z => c ((par_cond ok hi).mpr z)
          omega
        subst e
        walk_at "rd"
        exact q
    ) only [↓lt_eq]
theorem ok_code {f : Addr} {fd : FuncData} {f_binary : Addr} {fd_binary : FuncData}    (D : Dn K mg "_law_code" s_code ["_law_u_here", "_law_k"] f fd) (bi : Bi mg) (G_binary : FnOk P w K mg base CX0 1 f_binary fd_binary ["_law_u_here"] spBinary) (D_binary : Dn K mg "_law_binary" s_binary ["_law_u_here"] f_binary fd_binary)    : FnOk P w K mg base CX0 2 f fd ["_law_u_here", "_law_k"] spBits := by
  refine lt_out ?_
  simp (disch := with_unfolding_all
    refine D.F.ok sc_code (fun vs H Q E h => ?_) (fun cdv A outer s H vs Q E hr h => ?_)
    · obtain ⟨u, k, rfl, _⟩ := h
      rfl
    · obtain ⟨u, k, rfl, hk, hu, q⟩ := h
      refine ⟨_, (pss_cons (ps_par (i := 2) (j := 3) rfl sc_code.nd rfl rfl (by decide) rfl rfl (pa_cons (pv 0) (pa_cons (pe_call G_binary (hr.mono (by first | decide | exact Nat.le_refl _)) (by rfl) D_binary.g D_binary.F.kp D_binary.b .nil pass0 (pa_cons (pv 0) pa_nil)) pa_nil)) rfl)
   (pss_cons (ps_for PassesOwn.never rfl (pi_range1 (by rfl) bi.range_ (pa_cons (pv 1) pa_nil)) (pg_name (i := 4) sc_code.nd rfl (Or.inl rfl))
   (pss_one (ps_set (i := 2) sc_code.nd rfl (Or.inl rfl) (pe_op op_fdiv (pv 2) pe_int))))
   (pss_cons (ps_if (pt_cmpR op_lt (pv 2) pe_int (nomark _))
   (pss_cons (ps_set (i := 5) sc_code.nd rfl (Or.inl rfl) (pe_op op_addT (pe_op op_mulT pe_str (pv 1)) (pv 3)))
   (pss_one (ps_ret (pe_op op_addT (pe_op op_addT (pe_op op_mulT pe_str (pv 2)) pe_str) (pe_slice C8.sl_txt (pv 5) (po_some (pe_op op_sub (pe_callB cLen (by rfl) bi.len_ (by decide +kernel) (pa_cons (pv 5) pa_nil)) (pv 1))) po_none)))))
   pss_nil)
   (pss_one (ps_ret (pe_op op_addT (pe_op op_addT (pe_op op_mulT pe_str (pe_op op_add pe_int (pe_callB cLen (by rfl) bi.len_ (by decide +kernel) (pa_cons (pv 3) pa_nil)))) pe_str) (pv 3))))))), ?_⟩
      refine rd_start (σ := [some (.int (u : Int)), some (.int (k : Int)), none, none, none, none]) rfl ?_
      walk_at "rd"
      refine use_binary hu ?_
      have hdg : ∃ j, j ≤ nb u ∧ u < 2 ^ j ∧ (if u = 0 then [] else binB u) = lowB u j := by
        by_cases z : u = 0
        · refine ⟨0, Nat.zero_le _, ?_, ?_⟩
          · rw [z]; decide
          · rw [if_pos z]; rfl
        · exact ⟨nb u, Nat.le_refl _, nb_lt u, if_neg z⟩
      have hbig : ¬ u / 2 ^ k < 20 → (if u = 0 then [] else binB u) = binB u := fun z => if_neg (fun e => z (by rw [e, Nat.zero_div]; decide))
      generalize (if u = 0 then [] else binB u) = dg at hdg hbig ⊢
      obtain ⟨j, hj, hlt, ej⟩ := hdg
      have hdl : dg.length = j := by rw [ej, lowB_length]
      walk_at "rd"
      refine for_range (lo := 0) (n := ((k : Nat) : Int).toNat) (fun i σ H' => ∃ x4, σ = [some (.int (u : Int)), some (.int (k : Int)), some (.int ((u / 2 ^ i : Nat) : Int)), some (.str (SX.S dg)), x4, none] ∧ H' = H) ⟨none, by rw [Nat.pow_zero, Nat.div_one]; rfl, rfl⟩ (fun i σ H' hi hI => ?_) (fun σ H' hI => ?_)
      · obtain ⟨x4, rfl, rfl⟩ := hI
        walk_at "rd"
        refine ⟨some (.int (0 + (i : Int))), ?_, rfl⟩
        rw [half_nat, Nat.div_div_eq_div_mul, ← Nat.pow_succ]
        rfl
      · obtain ⟨x4, rfl, rfl⟩ := hI
        rw [Int.toNat_natCast]
        walk_at "rd"
        refine rd_iteD (fun c => ?_) (fun c => ?_)
        · have c2 : u / 2 ^ k < 20 := Int.ofNat_lt.mp c
          have e : encB u k = List.replicate (u / 2 ^ k) 49 ++ [48] ++ lowB u k := if_pos c2
          rw [e] at q
          clear c e hbig
          generalize u / 2 ^ k = g at c2 q ⊢
          walk_at "rd"
          have hd := low_fill2 u k j hlt
          rw [← ej] at hd
          have hl2 : (List.replicate k 48 ++ dg).length = k + j := by rw [List.length_append, List.length_replicate, hdl]
          generalize List.replicate k 48 ++ dg = P at hd hl2 ⊢
          walk_at "rd"
          rw [show ((P.length : Nat) : Int) - (k : Int) = ((P.length - k : Nat) : Int) by omega]
          walk_at "rd"
          rw [hd]
          exact q
        · have c2 : ¬ u / 2 ^ k < 20 := fun z => c (Int.ofNat_lt.mpr z)
          have e : encB u k = List.replicate (19 + nb u) 49 ++ [48] ++ binB u := if_neg c2
          rw [e] at q
          have eb2 := hbig c2
          subst eb2
          have hbl := binB_length u
          walk_at "rd"
          rw [hbl, show (19 : Int) + (nb u : Nat) = ((19 + nb u : Nat) : Int) by omega]
          walk_at "rd"
          exact q
    ) only [↓lt_eq]
theorem ok_behind {f : Addr} {fd : FuncData}     (D : Dn K mg "_law_behind" s_behind ["_law_row", "_law_u_here"] f fd) (bi : Bi mg)     : FnOk P w K mg base CX0 1 f fd ["_law_row", "_law_u_here"] (spBehind K) := by
  refine lt_out ?_
  simp (disch := with_unfolding_all
    refine D.F.ok sc_behind (fun vs H Q E h => ?_) (fun cdv A outer s H vs Q E hr h => ?_)
    · obtain ⟨a, t, m, u, rfl, _⟩ := h
      rfl
    · obtain ⟨a, t, m, u, rfl, h1, ok, q⟩ := h
      have L1 := h1.1
      obtain ⟨o1, o2, o3, o4⟩ := ok
      refine ⟨_, (pss_cons (ps_par (i := 2) (j := 3) rfl sc_behind.nd rfl rfl (by decide) rfl rfl (pa_cons (pe_op op_add (pe_ix ix_tup (pv 0) pe_int (fun _ _ => rfl)) (pv 1)) (pa_cons (pe_op op_add (pe_ix ix_tup (pv 0) pe_int (fun _ _ => rfl)) pe_int) pa_nil)) rfl)
   (pss_one (ps_ret (pe_ifExp (pt_cmpR op_eq (pv 3) pe_int (nomark _)) (pe_tup (pa_cons (pe_op op_fdiv (pv 2) pe_int) (pa_cons pe_int pa_nil))) (pe_tup (pa_cons (pv 2) (pa_cons (pv 3) pa_nil))))))), ?_⟩
      refine rd_start (σ := [some (.ref a), some (.int (u : Int)), none, none]) rfl ?_
      walk_at "rd"
      refine rd_iteD (fun c => ?_) (fun c => ?_)
      · walk_at "rd"
        rename_i p hp
        have e : tbB t u = ((t.1 + (u : Int)) / 2, 8) := if_pos (by have := V.int.inj c; omega)
        rw [e] at q
        exact q p hp
      · walk_at "rd"
        rename_i p hp
        have e : tbB t u = (t.1 + (u : Int), t.2 + 1) := if_neg (fun z => c (congrArg V.int (by omega)))
        rw [e] at q
        exact q p hp
    ) only [↓lt_eq]
theorem ok_u {f : Addr} {fd : FuncData}     (D : Dn K mg "_law_u" s_u ["_law_number"] f fd) (bi : Bi mg)     : FnOk P w K mg base CX0 1 f fd ["_law_number"] spCode := by
  refine lt_out ?_
  simp (disch := with_unfolding_all
    refine D.F.ok sc_u (fun vs H Q E h => ?_) (fun cdv A outer s H vs Q E hr h => ?_)
    · obtain ⟨n, rfl, _⟩ := h
      rfl
    · obtain ⟨n, rfl, q⟩ := h
      refine ⟨_, (pss_one (ps_ret (pe_ifExp (pt_cmpR op_ge (pv 0) pe_int (nomark _)) (pe_op op_mul pe_int (pv 0)) (pe_op op_sub (pe_op op_mul (pe_un un_neg pe_int) (pv 0)) pe_int)))), ?_⟩
      refine rd_start (σ := [some (.int n)]) rfl ?_
      walk_at "rd"
      refine rd_iteD (fun c => ?_) (fun c => ?_)
      · walk_at "rd"
        have e : codeU n = 2 * n := if_pos c
        rw [e] at q
        exact q
      · walk_at "rd"
        have e : codeU n = -2 * n - 1 := if_neg c
        rw [e] at q
        exact q
    ) only [↓lt_eq]
theorem ok_written {f : Addr} {fd : FuncData} {f_code : Addr} {fd_code : FuncData} {f_u : Addr} {fd_u : FuncData} {f_l_parameter : Addr} {fd_l_parameter : FuncData} {f_behind : Addr} {fd_behind : FuncData}    (D : Dn K mg "_law_written" s_written ["_law_some_here", "_law_first", "_law_start"] f fd) (bi : Bi mg) (G_code : FnOk P w K mg base CX0 2 f_code fd_code ["_law_u_here", "_law_k"] spBits) (D_code : Dn K mg "_law_code" s_code ["_law_u_here", "_law_k"] f_code fd_code) (G_u : FnOk P w K mg base CX0 1 f_u fd_u ["_law_number"] spCode) (D_u : Dn K mg "_law_u" s_u ["_law_number"] f_u fd_u) (G_l_parameter : FnOk P w K mg base CX0 1 f_l_parameter fd_l_parameter ["_law_row"] (spParG K)) (D_l_parameter : Dn K mg "_law_parameter" s_l_parameter ["_law_row"] f_l_parameter fd_l_parameter) (G_behind : FnOk P w K mg base CX0 1 f_behind fd_behind ["_law_row", "_law_u_here"] (spBehind K)) (D_behind : Dn K mg "_law_behind" s_behind ["_law_row", "_law_u_here"] f_behind fd_behind)    : FnOk P w K mg base CX0 3 f fd ["_law_some_here", "_law_first", "_law_start"] (spWr K) := by
  refine lt_out ?_
  simp (disch := with_unfolding_all
    refine D.F.ok sc_written (fun vs H Q E h => ?_) (fun cdv A outer s H vs Q E hr h => ?_)
    · obtain ⟨a, ns, first, b, T, rfl, _⟩ := h
      rfl
    · obtain ⟨a, ns, first, b, T, rfl, e1, hl, hf, hn, hT, o1, o2, q⟩ := h
      refine ⟨_, (pss_cons (ps_par (i := 3) (j := 4) rfl sc_written.nd rfl rfl (by decide) rfl rfl (pa_cons (pe_lst pa_nil) (pa_cons (pe_callTy cList (by rfl) bi.list_ (by decide +kernel) (pa_cons (pv 2) pa_nil)) pa_nil)) rfl)
   (pss_cons (ps_for PassesOwn.never rfl (pi_enum (by rfl) bi.enumerate_ (pa_cons (pv 0) pa_nil)) (pg_tup rfl (pgs_cons (pg_name (i := 5) sc_written.nd rfl (Or.inl rfl)) (pgs_cons (pg_name (i := 6) sc_written.nd rfl (Or.inl rfl)) pgs_nil)))
   (pss_cons (ps_set (i := 7) sc_written.nd rfl (Or.inl rfl) (pe_callTy cInt (by rfl) bi.int_ (by decide +kernel) (pa_cons (pe_cmpR op_ge (pv 5) (pv 1) (nomark _)) pa_nil)))
   (pss_cons (ps_expr (pe_bm PySem.F.plainAttrs_list PySem.F.slot_list_append PySem.F.type_list_append mt_append (pv 3) (pa_cons (pe_call G_code (hr.mono (by first | decide | exact Nat.le_refl _)) (by rfl) D_code.g D_code.F.kp D_code.b .nil pass0 (pa_cons (pe_call G_u (hr.mono (by first | decide | exact Nat.le_refl _)) (by rfl) D_u.g D_u.F.kp D_u.b .nil pass0 (pa_cons (pv 6) pa_nil)) (pa_cons (pe_call G_l_parameter (hr.mono (by first | decide | exact Nat.le_refl _)) (by rfl) D_l_parameter.g D_l_parameter.F.kp D_l_parameter.b .nil pass0 (pa_cons (pe_ix ix_list (pv 4) (pv 7) (fun _ _ => rfl)) pa_nil)) pa_nil))) pa_nil)))
   (pss_one (ps_asg (pe_call G_behind (hr.mono (by first | decide | exact Nat.le_refl _)) (by rfl) D_behind.g D_behind.F.kp D_behind.b .nil pass0 (pa_cons (pe_ix ix_list (pv 4) (pv 7) (fun _ _ => rfl)) (pa_cons (pe_call G_u (hr.mono (by first | decide | exact Nat.le_refl _)) (by rfl) D_u.g D_u.F.kp D_u.b .nil pass0 (pa_cons (pv 6) pa_nil)) pa_nil))) (pg_sub (pv 4) (pv 7) set_list))))))
   (pss_one (ps_ret (pe_tup (pa_cons (pe_bm PySem.F.plainAttrs_str PySem.F.slot_str_join PySem.F.type_str_join mt_joinK pe_str (pa_cons (pv 3) pa_nil)) (pa_cons (pe_callTy cTuple (by rfl) bi.tuple_ (by decide +kernel) (pa_cons (pv 4) pa_nil)) pa_nil))))))), ?_⟩
      refine rd_start (σ := [some (.ref a), some (.int (first : Int)), some (.ref b), none, none, none, none, none]) rfl ?_
      obtain ⟨r0, r1, h0, h1, h2⟩ := hT
      walk_at "rd"
      rename_i w hw
      refine rd_listQ (LK.seqT (.new hw) h0.1) fun p hp => ?_
      walk_at "rd"
      have hs2 : Same H (upd (upd H w (.lst [])) p (.lst [.ref r0, .ref r1])) := (same_new hw).trans (same_new hp)
      have hwn : H w = none := hw
      have hpn : H p = none := (same_new hw).free hp
      have hwp : w ≠ p := ne_of_none upd_same hp
      have hpw := hwp.symm
      refine rd_lpE (SqL.of (hs2 _ _ e1)) ?_
      refine for_enum (xs := ns.map V.int) (fun i σ H' => ∃ r0 r1 x5 x6 x7, σ = [some (.ref a), some (.int (first : Int)), some (.ref b), some (.ref w), some (.ref p), x5, x6, x7] ∧ H' p = some (.lst [.ref r0, .ref r1]) ∧ H' w = some (.lst ((wst ns first T i).1.map fun l => V.str (SX.S l))) ∧ TbV K H' r0 (wst ns first T i).2.1 ∧ TbV K H' r1 (wst ns first T i).2.2 ∧ Same H H') ⟨r0, r1, none, none, none, rfl, upd_same, look_new hp upd_same, (h1.lk (.new hw)).lk (.new hp), (h2.lk (.new hw)).lk (.new hp), hs2⟩ (fun i σ H' _ hI => ?_) (fun i v σ H' t hv hI ht => ?_) (fun σ H' hI => ?_)
      · obtain ⟨r0, r1, x5, x6, x7, rfl, h3, h3w, h4, h5, hs⟩ := hI
        exact SqL.of (hs _ _ e1)
      · obtain ⟨r0, r1, x5, x6, x7, rfl, h3, h3w, h4, h5, hs⟩ := hI
        have hil : i < ns.length := by
          have z := (List.getElem?_eq_some_iff.mp hv).1
          rw [List.length_map] at z
          exact z
        obtain ⟨z, rfl, hz⟩ : ∃ z, v = .int z ∧ ns.getD i 0 = z := by
          rw [List.getElem?_map] at hv
          cases g : ns[i]? with
          | none => rw [g] at hv; cases hv
          | some z => rw [g] at hv; exact ⟨z, (Option.some.inj hv).symm, getD_some g⟩
        obtain ⟨k1, k2⟩ := wst_ok (first := first) hn o1 o2 i (by omega)
        have bnd : (10 ^ 58 + (i : Int) * 10 ^ 56) < 10 ^ 60 := by omega
        have hu := nb_small (uOf_getD hn i)
        rw [hz] at hu
        have hwl := wst_len ns first T i
        have t4 : TbV K (upd H' t (.tup [.int (i : Nat), .int z])) r0 (wst ns first T i).2.1 := h4.lk (.new ht)
        have t5 : TbV K (upd H' t (.tup [.int (i : Nat), .int z])) r1 (wst ns first T i).2.2 := h5.lk (.new ht)
        have u3 := look_new (o := .tup [.int (i : Nat), .int z]) ht h3
        have u3w := look_new (o := .tup [.int (i : Nat), .int z]) ht h3w
        have hst : Same H (upd H' t (.tup [.int (i : Nat), .int z])) := hs.trans (same_new ht)
        have utt : upd H' t (.tup [.int (i : Nat), .int z]) t = some (.tup [.int (i : Nat), .int z]) := upd_same
        generalize upd H' t (.tup [.int (i : Nat), .int z]) = Ht at t4 t5 u3 u3w hst utt ⊢
        walk_at "rd"
        by_cases c : i < first
        · rw [show (if decide ((i : Int) ≥ (first : Int)) = true then (1 : Int) else 0) = 0 from by rw [decide_eq_false (by omega)]; rfl]
          walk_at "rd"
          rw [← uOf_eq]
          refine use_parG t4 k1 ?_
          walk_at "rd"
          refine use_bits (by have := par_leG k1 bnd; omega) (by omega) ?_
          walk_at "rd"
          refine rd_appG u3w (by rw [List.length_map]; omega) ?_
          have v3 := look_upd (o := .lst ((wst ns first T i).1.map (fun l => V.str (SX.S l)) ++ [.str (SX.S (encB (uOf z) (par (wst ns first T i).2.1.1 (wst ns first T i).2.1.2)))])) hpw u3
          have v4 := TbV.lk (LK.at (o := .lst ((wst ns first T i).1.map (fun l => V.str (SX.S l)) ++ [.str (SX.S (encB (uOf z) (par (wst ns first T i).2.1.1 (wst ns first T i).2.1.2)))])) u3w) t4
          have v5 := TbV.lk (LK.at (o := .lst ((wst ns first T i).1.map (fun l => V.str (SX.S l)) ++ [.str (SX.S (encB (uOf z) (par (wst ns first T i).2.1.1 (wst ns first T i).2.1.2)))])) u3w) t5
          walk_at "rd"
          rw [← uOf_eq]
          refine use_behind v4 k1 fun p2 hp2 => ?_
          walk_at "rd"
          have n2p : p2 ≠ p := (ne_of_none v3 hp2).symm
          rw [wst_lo c]
          refine ⟨p2, r1, _, _, _, rfl, upd_same, ?_, ?_, ?_, ?_⟩
          · rw [upd_ne hwp, upd_ne (ne_of_none upd_same hp2), upd_same, List.map_append, hz]
            rfl
          · exact TbV.lk (LK.at (look_new hp2 v3)) (by rw [hz]; exact TbV.of upd_same)
          · exact TbV.lk (LK.at (look_new hp2 v3)) (TbV.lk (LK.new hp2) v5)
          · intro b2 x e
            rw [upd_ne (ne_of_none e hpn)]
            refine look_new hp2 ?_
            rw [upd_ne (ne_of_none e hwn)]
            exact hst _ _ e

        · rw [show (if decide ((i : Int) ≥ (first : Int)) = true then (1 : Int) else 0) = 1 from by rw [decide_eq_true (by omega)]; rfl]
          walk_at "rd"
          rw [← uOf_eq]
          refine use_parG t5 k2 ?_
          walk_at "rd"
          refine use_bits (by have := par_leG k2 bnd; omega) (by omega) ?_
          walk_at "rd"
          refine rd_appG u3w (by rw [List.length_map]; omega) ?_
          have v3 := look_upd (o := .lst ((wst ns first T i).1.map (fun l => V.str (SX.S l)) ++ [.str (SX.S (encB (uOf z) (par (wst ns first T i).2.2.1 (wst ns first T i).2.2.2)))])) hpw u3
          have v4 := TbV.lk (LK.at (o := .lst ((wst ns first T i).1.map (fun l => V.str (SX.S l)) ++ [.str (SX.S (encB (uOf z) (par (wst ns first T i).2.2.1 (wst ns first T i).2.2.2)))])) u3w) t4
          have v5 := TbV.lk (LK.at (o := .lst ((wst ns first T i).1.map (fun l => V.str (SX.S l)) ++ [.str (SX.S (encB (uOf z) (par (wst ns first T i).2.2.1 (wst ns first T i).2.2.2)))])) u3w) t5
          walk_at "rd"
          rw [← uOf_eq]
          refine use_behind v5 k2 fun p2 hp2 => ?_
          walk_at "rd"
          have n2p : p2 ≠ p := (ne_of_none v3 hp2).symm
          rw [wst_hi c]
          refine ⟨r0, p2, _, _, _, rfl, upd_same, ?_, ?_, ?_, ?_⟩
          · rw [upd_ne hwp, upd_ne (ne_of_none upd_same hp2), upd_same, List.map_append, hz]
            rfl
          · exact TbV.lk (LK.at (look_new hp2 v3)) (TbV.lk (LK.new hp2) v4)
          · exact TbV.lk (LK.at (look_new hp2 v3)) (by rw [hz]; exact TbV.of upd_same)
          · intro b2 x e
            rw [upd_ne (ne_of_none e hpn)]
            refine look_new hp2 ?_
            rw [upd_ne (ne_of_none e hwn)]
            exact hst _ _ e

      · obtain ⟨r0, r1, x5, x6, x7, rfl, h3, h3w, h4, h5, hs⟩ := hI
        rw [List.length_map] at h3w h4 h5
        have hfl := wst_flat (first := first) hn o1 o2 ns.length hl
        have hfl2 : (wst ns first T ns.length).1.flatten.length ≤ 16777216 := by omega
        walk_at "rd"
        rename_i q1 hq1 p1 hp1
        refine q p1 q1 _ ((hs.trans (same_new hq1)).trans (same_new hp1)) ((hs.trans (same_new hq1)).free hp1) upd_same ⟨r0, r1, .of (look_new hp1 upd_same), (h4.lk (.new hq1)).lk (.new hp1), (h5.lk (.new hq1)).lk (.new hp1)⟩
    ) only [↓lt_eq]
theorem ok_mark {f : Addr} {fd : FuncData} {f_u : Addr} {fd_u : FuncData}    (D : Dn K mg "_law_mark" s_mark ["_law_some_here"] f fd) (bi : Bi mg) (G_u : FnOk P w K mg base CX0 1 f_u fd_u ["_law_number"] spCode) (D_u : Dn K mg "_law_u" s_u ["_law_number"] f_u fd_u)    : FnOk P w K mg base CX0 2 f fd ["_law_some_here"] spMark := by
  refine lt_out ?_
  simp (disch := with_unfolding_all
    refine D.F.ok sc_mark (fun vs H Q E h => ?_) (fun cdv A outer s H vs Q E hr h => ?_)
    · obtain ⟨a, ns, rfl, _⟩ := h
      rfl
    · obtain ⟨a, ns, rfl, hS, hl, q⟩ := h
      refine ⟨_, (pss_cons (ps_set (i := 1) sc_mark.nd rfl (Or.inl rfl) pe_int)
   (pss_cons (ps_for PassesOwn.never rfl (pi_list (pv 0)) (pg_name (i := 2) sc_mark.nd rfl (Or.inl rfl))
   (pss_one (ps_set (i := 1) sc_mark.nd rfl (Or.inl rfl) (pe_op op_mod (pe_callTy cInt (by rfl) bi.int_ (by decide +kernel) (pa_cons (pe_op op_add (pe_op op_mul (pv 1) pe_int) (pe_call G_u (hr.mono (by first | decide | exact Nat.le_refl _)) (by rfl) D_u.g D_u.F.kp D_u.b .nil pass0 (pa_cons (pv 2) pa_nil))) pa_nil)) pe_int))))
   (pss_one (ps_ret (pv 1))))), ?_⟩
      refine rd_start (σ := [some (.ref a), none, none]) rfl ?_
      walk_at "rd"
      refine' rd_lpL (xs := ns.map V.int) ?k1 ?_
      (case k1 => exact SqL.of (by walk_at "hg"))
      refine for_list (xs := ns.map V.int) (fun i σ H' => ∃ t, σ = [some (.ref a), some (.int (markF (ns.take i))), t] ∧ Same H H') ⟨none, rfl, by walk_at "sm"⟩ (fun i σ H1 _ hI => ?_) (fun i v σ H1 hv hI => ?_) (fun σ H1 hI => ?_)
      · obtain ⟨t, rfl, hs⟩ := hI
        exact hs.seq (SqL.of hS)
      · obtain ⟨t, rfl, hs⟩ := hI
        obtain ⟨z, rfl, hz⟩ : ∃ z, v = .int z ∧ ns[i]? = some z := by
          rw [List.getElem?_map] at hv
          cases g : ns[i]? with
          | none => rw [g] at hv; cases hv
          | some z => rw [g] at hv; exact ⟨z, (Option.some.inj hv).symm, rfl⟩
        have hb := markF_bound (ns.take i)
        walk_at "rd"
        refine ⟨some (.int z), ?_, hs⟩
        rw [show ns.take (i + 1) = ns.take i ++ [z] by rw [List.take_add_one, hz]; rfl, markF_snoc]
        rfl
      · obtain ⟨t, rfl, hs⟩ := hI
        walk_at "rd"
        rw [List.take_of_length_le (by rw [List.length_map]; exact Nat.le_refl _)]
        exact q _ hs
    ) only [↓lt_eq]
theorem ok_counts {f : Addr} {fd : FuncData}     (D : Dn K mg "_law_counts" s_counts ["_law_size", "_law_many"] f fd) (bi : Bi mg)     : FnOk P w K mg base CX0 1 f fd ["_law_size", "_law_many"] spCounts := by
  refine lt_out ?_
  simp (disch := with_unfolding_all
    refine D.F.ok sc_counts (fun vs H Q E h => ?_) (fun cdv A outer s H vs Q E hr h => ?_)
    · obtain ⟨n, k, rfl, _⟩ := h
      rfl
    · obtain ⟨n, k, rfl, hn, hk, q⟩ := h
      refine ⟨_, (pss_cons (ps_set (i := 2) sc_counts.nd rfl (Or.inl rfl) (pe_lst (pa_cons (pv 0) pa_nil)))
   (pss_cons (ps_for PassesOwn.never rfl (pi_range1 (by rfl) bi.range_ (pa_cons (pv 1) pa_nil)) (pg_name (i := 3) sc_counts.nd rfl (Or.inl rfl))
   (pss_one (ps_expr (pe_bm PySem.F.plainAttrs_list PySem.F.slot_list_append PySem.F.type_list_append mt_append (pv 2) (pa_cons (pe_op op_fdiv (pe_op op_add (pe_ix ix_list (pv 2) (pe_un un_neg pe_int) (fun _ _ => rfl)) pe_int) pe_int) pa_nil)))))
   (pss_one (ps_ret (pv 2))))), ?_⟩
      refine rd_start (σ := [some (.int (n : Nat)), some (.int (k : Nat)), none, none]) rfl ?_
      walk_at "rd"
      rename_i D hD
      refine for_range (lo := 0) (n := ((k : Nat) : Int).toNat) (fun i σ H' => ∃ t, σ = [some (.int (n : Nat)), some (.int (k : Nat)), some (.ref D), t] ∧ H' D = some (.lst ((List.range (i + 1)).map fun i => V.int (cc n i : Nat))) ∧ Same H H') ⟨none, rfl, upd_same, same_new hD⟩ (fun i σ H' hi hI => ?_) (fun σ H' hI => ?_)
      · obtain ⟨t, rfl, e, hs⟩ := hI
        rw [Int.toNat_natCast] at hi
        walk_at "rd"
        refine rd_ixL (SqL.of e) (at_last (k := i) (by simp) (last_range _ i)) ?_
        walk_at "rd"
        refine rd_appG e (by simp; omega) ?_
        walk_at "rd"
        refine ⟨_, rfl, ?_, fun b o z => by rw [upd_ne (ne_of_none z hD)]; exact hs _ _ z⟩
        rw [upd_same, List.range_succ (n := i + 1), List.map_append]
        rw [show ((cc n i : Nat) : Int) + 1 = ((cc n i + 1 : Nat) : Int) by omega, show ((cc n i + 1 : Nat) : Int) / 2 = ((cc n (i + 1) : Nat) : Int) by show _ = (((cc n i + 1) / 2 : Nat) : Int); omega]
        rfl
      · obtain ⟨t, rfl, e, hs⟩ := hI
        walk_at "rd"
        exact q D _ hD hs e
    ) only [↓lt_eq]
theorem ok_tables {f : Addr} {fd : FuncData} {f_take : Addr} {fd_take : FuncData}    (D : Dn K mg "_law_tables" s_tables ["_law_pool_here"] f fd) (bi : Bi mg) (G_take : FnOk P w K mg base CX0 1 f_take fd_take ["_law_pool_here", "_law_many"] spTake) (D_take : Dn K mg "_law_take" s_take ["_law_pool_here", "_law_many"] f_take fd_take)    : FnOk P w K mg base CX0 2 f fd ["_law_pool_here"] spTabsX := by
  refine lt_out ?_
  simp (disch := with_unfolding_all
    refine D.F.ok sc_tables (fun vs H Q E h => ?_) (fun cdv A outer s H vs Q E hr h => ?_)
    · obtain ⟨p, rfl, _⟩ := h
      rfl
    · obtain ⟨p, rfl, hP, q⟩ := h
      refine ⟨_, (pss_cons (ps_set (i := 1) sc_tables.nd rfl (Or.inl rfl) (pe_tup (pa_cons (pe_call G_take (hr.mono (by first | decide | exact Nat.le_refl _)) (by rfl) D_take.g D_take.F.kp D_take.b .nil pass0 (pa_cons (pv 0) (pa_cons pe_int pa_nil))) (pa_cons (pe_op op_add pe_int (pe_call G_take (hr.mono (by first | decide | exact Nat.le_refl _)) (by rfl) D_take.g D_take.F.kp D_take.b .nil pass0 (pa_cons (pv 0) (pa_cons pe_int pa_nil)))) pa_nil))))
   (pss_one (ps_ret (pe_tup (pa_cons (pv 1) (pa_cons (pe_tup (pa_cons (pe_call G_take (hr.mono (by first | decide | exact Nat.le_refl _)) (by rfl) D_take.g D_take.F.kp D_take.b .nil pass0 (pa_cons (pv 0) (pa_cons pe_int pa_nil))) (pa_cons (pe_op op_add pe_int (pe_call G_take (hr.mono (by first | decide | exact Nat.le_refl _)) (by rfl) D_take.g D_take.F.kp D_take.b .nil pass0 (pa_cons (pv 0) (pa_cons pe_int pa_nil)))) pa_nil))) pa_nil)))))), ?_⟩
      refine rd_start (σ := [some (.ref p), none]) rfl ?_
      walk_at "rd"
      rename_i r1 H1 h10 h11 hP1 hK1 r2 H2 h20 h21 hP2 hK2 q3 hq3 r4 H4 h40 h41 hP4 hK4 r5 H5 h50 h51 hP5 hK5 q6 hq6 q7 hq7
      exact q q7 ((r1, 1 + r2), (r4, 1 + r5)) _ ⟨q3, q6, upd_same, by walk_at "hg", by walk_at "hg"⟩ ⟨h10, by dsimp only; omega, by dsimp only; omega, by dsimp only; omega⟩ ⟨h40, by dsimp only; omega, by dsimp only; omega, by dsimp only; omega⟩ (by walk_at "pl") (by walk_at "kp")
    ) only [↓lt_eq]
theorem ok_some {f : Addr} {fd : FuncData} {f_take : Addr} {fd_take : FuncData}    (D : Dn K mg "_law_some" s_some ["_law_pool_here", "_law_size"] f fd) (bi : Bi mg) (G_take : FnOk P w K mg base CX0 1 f_take fd_take ["_law_pool_here", "_law_many"] spTake) (D_take : Dn K mg "_law_take" s_take ["_law_pool_here", "_law_many"] f_take fd_take)    : FnOk P w K mg base CX0 2 f fd ["_law_pool_here", "_law_size"] spSomeX := by
  refine lt_out ?_
  simp (disch := with_unfolding_all
    refine D.F.ok sc_some (fun vs H Q E h => ?_) (fun cdv A outer s H vs Q E hr h => ?_)
    · obtain ⟨p, n, rfl, _⟩ := h
      rfl
    · obtain ⟨p, n, rfl, hP, hn, q⟩ := h
      refine ⟨_, (pss_cons (ps_set (i := 2) sc_some.nd rfl (Or.inr rfl) (pe_ix ix_list (pe_lst (pa_cons pe_int (pa_cons pe_int (pa_cons pe_int pa_nil)))) (pe_call G_take (hr.mono (by first | decide | exact Nat.le_refl _)) (by rfl) D_take.g D_take.F.kp D_take.b .nil pass0 (pa_cons (pv 0) (pa_cons pe_int pa_nil))) (fun _ _ => rfl)))
   (pss_one (ps_ret (pe_lc (own := [("_law_at", 3)]) (g := gName 3) (tt := tYes) rfl sc_some.nd (pi_range1 (by rfl) bi.range_ (pa_cons (pv 1) pa_nil)) (blkOk_by (N := ["_law_pool_here", "_law_size", "_law_top", "_law_at"]) (sc := defScope s_some) (by decide +kernel)) (fun _ _ _ _ _ => pg_name (i := 3) sc_some.nd rfl (Or.inl rfl)) (fun _ _ _ _ _ => pts_nil) (fun _ _ _ _ _ => (pe_op op_sub (pe_call G_take (hr.mono (by first | decide | exact Nat.le_refl _)) (by rfl) D_take.g D_take.F.kp D_take.b .nil pass0 (pa_cons (pv 0) (pa_cons (pe_op op_add (pe_op op_mul pe_int (pv 2)) pe_int) pa_nil))) (pv 2))))))), ?_⟩
      refine rd_start (σ := [some (.ref p), some (.int (n : Nat)), none, none]) rfl ?_
      walk_at "rd"
      rename_i q1 hq1 r2 H2 h20 h21 hP2 hK2
      refine' rd_ixP (fun v => ∃ j : Int, v = .int j ∧ 0 ≤ j ∧ j ≤ 30000) ?e ?h0 ?h1 ?hP fun v hv => ?_
      (case e => exact SqL.of (by walk_at "hg"))
      (case h0 => assumption)
      (case h1 => assumption)
      (case hP => walk_at "allm")
      obtain ⟨t, rfl, ht0, ht1⟩ := hv
      have hk2 : Kp p H H2 := by walk_at "kp"
      clear hK2
      walk_at "rd"
      rename_i S hS0
      have hSp : S ≠ p := hP2.ne hS0
      have hSn : H S = none := by
        cases z : H S with
        | none => rfl
        | some u => exact absurd (hk2 _ _ hSp z) (by rw [hS0]; exact fun y => nomatch y)
      refine lc_range (Pv := fun j H => ∃ vs : List Int, vs.length = j ∧ H S = some (.lst (vs.map V.int)) ∧ (∀ z ∈ vs, z.natAbs ≤ 30000) ∧ Pool H p ∧ Kp p H2 H) ⟨[], rfl, upd_same, List.forall_mem_nil _, hP2.new hS0, Kp.new hS0⟩ (fun j H' hj hI => ?_) (fun H' hI => ?_)
      · obtain ⟨vs, e1, e2, e3, hPj, hKj⟩ := hI
        refine ⟨rfl, rd_yes ?_⟩
        walk_at "rd"
        rename_i r7 H7 h70 h71 hP7 hK7
        have hSe := hK7 _ _ hSp e2
        refine ⟨_, hSe, small1000 (by rw [List.length_map]; omega), vs ++ [r7 - t], by rw [List.length_append, e1]; rfl, by rw [upd_same, List.map_append]; rfl, fun z hz => ?_, hP7.setL hSp, kp_app hS0 hKj hK7⟩
        rcases List.mem_append.mp hz with hz | hz
        · exact e3 z hz
        · rw [List.mem_singleton.mp hz]; omega
      · obtain ⟨vs, e1, e2, e3, hPj, hKj⟩ := hI
        exact q S vs _ hSn e2 (by omega) e3 hPj (hk2.trans hKj)
    ) only [↓lt_eq]
theorem ok_frame {f : Addr} {fd : FuncData} {f_counts : Addr} {fd_counts : FuncData} {f_written : Addr} {fd_written : FuncData} {f_mark : Addr} {fd_mark : FuncData}    (D : Dn K mg "_law_frame" s_frame ["_law_head", "_law_some_here", "_law_start"] f fd) (bi : Bi mg) (G_counts : FnOk P w K mg base CX0 1 f_counts fd_counts ["_law_size", "_law_many"] spCounts) (D_counts : Dn K mg "_law_counts" s_counts ["_law_size", "_law_many"] f_counts fd_counts) (G_written : FnOk P w K mg base CX0 3 f_written fd_written ["_law_some_here", "_law_first", "_law_start"] (spWr K)) (D_written : Dn K mg "_law_written" s_written ["_law_some_here", "_law_first", "_law_start"] f_written fd_written) (G_mark : FnOk P w K mg base CX0 2 f_mark fd_mark ["_law_some_here"] spMark) (D_mark : Dn K mg "_law_mark" s_mark ["_law_some_here"] f_mark fd_mark)    : FnOk P w K mg base CX0 4 f fd ["_law_head", "_law_some_here", "_law_start"] (spFrameX K) := by
  refine lt_out ?_
  simp (disch := with_unfolding_all
    refine D.F.ok sc_frame (fun vs H Q E h => ?_) (fun cdv A outer s H vs Q E hr h => ?_)
    · obtain ⟨h, j, a, b, d, ns, T, rfl, _⟩ := h
      rfl
    · obtain ⟨h, j, a, b, d, ns, T, rfl, hd, hok, hS, hl, hn, hT, o1, o2, q⟩ := h
      obtain ⟨ln, w, sh, lv, st⟩ := d
      obtain ⟨hd1, hd2⟩ := hd
      obtain ⟨k1, k2, k3, k4, k5, k6, k7, k8⟩ := hok
      dsimp only at k1 k2 k3 k4 k5 k6 k7 k8 hl hd1 hd2
      refine ⟨_, (pss_cons (ps_set (i := 3) sc_frame.nd rfl (Or.inl rfl) (pe_ix ix_list (pe_call G_counts (hr.mono (by first | decide | exact Nat.le_refl _)) (by rfl) D_counts.g D_counts.F.kp D_counts.b .nil pass0 (pa_cons (pe_ix ix_tup (pv 0) pe_int (fun _ _ => rfl)) (pa_cons (pe_ix ix_tup (pv 0) pe_int (fun _ _ => rfl)) pa_nil))) (pe_un un_neg pe_int) (fun _ _ => rfl)))
   (pss_cons (ps_asg (pe_call G_written (hr.mono (by first | decide | exact Nat.le_refl _)) (by rfl) D_written.g D_written.F.kp D_written.b .nil pass0 (pa_cons (pv 1) (pa_cons (pv 3) (pa_cons (pv 2) pa_nil)))) (pg_tup rfl (pgs_cons (pg_name (i := 4) sc_frame.nd rfl (Or.inl rfl)) (pgs_cons (pg_name (i := 5) sc_frame.nd rfl (Or.inl rfl)) pgs_nil))))
   (pss_one (ps_ret (pe_tup (pa_cons (pe_tup (pa_cons pe_str (pa_cons (pe_ix ix_tup (pv 0) pe_int (fun _ _ => rfl)) (pa_cons (pe_ix ix_tup (pv 0) pe_int (fun _ _ => rfl)) (pa_cons (pe_ix ix_tup (pv 0) pe_int (fun _ _ => rfl)) (pa_cons (pe_ix ix_tup (pv 0) pe_int (fun _ _ => rfl)) (pa_cons (pe_call G_mark (hr.mono (by first | decide | exact Nat.le_refl _)) (by rfl) D_mark.g D_mark.F.kp D_mark.b .nil pass0 (pa_cons (pv 1) pa_nil)) (pa_cons (pv 4) pa_nil)))))))) (pa_cons (pv 5) pa_nil))))))), ?_⟩
      refine rd_start (σ := [some (.ref h), some (.ref a), some (.ref b), none, none, none]) rfl ?_
      walk_at "rd"
      refine use_counts (by omega) (by omega) fun D H1 hD hs1 e1 => ?_
      walk_at "rd"
      refine rd_ixL (SqL.of e1) (at_last (k := lv) (by simp) (last_range _ lv)) ?_
      have hcc := cc_n ln lv
      have hS1 := hs1 _ _ hS
      walk_at "rd"
      refine use_wr hS1 (by omega) (by omega) (fun z hz => Nat.lt_of_le_of_lt (hn z hz) (by decide)) (hT.lk (.of hs1)) (o1.up (by decide)) (o2.up (by decide)) fun p2 q2 H2 hs2 hn2 e2 hT2 => ?_
      have hd1' := hs2 _ _ (hs1 _ _ hd1)
      have hS2 := hs2 _ _ hS1
      walk_at "rd"
      rename_i H3 hs3 r3 hr3 p4 hp4
      refine q p4 r3 q2 _ (((hs1.trans hs2).trans hs3).trans ((same_new hr3).trans (same_new hp4))) (((hs1.trans hs2).trans hs3).free ((same_new hr3).free hp4)) upd_same (look_new hp4 ?_) (hT2.lk ((LK.of hs3).trans ((LK.new hr3).trans (.new hp4))))
      exact upd_same
    ) only [↓lt_eq]
theorem ok_values {f : Addr} {fd : FuncData} {f_counts : Addr} {fd_counts : FuncData}    (D : Dn K mg "_law_values" s_values ["_law_some_here", "_law_many"] f fd) (bi : Bi mg) (G_counts : FnOk P w K mg base CX0 1 f_counts fd_counts ["_law_size", "_law_many"] spCounts) (D_counts : Dn K mg "_law_counts" s_counts ["_law_size", "_law_many"] f_counts fd_counts)    : FnOk P w K mg base CX0 2 f fd ["_law_some_here", "_law_many"] spValues := by
  refine lt_out ?_
  simp (disch := with_unfolding_all
    refine D.F.ok sc_values (fun vs H Q E h => ?_) (fun cdv A outer s H vs Q E hr h => ?_)
    · obtain ⟨a, ns, k, rfl, _⟩ := h
      rfl
    · obtain ⟨a, ns, k, rfl, hS, h1, h2, h3, q⟩ := h
      refine ⟨_, (pss_cons (ps_set (i := 2) sc_values.nd rfl (Or.inl rfl) (pe_call G_counts (hr.mono (by first | decide | exact Nat.le_refl _)) (by rfl) D_counts.g D_counts.F.kp D_counts.b .nil pass0 (pa_cons (pe_callB cLen (by rfl) bi.len_ (by decide +kernel) (pa_cons (pv 0) pa_nil)) (pa_cons (pv 1) pa_nil))))
   (pss_cons (ps_set (i := 3) sc_values.nd rfl (Or.inl rfl) (pe_slice sl_list (pv 0) po_none (po_some (pe_ix ix_list (pv 2) (pe_un un_neg pe_int) (fun _ _ => rfl)))))
   (pss_cons (ps_for PassesOwn.never rfl (pi_range1 (by rfl) bi.range_ (pa_cons (pv 1) pa_nil)) (pg_name (i := 4) sc_values.nd rfl (Or.inl rfl))
   (pss_cons (ps_par (i := 5) (j := 6) rfl sc_values.nd rfl rfl (by decide) rfl rfl (pa_cons (pe_ix ix_list (pv 2) (pe_op op_sub (pe_op op_sub (pv 1) pe_int) (pv 4)) (fun _ _ => rfl)) (pa_cons (pe_ix ix_list (pv 2) (pe_op op_sub (pv 1) (pv 4)) (fun _ _ => rfl)) pa_nil)) rfl)
   (pss_cons (ps_set (i := 7) sc_values.nd rfl (Or.inl rfl) (pe_lst pa_nil))
   (pss_cons (ps_for PassesOwn.never rfl (pi_range1 (by rfl) bi.range_ (pa_cons (pe_op op_sub (pv 5) (pv 6)) pa_nil)) (pg_name (i := 8) sc_values.nd rfl (Or.inl rfl))
   (pss_cons (ps_set (i := 9) sc_values.nd rfl (Or.inl rfl) (pe_op op_add (pe_ix ix_list (pv 3) (pv 8) (fun _ _ => rfl)) (pe_op op_fdiv (pe_op op_add (pe_ix ix_list (pv 0) (pe_op op_add (pv 6) (pv 8)) (fun _ _ => rfl)) pe_int) pe_int)))
   (pss_one (ps_expr (pe_bm PySem.F.plainAttrs_list PySem.F.slot_list_extend PySem.F.type_list_extend mt_extend (pv 7) (pa_cons (pe_lst (pa_cons (pv 9) (pa_cons (pe_op op_sub (pv 9) (pe_ix ix_list (pv 0) (pe_op op_add (pv 6) (pv 8)) (fun _ _ => rfl))) pa_nil))) pa_nil))))))
   (pss_one (ps_set (i := 3) sc_values.nd rfl (Or.inl rfl) (pe_op op_cat (pv 7) (pe_slice sl_list (pv 3) (po_some (pe_op op_sub (pv 5) (pv 6))) po_none))))))))
   (pss_one (ps_ret (pv 3)))))), ?_⟩
      refine rd_start (σ := [some (.ref a), some (.int (k : Nat)), none, none, none, none, none, none, none, none]) rfl ?_
      have hml : (ns.map V.int).length = ns.length := List.length_map ..
      walk_at "rd"
      rw [hml]
      refine use_counts (by omega) h3 fun C H1 hC hs1 e1 => ?_
      have hS1 := hs1 _ _ hS
      walk_at "rd"
      refine rd_ixL (SqL.of e1) (at_last (k := k) (by simp) (last_range _ k)) ?_
      walk_at "rd"
      refine rd_slT (ns := ns) (SqL.of hS1) fun F0 hF0 => ?_
      walk_at "rd"
      refine for_range (lo := 0) (n := ((k : Nat) : Int).toNat) (fun i σ H' => ∃ F x4 x5 x6 x7 x8 x9, σ = [some (.ref a), some (.int (k : Nat)), some (.ref C), some (.ref F), x4, x5, x6, x7, x8, x9] ∧ H' F = some (.lst ((wv ns k i).map V.int)) ∧ H1 F = none ∧ Same H1 H') ⟨F0, none, none, none, none, none, none, rfl, upd_same, hF0, same_new hF0⟩ (fun i σ H2 hi hI => ?_) (fun σ H2 hI => ?_)
      · obtain ⟨F, x4, x5, x6, x7, x8, x9, rfl, eF, nF, hs⟩ := hI
        rw [Int.toNat_natCast] at hi
        have hwl := wv_length ns k i (by omega)
        obtain ⟨hst1, hst2⟩ := wv_step (by omega : i + 1 ≤ k) hwl
        have c1 := cc_n ns.length (k - i)
        have c2 := cc_n ns.length (k - (i + 1))
        have eC := hs _ _ e1
        have eS := hs _ _ hS1
        walk_at "rd"
        refine rd_ixL (SqL.of eC) (at_range (j := k - (i + 1)) (by omega) (by omega)) ?_
        walk_at "rd"
        refine rd_ixL (SqL.of eC) (at_range (j := k - i) (by omega) (by omega)) ?_
        walk_at "rd"
        rename_i R hR
        have hRF : R ≠ F := (ne_of_none eF hR).symm
        have hSw : wv ns k (i + 1) = jn (wv ns k i) ((ns.drop (cc ns.length (k - i))).take (cc ns.length (k - (i + 1)) - cc ns.length (k - i))) := rfl
        generalize hDD : (ns.drop (cc ns.length (k - i))).take (cc ns.length (k - (i + 1)) - cc ns.length (k - i)) = D at hst1 hSw
        generalize hWW : wv ns k i = W at hwl eF hSw
        have hDW : D.length ≤ W.length := by omega
        have hDg : ∀ t, t < D.length → D[t]? = some (ns.getD (cc ns.length (k - i) + t) 0) := fun t ht => by
          rw [← hDD, List.getElem?_take, if_pos (by omega), List.getElem?_drop, List.getElem?_eq_getElem (by omega), getD_some (List.getElem?_eq_getElem (by omega))]
        have hjl := jp_length W D hDW
        refine for_range (lo := 0) (n := ((cc ns.length (k - (i + 1)) : Nat) - (cc ns.length (k - i) : Nat) : Int).toNat) (fun t σ H' => ∃ y8 y9, σ = [some (.ref a), some (.int (k : Nat)), some (.ref C), some (.ref F), some (.int (0 + (i : Int))), some (.int (cc ns.length (k - (i + 1)) : Nat)), some (.int (cc ns.length (k - i) : Nat)), some (.ref R), y8, y9] ∧ H' R = some (.lst (((jp W D).take (2 * t)).map V.int)) ∧ (∀ b o, b ≠ R → H2 b = some o → H' b = some o)) ⟨_, _, rfl, upd_same, fun b o nb e => look_new hR e⟩ (fun t σ H3 ht hI => ?_) (fun σ H3 hI => ?_)
        · obtain ⟨y8, y9, rfl, eR, hk3⟩ := hI
          have ht' : t < D.length := by omega
          have eF3 := hk3 _ _ hRF.symm eF
          have eS3 := hk3 _ _ (fun z => by rw [← z, eS] at hR; cases hR) eS
          have hst := jp_step W D t _ _ (List.getElem?_eq_getElem (by omega : t < W.length)) (hDg t ht')
          walk_at "rd"
          refine rd_ixL (SqL.of eF3) (at_int (j := t) (by omega) (by omega)) ?_
          walk_at "rd"
          refine rd_ixL (SqL.of eS3) (at_int (j := cc ns.length (k - i) + t) (by omega) (by omega)) ?_
          walk_at "rd"
          refine rd_ixL (SqL.of eS3) (at_int (j := cc ns.length (k - i) + t) (by omega) (by omega)) ?_
          walk_at "rd"
          rename_i E hE
          refine rd_extG (look_new hE eR) upd_same (by rw [List.length_map, List.length_take]; simp only [List.length_cons, List.length_nil]; omega) ?_
          walk_at "rd"
          refine ⟨_, _, rfl, ?_, fun b o nb e => by rw [upd_ne nb]; exact look_new hE (hk3 b o nb e)⟩
          rw [upd_same, hst, List.map_append, getD_some (List.getElem?_eq_getElem (by omega : t < W.length))]
          generalize W[t] = s0
          generalize ns.getD (cc ns.length (k - i) + t) 0 = d0
          rw [show s0 - d0 / 2 + d0 = s0 + (d0 + 1) / 2 by omega, show s0 - d0 / 2 = s0 + (d0 + 1) / 2 - d0 by omega]
          rfl
        · obtain ⟨y8, y9, rfl, eR, hk3⟩ := hI
          have eF3 := hk3 _ _ hRF.symm eF
          have hDl : ((cc ns.length (k - (i + 1)) : Nat) - (cc ns.length (k - i) : Nat) : Int).toNat = D.length := by omega
          rw [hDl, List.take_of_length_le (by omega)] at eR
          walk_at "rd"
          rw [show ((cc ns.length (k - (i + 1)) : Nat) : Int) - ((cc ns.length (k - i) : Nat) : Int) = ((D.length : Nat) : Int) by omega]
          refine rd_slF (ns := W) (k := D.length) (SqL.of eF3) hDW fun p6 hp6 => ?_
          have hl6 : (W.drop D.length).length ≤ 64 := by rw [List.length_drop]; omega
          walk_at "rd"
          rename_i p7 hp7
          rw [hSw, jn_jp W D hDW]
          have hsk : Same H1 H3 := fun b o e => hk3 b o (fun z => by have y := hs b o e; rw [z, hR] at y; cases y) (hs b o e)
          exact ⟨p7, _, _, _, _, _, _, rfl, upd_same, hsk.free ((same_new hp6).free hp7), hsk.trans ((same_new hp6).trans (same_new hp7))⟩
      · obtain ⟨F, x4, x5, x6, x7, x8, x9, rfl, eF, nF, hs⟩ := hI
        rw [Int.toNat_natCast] at eF
        walk_at "rd"
        exact q F _ (hs1.free nF) (hs1.trans hs) eF
    ) only [↓lt_eq]
theorem ok_heads {f : Addr} {fd : FuncData} {f_take : Addr} {fd_take : FuncData}    (D : Dn K mg "_law_heads" s_heads ["_law_pool_here", "_law_many"] f fd) (bi : Bi mg) (G_take : FnOk P w K mg base CX0 1 f_take fd_take ["_law_pool_here", "_law_many"] spTake) (D_take : Dn K mg "_law_take" s_take ["_law_pool_here", "_law_many"] f_take fd_take)    : FnOk P w K mg base CX0 2 f fd ["_law_pool_here", "_law_many"] spHeads := by
  refine lt_out ?_
  simp (disch := with_unfolding_all
    refine D.F.ok sc_heads (fun vs H Q E h => ?_) (fun cdv A outer s H vs Q E hr h => ?_)
    · obtain ⟨p, m, rfl, _⟩ := h
      rfl
    · obtain ⟨p, m, rfl, hP, hm, q⟩ := h
      refine ⟨_, (pss_cons (ps_setLc (i := 2) (own := [("_law_turn", 3)]) (g := gName 3) (tt := tYes) rfl sc_heads.nd rfl rfl (sw_true rfl rfl rfl (by decide +kernel)) (pi_range1 (by rfl) bi.range_ (pa_cons (pv 1) pa_nil)) (blkOk_by (N := ["_law_pool_here", "_law_many", "_law_sizes", "_law_turn", "_law_long", "_law_found", "_law_left", "_law_at", "_law_size", "_law_most", "_law_width", "_law_joint"]) (sc := defScope s_heads) (by decide +kernel)) (fun _ _ _ _ _ => pg_name (i := 3) sc_heads.nd rfl (Or.inl rfl)) (fun _ _ _ _ _ => pts_nil) (fun _ _ _ _ _ => (pe_ix (show IxR _ (rIxL K) from ix_list) (pe_lst (pa_cons pe_int (pa_cons pe_int (pa_cons pe_int (pa_cons (pe_op op_add pe_int (pe_call G_take (hr.mono (by first | decide | exact Nat.le_refl _)) (by rfl) D_take.g D_take.F.kp D_take.b .nil pass0 (pa_cons (pv 0) (pa_cons pe_int pa_nil)))) (pa_cons pe_int pa_nil)))))) (pe_call G_take (hr.mono (by first | decide | exact Nat.le_refl _)) (by rfl) D_take.g D_take.F.kp D_take.b .nil pass0 (pa_cons (pv 0) (pa_cons pe_int pa_nil))) (fun _ _ => rfl))))
   (pss_cons (ps_set (i := 4) sc_heads.nd rfl (Or.inl rfl) (pe_call G_take (hr.mono (by first | decide | exact Nat.le_refl _)) (by rfl) D_take.g D_take.F.kp D_take.b .nil pass0 (pa_cons (pv 0) (pa_cons (pe_op op_add (pe_op op_mul pe_int (pv 1)) pe_int) pa_nil))))
   (C8.pss_cut (ps_if (pt_cmpR op_lt (pv 4) (pv 1) (nomark _))
   (pss_one (ps_asg (pe_op op_add pe_int (pe_call G_take (hr.mono (by first | decide | exact Nat.le_refl _)) (by rfl) D_take.g D_take.F.kp D_take.b .nil pass0 (pa_cons (pv 0) (pa_cons pe_int pa_nil)))) (pg_sub (pv 2) (pv 4) set_list)))
   pss_nil)
   (pss_cons (ps_par (i := 5) (j := 6) rfl sc_heads.nd rfl rfl (by decide) rfl rfl (pa_cons (pe_lst pa_nil) (pa_cons pe_int pa_nil)) rfl)
   (pss_cons (ps_for PassesOwn.never rfl (pi_enum (by rfl) bi.enumerate_ (pa_cons (pv 2) pa_nil)) (pg_tup rfl (pgs_cons (pg_name (i := 7) sc_heads.nd rfl (Or.inl rfl)) (pgs_cons (pg_name (i := 8) sc_heads.nd rfl (Or.inl rfl)) pgs_nil)))
   (C8.pss_cut (ps_set (i := 9) sc_heads.nd rfl (Or.inl rfl) (pe_ifExp (pt_cmpR op_lt (pe_op op_add (pv 7) pe_int) (pv 1) (nomark _)) (pe_callB (call_min3Nu rfl) (by rfl) bi.min_ (by decide +kernel) (pa_cons pe_int (pa_cons (pe_op op_sub (pv 8) (pv 6)) (pa_cons (pe_ix ix_list (pv 2) (pe_op op_add (pv 7) pe_int) (fun _ _ => rfl)) pa_nil)))) pe_int))
   (pss_cons (ps_set (i := 10) sc_heads.nd rfl (Or.inl rfl) (pe_ix ix_list (pe_lst (pa_cons pe_int (pa_cons (pe_call G_take (hr.mono (by first | decide | exact Nat.le_refl _)) (by rfl) D_take.g D_take.F.kp D_take.b .nil pass0 (pa_cons (pv 0) (pa_cons (pe_op op_add (pv 9) pe_int) pa_nil))) (pa_cons (pv 9) pa_nil)))) (pe_call G_take (hr.mono (by first | decide | exact Nat.le_refl _)) (by rfl) D_take.g D_take.F.kp D_take.b .nil pass0 (pa_cons (pv 0) (pa_cons pe_int pa_nil))) (fun _ _ => rfl)))
   (pss_cons (ps_set (i := 11) sc_heads.nd rfl (Or.inl rfl) (pe_tup (pa_cons (pv 10) (pa_cons (pe_op op_mul (pe_call G_take (hr.mono (by first | decide | exact Nat.le_refl _)) (by rfl) D_take.g D_take.F.kp D_take.b .nil pass0 (pa_cons (pv 0) (pa_cons pe_int pa_nil))) (pe_callTy cInt (by rfl) bi.int_ (by decide +kernel) (pa_cons (pe_cmpR op_gt (pv 10) pe_int (nomark _)) pa_nil))) pa_nil))))
   (pss_cons (ps_expr (pe_bm PySem.F.plainAttrs_list PySem.F.slot_list_append PySem.F.type_list_append mt_append (pv 5) (pa_cons (pe_tup (pa_cons (pv 8) (pa_cons (pv 11) (pa_cons (pe_call G_take (hr.mono (by first | decide | exact Nat.le_refl _)) (by rfl) D_take.g D_take.F.kp D_take.b .nil pass0 (pa_cons (pv 0) (pa_cons pe_int pa_nil))) (pa_cons (pe_ix ix_list (pe_lst (pa_cons pe_int (pa_cons (pe_op op_add pe_int (pe_call G_take (hr.mono (by first | decide | exact Nat.le_refl _)) (by rfl) D_take.g D_take.F.kp D_take.b .nil pass0 (pa_cons (pv 0) (pa_cons pe_int pa_nil)))) pa_nil))) (pe_call G_take (hr.mono (by first | decide | exact Nat.le_refl _)) (by rfl) D_take.g D_take.F.kp D_take.b .nil pass0 (pa_cons (pv 0) (pa_cons pe_int pa_nil))) (fun _ _ => rfl)) pa_nil))))) pa_nil)))
   (pss_one (ps_set (i := 6) sc_heads.nd rfl (Or.inl rfl) (pv 10))))))))
   (pss_one (ps_ret (pv 5)))))))), ?_⟩
      refine rd_start (σ := [some (.ref p), some (.int (m : Nat)), none, none, none, none, none, none, none, none, none, none]) rfl ?_
      walk_at "rd"
      rename_i S hS0
      have hSp : S ≠ p := hP.ne hS0
      refine lc_range (Pv := fun j H' => ∃ zs : List Nat, zs.length = j ∧ H' S = some (.lst (zs.map nv)) ∧ (∀ z ∈ zs, 1 ≤ z ∧ z ≤ 64) ∧ Pool H' p ∧ Kp p H H') ⟨[], rfl, upd_same, List.forall_mem_nil _, hP.new hS0, Kp.new hS0⟩ (fun j H' hj hI => ?_) (fun H' hI => ?_)
      · obtain ⟨zs, e1, e2, e3, hPj, hKj⟩ := hI
        refine ⟨rfl, rd_yes ?_⟩
        walk_at "rd"
        rename_i r7 H7 h70 h71 hP7 hK7 q8 hq8 r9 H9 h90 h91 hP9 hK9
        refine' rd_ixP (fun v => ∃ n : Nat, v = .int (n : Int) ∧ 1 ≤ n ∧ n ≤ 64) ?e ?h0 ?h1 ?hP fun v hv => ?_
        (case e => exact SqL.of (by walk_at "hg"))
        (case h0 => assumption)
        (case h1 => assumption)
        (case hP =>
          obtain ⟨m4, rfl⟩ : ∃ m : Nat, r7 = (m : Int) := ⟨r7.toNat, by omega⟩
          exact List.forall_mem_cons.mpr ⟨⟨1, rfl, by decide, by decide⟩, List.forall_mem_cons.mpr ⟨⟨2, rfl, by decide, by decide⟩, List.forall_mem_cons.mpr ⟨⟨3, rfl, by decide, by decide⟩, List.forall_mem_cons.mpr ⟨⟨1 + m4, by rw [Int.natCast_add]; rfl, by omega, by omega⟩, List.forall_mem_cons.mpr ⟨⟨8, rfl, by decide, by decide⟩, List.forall_mem_nil _⟩⟩⟩⟩⟩)
        obtain ⟨n, rfl, n1, n2⟩ := hv
        have hk9 : Kp p H' H9 := by walk_at "kp"
        have hSe := hk9 _ _ hSp e2
        refine ⟨_, hSe, small1000 (by rw [List.length_map]; omega), zs ++ [n], by rw [List.length_append, e1]; rfl, by rw [upd_same, List.map_append]; rfl, fun z hz => ?_, hP9.setL hSp, kp_app hS0 hKj hk9⟩
        rcases List.mem_append.mp hz with hz | hz
        · exact e3 z hz
        · rw [List.mem_singleton.mp hz]; exact ⟨n1, n2⟩
      obtain ⟨zs0, e1, e2, e3, hPj, hKj⟩ := hI
      rw [Int.toNat_natCast] at e1
      walk_at "rd"
      rename_i lg Hl hl0 hl1 hPl hKl
      have e2l := hKl _ _ hSp e2
      refine rd_cut (fun σ G => ∃ zs : List Nat, σ = [some (.ref p), some (.int (m : Nat)), some (.ref S), none, some (.int lg), none, none, none, none, none, none, none] ∧ zs.length = m ∧ G S = some (.lst (zs.map nv)) ∧ (∀ z ∈ zs, 1 ≤ z ∧ z ≤ 64) ∧ Pool G p ∧ Kp p H G) ?_ fun σ1 G1 hM => ?_
      · walk_at "rd"
        refine rd_iteD (fun c => ?_) (fun c => ?_)
        · walk_at "rd"
          rename_i r7 H7 h70 h71 hP7 hK7
          have hS7 := hK7 _ _ hSp e2l
          have hix : ixN (zs0.map nv).length lg = some lg.toNat := ixN_int hl0 (by rw [List.length_map, e1]; exact c)
          walk_at "rd"
          refine ⟨zs0.set lg.toNat (33 + r7.toNat), rfl, by rw [List.length_set]; exact e1, ?_, fun z hz => ?_, hP7.setL hSp, kp_app hS0 (hKj.trans hKl) hK7⟩
          · rw [upd_same, List.map_set]
            show _ = some (HO.lst ((zs0.map nv).set lg.toNat (V.int ((33 + r7.toNat : Nat) : Int))))
            rw [show ((33 + r7.toNat : Nat) : Int) = 33 + r7 by omega]
          · rcases List.mem_or_eq_of_mem_set hz with hz | rfl
            · exact e3 z hz
            · omega
        · walk_at "rd"
          exact ⟨zs0, rfl, e1, e2l, e3, hPl, hKj.trans hKl⟩
      clear e1 e2 e3 hPj hKj hPl hKl e2l
      obtain ⟨zs, rfl, zl, eS, zb, hP1, hK1⟩ := hM
      walk_at "rd"
      rename_i D hD
      have hDp : D ≠ p := hP1.ne hD
      have hDS : D ≠ S := (ne_of_none eS hD).symm
      have hDn : H D = none := none_of hK1 hDp hD
      refine rd_lpE (xs := zs.map nv) (SqL.of (look_new hD eS)) ?_
      refine for_enum (xs := zs.map nv) (fun i σ H' => ∃ hs refs l x7 x8 x9 x10 x11, σ = [some (.ref p), some (.int (m : Nat)), some (.ref S), none, some (.int lg), some (.ref D), some (.int ((l : Nat) : Int)), x7, x8, x9, x10, x11] ∧ H' S = some (.lst (zs.map nv)) ∧ H' D = some (.lst refs) ∧ hs.length = i ∧ refs.length = i ∧ HdsAt H' refs hs ∧ Ch 0 hs l ∧ (i < m → l ≤ zs.getD i 0) ∧ (i = m → l = 0) ∧ Pool H' p ∧ Kp p H H') ⟨[], [], 0, none, none, none, none, none, rfl, look_new hD eS, upd_same, rfl, rfl, .nil, rfl, fun _ => Nat.zero_le _, fun _ => rfl, hP1.new hD, hK1.trans (Kp.new hD)⟩ (fun i σ H1 _ hI => ?_) (fun i v σ H1 T hv hI hT => ?_) (fun σ H1 hI => ?_)
      · obtain ⟨hs, refs, l, x7, x8, x9, x10, x11, rfl, eS1, _⟩ := hI
        exact SqL.of eS1
      · obtain ⟨hs, refs, l, x7, x8, x9, x10, x11, rfl, eS1, eD1, hl1, hl2, hat, hch, hle, _, hPi, hKi⟩ := hI
        have him : i < m := by
          have z := (List.getElem?_eq_some_iff.mp hv).1
          rw [List.length_map, zl] at z
          exact z
        obtain ⟨z, rfl, hz, hz1, hz2⟩ : ∃ z : Nat, v = .int (z : Int) ∧ zs.getD i 0 = z ∧ 1 ≤ z ∧ z ≤ 64 := by
          have hi2 : i < zs.length := by omega
          rw [List.getElem?_map, List.getElem?_eq_getElem hi2] at hv
          have q := zb _ (List.getElem_mem hi2)
          exact ⟨zs[i], (Option.some.inj hv).symm, by rw [List.getD_eq_getElem?_getD, List.getElem?_eq_getElem hi2]; rfl, q.1, q.2⟩
        have hlz : l ≤ z := by rw [← hz]; exact hle him
        have hn2 : H1 T = none := hT
        have eS2 := look_new (o := .tup [.int (i : Nat), .int (z : Int)]) hT eS1
        have eD2 := look_new (o := .tup [.int (i : Nat), .int (z : Int)]) hT eD1
        have hat2 := hat.lk (LK.new (o := .tup [.int (i : Nat), .int (z : Int)]) hT)
        have hP2 : Pool (upd H1 T (.tup [.int (i : Nat), .int (z : Int)])) p := hPi.new hT
        have hK2 : Kp p H (upd H1 T (.tup [.int (i : Nat), .int (z : Int)])) := hKi.trans (Kp.new hT)
        have utt : (upd H1 T (.tup [.int (i : Nat), .int (z : Int)])) T = some (.tup [.int (i : Nat), .int (z : Int)]) := upd_same
        clear eS1 eD1 hat hPi hKi hn2 hT
        generalize upd H1 T (.tup [.int (i : Nat), .int (z : Int)]) = H2 at eS2 eD2 hat2 hP2 hK2 utt ⊢
        walk_at "rd"
        refine rd_cut (fun σ G => ∃ mo : Nat, σ = [some (.ref p), some (.int (m : Nat)), some (.ref S), none, some (.int lg), some (.ref D), some (.int ((l : Nat) : Int)), some (.int (i : Nat)), some (.int (z : Int)), some (.int ((mo : Nat) : Int)), x10, x11] ∧ mo ≤ 8 ∧ l + mo ≤ z ∧ (i + 1 < m → mo ≤ zs.getD (i + 1) 0) ∧ (¬ i + 1 < m → mo = 0) ∧ G = H2) ?_ fun σ3 G3 hM => ?_
        · walk_at "rd"
          refine rd_iteD (fun c => ?_) (fun c => ?_)
          · have c : i + 1 < m := by omega
            walk_at "rd"
            refine rd_ixL (SqL.of eS2) (at_nat (j := i + 1) (by omega) (by omega)) ?_
            walk_at "rd"
            refine rd_min3 ?_
            rw [show ((z : Nat) : Int) - ((l : Nat) : Int) = ((z - l : Nat) : Int) by omega]
            obtain ⟨mo, e0, m1, m2, m3⟩ := min3_nat 8 (z - l) (zs.getD (i + 1) 0)
            refine ⟨mo, ?_, m1, by omega, fun _ => m3, fun z => absurd c z, rfl⟩
            rw [show (8 : Int) = ((8 : Nat) : Int) from rfl, e0]
            rfl
          · have c : ¬ i + 1 < m := by omega
            walk_at "rd"
            exact ⟨0, rfl, by decide, by omega, fun z => absurd z c, fun _ => rfl, rfl⟩
        obtain ⟨mo, rfl, m8, mz, mn, m0, rfl⟩ := hM
        walk_at "rd"
        rename_i r5 H5 h50 h51 hP5 hK5 q6 hq6 r7 H7 h70 h71 hP7 hK7
        obtain ⟨r5, rfl⟩ : ∃ k : Nat, r5 = (k : Int) := ⟨r5.toNat, by omega⟩
        refine' rd_ixP (fun v => ∃ k : Nat, v = .int (k : Int) ∧ k ≤ mo) ?e ?h0 ?h1 ?hP fun v hv => ?_
        (case e => exact SqL.of (by walk_at "hg"))
        (case h0 => assumption)
        (case h1 => assumption)
        (case hP => exact List.forall_mem_cons.mpr ⟨⟨0, rfl, Nat.zero_le _⟩, List.forall_mem_cons.mpr ⟨⟨r5, rfl, by omega⟩, List.forall_mem_cons.mpr ⟨⟨mo, rfl, Nat.le_refl _⟩, List.forall_mem_nil _⟩⟩⟩)
        obtain ⟨wd, rfl, hwd⟩ := hv
        have hk7 : Kp p G3 H7 := by walk_at "kp"
        clear hK5 hq6 hK7 hP5
        walk_at "rd"
        rename_i r8 H8 h80 h81 hP8 hK8 q9 hq9 r10 H10 h100 h101 hP10 hK10 r11 H11 h110 h111 hP11 hK11 q12 hq12 r13 H13 h130 h131 hP13 hK13
        obtain ⟨r8, rfl⟩ : ∃ k : Nat, r8 = (k : Int) := ⟨r8.toNat, by omega⟩
        obtain ⟨r10, rfl⟩ : ∃ k : Nat, r10 = (k : Int) := ⟨r10.toNat, by omega⟩
        obtain ⟨r11, rfl⟩ : ∃ k : Nat, r11 = (k : Int) := ⟨r11.toNat, by omega⟩
        refine' rd_ixP (fun v => ∃ k : Nat, v = .int (k : Int) ∧ 1 ≤ k ∧ k ≤ 64) ?e ?h0 ?h1 ?hP fun v hv => ?_
        (case e => exact SqL.of (by walk_at "hg"))
        (case h0 => assumption)
        (case h1 => assumption)
        (case hP => exact List.forall_mem_cons.mpr ⟨⟨1, rfl, by decide, by decide⟩, List.forall_mem_cons.mpr ⟨⟨1 + r11, by rw [Int.natCast_add]; rfl, by omega, by omega⟩, List.forall_mem_nil _⟩⟩)
        obtain ⟨stp, rfl, hst1, hst2⟩ := hv
        have es : (r8 : Int) * (if decide (0 < (wd : Int)) = true then 1 else 0) = (((if 0 < wd then r8 else 0) : Nat) : Int) := by by_cases c : 0 < wd <;> simp [c]
        have e9 : H13 q9 = some (.tup [.int (wd : Int), .int ((r8 : Int) * (if decide (0 < (wd : Int)) = true then 1 else 0))]) := by walk_at "hg"
        rw [es] at e9
        have hk13 : Kp p G3 H13 := hk7.trans (by walk_at "kp")
        have eS13 := hk13 _ _ hSp eS2
        have eD13 := hk13 _ _ hDp eD2
        have hat13 := hat2.lk (LK.pool hP2 hk13)
        clear hK8 hK10 hK11 hK13 hq9 hq12 hP8 hP10 hP11
        walk_at "rd"
        rename_i q14 hq14
        have eD14 := look_new (o := .tup [.int (z : Int), .ref q9, .int (r10 : Int), .int (stp : Int)]) hq14 eD13
        refine rd_appG eD14 (by omega) ?_
        walk_at "rd"
        have lk : LK H13 (upd (upd H13 q14 (.tup [.int (z : Int), .ref q9, .int (r10 : Int), .int (stp : Int)])) D (.lst (refs ++ [.ref q14]))) := (LK.new hq14).trans (LK.at eD14)
        have hnew : HdAt (upd (upd H13 q14 (.tup [.int (z : Int), .ref q9, .int (r10 : Int), .int (stp : Int)])) D (.lst (refs ++ [.ref q14]))) q14 q9 (z, wd, (if 0 < wd then r8 else 0), r10, stp) := ⟨LK.at eD14 _ _ upd_same (fun _ z => nomatch z), lk _ _ e9 (fun _ z => nomatch z)⟩
        have hok : HdOk (z, wd, (if 0 < wd then r8 else 0), r10, stp) := ⟨by dsimp only; omega, by dsimp only; omega, by dsimp only; omega, by dsimp only; split <;> omega, by dsimp only; intro y; rw [y]; rfl, by dsimp only; omega, hst1, hst2⟩
        refine ⟨hs ++ [(z, wd, (if 0 < wd then r8 else 0), r10, stp)], refs ++ [.ref q14], wd, _, _, _, _, _, rfl, ?_, upd_same, by rw [List.length_append, hl1]; rfl, by rw [List.length_append, hl2]; rfl, (hat13.lk lk).app ⟨q14, q9, rfl, hnew⟩, hch.snoc hok (by dsimp only; omega), fun c => Nat.le_trans hwd (mn c), fun c => by have := m0 (by omega); omega, ?_, ?_⟩
        · rw [upd_ne hDS.symm]
          exact look_new hq14 eS13
        · exact (hP13.new hq14).setL hDp
        · exact fun b o nb e => by rw [upd_ne (ne_of_none e hDn)]; exact look_new hq14 (hk13 _ _ nb (hK2 _ _ nb e))
      · obtain ⟨hs, refs, l, x7, x8, x9, x10, x11, rfl, eS1, eD1, hl1, hl2, hat, hch, _, hl0, hPi, hKi⟩ := hI
        rw [List.length_map, zl] at hl1 hl0
        rw [hl0 rfl] at hch
        walk_at "rd"
        exact q D refs hs _ hDn eD1 hat hch hl1 hPi hKi
    ) only [↓lt_eq]
theorem ok_stream {f : Addr} {fd : FuncData} {f_take : Addr} {fd_take : FuncData} {f_heads : Addr} {fd_heads : FuncData} {f_tables : Addr} {fd_tables : FuncData} {f_some : Addr} {fd_some : FuncData} {f_frame : Addr} {fd_frame : FuncData} {f_values : Addr} {fd_values : FuncData}    (D : Dn K mg "_law_stream" s_stream ["_law_pool_here", "_law_many"] f fd) (bi : Bi mg) (G_take : FnOk P w K mg base CX0 1 f_take fd_take ["_law_pool_here", "_law_many"] spTake) (D_take : Dn K mg "_law_take" s_take ["_law_pool_here", "_law_many"] f_take fd_take) (G_heads : FnOk P w K mg base CX0 2 f_heads fd_heads ["_law_pool_here", "_law_many"] spHeads) (D_heads : Dn K mg "_law_heads" s_heads ["_law_pool_here", "_law_many"] f_heads fd_heads) (G_tables : FnOk P w K mg base CX0 2 f_tables fd_tables ["_law_pool_here"] spTabsX) (D_tables : Dn K mg "_law_tables" s_tables ["_law_pool_here"] f_tables fd_tables) (G_some : FnOk P w K mg base CX0 2 f_some fd_some ["_law_pool_here", "_law_size"] spSomeX) (D_some : Dn K mg "_law_some" s_some ["_law_pool_here", "_law_size"] f_some fd_some) (G_frame : FnOk P w K mg base CX0 4 f_frame fd_frame ["_law_head", "_law_some_here", "_law_start"] (spFrameX K)) (D_frame : Dn K mg "_law_frame" s_frame ["_law_head", "_law_some_here", "_law_start"] f_frame fd_frame) (G_values : FnOk P w K mg base CX0 2 f_values fd_values ["_law_some_here", "_law_many"] spValues) (D_values : Dn K mg "_law_values" s_values ["_law_some_here", "_law_many"] f_values fd_values)    : FnOk P w K mg base CX0 5 f fd ["_law_pool_here", "_law_many"] (spStream K) := by
  refine lt_out ?_
  simp (disch := with_unfolding_all
    refine D.F.ok sc_stream (fun vs H Q E h => ?_) (fun cdv A outer s H vs Q E hr h => ?_)
    · obtain ⟨p, m, rfl, _⟩ := h
      rfl
    · obtain ⟨p, m, rfl, hP, hm, q⟩ := h
      refine ⟨_, (pss_cons (ps_asg (pe_tup (pa_cons (pe_lst pa_nil) (pa_cons (pe_lst pa_nil) (pa_cons (pe_lst pa_nil) (pa_cons (pe_tup (pa_cons (pe_tup (pa_cons pe_int (pa_cons pe_int pa_nil))) (pa_cons (pe_tup (pa_cons pe_int (pa_cons pe_int pa_nil))) pa_nil))) pa_nil))))) (pg_tup rfl (pgs_cons (pg_name (i := 2) sc_stream.nd rfl (Or.inl rfl)) (pgs_cons (pg_name (i := 3) sc_stream.nd rfl (Or.inl rfl)) (pgs_cons (pg_name (i := 4) sc_stream.nd rfl (Or.inl rfl)) (pgs_cons (pg_name (i := 5) sc_stream.nd rfl (Or.inl rfl)) pgs_nil))))))
   (pss_cons (ps_asg (pe_tup (pa_cons pe_int (pa_cons pe_int (pa_cons (pe_tup (pa_cons pe_int (pa_cons pe_int pa_nil))) pa_nil)))) (pg_tup rfl (pgs_cons (pg_name (i := 6) sc_stream.nd rfl (Or.inl rfl)) (pgs_cons (pg_name (i := 7) sc_stream.nd rfl (Or.inl rfl)) (pgs_cons (pg_name (i := 8) sc_stream.nd rfl (Or.inl rfl)) pgs_nil)))))
   (pss_cons (ps_for PassesOwn.never rfl (pi_list (pe_call G_heads (hr.mono (by first | decide | exact Nat.le_refl _)) (by rfl) D_heads.g D_heads.F.kp D_heads.b .nil pass0 (pa_cons (pv 0) (pa_cons (pv 1) pa_nil)))) (pg_name (i := 9) sc_stream.nd rfl (Or.inr rfl))
   (C8.pss_cut (ps_if (pt_cmpR op_eq (pe_call G_take (hr.mono (by first | decide | exact Nat.le_refl _)) (by rfl) D_take.g D_take.F.kp D_take.b .nil pass0 (pa_cons (pv 0) (pa_cons pe_int pa_nil))) pe_int (nomark _))
   (C8.pss_cut (ps_if (pt_cmpR op_eq (pe_call G_take (hr.mono (by first | decide | exact Nat.le_refl _)) (by rfl) D_take.g D_take.F.kp D_take.b .nil pass0 (pa_cons (pv 0) (pa_cons pe_int pa_nil))) pe_int (nomark _))
   (pss_one (ps_expr (pe_bm PySem.F.plainAttrs_list PySem.F.slot_list_append PySem.F.type_list_append mt_append (pv 2) (pa_cons (pe_tup (pa_cons pe_str (pa_cons (pe_call G_tables (hr.mono (by first | decide | exact Nat.le_refl _)) (by rfl) D_tables.g D_tables.F.kp D_tables.b .nil pass0 (pa_cons (pv 0) pa_nil)) pa_nil))) pa_nil))))
   pss_nil)
   (pss_cons (ps_set (i := 5) sc_stream.nd rfl (Or.inl rfl) (pe_ix ix_list (pe_lst (pa_cons (pv 5) (pa_cons (pe_tup (pa_cons (pe_tup (pa_cons pe_int (pa_cons pe_int pa_nil))) (pa_cons (pe_tup (pa_cons pe_int (pa_cons pe_int pa_nil))) pa_nil))) (pa_cons (pe_call G_tables (hr.mono (by first | decide | exact Nat.le_refl _)) (by rfl) D_tables.g D_tables.F.kp D_tables.b .nil pass0 (pa_cons (pv 0) pa_nil)) pa_nil)))) (pe_call G_take (hr.mono (by first | decide | exact Nat.le_refl _)) (by rfl) D_take.g D_take.F.kp D_take.b .nil pass0 (pa_cons (pv 0) (pa_cons pe_int pa_nil))) (fun _ _ => rfl)))
   (pss_cons (ps_set (i := 6) sc_stream.nd rfl (Or.inl rfl) (pe_callB cLen (by rfl) bi.len_ (by decide +kernel) (pa_cons (pv 2) pa_nil)))
   (pss_one (ps_expr (pe_bm PySem.F.plainAttrs_list PySem.F.slot_list_append PySem.F.type_list_append mt_append (pv 2) (pa_cons (pe_tup (pa_cons pe_str (pa_cons (pv 5) pa_nil))) pa_nil)))))))
   pss_nil)
   (pss_cons (ps_set (i := 10) sc_stream.nd rfl (Or.inl rfl) (pe_call G_some (hr.mono (by first | decide | exact Nat.le_refl _)) (by rfl) D_some.g D_some.F.kp D_some.b .nil pass0 (pa_cons (pv 0) (pa_cons (pe_ix ix_tup (pv 9) pe_int (fun _ _ => rfl)) pa_nil))))
   (pss_cons (ps_asg (pe_call G_frame (hr.mono (by first | decide | exact Nat.le_refl _)) (by rfl) D_frame.g D_frame.F.kp D_frame.b .nil pass0 (pa_cons (pv 9) (pa_cons (pv 10) (pa_cons (pv 5) pa_nil)))) (pg_tup rfl (pgs_cons (pg_name (i := 11) sc_stream.nd rfl (Or.inl rfl)) (pgs_cons (pg_name (i := 5) sc_stream.nd rfl (Or.inl rfl)) pgs_nil))))
   (pss_cons (ps_expr (pe_bm PySem.F.plainAttrs_list PySem.F.slot_list_append PySem.F.type_list_append mt_append (pv 3) (pa_cons (pe_tup (pa_cons (pe_callB cLen (by rfl) bi.len_ (by decide +kernel) (pa_cons (pv 2) pa_nil)) (pa_cons (pv 7) (pa_cons (pe_ix ix_tup (pv 9) pe_int (fun _ _ => rfl)) (pa_cons (pv 8) (pa_cons (pe_ix ix_tup (pv 9) pe_int (fun _ _ => rfl)) (pa_cons (pe_ix ix_tup (pv 9) pe_int (fun _ _ => rfl)) (pa_cons (pe_ix ix_tup (pv 9) pe_int (fun _ _ => rfl)) (pa_cons (pv 6) pa_nil))))))))) pa_nil)))
   (pss_cons (ps_expr (pe_bm PySem.F.plainAttrs_list PySem.F.slot_list_append PySem.F.type_list_append mt_append (pv 2) (pa_cons (pv 11) pa_nil)))
   (pss_cons (ps_expr (pe_bm PySem.F.plainAttrs_list PySem.F.slot_list_append PySem.F.type_list_append mt_append (pv 4) (pa_cons (pe_call G_values (hr.mono (by first | decide | exact Nat.le_refl _)) (by rfl) D_values.g D_values.F.kp D_values.b .nil pass0 (pa_cons (pe_lc (own := [("_law_number", 12)]) (g := gName 12) (tt := tYes) rfl sc_stream.nd (pi_list (pv 10)) (blkOk_by (N := ["_law_pool_here", "_law_many", "_law_records", "_law_rows", "_law_blocks", "_law_current", "_law_origin", "_law_place", "_law_left", "_law_head", "_law_some_here", "_law_record", "_law_number"]) (sc := defScope s_stream) (by decide +kernel)) (fun _ _ _ _ _ => pg_name (i := 12) sc_stream.nd rfl (Or.inl rfl)) (fun _ _ _ _ _ => pts_nil) (fun _ _ _ _ _ => (pe_op op_mul (pv 12) (pe_ix (show IxR _ (rIxT K) from ix_tup) (pv 9) pe_int (fun _ _ => rfl))))) (pa_cons (pe_ix ix_tup (pv 9) pe_int (fun _ _ => rfl)) pa_nil))) pa_nil)))
   (pss_one (ps_par (i := 7) (j := 8) rfl sc_stream.nd rfl rfl (by decide) rfl rfl (pa_cons (pe_op op_add (pv 7) (pe_ix ix_tup (pv 9) pe_int (fun _ _ => rfl))) (pa_cons (pe_ix ix_tup (pv 9) pe_int (fun _ _ => rfl)) pa_nil)) rfl)))))))))
   (C8.pss_cut (ps_if (pt_cmpR op_eq (pe_call G_take (hr.mono (by first | decide | exact Nat.le_refl _)) (by rfl) D_take.g D_take.F.kp D_take.b .nil pass0 (pa_cons (pv 0) (pa_cons pe_int pa_nil))) pe_int (nomark _))
   (pss_one (ps_expr (pe_bm PySem.F.plainAttrs_list PySem.F.slot_list_append PySem.F.type_list_append mt_append (pv 2) (pa_cons (pe_tup (pa_cons pe_str (pa_cons (pv 5) pa_nil))) pa_nil))))
   pss_nil)
   (pss_one (ps_ret (pe_lst (pa_cons (pv 2) (pa_cons (pv 3) (pa_cons (pv 4) pa_nil)))))))))), ?_⟩
      refine rd_start (σ := [some (.ref p), some (.int (m : Nat)), none, none, none, none, none, none, none, none, none, none, none]) rfl ?_
      walk_at "rd"
      rename_i R hR W hW B hB u1 hu1 u2 hu2 tt htt u4 hu4 jl0 hjl0 u5 hu5 HL hrefs hs HA hHL eHL hHd hCh hlen hPA hKA
      have nRp : R ≠ p := hP.ne hR
      have nWp : W ≠ p := (hP.new hR).ne hW
      have nBp : B ≠ p := ((hP.new hR).new hW).ne hB
      have nRW : R ≠ W := ne_of_none upd_same hW
      have nWB : W ≠ B := ne_of_none upd_same hB
      have nRB : R ≠ B := ne_of_none (look_new hW upd_same) hB
      have nHR : HL ≠ R := (ne_of_none (by walk_at "hg") hHL).symm
      have nHW : HL ≠ W := (ne_of_none (by walk_at "hg") hHL).symm
      have nHB : HL ≠ B := (ne_of_none (by walk_at "hg") hHL).symm
      have hR0 : H R = none := hR
      have hW0 : H W = none := (same_new hR).free hW
      have hB0 : H B = none := ((same_new hR).trans (same_new hW)).free hB
      have eRA : HA R = some (.lst []) := by walk_at "hg"
      have eWA : HA W = some (.lst []) := by walk_at "hg"
      have eBA : HA B = some (.lst []) := by walk_at "hg"
      have ntt : tt ≠ p := by walk_at "ne"
      have eTA : TbsV K HA tt T0 := (show TbsH HA tt T0 from ⟨u1, u2, by walk_at "hg", (show HA u1 = some (.tup [.int 2, .int 1]) from by walk_at "hg"), (show HA u2 = some (.tup [.int 2, .int 1]) from by walk_at "hg")⟩).tv
      have eJA : JtAt HA jl0 (0, 0) := (by walk_at "hg" : HA jl0 = some (.tup [.int 0, .int 0]))
      have kHA : Kp p H HA := by walk_at "kp"
      have S0 : SI kfB K p R W B HA [] [] [] [] T0 jl0 (0, 0) 0 0 0 := { eR := eRA, eW := eWA, eB := eBA, rc := .nil, rw := .nil, bk := .nil, vd := ⟨rfl, rfl⟩, jt := eJA, r1 := rfl, r2 := rfl, r3 := rfl, ln := rfl, le := Nat.le_refl _, po := hPA, nRp := nRp, nWp := nWp, nBp := nBp, nRW := nRW, nRB := nRB, nWB := nWB }
      have nHp : HL ≠ p := fun z => by
        obtain ⟨x, y, e, _⟩ := hP
        rw [z] at hHL
        have := (same_new (o := .lst []) hR)
        exact absurd hHL (by
          have e2 := look_new (o := .tup [.int 0, .int 0, .ref jl0]) hu5 (look_new (o := .tup [.int 0, .int 0]) hjl0 (look_new (o := .tup [.ref R, .ref W, .ref B, .ref tt]) hu4 (look_new (o := .tup [.ref u1, .ref u2]) htt (look_new (o := .tup [.int 2, .int 1]) hu2 (look_new (o := .tup [.int 2, .int 1]) hu1 (look_new (o := .lst []) hB (look_new (o := .lst []) hW (look_new (o := .lst []) hR e))))))))
          rw [e2]
          exact fun y => nomatch y)
      clear hR hW hB hu1 hu2 htt hu4 hjl0 hu5 hKA
      refine rd_lpL (SqL.of eHL) ?_
      refine for_list (xs := hrefs) (fun i σ G => ∃ refs rws bks rs T t jl lj o pl x9 x10 x11 x12, σ = [some (.ref p), some (.int (m : Nat)), some (.ref R), some (.ref W), some (.ref B), some (.ref t), some (.int ((o : Nat) : Int)), some (.int (pl : Nat)), some (.ref jl), x9, x10, x11, x12] ∧ SI kfB K p R W B G refs rws bks rs T jl lj o pl (3 * i) ∧ TbsV K G t T ∧ TbOk (100 + (i : Int) * 3840064) T.1 ∧ TbOk (100 + (i : Int) * 3840064) T.2 ∧ Ch lj.1 (hs.drop i) 0 ∧ G HL = some (.lst hrefs) ∧ HdsAt G hrefs hs ∧ Kp p H G) ⟨[], [], [], [], T0, tt, jl0, (0, 0), 0, 0, none, none, none, none, rfl, S0, eTA, ⟨by decide, by decide, by decide, by decide⟩, ⟨by decide, by decide, by decide, by decide⟩, hCh, eHL, hHd, kHA⟩ (fun i σ H1 _ hI => ?_) (fun i v σ H1 hv hI => ?_) (fun σ H1 hI => ?_)
      · obtain ⟨refs, rws, bks, rs, T, t, jl, lj, o, pl, x9, x10, x11, x12, rfl, _, _, _, _, _, e, _⟩ := hI
        exact SqL.of e
      · obtain ⟨refs, rws, bks, rs, T, t, jl, lj, o, pl, x9, x10, x11, x12, rfl, hSI, hT, o1, o2, hch, eH1, hH1, hK1⟩ := hI
        have hil : i < 20 := by
          have z := (List.getElem?_eq_some_iff.mp hv).1
          rw [hH1.len] at z
          omega
        obtain ⟨d, r, ⟨h, j, rfl, hd⟩, hdr, hdr2⟩ := hH1.get i v hv
        rw [hdr] at hch
        obtain ⟨hok, hwd, hch⟩ := hch
        have bi0 : (100 : Int) ≤ 100 + (i : Int) * 3840064 := by omega
        have bi1 : (100 + (i : Int) * 3840064) ≤ 10 ^ 9 := by omega
        walk_at "rd"
        refine rd_cut (fun σ G => ∃ refs rs T t o, σ = [some (.ref p), some (.int (m : Nat)), some (.ref R), some (.ref W), some (.ref B), some (.ref t), some (.int ((o : Nat) : Int)), some (.int (pl : Nat)), some (.ref jl), some (.ref h), x10, x11, x12] ∧ SI kfB K p R W B G refs rws bks rs T jl lj o pl (3 * i + 2) ∧ TbsV K G t T ∧ TbOk (100 + (i : Int) * 3840064) T.1 ∧ TbOk (100 + (i : Int) * 3840064) T.2 ∧ HdAt G h j d ∧ G HL = some (.lst hrefs) ∧ HdsAt G hrefs hs ∧ Kp p H G) ?_ fun σ2 G2 hM => ?_
        · have hPo := hSI.po
          walk_at "rd"
          rename_i r3 H3 h30 h31 hP3 hK3
          have lk3 := LK.pool hSI.po hK3
          refine rd_iteD (fun c => ?_) (fun c => ?_)
          · walk_at "rd"
            refine rd_cut (fun σ G => ∃ refs rs T1 o1, σ = [some (.ref p), some (.int (m : Nat)), some (.ref R), some (.ref W), some (.ref B), some (.ref t), some (.int ((o : Nat) : Int)), some (.int (pl : Nat)), some (.ref jl), some (.ref h), x10, x11, x12] ∧ SI kfB K p R W B G refs rws bks rs T1 jl lj o1 pl (3 * i + 1) ∧ TbsV K G t T ∧ HdAt G h j d ∧ G HL = some (.lst hrefs) ∧ HdsAt G hrefs hs ∧ Kp p H G) ?_ fun σ4 G4 hM => ?_
            · walk_at "rd"
              rename_i r5 H5 h50 h51 hP5 hK5
              have hk5 := hK3.trans hK5
              have lk5 := LK.pool hSI.po hk5
              have hSI5 := hSI.kp hk5 hP5
              have eR5 := hSI5.eR
              refine rd_iteD (fun c2 => ?_) (fun c2 => ?_)
              · walk_at "rd"
                rename_i t9 T9 H9 hT9 o9 o9' hP9 hK9 q10 hq10
                have hk9 := hk5.trans hK9
                have lk9 := (LK.pool hSI.po hk9).trans (LK.new (o := .tup [.str (Str.ofString "state"), .ref t9]) hq10)
                have hSI9 := (hSI.kp hk9 hP9).new (u := .tup [.str (Str.ofString "state"), .ref t9]) hq10
                refine rd_appG hSI9.eR (by have := hSI9.ln; have := hSI9.le; omega) ?_
                have lkR := lk9.trans (LK.at (o := .lst (refs ++ [.ref q10])) hSI9.eR)
                refine ⟨_, _, T9, _, rfl, hSI9.addSt upd_same ((TbsH.tv hT9).lk (.new hq10)) (tok_of o9 o9' (by decide)), hT.lk lkR, hd.lk lkR, by rw [upd_ne nHR]; exact look_new hq10 (hk9 _ _ nHp eH1), hH1.lk lkR, ?_⟩
                exact fun b x nb e => by rw [upd_ne (ne_of_none e hR0)]; exact look_new hq10 (hk9 _ _ nb (hK1 _ _ nb e))
              · walk_at "rd"
                exact ⟨refs, rs, T, o, rfl, hSI5.up (by omega), hT.lk lk5, hd.lk lk5, hk5 _ _ nHp eH1, hH1.lk lk5, hK1.trans hk5⟩
            obtain ⟨refs, rs, T1, o1', rfl, hSI, hT, hd, eH4, hH4, hK4⟩ := hM
            have hP4 := hSI.po
            walk_at "rd"
            rename_i u6 hu6 u7 hu7 u8 hu8 t9 T9 H9 hT9 o9 o9' hP9 hK9 q10 hq10 r11 H11 h110 h111 hP11 hK11
            have e6 : H11 u6 = some (.tup [.int 2, .int 1]) := by walk_at "hg"
            have e7 : H11 u7 = some (.tup [.int 2, .int 1]) := by walk_at "hg"
            have e8 : H11 u8 = some (.tup [.ref u6, .ref u7]) := by walk_at "hg"
            have e10 : H11 q10 = some (.lst [.ref t, .ref u8, .ref t9]) := by walk_at "hg"
            have lk9 : LK H9 H11 := (LK.new hq10).trans (LK.pool (hP9.new hq10) hK11)
            have hk11 : Kp p G4 H11 := by walk_at "kp"
            have lk11 := LK.pool hP4 hk11
            have hSI11 := hSI.kp hk11 hP11
            clear hu6 hu7 hu8 hK9 hq10 hK11 hP9 hP4
            refine' rd_ixP (fun v => ∃ t' T', v = .ref t' ∧ TbsV K H11 t' T' ∧ TbOk (100 + (i : Int) * 3840064) T'.1 ∧ TbOk (100 + (i : Int) * 3840064) T'.2) ?e ?h0 ?h1 ?hP fun v hv => ?_
            (case e => exact SqL.of e10)
            (case h0 => assumption)
            (case h1 => assumption)
            (case hP => exact List.forall_mem_cons.mpr ⟨⟨t, T, rfl, hT.lk lk11, o1, o2⟩, List.forall_mem_cons.mpr ⟨⟨u8, T0, rfl, (show TbsH H11 u8 T0 from ⟨u6, u7, e8, e6, e7⟩).tv, ⟨by decide, by show (2 : Int) ≤ _; omega, by decide, by decide⟩, ⟨by decide, by show (2 : Int) ≤ _; omega, by decide, by decide⟩⟩, List.forall_mem_cons.mpr ⟨⟨t9, T9, rfl, (TbsH.tv hT9).lk lk9, o9.up (by omega), o9'.up (by omega)⟩, List.forall_mem_nil _⟩⟩⟩)
            obtain ⟨t', T', rfl, hT', o1', o2'⟩ := hv
            have eR11 := hSI11.eR
            walk_at "rd"
            rename_i q12 hq12
            have hSI12 := hSI11.new (u := .tup [.str (Str.ofString "state"), .ref t']) hq12
            refine rd_appG hSI12.eR (by have := hSI12.ln; have := hSI12.le; omega) ?_
            have lkR := (lk11.trans (LK.new (o := .tup [.str (Str.ofString "state"), .ref t']) hq12)).trans (LK.at (o := .lst (refs ++ [.ref q12])) hSI12.eR)
            rw [hSI11.ln]
            refine ⟨_, _, T', t', rs.length, rfl, (hSI12.addSt upd_same (hT'.lk (.new hq12)) (tok_of o1' o2' bi1)).up (by omega), hT'.lk ((LK.new hq12).trans (LK.at hSI12.eR)), o1', o2', hd.lk lkR, by rw [upd_ne nHR]; exact look_new hq12 (hk11 _ _ nHp eH4), hH4.lk lkR, ?_⟩
            exact fun b x nb e => by rw [upd_ne (ne_of_none e hR0)]; exact look_new hq12 (hk11 _ _ nb (hK4 _ _ nb e))
          · walk_at "rd"
            exact ⟨refs, rs, T, t, o, rfl, (hSI.kp hK3 hP3).up (by omega), hT.lk lk3, o1, o2, hd.lk lk3, hK3 _ _ nHp eH1, hH1.lk lk3, hK1.trans hK3⟩
        obtain ⟨refs, rs, T, t, o, rfl, hSI, hT, o1, o2, hd, eH2, hH2, hK2⟩ := hM
        have hP2 := hSI.po
        have h64 : d.1 ≤ 64 := hok.2.1
        have h1 : 1 ≤ d.1 := hok.1
        have hlv : d.2.2.2.1 ≤ 5 := hok.2.2.2.2.2.1
        have hd1 := hd.1
        walk_at "rd"
        rename_i S ns H3 hS3 eS3 hl3 hn3 hP3 hK3
        have lk3 := LK.pool hP2 hK3
        have hSI3 := hSI.kp hK3 hP3
        have hd3 := hd.lk lk3
        have nSR : R ≠ S := ne_of_none hSI.eR hS3
        have nSW : W ≠ S := ne_of_none hSI.eW hS3
        refine use_frameX (d := d) hd3 hok eS3 hl3 hn3 (hT.lk lk3) (o1.up (by omega)) (o2.up (by omega)) fun p4 r4 q4 H4 hs4 hn4 e4 hfr hTq => ?_
        have hSI4 := hSI3.same hs4
        have eR4 := hSI4.eR
        have eW4 := hSI4.eW
        have hd4 := hd3.lk (LK.of hs4)
        have hd41 := hd4.1
        have hP4 := hSI4.po
        have lenA := hSI4.lw
        have nBR := nRB.symm
        have nBW := nWB.symm
        walk_at "rd"
        rename_i w5 hw5
        have hSI5 := hSI4.new (u := .tup [.int (refs.length : Nat), .int (pl : Nat), .int (d.1 : Nat), .ref jl, .ref j, .int (d.2.2.2.1 : Nat), .int (d.2.2.2.2 : Nat), .int (o : Nat)]) hw5
        have eW5 := hSI5.eW
        have eR5 := hSI5.eR
        have eB5 := hSI5.eB
        refine rd_appG hSI5.eW (by omega) ?_
        walk_at "rd"
        refine rd_appG (by rw [upd_ne nRW]; exact hSI5.eR) (by omega) ?_
        have lk5 : LK H4 (upd (upd (upd H4 w5 (.tup [.int (refs.length : Nat), .int (pl : Nat), .int (d.1 : Nat), .ref jl, .ref j, .int (d.2.2.2.1 : Nat), .int (d.2.2.2.2 : Nat), .int (o : Nat)])) W (.lst (rws ++ [.ref w5]))) R (.lst (refs ++ [.ref r4]))) := ((LK.new hw5).trans (LK.at hSI5.eW)).trans (LK.at (by rw [upd_ne nRW]; exact hSI5.eR))
        have nS5 : S ≠ w5 := ne_of_none (hs4 _ _ eS3) hw5
        have eS6 : (upd (upd (upd H4 w5 (.tup [.int (refs.length : Nat), .int (pl : Nat), .int (d.1 : Nat), .ref jl, .ref j, .int (d.2.2.2.1 : Nat), .int (d.2.2.2.2 : Nat), .int (o : Nat)])) W (.lst (rws ++ [.ref w5]))) R (.lst (refs ++ [.ref r4]))) S = some (.lst (ns.map V.int)) := by
          rw [upd_ne nSR.symm, upd_ne nSW.symm, upd_ne nS5]
          exact hs4 _ _ eS3
        have eB6 : (upd (upd (upd H4 w5 (.tup [.int (refs.length : Nat), .int (pl : Nat), .int (d.1 : Nat), .ref jl, .ref j, .int (d.2.2.2.1 : Nat), .int (d.2.2.2.2 : Nat), .int (o : Nat)])) W (.lst (rws ++ [.ref w5]))) R (.lst (refs ++ [.ref r4]))) B = some (.lst bks) := by
          rw [upd_ne nBR, upd_ne nBW]
          exact eB5
        have eW6 : ∃ xs, (upd (upd (upd H4 w5 (.tup [.int (refs.length : Nat), .int (pl : Nat), .int (d.1 : Nat), .ref jl, .ref j, .int (d.2.2.2.1 : Nat), .int (d.2.2.2.2 : Nat), .int (o : Nat)])) W (.lst (rws ++ [.ref w5]))) R (.lst (refs ++ [.ref r4]))) W = some (.lst xs) := ⟨_, by rw [upd_ne nRW.symm]; exact upd_same⟩
        have eR6 : ∃ xs, (upd (upd (upd H4 w5 (.tup [.int (refs.length : Nat), .int (pl : Nat), .int (d.1 : Nat), .ref jl, .ref j, .int (d.2.2.2.1 : Nat), .int (d.2.2.2.2 : Nat), .int (o : Nat)])) W (.lst (rws ++ [.ref w5]))) R (.lst (refs ++ [.ref r4]))) R = some (.lst xs) := ⟨_, upd_same⟩
        have hP6 : Pool (upd (upd (upd H4 w5 (.tup [.int (refs.length : Nat), .int (pl : Nat), .int (d.1 : Nat), .ref jl, .ref j, .int (d.2.2.2.1 : Nat), .int (d.2.2.2.2 : Nat), .int (o : Nat)])) W (.lst (rws ++ [.ref w5]))) R (.lst (refs ++ [.ref r4]))) p := pool_upd nRp (pool_upd nWp hSI5.po)
        have eH6 : (upd (upd (upd H4 w5 (.tup [.int (refs.length : Nat), .int (pl : Nat), .int (d.1 : Nat), .ref jl, .ref j, .int (d.2.2.2.1 : Nat), .int (d.2.2.2.2 : Nat), .int (o : Nat)])) W (.lst (rws ++ [.ref w5]))) R (.lst (refs ++ [.ref r4]))) HL = some (.lst hrefs) := by
          rw [upd_ne nHR, upd_ne nHW]
          exact look_new hw5 (hs4 _ _ (hK3 _ _ nHp eH2))
        have hd6 := (hd4.lk lk5).1
        have kx6 : ∀ b x, b ≠ p → H b = some x → (upd (upd (upd H4 w5 (.tup [.int (refs.length : Nat), .int (pl : Nat), .int (d.1 : Nat), .ref jl, .ref j, .int (d.2.2.2.1 : Nat), .int (d.2.2.2.2 : Nat), .int (o : Nat)])) W (.lst (rws ++ [.ref w5]))) R (.lst (refs ++ [.ref r4]))) b = some x := fun b x nb e => by
          rw [upd_ne (ne_of_none e hR0), upd_ne (ne_of_none e hW0)]
          exact look_new hw5 (hs4 _ _ (hK3 _ _ nb (hK2 _ _ nb e)))
        have fin := fun (H3 : Hp) (b0 : Addr) s e n => hSI5.addFr (H3 := H3) (w0 := w5) (r0 := r4) (j := j) (b0 := b0) hok hwd hl3 hn3 (tok_of o1 o2 bi1) (hd4.lk (LK.new (o := (.tup [.int (refs.length : Nat), .int (pl : Nat), .int (d.1 : Nat), .ref jl, .ref j, .int (d.2.2.2.1 : Nat), .int (d.2.2.2.2 : Nat), .int (o : Nat)])) hw5)).2 (look_new hw5 hfr) upd_same s e n
        have lkT : LK H4 (upd (upd (upd H4 w5 (.tup [.int (refs.length : Nat), .int (pl : Nat), .int (d.1 : Nat), .ref jl, .ref j, .int (d.2.2.2.1 : Nat), .int (d.2.2.2.2 : Nat), .int (o : Nat)])) W (.lst (rws ++ [.ref w5]))) R (.lst (refs ++ [.ref r4]))) := lk5
        generalize (upd (upd (upd H4 w5 (.tup [.int (refs.length : Nat), .int (pl : Nat), .int (d.1 : Nat), .ref jl, .ref j, .int (d.2.2.2.1 : Nat), .int (d.2.2.2.2 : Nat), .int (o : Nat)])) W (.lst (rws ++ [.ref w5]))) R (.lst (refs ++ [.ref r4]))) = H6 at eS6 eB6 eW6 eR6 hP6 eH6 hd6 kx6 fin lkT ⊢
        clear lk5 hw5 nS5 eW5 eR5 eB5 hSI5
        obtain ⟨xW, eW6⟩ := eW6
        obtain ⟨xR, eR6⟩ := eR6
        walk_at "rd"
        refine rd_lcP (SqL.of eS6) fun C hC => ?_
        refine lc_mapM (fun z => z * (d.2.2.2.2 : Int)) (SqL.of eS6) (by omega) (fun _ => rfl) hC (fun z hz H7 Q' hs7 hQ => ?_) (fun H7 hs7 eC7 => ?_)
        · have hd7 := hs7 _ _ hd6
          have hzb := hn3 z hz
          have hsb : d.2.2.2.2 ≤ 64 := hok.2.2.2.2.2.2.2
          walk_at "rd"
          exact hQ
        · have hd7 := hs7 _ _ hd6
          walk_at "rd"
          refine use_values eC7 (by rw [List.length_map]; omega) (by rw [List.length_map]; omega) hlv fun b0 H8 hb0 hs8 e8 => ?_
          have s68 := hs7.trans hs8
          have nb0 : b0 ∉ [p, R, W, B] := by
            obtain ⟨x, y, ep, _⟩ := hP6
            exact nm_cons (ne_new hb0 (hs7 _ _ ep)) (nm_cons (ne_new hb0 (hs7 _ _ eR6)) (nm_cons (ne_new hb0 (hs7 _ _ eW6)) (nm_cons (ne_new hb0 (hs7 _ _ eB6)) List.not_mem_nil)))
          walk_at "rd"
          refine rd_appG (s68 _ _ eB6) (by omega) ?_
          have lkB : LK H8 (upd H8 B (.lst (bks ++ [.ref b0]))) := LK.at (s68 _ _ eB6)
          have hd8 := lkB _ _ (s68 _ _ hd6) (fun _ z => nomatch z)
          walk_at "rd"
          obtain ⟨b1, b2⟩ := next_ok hl3 h64 hn3 o1 o2
          refine ⟨_, _, _, _, _, q4, j, (d.2.1, d.2.2.1), o, pl + d.1, some (.ref h), some (.ref S), some (.ref r4), x12, ?_, (fin H8 b0 s68 e8 nb0).up (by omega), hTq.lk ((lkT.trans (.of s68)).trans lkB), b1.up (by push_cast; omega), b2.up (by push_cast; omega), by rw [hdr2]; exact hch, ?_, ?_, ?_⟩
          · rw [show ((pl + d.1 : Nat) : Int) = (pl : Int) + (d.1 : Int) by omega]
            rfl
          · rw [upd_ne nHB]
            exact s68 _ _ eH6
          · exact hH2.lk ((((lk3.trans (.of hs4)).trans lkT).trans (.of s68)).trans lkB)
          · exact fun b x nb e => by rw [upd_ne (ne_of_none e hB0)]; exact s68 _ _ (kx6 b x nb e)
      · obtain ⟨refs, rws, bks, rs, T, t, jl, lj, o, pl, x9, x10, x11, x12, rfl, hSI, hT, o1, o2, hch, eH1, hH1, hK1⟩ := hI
        rw [hH1.len, List.drop_length] at hch
        have hch : lj.1 = 0 := hch
        have hm2 : hrefs.length ≤ 9 := by rw [hH1.len]; omega
        have hPo := hSI.po
        refine rd_cut (fun σ G => ∃ refs rs T t o', σ = [some (.ref p), some (.int (m : Nat)), some (.ref R), some (.ref W), some (.ref B), some (.ref t), some (.int ((o : Nat) : Int)), some (.int (pl : Nat)), some (.ref jl), x9, x10, x11, x12] ∧ SI kfB K p R W B G refs rws bks rs T jl lj o' pl (3 * hrefs.length + 1) ∧ Kp p H G) ?_ fun σ9 G9 hM => ?_
        · walk_at "rd"
          rename_i r3 H3 h30 h31 hP3 hK3
          have hSI3 := hSI.kp hK3 hP3
          have eR3 := hSI3.eR
          have l3 := hSI3.lw
          refine rd_iteD (fun c => ?_) (fun c => ?_)
          · walk_at "rd"
            rename_i q4 hq4
            have hSI4 := hSI3.new (u := .tup [.str (Str.ofString "state"), .ref t]) hq4
            refine rd_appG hSI4.eR (by omega) ?_
            refine ⟨_, _, T, t, _, rfl, hSI4.addSt upd_same (hT.lk ((LK.pool hPo hK3).trans (LK.new hq4))) (tok_of o1 o2 (by omega)), ?_⟩
            exact fun b x nb e => by rw [upd_ne (ne_of_none e hR0)]; exact look_new hq4 (hK3 _ _ nb (hK1 _ _ nb e))
          · walk_at "rd"
            exact ⟨refs, rs, T, t, o, rfl, hSI3.up (by omega), hK1.trans hK3⟩
        obtain ⟨refs, rs, T, t, o', rfl, hSI, hK9⟩ := hM
        have l9 := hSI.lw
        walk_at "rd"
        rename_i L hL
        have sL := same_new (o := .lst [.ref R, .ref W, .ref B]) hL
        have lkL := LK.of sL
        exact q L R W B refs rws bks rs T _ (none_of hK9 (hSI.po.ne hL) hL) hR0 hW0 hB0 upd_same (sL _ _ hSI.eR) (sL _ _ hSI.eW) (sL _ _ hSI.eB) (by omega) (hSI.rc.lk lkL) (hSI.rw.lk lkL) (hSI.bk.kp (KpL.ofS sL)) (by have := hSI.vd; rw [hch] at this; exact this) (hSI.po.new hL) (hK9.trans (Kp.new hL))
    ) only [↓lt_eq]
theorem ok_is_integer {f : Addr} {fd : FuncData}     (D : Dn K mg "is_integer" s_is_integer ["value"] f fd) (bi : Bi mg)     : FnOk P w K mg base CX0 1 f fd ["value"] spIsI := by
  refine lt_out ?_
  simp (disch := with_unfolding_all
    refine D.F.ok sc_is_integer (fun vs H Q E h => ?_) (fun cdv A outer s H vs Q E hr h => ?_)
    · obtain ⟨x, rfl, _⟩ := h
      rfl
    · obtain ⟨x, rfl, t, q⟩ := h
      refine ⟨_, (pss_one (ps_ret (pe_and (pe_callB call_isi (by rfl) bi.isinstance_ (by decide +kernel) (pa_cons (pv 0) (pa_cons (pe_bltn (v := .ty "int") (by rfl) bi.int_ (by decide +kernel) rfl) pa_nil))) (pe_one (pe_not (pe_callB call_isi (by rfl) bi.isinstance_ (by decide +kernel) (pa_cons (pv 0) (pa_cons (pe_bltn (v := .ty "bool") (by rfl) bi.bool_ (by decide +kernel) rfl) pa_nil)))))))), ?_⟩
      refine rd_start (σ := [some x]) rfl ?_
      cases x with
      | non => walk_at "rd"; exact q
      | bl _ => walk_at "rd"; exact q
      | int _ => walk_at "rd"; exact q
      | str _ => walk_at "rd"; exact q
      | ref a =>
        rcases t with ⟨xs, t⟩ | ⟨xs, t⟩
        · walk_at "rd"; exact q
        · walk_at "rd"; exact q
      | byt _ => exact t.elim
      | flt _ => exact t.elim
      | ty _ => exact t.elim
    ) only [↓lt_eq]
theorem ok_is_within {f : Addr} {fd : FuncData} {f_is_integer : Addr} {fd_is_integer : FuncData}    (D : Dn K mg "is_within" s_is_within ["value", "low", "high"] f fd) (bi : Bi mg) (G_is_integer : FnOk P w K mg base CX0 1 f_is_integer fd_is_integer ["value"] spIsI) (D_is_integer : Dn K mg "is_integer" s_is_integer ["value"] f_is_integer fd_is_integer)    : FnOk P w K mg base CX0 2 f fd ["value", "low", "high"] spWithin := by
  refine lt_out ?_
  simp (disch := with_unfolding_all
    refine D.F.ok sc_is_within (fun vs H Q E h => ?_) (fun cdv A outer s H vs Q E hr h => ?_)
    · obtain ⟨x, lo, hi, rfl, _⟩ := h
      rfl
    · obtain ⟨x, lo, hi, rfl, t, q⟩ := h
      refine ⟨_, (pss_one (ps_ret (pe_and (pe_call G_is_integer (hr.mono (by first | decide | exact Nat.le_refl _)) (by rfl) D_is_integer.g D_is_integer.F.kp D_is_integer.b .nil pass0 (pa_cons (pv 0) pa_nil)) (pe_one (pe_chain op_le op_le (pv 1) (pv 0) (pv 2)))))), ?_⟩
      refine rd_start (σ := [some x, some (.int lo), some (.int hi)]) rfl ?_
      walk_at "rd"
      refine use_isi t (rd_bl ?_)
      cases x with
      | int i =>
        refine if_yes (c := isI (V.int i)) rfl ?_
        walk_at "rd"
        refine rd_iteD (p := lo ≤ i) (fun c => ?_) (fun c => ?_)
        · walk_at "rd"
          have e : inI (.int i) lo hi = decide (i ≤ hi) := by simp [inI, c]
          rw [e] at q
          exact q
        · have e : inI (.int i) lo hi = false := by simp [inI, c]
          rw [e] at q
          exact q
      | non => exact iteF q
      | bl _ => exact iteF q
      | str _ => exact iteF q
      | ref _ => exact iteF q
      | byt _ => exact iteF q
      | flt _ => exact iteF q
      | ty _ => exact iteF q
    ) only [↓lt_eq]
theorem ok_is_joint {f : Addr} {fd : FuncData} {f_is_within : Addr} {fd_is_within : FuncData}    (D : Dn K mg "is_joint" s_is_joint ["value"] f fd) (bi : Bi mg) (G_is_within : FnOk P w K mg base CX0 2 f_is_within fd_is_within ["value", "low", "high"] spWithin) (D_is_within : Dn K mg "is_within" s_is_within ["value", "low", "high"] f_is_within fd_is_within)   (g_WIDTH_LIMIT : ∃ t, mg "WIDTH_LIMIT" = some (.int 8 t)) (g_SHAPE_LIMIT : ∃ t, mg "SHAPE_LIMIT" = some (.int 3 t)) : FnOk P w K mg base CX0 3 f fd ["value"] spJ := by
  refine lt_out ?_
  simp (disch := with_unfolding_all
    refine D.F.ok sc_is_joint (fun vs H Q E h => ?_) (fun cdv A outer s H vs Q E hr h => ?_)
    · obtain ⟨x, b, rfl, _⟩ := h
      rfl
    · obtain ⟨x, b, rfl, hj, q⟩ := h
      obtain ⟨t1, g_WIDTH_LIMIT⟩ := g_WIDTH_LIMIT
      obtain ⟨t2, g_SHAPE_LIMIT⟩ := g_SHAPE_LIMIT
      refine ⟨_, (pss_cons (ps_if (PW.pt (pw_or (pt_not (pt_val (pe_callB call_isi (by rfl) bi.isinstance_ (by decide +kernel) (pa_cons (pv 0) (pa_cons (pe_bltn (v := .ty "tuple") (by rfl) bi.tuple_ (by decide +kernel) rfl) pa_nil))))) (pw_or1 (pt_cmpR op_ne (pe_callB cLen (by rfl) bi.len_ (by decide +kernel) (pa_cons (pv 0) pa_nil)) pe_int (nomark _)))))
   (pss_one (ps_ret pe_bl))
   pss_nil)
   (pss_cons (ps_asg (pv 0) (pg_tup rfl (pgs_cons (pg_name (i := 1) sc_is_joint.nd rfl (Or.inl rfl)) (pgs_cons (pg_name (i := 2) sc_is_joint.nd rfl (Or.inl rfl)) pgs_nil))))
   (pss_cons (ps_if (PW.pt (pw_or (pt_not (pt_val (pe_call G_is_within (hr.mono (by first | decide | exact Nat.le_refl _)) (by rfl) D_is_within.g D_is_within.F.kp D_is_within.b .nil pass0 (pa_cons (pv 1) (pa_cons pe_int (pa_cons (pe_glob (v := .int 8) (by rfl) g_WIDTH_LIMIT ⟨_, rfl⟩) pa_nil)))))) (pw_or1 (pt_not (pt_val (pe_call G_is_within (hr.mono (by first | decide | exact Nat.le_refl _)) (by rfl) D_is_within.g D_is_within.F.kp D_is_within.b .nil pass0 (pa_cons (pv 2) (pa_cons pe_int (pa_cons (pe_glob (v := .int 3) (by rfl) g_SHAPE_LIMIT ⟨_, rfl⟩) pa_nil)))))))))
   (pss_one (ps_ret pe_bl))
   pss_nil)
   (pss_one (ps_ret (pe_or (pe_cmpR op_gt (pv 1) pe_int (nomark _)) (pe_one (pe_cmpR op_eq (pv 2) pe_int (nomark _))))))))), ?_⟩
      refine rd_start (σ := [some x, none, none]) rfl ?_
      cases hj with
      | @flat _ h =>
        cases x with
        | non => walk_at "rd"; exact q
        | bl _ => walk_at "rd"; exact q
        | int _ => walk_at "rd"; exact q
        | str _ => walk_at "rd"; exact q
        | ref _ => exact Bool.noConfusion h
        | byt _ => exact Bool.noConfusion h
        | flt _ => exact Bool.noConfusion h
        | ty _ => exact Bool.noConfusion h
      | @lst a xs h => walk_at "rd"; exact q
      | @tupn a xs h n =>
        walk_at "rd"
        refine if_yesN (fun z => n (Int.ofNat.inj (V.int.inj z))) ?_
        walk_at "rd"
        exact q
      | @tup2 a u v h hu hv =>
        walk_at "rd"
        refine if_noN rfl ?_
        walk_at "rd"
        refine use_within hu ?_
        walk_at "rd"
        cases cu : inI u 0 8 with
        | false =>
          rw [jt_no1 cu] at q
          walk_at "rd"
          exact q
        | true =>
          walk_at "rd"
          refine use_within hv ?_
          walk_at "rd"
          cases cv : inI v 0 3 with
          | false =>
            rw [jt_no2 cv] at q
            walk_at "rd"
            exact q
          | true =>
            obtain ⟨w1, rfl⟩ := isI_yes (inI_isI cu)
            obtain ⟨w2, rfl⟩ := isI_yes (inI_isI cv)
            have e : jt (.int w1) (.int w2) = (decide (0 < w1) || decide (w2 = 0)) := by unfold jt; rw [cu, cv]; rfl
            rw [e] at q
            walk_at "rd"
            refine rd_iteD (fun c => ?_) (fun c => ?_)
            · rw [decide_eq_true c] at q
              exact q
            · walk_at "rd"
              rw [decide_eq_false c, ← dec_i0] at q
              exact q
    ) only [↓lt_eq]
theorem ok_is_table {f : Addr} {fd : FuncData} {f_is_integer : Addr} {fd_is_integer : FuncData} {f_is_within : Addr} {fd_is_within : FuncData}    (D : Dn K mg "is_table" s_is_table ["value"] f fd) (bi : Bi mg) (G_is_integer : FnOk P w K mg base CX0 1 f_is_integer fd_is_integer ["value"] spIsI) (D_is_integer : Dn K mg "is_integer" s_is_integer ["value"] f_is_integer fd_is_integer) (G_is_within : FnOk P w K mg base CX0 2 f_is_within fd_is_within ["value", "low", "high"] spWithin) (D_is_within : Dn K mg "is_within" s_is_within ["value", "low", "high"] f_is_within fd_is_within)   (g_COUNT_LIMIT : ∃ t, mg "COUNT_LIMIT" = some (.int 15 t)) : FnOk P w K mg base CX0 3 f fd ["value"] (spTblG K) := by
  refine lt_out ?_
  simp (disch := with_unfolding_all
    refine D.F.ok sc_is_table (fun vs H Q E h => ?_) (fun cdv A outer s H vs Q E hr h => ?_)
    · obtain ⟨a, t, m, rfl, _⟩ := h
      rfl
    · obtain ⟨a, t, m, rfl, h1, ok, q⟩ := h
      obtain ⟨t1, g_COUNT_LIMIT⟩ := g_COUNT_LIMIT
      have L1 := h1.1
      obtain ⟨o1, o2, o3, o4⟩ := ok
      refine ⟨_, (pss_cons (ps_if (PW.pt (pw_or (pt_not (pt_val (pe_callB call_isi (by rfl) bi.isinstance_ (by decide +kernel) (pa_cons (pv 0) (pa_cons (pe_bltn (v := .ty "tuple") (by rfl) bi.tuple_ (by decide +kernel) rfl) pa_nil))))) (pw_or1 (pt_cmpR op_ne (pe_callB cLen (by rfl) bi.len_ (by decide +kernel) (pa_cons (pv 0) pa_nil)) pe_int (nomark _)))))
   (pss_one (ps_ret pe_bl))
   pss_nil)
   (pss_cons (ps_asg (pv 0) (pg_tup rfl (pgs_cons (pg_name (i := 1) sc_is_table.nd rfl (Or.inl rfl)) (pgs_cons (pg_name (i := 2) sc_is_table.nd rfl (Or.inl rfl)) pgs_nil))))
   (pss_one (ps_ret (pe_and (pe_call G_is_integer (hr.mono (by first | decide | exact Nat.le_refl _)) (by rfl) D_is_integer.g D_is_integer.F.kp D_is_integer.b .nil pass0 (pa_cons (pv 1) pa_nil)) (pe_and (pe_cmpR op_ge (pv 1) pe_int (nomark _)) (pe_one (pe_call G_is_within (hr.mono (by first | decide | exact Nat.le_refl _)) (by rfl) D_is_within.g D_is_within.F.kp D_is_within.b .nil pass0 (pa_cons (pv 2) (pa_cons pe_int (pa_cons (pe_glob (v := .int 15) (by rfl) g_COUNT_LIMIT ⟨_, rfl⟩) pa_nil))))))))))), ?_⟩
      refine rd_start (σ := [some (.ref a), none, none]) rfl ?_
      walk_at "rd"
      refine isi_ty h1.2 (d := true) (by decide +kernel) ?_
      walk_at "rd"
      refine if_noN rfl ?_
      walk_at "rd"
      rw [decide_eq_true (show t.1 ≥ 0 from o1)]
      walk_at "rd"
      rw [decide_eq_true (show 1 ≤ t.2 ∧ t.2 ≤ 15 from ⟨o3, o4⟩)]
      exact q
    ) only [↓lt_eq]
theorem ok_is_tables {f : Addr} {fd : FuncData} {f_is_table : Addr} {fd_is_table : FuncData}    (D : Dn K mg "is_tables" s_is_tables ["value"] f fd) (bi : Bi mg) (G_is_table : FnOk P w K mg base CX0 3 f_is_table fd_is_table ["value"] (spTblG K)) (D_is_table : Dn K mg "is_table" s_is_table ["value"] f_is_table fd_is_table)    : FnOk P w K mg base CX0 4 f fd ["value"] (spTblsG K) := by
  refine lt_out ?_
  simp (disch := with_unfolding_all
    refine D.F.ok sc_is_tables (fun vs H Q E h => ?_) (fun cdv A outer s H vs Q E hr h => ?_)
    · obtain ⟨a, T, m, rfl, _⟩ := h
      rfl
    · obtain ⟨a, T, m, rfl, ⟨r0, r1, h0, h1, h2⟩, o1, o2, q⟩ := h
      have L1 := h0.1
      refine ⟨_, (pss_one (ps_ret (pe_and (pe_callB call_isi (by rfl) bi.isinstance_ (by decide +kernel) (pa_cons (pv 0) (pa_cons (pe_bltn (v := .ty "tuple") (by rfl) bi.tuple_ (by decide +kernel) rfl) pa_nil))) (pe_and (pe_cmpR op_eq (pe_callB cLen (by rfl) bi.len_ (by decide +kernel) (pa_cons (pv 0) pa_nil)) pe_int (nomark _)) (pe_and (pe_call G_is_table (hr.mono (by first | decide | exact Nat.le_refl _)) (by rfl) D_is_table.g D_is_table.F.kp D_is_table.b .nil pass0 (pa_cons (pe_ix ix_tup (pv 0) pe_int (fun _ _ => rfl)) pa_nil)) (pe_one (pe_call G_is_table (hr.mono (by first | decide | exact Nat.le_refl _)) (by rfl) D_is_table.g D_is_table.F.kp D_is_table.b .nil pass0 (pa_cons (pe_ix ix_tup (pv 0) pe_int (fun _ _ => rfl)) pa_nil)))))))), ?_⟩
      refine rd_start (σ := [some (.ref a)]) rfl ?_
      walk_at "rd"
      refine isi_ty h0.2 (d := true) (by decide +kernel) ?_
      walk_at "rd"
      refine if_yesD rfl ?_
      walk_at "rd"
      refine use_tblG h1 o1 ?_
      walk_at "rd"
      refine use_tblG h2 o2 ?_
      exact q
    ) only [↓lt_eq]
theorem ok_is_bits {f : Addr} {fd : FuncData}     (D : Dn K mg "is_bits" s_is_bits ["value"] f fd) (bi : Bi mg)     : FnOk P w K mg base CX0 1 f fd ["value"] spIsB := by
  refine lt_out ?_
  simp (disch := with_unfolding_all
    refine D.F.ok sc_is_bits (fun vs H Q E h => ?_) (fun cdv A outer s H vs Q E hr h => ?_)
    · obtain ⟨l, rfl, _⟩ := h
      rfl
    · obtain ⟨l, rfl, hb, hl, q⟩ := h
      have hl2 : l.length ≤ 16777216 := by omega
      refine ⟨_, (pss_one (ps_ret (pe_and (pe_callB call_isi (by rfl) bi.isinstance_ (by decide +kernel) (pa_cons (pv 0) (pa_cons (pe_bltn (v := .ty "str") (by rfl) bi.str_ (by decide +kernel) rfl) pa_nil))) (pe_one (pe_cmpR op_eq (pe_bm PySem.F.plainAttrs_str PySem.F.slot_str_strip PySem.F.type_str_strip mt_stripK (pv 0) (pa_cons pe_str pa_nil)) pe_str (nomark _)))))), ?_⟩
      refine rd_start (σ := [some (.str (SX.S l))]) rfl ?_
      walk_at "rd"
      exact rd_decT (congrArg V.str e_empty.symm) q
    ) only [↓lt_eq]
theorem ok_is_layout {f : Addr} {fd : FuncData} {f_is_within : Addr} {fd_is_within : FuncData} {f_is_joint : Addr} {fd_is_joint : FuncData}    (D : Dn K mg "is_layout" s_is_layout ["value"] f fd) (bi : Bi mg) (G_is_within : FnOk P w K mg base CX0 2 f_is_within fd_is_within ["value", "low", "high"] spWithin) (D_is_within : Dn K mg "is_within" s_is_within ["value", "low", "high"] f_is_within fd_is_within) (G_is_joint : FnOk P w K mg base CX0 3 f_is_joint fd_is_joint ["value"] spJ) (D_is_joint : Dn K mg "is_joint" s_is_joint ["value"] f_is_joint fd_is_joint)   (g_BLOCK_LIMIT : ∃ t, mg "BLOCK_LIMIT" = some (.int 64 t)) (g_LEVEL_LIMIT : ∃ t, mg "LEVEL_LIMIT" = some (.int 5 t)) (g_STEP_LIMIT : ∃ t, mg "STEP_LIMIT" = some (.int 64 t)) : FnOk P w K mg base CX0 4 f fd ["value"] spIsLay := by
  refine lt_out ?_
  simp (disch := with_unfolding_all
    refine D.F.ok sc_is_layout (fun vs H Q E h => ?_) (fun cdv A outer s H vs Q E hr h => ?_)
    · obtain ⟨a, j, d, rfl, _⟩ := h
      rfl
    · obtain ⟨a, j, d, rfl, ⟨h, hj⟩, hok, q⟩ := h
      obtain ⟨ln, w, sh, lv, st⟩ := d
      obtain ⟨k1, k2, k3, k4, k5, k6, k7, k8⟩ := hok
      dsimp only at k1 k2 k3 k4 k5 k6 k7 k8 h hj
      obtain ⟨t1, g_BLOCK_LIMIT⟩ := g_BLOCK_LIMIT
      obtain ⟨t2, g_LEVEL_LIMIT⟩ := g_LEVEL_LIMIT
      obtain ⟨t3, g_STEP_LIMIT⟩ := g_STEP_LIMIT
      refine ⟨_, (pss_cons (ps_if (PW.pt (pw_or (pt_not (pt_val (pe_callB call_isi (by rfl) bi.isinstance_ (by decide +kernel) (pa_cons (pv 0) (pa_cons (pe_bltn (v := .ty "tuple") (by rfl) bi.tuple_ (by decide +kernel) rfl) pa_nil))))) (pw_or1 (pt_cmpR op_ne (pe_callB cLen (by rfl) bi.len_ (by decide +kernel) (pa_cons (pv 0) pa_nil)) pe_int (nomark _)))))
   (pss_one (ps_ret pe_bl))
   pss_nil)
   (pss_cons (ps_asg (pv 0) (pg_tup rfl (pgs_cons (pg_name (i := 1) sc_is_layout.nd rfl (Or.inl rfl)) (pgs_cons (pg_name (i := 2) sc_is_layout.nd rfl (Or.inl rfl)) (pgs_cons (pg_name (i := 3) sc_is_layout.nd rfl (Or.inl rfl)) (pgs_cons (pg_name (i := 4) sc_is_layout.nd rfl (Or.inl rfl)) pgs_nil))))))
   (pss_cons (ps_if (PW.pt (pw_or (pt_not (pt_val (pe_call G_is_within (hr.mono (by first | decide | exact Nat.le_refl _)) (by rfl) D_is_within.g D_is_within.F.kp D_is_within.b .nil pass0 (pa_cons (pv 1) (pa_cons pe_int (pa_cons (pe_glob (v := .int 64) (by rfl) g_BLOCK_LIMIT ⟨_, rfl⟩) pa_nil)))))) (pw_or1 (pt_not (pt_val (pe_call G_is_joint (hr.mono (by first | decide | exact Nat.le_refl _)) (by rfl) D_is_joint.g D_is_joint.F.kp D_is_joint.b .nil pass0 (pa_cons (pv 2) pa_nil)))))))
   (pss_one (ps_ret pe_bl))
   pss_nil)
   (pss_one (ps_ret (pe_and (pe_call G_is_within (hr.mono (by first | decide | exact Nat.le_refl _)) (by rfl) D_is_within.g D_is_within.F.kp D_is_within.b .nil pass0 (pa_cons (pv 3) (pa_cons pe_int (pa_cons (pe_glob (v := .int 5) (by rfl) g_LEVEL_LIMIT ⟨_, rfl⟩) pa_nil)))) (pe_one (pe_call G_is_within (hr.mono (by first | decide | exact Nat.le_refl _)) (by rfl) D_is_within.g D_is_within.F.kp D_is_within.b .nil pass0 (pa_cons (pv 4) (pa_cons pe_int (pa_cons (pe_glob (v := .int 64) (by rfl) g_STEP_LIMIT ⟨_, rfl⟩) pa_nil))))))))))), ?_⟩
      refine rd_start (σ := [some (.ref a), none, none, none, none]) rfl ?_
      walk_at "rd"
      refine if_noN rfl ?_
      walk_at "rd"
      rw [decide_eq_true (show (1 : Int) ≤ (ln : Int) ∧ (ln : Int) ≤ 64 by omega)]
      walk_at "rd"
      have jr := JR.tup2 hj trivial trivial
      rw [jt_ok (j := (0, w, sh)) k3 k4 k5] at jr
      refine use_j jr (rd_bl ?_)
      walk_at "rd"
      rw [decide_eq_true (show (0 : Int) ≤ (lv : Int) ∧ (lv : Int) ≤ 5 by omega)]
      walk_at "rd"
      exact rd_decT (by omega) q
    ) only [↓lt_eq]
theorem ok_is_frame {f : Addr} {fd : FuncData} {f_is_layout : Addr} {fd_is_layout : FuncData} {f_is_within : Addr} {fd_is_within : FuncData} {f_is_bits : Addr} {fd_is_bits : FuncData}    (D : Dn K mg "is_frame" s_is_frame ["value"] f fd) (bi : Bi mg) (G_is_layout : FnOk P w K mg base CX0 4 f_is_layout fd_is_layout ["value"] spIsLay) (D_is_layout : Dn K mg "is_layout" s_is_layout ["value"] f_is_layout fd_is_layout) (G_is_within : FnOk P w K mg base CX0 2 f_is_within fd_is_within ["value", "low", "high"] spWithin) (D_is_within : Dn K mg "is_within" s_is_within ["value", "low", "high"] f_is_within fd_is_within) (G_is_bits : FnOk P w K mg base CX0 1 f_is_bits fd_is_bits ["value"] spIsB) (D_is_bits : Dn K mg "is_bits" s_is_bits ["value"] f_is_bits fd_is_bits)   (g_FRAME_ITEMS : ∃ t, mg "FRAME_ITEMS" = some (.int 7 t)) (g_MARK_MODULUS : ∃ t, mg "MARK_MODULUS" = some (.int 9973 t)) : FnOk P w K mg base CX0 5 f fd ["value"] (spIsFr K) := by
  refine lt_out ?_
  simp (disch := with_unfolding_all
    refine D.F.ok sc_is_frame (fun vs H Q E h => ?_) (fun cdv A outer s H vs Q E hr h => ?_)
    · obtain ⟨v, d, ns, T, rfl, _⟩ := h
      rfl
    · obtain ⟨v, d, ns, T, rfl, ⟨a, j, rfl, h, hj⟩, ok, q⟩ := h
      obtain ⟨bl, bb⟩ := bitsF_len ok
      obtain ⟨m0, m1⟩ := markF_bound ns
      unfold FrAt at h
      obtain ⟨t1, g_FRAME_ITEMS⟩ := g_FRAME_ITEMS
      obtain ⟨t2, g_MARK_MODULUS⟩ := g_MARK_MODULUS
      refine ⟨_, (pss_cons (ps_if (PW.pt (pw_or (pt_not (pt_val (pe_callB call_isi (by rfl) bi.isinstance_ (by decide +kernel) (pa_cons (pv 0) (pa_cons (pe_bltn (v := .ty "tuple") (by rfl) bi.tuple_ (by decide +kernel) rfl) pa_nil))))) (pw_or (pt_cmpR op_ne (pe_callB cLen (by rfl) bi.len_ (by decide +kernel) (pa_cons (pv 0) pa_nil)) (pe_glob (v := .int 7) (by rfl) g_FRAME_ITEMS ⟨_, rfl⟩) (nomark _)) (pw_or1 (pt_cmpR op_ne (pe_ix ix_tup (pv 0) pe_int (fun _ _ => rfl)) pe_str (nomark _))))))
   (pss_one (ps_ret pe_bl))
   pss_nil)
   (pss_cons (ps_asg (pe_slice sl_tup (pv 0) (po_some pe_int) po_none) (pg_tup rfl (pgs_cons (pg_name (i := 1) sc_is_frame.nd rfl (Or.inl rfl)) (pgs_cons (pg_name (i := 2) sc_is_frame.nd rfl (Or.inl rfl)) pgs_nil))))
   (pss_one (ps_ret (pe_and (pe_call G_is_layout (hr.mono (by first | decide | exact Nat.le_refl _)) (by rfl) D_is_layout.g D_is_layout.F.kp D_is_layout.b .nil pass0 (pa_cons (pe_slice sl_tup (pv 0) (po_some pe_int) (po_some pe_int)) pa_nil)) (pe_and (pe_call G_is_within (hr.mono (by first | decide | exact Nat.le_refl _)) (by rfl) D_is_within.g D_is_within.F.kp D_is_within.b .nil pass0 (pa_cons (pv 1) (pa_cons pe_int (pa_cons (pe_op op_sub (pe_glob (v := .int 9973) (by rfl) g_MARK_MODULUS ⟨_, rfl⟩) pe_int) pa_nil)))) (pe_one (pe_call G_is_bits (hr.mono (by first | decide | exact Nat.le_refl _)) (by rfl) D_is_bits.g D_is_bits.F.kp D_is_bits.b .nil pass0 (pa_cons (pv 2) pa_nil))))))))), ?_⟩
      refine rd_start (σ := [some (.ref a), none, none]) rfl ?_
      walk_at "rd"
      refine if_noN rfl ?_
      walk_at "rd"
      refine if_noN rfl ?_
      walk_at "rd"
      refine rd_slTp (SqT.of h) (ys := [.int (markF ns), .str (SX.S (bitsF d ns T))]) rfl (show ¬ (HT.sIx 7 0 (some 5) = 0 ∧ HT.sIx 7 7 none = 7) by decide) fun p1 hp1 => ?_
      walk_at "rd"
      refine rd_slTp (SqT.of (look_new hp1 h)) (ys := [.int (d.1 : Nat), .ref j, .int (d.2.2.2.1 : Nat), .int (d.2.2.2.2 : Nat)]) rfl (show ¬ (HT.sIx 7 0 (some 1) = 0 ∧ HT.sIx 7 7 (some 5) = 7) by decide) fun p2 hp2 => ?_
      have s2 : Same H (upd (upd H p1 (.tup [.int (markF ns), .str (SX.S (bitsF d ns T))])) p2 (.tup [.int (d.1 : Nat), .ref j, .int (d.2.2.2.1 : Nat), .int (d.2.2.2.2 : Nat)])) := (same_new hp1).trans (same_new hp2)
      walk_at "rd"
      refine use_islay (d := d) ⟨upd_same, s2 _ _ hj⟩ ok.1 ?_
      walk_at "rd"
      rw [decide_eq_true (show (0 : Int) ≤ markF ns ∧ markF ns ≤ 9973 - 1 by omega)]
      walk_at "rd"
      exact use_isb bb bl (q _ s2)
    ) only [↓lt_eq]
theorem ok_is_state {f : Addr} {fd : FuncData} {f_is_tables : Addr} {fd_is_tables : FuncData}    (D : Dn K mg "is_state" s_is_state ["value"] f fd) (bi : Bi mg) (G_is_tables : FnOk P w K mg base CX0 4 f_is_tables fd_is_tables ["value"] (spTblsG K)) (D_is_tables : Dn K mg "is_tables" s_is_tables ["value"] f_is_tables fd_is_tables)    : FnOk P w K mg base CX0 5 f fd ["value"] (spIsSt K) := by
  refine lt_out ?_
  simp (disch := with_unfolding_all
    refine D.F.ok sc_is_state (fun vs H Q E h => ?_) (fun cdv A outer s H vs Q E hr h => ?_)
    · obtain ⟨v, r, rfl, _⟩ := h
      rfl
    · obtain ⟨v, r, rfl, hr1, ok, q⟩ := h
      cases r with
      | st T =>
        obtain ⟨a, t, rfl, h, hT⟩ := hr1
        refine ⟨_, (pss_one (ps_ret (pe_and (pe_callB call_isi (by rfl) bi.isinstance_ (by decide +kernel) (pa_cons (pv 0) (pa_cons (pe_bltn (v := .ty "tuple") (by rfl) bi.tuple_ (by decide +kernel) rfl) pa_nil))) (pe_and (pe_cmpR op_eq (pe_callB cLen (by rfl) bi.len_ (by decide +kernel) (pa_cons (pv 0) pa_nil)) pe_int (nomark _)) (pe_and (pe_cmpR op_eq (pe_ix ix_tup (pv 0) pe_int (fun _ _ => rfl)) pe_str (nomark _)) (pe_one (pe_call G_is_tables (hr.mono (by first | decide | exact Nat.le_refl _)) (by rfl) D_is_tables.g D_is_tables.F.kp D_is_tables.b .nil pass0 (pa_cons (pe_ix ix_tup (pv 0) pe_int (fun _ _ => rfl)) pa_nil)))))))), ?_⟩
        refine rd_start (σ := [some (.ref a)]) rfl ?_
        walk_at "rd"
        refine if_yesD rfl ?_
        walk_at "rd"
        refine if_yesD rfl ?_
        walk_at "rd"
        exact use_tblsG hT ok.1 ok.2 q
      | fr d ns T =>
        obtain ⟨a, j, rfl, h, hj⟩ := hr1
        unfold FrAt at h
        refine ⟨_, (pss_one (ps_ret (pe_and (pe_callB call_isi (by rfl) bi.isinstance_ (by decide +kernel) (pa_cons (pv 0) (pa_cons (pe_bltn (v := .ty "tuple") (by rfl) bi.tuple_ (by decide +kernel) rfl) pa_nil))) (pe_and (pe_cmpR op_eq (pe_callB cLen (by rfl) bi.len_ (by decide +kernel) (pa_cons (pv 0) pa_nil)) pe_int (nomark _)) (pe_and (pe_cmpR op_eq (pe_ix ix_tup (pv 0) pe_int (fun _ _ => rfl)) pe_str (nomark _)) (pe_one (pe_call G_is_tables (hr.mono (by first | decide | exact Nat.le_refl _)) (by rfl) D_is_tables.g D_is_tables.F.kp D_is_tables.b .nil pass0 (pa_cons (pe_ix ix_tup (pv 0) pe_int (fun _ _ => rfl)) pa_nil)))))))), ?_⟩
        refine rd_start (σ := [some (.ref a)]) rfl ?_
        walk_at "rd"
        refine if_noD (fun z => absurd (show (7 : Int) = 2 from V.int.inj z) (by decide)) ?_
        exact q
    ) only [↓lt_eq]
theorem ok_is_record {f : Addr} {fd : FuncData} {f_is_state : Addr} {fd_is_state : FuncData} {f_is_frame : Addr} {fd_is_frame : FuncData}    (D : Dn K mg "is_record" s_is_record ["value"] f fd) (bi : Bi mg) (G_is_state : FnOk P w K mg base CX0 5 f_is_state fd_is_state ["value"] (spIsSt K)) (D_is_state : Dn K mg "is_state" s_is_state ["value"] f_is_state fd_is_state) (G_is_frame : FnOk P w K mg base CX0 5 f_is_frame fd_is_frame ["value"] (spIsFr K)) (D_is_frame : Dn K mg "is_frame" s_is_frame ["value"] f_is_frame fd_is_frame)    : FnOk P w K mg base CX0 6 f fd ["value"] (spIsRc K) := by
  refine lt_out ?_
  simp (disch := with_unfolding_all
    refine D.F.ok sc_is_record (fun vs H Q E h => ?_) (fun cdv A outer s H vs Q E hr h => ?_)
    · obtain ⟨v, r, rfl, _⟩ := h
      rfl
    · obtain ⟨v, r, rfl, hr1, ok, q⟩ := h
      refine ⟨_, (pss_one (ps_ret (pe_or (pe_call G_is_state (hr.mono (by first | decide | exact Nat.le_refl _)) (by rfl) D_is_state.g D_is_state.F.kp D_is_state.b .nil pass0 (pa_cons (pv 0) pa_nil)) (pe_one (pe_call G_is_frame (hr.mono (by first | decide | exact Nat.le_refl _)) (by rfl) D_is_frame.g D_is_frame.F.kp D_is_frame.b .nil pass0 (pa_cons (pv 0) pa_nil)))))), ?_⟩
      refine rd_start (σ := [some v]) rfl ?_
      walk_at "rd"
      refine use_isst hr1 ok ?_
      cases r with
      | st T =>
        walk_at "rd"
        exact q _ (Same.refl _)
      | fr d ns T =>
        refine rd_bl (if_no rfl ?_)
        walk_at "rd"
        exact use_isfr hr1 ok q
    ) only [↓lt_eq]
theorem ok_check_records {f : Addr} {fd : FuncData} {f_is_record : Addr} {fd_is_record : FuncData}    (D : Dn K mg "check_records" s_check_records ["records"] f fd) (bi : Bi mg) (G_is_record : FnOk P w K mg base CX0 6 f_is_record fd_is_record ["value"] (spIsRc K)) (D_is_record : Dn K mg "is_record" s_is_record ["value"] f_is_record fd_is_record)    : FnOk P w K mg base CX0 7 f fd ["records"] (spCkRc K) := by
  refine lt_out ?_
  simp (disch := with_unfolding_all
    refine D.F.ok sc_check_records (fun vs H Q E h => ?_) (fun cdv A outer s H vs Q E hr h => ?_)
    · obtain ⟨a, refs, rs, rfl, _⟩ := h
      rfl
    · obtain ⟨a, refs, rs, rfl, hS, hR, ok, q⟩ := h
      refine ⟨_, (pss_cons (ps_if (pt_not (pt_val (pe_callB call_isiT (by rfl) bi.isinstance_ (by decide +kernel) (pa_cons (pv 0) (pa_cons (pe_tup (pa_cons (pe_bltn (v := .ty "list") (by rfl) bi.list_ (by decide +kernel) rfl) (pa_cons (pe_bltn (v := .ty "tuple") (by rfl) bi.tuple_ (by decide +kernel) rfl) pa_nil))) pa_nil)))))
   (pss_one ps_never)
   pss_nil)
   (pss_one (ps_for PassesOwn.never rfl (pi_enum (by rfl) bi.enumerate_ (pa_cons (pv 0) pa_nil)) (pg_tup rfl (pgs_cons (pg_name (i := 1) sc_check_records.nd rfl (Or.inl rfl)) (pgs_cons (pg_name (i := 2) sc_check_records.nd rfl (Or.inl rfl)) pgs_nil)))
   (pss_one (ps_if (pt_not (pt_val (pe_call G_is_record (hr.mono (by first | decide | exact Nat.le_refl _)) (by rfl) D_is_record.g D_is_record.F.kp D_is_record.b .nil pass0 (pa_cons (pv 2) pa_nil))))
   (pss_one ps_never)
   pss_nil))))), ?_⟩
      refine rd_start (σ := [some (.ref a), none, none]) rfl ?_
      walk_at "rd"
      rename_i t ht
      refine isiT_lst (look_new ht hS) upd_same ?_
      walk_at "rd"
      refine rd_lpE (SqL.of (look_new ht hS)) ?_
      refine for_enum (xs := refs) (fun i σ H' => ∃ t u, σ = [some (.ref a), t, u] ∧ Same H H') ⟨none, none, rfl, same_new ht⟩ (fun i σ H1 _ hI => ?_) (fun i v σ H1 T hv hI hT => ?_) (fun σ H1 hI => ?_)
      · obtain ⟨t, u, rfl, hs⟩ := hI
        exact SqL.of (hs _ _ hS)
      · obtain ⟨t, u, rfl, hs⟩ := hI
        obtain ⟨r, rr, hv2, hdr, _⟩ := hR.get _ _ hv
        have hmem : r ∈ rs := List.mem_of_mem_drop (i := i) (by rw [hdr]; exact List.mem_cons_self)
        have hs2 := hs.trans (same_new (o := .tup [.int (i : Int), v]) hT)
        walk_at "rd"
        refine use_isrc (hv2.lk (.of hs2)) (ok _ hmem) fun H2 hs3 => ?_
        walk_at "rd"
        exact ⟨_, _, rfl, hs2.trans hs3⟩
      · obtain ⟨t, u, rfl, hs⟩ := hI
        walk_at "rd"
        exact q _ hs
    ) only [↓lt_eq]
theorem ok_check_within {f : Addr} {fd : FuncData} {f_is_within : Addr} {fd_is_within : FuncData}    (D : Dn K mg "check_within" s_check_within ["value", "low", "high"] f fd) (bi : Bi mg) (G_is_within : FnOk P w K mg base CX0 2 f_is_within fd_is_within ["value", "low", "high"] spWithin) (D_is_within : Dn K mg "is_within" s_is_within ["value", "low", "high"] f_is_within fd_is_within)    : FnOk P w K mg base CX0 3 f fd ["value", "low", "high"] spCkW := by
  refine lt_out ?_
  simp (disch := with_unfolding_all
    refine D.F.ok sc_check_within (fun vs H Q E h => ?_) (fun cdv A outer s H vs Q E hr h => ?_)
    · obtain ⟨i, lo, hi, rfl, _⟩ := h
      rfl
    · obtain ⟨i, lo, hi, rfl, h1, h2, q⟩ := h
      refine ⟨_, (pss_one (ps_if (pt_not (pt_val (pe_call G_is_within (hr.mono (by first | decide | exact Nat.le_refl _)) (by rfl) D_is_within.g D_is_within.F.kp D_is_within.b .nil pass0 (pa_cons (pv 0) (pa_cons (pv 1) (pa_cons (pv 2) pa_nil))))))
   (pss_one ps_never)
   pss_nil)), ?_⟩
      refine rd_start (σ := [some (.int i), some (.int lo), some (.int hi)]) rfl ?_
      walk_at "rd"
      refine rd_iteN (p := lo ≤ i ∧ i ≤ hi) (fun c => (c ⟨h1, h2⟩).elim) (fun c => ?_)
      exact q
    ) only [↓lt_eq]
theorem ok_check_integer {f : Addr} {fd : FuncData} {f_is_integer : Addr} {fd_is_integer : FuncData}    (D : Dn K mg "check_integer" s_check_integer ["value"] f fd) (bi : Bi mg) (G_is_integer : FnOk P w K mg base CX0 1 f_is_integer fd_is_integer ["value"] spIsI) (D_is_integer : Dn K mg "is_integer" s_is_integer ["value"] f_is_integer fd_is_integer)    : FnOk P w K mg base CX0 2 f fd ["value"] spCkI := by
  refine lt_out ?_
  simp (disch := with_unfolding_all
    refine D.F.ok sc_check_integer (fun vs H Q E h => ?_) (fun cdv A outer s H vs Q E hr h => ?_)
    · obtain ⟨i, rfl, _⟩ := h
      rfl
    · obtain ⟨i, rfl, q⟩ := h
      refine ⟨_, (pss_one (ps_if (pt_not (pt_val (pe_call G_is_integer (hr.mono (by first | decide | exact Nat.le_refl _)) (by rfl) D_is_integer.g D_is_integer.F.kp D_is_integer.b .nil pass0 (pa_cons (pv 0) pa_nil))))
   (pss_one ps_never)
   pss_nil)), ?_⟩
      refine rd_start (σ := [some (.int i)]) rfl ?_
      walk_at "rd"
      exact q
    ) only [↓lt_eq]
theorem ok_check_items {f : Addr} {fd : FuncData} {f_is_integer : Addr} {fd_is_integer : FuncData}    (D : Dn K mg "check_items" s_check_items ["values"] f fd) (bi : Bi mg) (G_is_integer : FnOk P w K mg base CX0 1 f_is_integer fd_is_integer ["value"] spIsI) (D_is_integer : Dn K mg "is_integer" s_is_integer ["value"] f_is_integer fd_is_integer)    : FnOk P w K mg base CX0 2 f fd ["values"] (spItems K) := by
  refine lt_out ?_
  simp (disch := with_unfolding_all
    refine D.F.ok sc_check_items (fun vs H Q E h => ?_) (fun cdv A outer s H vs Q E hr h => ?_)
    · obtain ⟨a, ns, rfl, _⟩ := h
      rfl
    · obtain ⟨a, ns, rfl, hS, q⟩ := h
      refine ⟨_, (pss_one (ps_for PassesOwn.never rfl (pi_enum (by rfl) bi.enumerate_ (pa_cons (pv 0) pa_nil)) (pg_tup rfl (pgs_cons (pg_name (i := 1) sc_check_items.nd rfl (Or.inl rfl)) (pgs_cons (pg_name (i := 2) sc_check_items.nd rfl (Or.inl rfl)) pgs_nil)))
   (pss_one (ps_if (pt_not (pt_val (pe_call G_is_integer (hr.mono (by first | decide | exact Nat.le_refl _)) (by rfl) D_is_integer.g D_is_integer.F.kp D_is_integer.b .nil pass0 (pa_cons (pv 2) pa_nil))))
   (pss_one ps_never)
   pss_nil)))), ?_⟩
      refine rd_start (σ := [some (.ref a), none, none]) rfl ?_
      walk_at "rd"
      refine rd_lpE hS ?_
      refine for_enum (xs := ns.map V.int) (fun i σ H' => ∃ t u, σ = [some (.ref a), t, u] ∧ Same H H') ⟨none, none, rfl, Same.refl _⟩ (fun i σ H1 _ hI => ?_) (fun i v σ H1 T hv hI hT => ?_) (fun σ H1 hI => ?_)
      · obtain ⟨t, u, rfl, hs⟩ := hI
        exact hs.seq hS
      · obtain ⟨t, u, rfl, hs⟩ := hI
        obtain ⟨z, rfl⟩ : ∃ z, v = .int z := by
          rw [List.getElem?_map] at hv
          cases g : ns[i]? with
          | none => rw [g] at hv; cases hv
          | some z => rw [g] at hv; exact ⟨z, (Option.some.inj hv).symm⟩
        walk_at "rd"
        exact ⟨_, _, rfl, hs.trans (same_new hT)⟩
      · obtain ⟨t, u, rfl, hs⟩ := hI
        walk_at "rd"
        exact q _ hs
    ) only [↓lt_eq]
theorem ok_check_block {f : Addr} {fd : FuncData} {f_check_items : Addr} {fd_check_items : FuncData}    (D : Dn K mg "check_block" s_check_block ["values", "least"] f fd) (bi : Bi mg) (G_check_items : FnOk P w K mg base CX0 2 f_check_items fd_check_items ["values"] (spItems K)) (D_check_items : Dn K mg "check_items" s_check_items ["values"] f_check_items fd_check_items)   (g_BLOCK_LIMIT : ∃ t, mg "BLOCK_LIMIT" = some (.int 64 t)) : FnOk P w K mg base CX0 3 f fd ["values", "least"] spBlock := by
  refine lt_out ?_
  simp (disch := with_unfolding_all
    refine D.F.ok sc_check_block (fun vs H Q E h => ?_) (fun cdv A outer s H vs Q E hr h => ?_)
    · obtain ⟨a, ns, least, rfl, _⟩ := h
      rfl
    · obtain ⟨a, ns, least, rfl, hS, h1, h2, q⟩ := h
      obtain ⟨t64, g_BLOCK_LIMIT⟩ := g_BLOCK_LIMIT
      refine ⟨_, (pss_cons (ps_if (PW.pt (pw_or (pt_not (pt_val (pe_callB call_isi (by rfl) bi.isinstance_ (by decide +kernel) (pa_cons (pv 0) (pa_cons (pe_bltn (v := .ty "list") (by rfl) bi.list_ (by decide +kernel) rfl) pa_nil))))) (pw_or1 (pt_not (pt_chain op_le op_le (pv 1) (pe_callB cLen (by rfl) bi.len_ (by decide +kernel) (pa_cons (pv 0) pa_nil)) (pe_glob (v := .int 64) (by rfl) g_BLOCK_LIMIT ⟨_, rfl⟩))))))
   (pss_one ps_never)
   pss_nil)
   (pss_one (ps_expr (pe_call G_check_items (hr.mono (by first | decide | exact Nat.le_refl _)) (by rfl) D_check_items.g D_check_items.F.kp D_check_items.b .nil pass0 (pa_cons (pv 0) pa_nil))))), ?_⟩
      refine rd_start (σ := [some (.ref a), some (.int least)]) rfl ?_
      walk_at "rd"
      refine if_yesD (by rw [List.length_map]; exact h1) ?_
      walk_at "rd"
      refine if_noN (by rw [List.length_map]; omega) ?_
      walk_at "rd"
      exact q _ (by assumption)
    ) only [↓lt_eq]
theorem ok_coarse_count {f : Addr} {fd : FuncData} {f_check_within : Addr} {fd_check_within : FuncData}    (D : Dn K mg "coarse_count" s_coarse_count ["length", "levels"] f fd) (bi : Bi mg) (G_check_within : FnOk P w K mg base CX0 3 f_check_within fd_check_within ["value", "low", "high"] spCkW) (D_check_within : Dn K mg "check_within" s_check_within ["value", "low", "high"] f_check_within fd_check_within)   (g_BLOCK_LIMIT : ∃ t, mg "BLOCK_LIMIT" = some (.int 64 t)) (g_LEVEL_LIMIT : ∃ t, mg "LEVEL_LIMIT" = some (.int 5 t)) : FnOk P w K mg base CX0 4 f fd ["length", "levels"] spCoarse := by
  refine lt_out ?_
  simp (disch := with_unfolding_all
    refine D.F.ok sc_coarse_count (fun vs H Q E h => ?_) (fun cdv A outer s H vs Q E hr h => ?_)
    · obtain ⟨n, k, rfl, _⟩ := h
      rfl
    · obtain ⟨n, k, rfl, h1, h2, h3, q⟩ := h
      obtain ⟨t1, g_BLOCK_LIMIT⟩ := g_BLOCK_LIMIT
      obtain ⟨t2, g_LEVEL_LIMIT⟩ := g_LEVEL_LIMIT
      refine ⟨_, (pss_cons (ps_expr (pe_call G_check_within (hr.mono (by first | decide | exact Nat.le_refl _)) (by rfl) D_check_within.g D_check_within.F.kp D_check_within.b .nil pass0 (pa_cons (pv 0) (pa_cons pe_int (pa_cons (pe_glob (v := .int 64) (by rfl) g_BLOCK_LIMIT ⟨_, rfl⟩) pa_nil)))))
   (pss_cons (ps_expr (pe_call G_check_within (hr.mono (by first | decide | exact Nat.le_refl _)) (by rfl) D_check_within.g D_check_within.F.kp D_check_within.b .nil pass0 (pa_cons (pv 1) (pa_cons pe_int (pa_cons (pe_glob (v := .int 5) (by rfl) g_LEVEL_LIMIT ⟨_, rfl⟩) pa_nil)))))
   (pss_cons (ps_set (i := 2) sc_coarse_count.nd rfl (Or.inl rfl) (pv 0))
   (pss_cons (ps_for PassesOwn.never rfl (pi_range1 (by rfl) bi.range_ (pa_cons (pv 1) pa_nil)) (pg_name (i := 3) sc_coarse_count.nd rfl (Or.inl rfl))
   (pss_one (ps_set (i := 2) sc_coarse_count.nd rfl (Or.inl rfl) (pe_op op_fdiv (pe_op op_add (pv 2) pe_int) pe_int))))
   (pss_one (ps_ret (pv 2))))))), ?_⟩
      refine rd_start (σ := [some (.int (n : Int)), some (.int (k : Int)), none, none]) rfl ?_
      walk_at "rd"
      refine for_range (lo := 0) (n := ((k : Nat) : Int).toNat) (fun i σ H' => ∃ t, σ = [some (.int (n : Int)), some (.int (k : Int)), some (.int (cc n i : Nat)), t] ∧ H' = H) ⟨none, rfl, rfl⟩ (fun i σ H1 hi hI => ?_) (fun σ H1 hI => ?_)
      · obtain ⟨t, rfl, rfl⟩ := hI
        walk_at "rd"
        refine ⟨some (.int (0 + (i : Int))), ?_, rfl⟩
        rw [show ((cc n (i + 1) : Nat) : Int) = ((cc n i : Nat) + 1) / 2 by show (((cc n i + 1) / 2 : Nat) : Int) = _; omega]
        rfl
      · obtain ⟨t, rfl, rfl⟩ := hI
        walk_at "rd"
        exact q
    ) only [↓lt_eq]
theorem ok_parameter {f : Addr} {fd : FuncData} {f_is_table : Addr} {fd_is_table : FuncData}    (D : Dn K mg "parameter" s_parameter ["table"] f fd) (bi : Bi mg) (G_is_table : FnOk P w K mg base CX0 3 f_is_table fd_is_table ["value"] (spTblG K)) (D_is_table : Dn K mg "is_table" s_is_table ["value"] f_is_table fd_is_table)    : FnOk P w K mg base CX0 4 f fd ["table"] (spParG K) := by
  refine lt_out ?_
  simp (disch := with_unfolding_all
    refine D.F.ok sc_parameter (fun vs H Q E h => ?_) (fun cdv A outer s H vs Q E hr h => ?_)
    · obtain ⟨a, t, m, rfl, _⟩ := h
      rfl
    · obtain ⟨a, t, m, rfl, h1, ok, q⟩ := h
      have L1 := h1.1
      refine ⟨_, (pss_cons (ps_if (pt_not (pt_val (pe_call G_is_table (hr.mono (by first | decide | exact Nat.le_refl _)) (by rfl) D_is_table.g D_is_table.F.kp D_is_table.b .nil pass0 (pa_cons (pv 0) pa_nil))))
   (pss_one ps_never)
   pss_nil)
   (pss_cons (ps_asg (pv 0) (pg_tup rfl (pgs_cons (pg_name (i := 1) sc_parameter.nd rfl (Or.inl rfl)) (pgs_cons (pg_name (i := 2) sc_parameter.nd rfl (Or.inl rfl)) pgs_nil))))
   (pss_cons (ps_set (i := 3) sc_parameter.nd rfl (Or.inl rfl) (pe_op op_fdiv (pe_op op_sub (pe_op op_add (pv 1) (pv 2)) pe_int) (pv 2)))
   (pss_one (ps_ret (pe_bits (pe_op op_sub (pe_callB (cMax rfl) (by rfl) bi.max_ (by decide +kernel) (pa_cons (pv 3) (pa_cons pe_int pa_nil))) pe_int))))))), ?_⟩
      refine rd_start (σ := [some (.ref a), none, none, none]) rfl ?_
      walk_at "rd"
      refine use_tblG h1 ok ?_
      obtain ⟨o1, o2, o3, o4⟩ := ok
      walk_at "rd"
      exact q
    ) only [↓lt_eq]
theorem ok_table_behind {f : Addr} {fd : FuncData}     (D : Dn K mg "table_behind" s_table_behind ["table", "code"] f fd) (bi : Bi mg)    (g_COUNT_LIMIT : ∃ t, mg "COUNT_LIMIT" = some (.int 15 t)) (g_HALVED_COUNT : ∃ t, mg "HALVED_COUNT" = some (.int 8 t)) : FnOk P w K mg base CX0 1 f fd ["table", "code"] (spBehind K) := by
  refine lt_out ?_
  simp (disch := with_unfolding_all
    refine D.F.ok sc_table_behind (fun vs H Q E h => ?_) (fun cdv A outer s H vs Q E hr h => ?_)
    · obtain ⟨a, t, m, u, rfl, _⟩ := h
      rfl
    · obtain ⟨a, t, m, u, rfl, h1, ok, q⟩ := h
      obtain ⟨t1, g_COUNT_LIMIT⟩ := g_COUNT_LIMIT
      obtain ⟨t2, g_HALVED_COUNT⟩ := g_HALVED_COUNT
      have L1 := h1.1
      refine ⟨_, (pss_cons (ps_par (i := 2) (j := 3) rfl sc_table_behind.nd rfl rfl (by decide) rfl rfl (pa_cons (pe_op op_add (pe_ix ix_tup (pv 0) pe_int (fun _ _ => rfl)) (pv 1)) (pa_cons (pe_op op_add (pe_ix ix_tup (pv 0) pe_int (fun _ _ => rfl)) pe_int) pa_nil)) rfl)
   (pss_cons (ps_if (pt_cmpR op_gt (pv 3) (pe_glob (v := .int 15) (by rfl) g_COUNT_LIMIT ⟨_, rfl⟩) (nomark _))
   (pss_one (ps_ret (pe_tup (pa_cons (pe_op op_fdiv (pv 2) pe_int) (pa_cons (pe_glob (v := .int 8) (by rfl) g_HALVED_COUNT ⟨_, rfl⟩) pa_nil)))))
   pss_nil)
   (pss_one (ps_ret (pe_tup (pa_cons (pv 2) (pa_cons (pv 3) pa_nil))))))), ?_⟩
      refine rd_start (σ := [some (.ref a), some (.int (u : Int)), none, none]) rfl ?_
      walk_at "rd"
      refine rd_iteD (fun c => ?_) (fun c => ?_)
      · walk_at "rd"
        rename_i p hp
        have e : tbB t u = ((t.1 + (u : Int)) / 2, 8) := if_pos c
        rw [e] at q
        exact q p hp
      · walk_at "rd"
        rename_i p hp
        have e : tbB t u = (t.1 + (u : Int), t.2 + 1) := if_neg c
        rw [e] at q
        exact q p hp
    ) only [↓lt_eq]
theorem ok_code_number {f : Addr} {fd : FuncData}     (D : Dn K mg "code_number" s_code_number ["number"] f fd) (bi : Bi mg)     : FnOk P w K mg base CX0 1 f fd ["number"] spCode := by
  refine lt_out ?_
  simp (disch := with_unfolding_all
    refine D.F.ok sc_code_number (fun vs H Q E h => ?_) (fun cdv A outer s H vs Q E hr h => ?_)
    · obtain ⟨n, rfl, _⟩ := h
      rfl
    · obtain ⟨n, rfl, q⟩ := h
      refine ⟨_, (pss_one (ps_ret (pe_ifExp (pt_cmpR op_ge (pv 0) pe_int (nomark _)) (pe_op op_mul pe_int (pv 0)) (pe_op op_sub (pe_op op_mul (pe_un un_neg pe_int) (pv 0)) pe_int)))), ?_⟩
      refine rd_start (σ := [some (.int n)]) rfl ?_
      walk_at "rd"
      refine rd_iteD (fun c => ?_) (fun c => ?_)
      · walk_at "rd"
        have e : codeU n = 2 * n := if_pos c
        rw [e] at q
        exact q
      · walk_at "rd"
        have e : codeU n = -2 * n - 1 := if_neg c
        rw [e] at q
        exact q
    ) only [↓lt_eq]
theorem ok_number_with {f : Addr} {fd : FuncData}     (D : Dn K mg "number_with" s_number_with ["code"] f fd) (bi : Bi mg)     : FnOk P w K mg base CX0 1 f fd ["code"] spNumW := by
  refine lt_out ?_
  simp (disch := with_unfolding_all
    refine D.F.ok sc_number_with (fun vs H Q E h => ?_) (fun cdv A outer s H vs Q E hr h => ?_)
    · obtain ⟨u, rfl, _⟩ := h
      rfl
    · obtain ⟨u, rfl, q⟩ := h
      refine ⟨_, (pss_one (ps_ret (pe_ifExp (pt_cmpR op_eq (pe_op op_mod (pv 0) pe_int) pe_int (nomark _)) (pe_op op_fdiv (pv 0) pe_int) (pe_op op_sub (pe_un un_neg (pe_op op_fdiv (pv 0) pe_int)) pe_int)))), ?_⟩
      refine rd_start (σ := [some (.int (u : Int))]) rfl ?_
      walk_at "rd"
      refine rd_iteD (fun c => ?_) (fun c => ?_)
      · have e : unU u = ((u / 2 : Nat) : Int) := if_pos (by have := V.int.inj c; omega)
        rw [e, ← half_nat] at q
        walk_at "rd"
        exact q
      · have e : unU u = -((u / 2 : Nat) : Int) - 1 := if_neg (fun z => c (congrArg V.int (by omega)))
        rw [e, ← half_nat] at q
        walk_at "rd"
        exact q
    ) only [↓lt_eq]
theorem ok_read_code {f : Addr} {fd : FuncData}     (D : Dn K mg "read_code" s_read_code ["bits", "place", "k"] f fd) (bi : Bi mg)    (g_LONG_FORM : ∃ t, mg "LONG_FORM" = some (.int 20 t)) : FnOk P w K mg base CX0 1 f fd ["bits", "place", "k"] spRdC := by
  refine lt_out ?_
  simp (disch := with_unfolding_all
    refine D.F.ok sc_read_code (fun vs H Q E h => ?_) (fun cdv A outer s H vs Q E hr h => ?_)
    · obtain ⟨l, pl, k, rfl, _⟩ := h
      rfl
    · obtain ⟨l, pl, k, rfl, hb, hl, hpl, hk, ho, q1, q2⟩ := h
      obtain ⟨t1, g_LONG_FORM⟩ := g_LONG_FORM
      refine ⟨_, (pss_cons (ps_set (i := 3) sc_read_code.nd rfl (Or.inl rfl) (pe_bm PySem.F.plainAttrs_str PySem.F.slot_str_find PySem.F.type_str_find mt_find3K (pv 0) (pa_cons pe_str (pa_cons (pv 1) pa_nil))))
   (pss_cons (ps_if (pt_cmpR op_lt (pv 3) pe_int (nomark _))
   (pss_one (ps_ret pe_non))
   pss_nil)
   (pss_cons (ps_set (i := 4) sc_read_code.nd rfl (Or.inl rfl) (pe_op op_sub (pv 3) (pv 1)))
   (pss_cons (ps_set (i := 5) sc_read_code.nd rfl (Or.inl rfl) (pe_ifExp (pt_cmpR op_lt (pv 4) (pe_glob (v := .int 20) (by rfl) g_LONG_FORM ⟨_, rfl⟩) (nomark _)) (pv 2) (pe_op op_add (pe_op op_sub (pv 4) (pe_glob (v := .int 20) (by rfl) g_LONG_FORM ⟨_, rfl⟩)) pe_int)))
   (pss_cons (ps_set (i := 6) sc_read_code.nd rfl (Or.inl rfl) (pe_op op_add (pe_op op_add (pv 3) pe_int) (pv 5)))
   (pss_cons (ps_if (pt_cmpR op_gt (pv 6) (pe_callB cLen (by rfl) bi.len_ (by decide +kernel) (pa_cons (pv 0) pa_nil)) (nomark _))
   (pss_one (ps_ret pe_non))
   pss_nil)
   (pss_cons (ps_set (i := 7) sc_read_code.nd rfl (Or.inl rfl) (pe_slice C8.sl_txt (pv 0) (po_some (pe_op op_add (pv 3) pe_int)) (po_some (pv 6))))
   (pss_cons (ps_set (i := 8) sc_read_code.nd rfl (Or.inl rfl) (pe_callTy call_intB (by rfl) bi.int_ (by decide +kernel) (pa_cons (pe_op op_addT pe_str (pv 7)) (pa_cons pe_int pa_nil))))
   (pss_cons (ps_if (pt_cmpR op_lt (pv 4) (pe_glob (v := .int 20) (by rfl) g_LONG_FORM ⟨_, rfl⟩) (nomark _))
   (pss_one (ps_ret (pe_tup (pa_cons (pe_op op_add (pe_op op_shl (pv 4) (pv 2)) (pv 8)) (pa_cons (pv 6) pa_nil)))))
   pss_nil)
   (pss_cons (ps_if (PW.pt (pw_or (pt_cmpR op_eq (pe_ix ix_str (pv 7) pe_int (fun _ _ => rfl)) pe_str (nomark _)) (pw_or1 (pt_cmpR op_lt (pe_op op_shr (pv 8) (pv 2)) (pe_glob (v := .int 20) (by rfl) g_LONG_FORM ⟨_, rfl⟩) (nomark _)))))
   (pss_one (ps_ret pe_non))
   pss_nil)
   (pss_one (ps_ret (pe_tup (pa_cons (pv 8) (pa_cons (pv 6) pa_nil))))))))))))))), ?_⟩
      refine rd_start (σ := [some (.str (SX.S l)), some (.int (pl : Int)), some (.int (k : Int)), none, none, none, none, none, none]) rfl ?_
      walk_at "rd"
      unfold rdC at q1 q2
      unfold fzI
      generalize onesL (l.drop pl) = o at ho q1 q2 ⊢
      by_cases hz : pl + o < l.length
      · rw [if_pos hz] at q1 q2 ⊢
        walk_at "rd"
        refine if_noD (by omega) ?_
        walk_at "rd"
        have eo : ((pl + o : Nat) : Int) - (pl : Int) = ((o : Nat) : Int) := by omega
        rw [eo]
        by_cases c : o < 20
        · rw [if_pos c] at q1 q2
          refine if_yesD (by omega) ?_
          walk_at "rd"
          rw [show ((pl + o : Nat) : Int) + 1 + (k : Int) = ((pl + o + 1 + k : Nat) : Int) by omega]
          by_cases d : l.length < pl + o + 1 + k
          · refine if_yesD (by omega) ?_
            walk_at "rd"
            exact q1 (by rw [if_pos d])
          · rw [if_neg d, if_pos c] at q2
            refine if_noD (by omega) ?_
            walk_at "rd"
            rw [show ((pl + o : Nat) : Int) + 1 = ((pl + o + 1 : Nat) : Int) by omega]
            refine rd_slSM (by omega) (by omega) (by omega) ?_
            rw [show pl + o + 1 + k - (pl + o + 1) = k by omega]
            have hdb : ∀ x ∈ (l.drop (pl + o + 1)).take k, IsB x := fun x hx => hb x (List.mem_of_mem_drop (List.mem_of_mem_take hx))
            have hdl : ((l.drop (pl + o + 1)).take k).length ≤ 600 := by rw [List.length_take]; omega
            generalize (l.drop (pl + o + 1)).take k = dg at q2 hdb hdl ⊢
            walk_at "rd"
            refine rd_intB (l := [48] ++ dg) (by simp) (by simp; omega) (fun x hx => ?_) ?_
            · rcases List.mem_append.mp hx with hx | hx
              · exact .inl (List.mem_singleton.mp hx)
              · exact hdb x hx
            rw [show valB ([48] ++ dg) = valB dg from valB_zero dg]
            walk_at "rd"
            refine if_yesD (by omega) ?_
            walk_at "rd"
            rename_i p hp
            rw [Int.toNat_natCast, show (o : Int) * 2 ^ k + (valB dg : Nat) = ((o * 2 ^ k + valB dg : Nat) : Int) by norm_cast]
            exact q2 _ _ rfl p hp
        · rw [if_neg c] at q1 q2
          refine if_noD (by omega) ?_
          walk_at "rd"
          rw [show ((pl + o : Nat) : Int) + 1 + ((o : Nat) - 20 + 1) = ((pl + o + 1 + (o - 19) : Nat) : Int) by omega]
          by_cases d : l.length < pl + o + 1 + (o - 19)
          · refine if_yesD (by omega) ?_
            walk_at "rd"
            exact q1 (by rw [if_pos d])
          · rw [if_neg d, if_neg c] at q1 q2
            refine if_noD (by omega) ?_
            walk_at "rd"
            rw [show ((pl + o : Nat) : Int) + 1 = ((pl + o + 1 : Nat) : Int) by omega]
            refine rd_slSM (by omega) (by omega) (by omega) ?_
            rw [show pl + o + 1 + (o - 19) - (pl + o + 1) = o - 19 by omega]
            have hdb : ∀ x ∈ (l.drop (pl + o + 1)).take (o - 19), IsB x := fun x hx => hb x (List.mem_of_mem_drop (List.mem_of_mem_take hx))
            have hdl : ((l.drop (pl + o + 1)).take (o - 19)).length ≤ 600 := by rw [List.length_take]; omega
            have hln : 0 < (l.drop (pl + o + 1)).length := by rw [List.length_drop]; omega
            have h0 : ((l.drop (pl + o + 1)).take (o - 19))[0]? = (l.drop (pl + o + 1))[0]? := by rw [List.getElem?_take, if_pos (by omega)]
            obtain ⟨ch, hch⟩ : ∃ ch, (l.drop (pl + o + 1))[0]? = some ch := ⟨_, List.getElem?_eq_getElem hln⟩
            rw [hch] at h0 q1 q2
            generalize (l.drop (pl + o + 1)).take (o - 19) = dg at q1 q2 hdb hdl h0 ⊢
            walk_at "rd"
            refine rd_intB (l := [48] ++ dg) (by simp) (by simp; omega) (fun x hx => ?_) ?_
            · rcases List.mem_append.mp hx with hx | hx
              · exact .inl (List.mem_singleton.mp hx)
              · exact hdb x hx
            rw [show valB ([48] ++ dg) = valB dg from valB_zero dg]
            walk_at "rd"
            refine if_noD (by omega) ?_
            walk_at "rd"
            refine rd_ixS (i := 0) rfl (by omega) h0 ?_
            walk_at "rd"
            by_cases z : ch = 48
            · subst z
              refine if_yesD (congrArg V.str e_0.symm) ?_
              walk_at "rd"
              exact q1 (by rw [if_pos (.inl rfl)])
            · have z2 : ¬ V.str (SX.S [ch]) = V.str (Str.ofString "0") := fun e => z (by
                rw [e_0] at e
                exact (List.cons.inj (SX.S_inj (V.str.inj e))).1)
              refine if_noD z2 ?_
              walk_at "rd"
              by_cases y : valB dg / 2 ^ k < 20
              · refine if_yesD (by omega) ?_
                walk_at "rd"
                exact q1 (by rw [if_pos (.inr y)])
              · refine if_noD (by omega) ?_
                walk_at "rd"
                rename_i p hp
                rw [if_neg (by rintro (e | e); exact z (Option.some.inj e); exact y e)] at q2
                exact q2 _ _ rfl p hp
      · rw [if_neg hz] at q1 ⊢
        walk_at "rd"
        refine if_yesD (by decide) ?_
        walk_at "rd"
        exact q1 rfl
    ) only [↓lt_eq]
theorem ok_check_coding {f : Addr} {fd : FuncData} {f_check_within : Addr} {fd_check_within : FuncData} {f_is_tables : Addr} {fd_is_tables : FuncData}    (D : Dn K mg "check_coding" s_check_coding ["length", "coarse", "tables"] f fd) (bi : Bi mg) (G_check_within : FnOk P w K mg base CX0 3 f_check_within fd_check_within ["value", "low", "high"] spCkW) (D_check_within : Dn K mg "check_within" s_check_within ["value", "low", "high"] f_check_within fd_check_within) (G_is_tables : FnOk P w K mg base CX0 4 f_is_tables fd_is_tables ["value"] (spTblsG K)) (D_is_tables : Dn K mg "is_tables" s_is_tables ["value"] f_is_tables fd_is_tables)    : FnOk P w K mg base CX0 5 f fd ["length", "coarse", "tables"] (spCoding K) := by
  refine lt_out ?_
  simp (disch := with_unfolding_all
    refine D.F.ok sc_check_coding (fun vs H Q E h => ?_) (fun cdv A outer s H vs Q E hr h => ?_)
    · obtain ⟨n, first, a, T, m, rfl, _⟩ := h
      rfl
    · obtain ⟨n, first, a, T, m, rfl, h1, h2, o1, o2, q⟩ := h
      refine ⟨_, (pss_cons (ps_expr (pe_call G_check_within (hr.mono (by first | decide | exact Nat.le_refl _)) (by rfl) D_check_within.g D_check_within.F.kp D_check_within.b .nil pass0 (pa_cons (pv 1) (pa_cons pe_int (pa_cons (pv 0) pa_nil)))))
   (pss_one (ps_if (pt_not (pt_val (pe_call G_is_tables (hr.mono (by first | decide | exact Nat.le_refl _)) (by rfl) D_is_tables.g D_is_tables.F.kp D_is_tables.b .nil pass0 (pa_cons (pv 2) pa_nil))))
   (pss_one ps_never)
   pss_nil))), ?_⟩
      refine rd_start (σ := [some (.int (n : Int)), some (.int (first : Int)), some (.ref a)]) rfl ?_
      walk_at "rd"
      refine use_tblsG h2 o1 o2 ?_
      walk_at "rd"
      exact q
    ) only [↓lt_eq]
theorem ok_read_numbers {f : Addr} {fd : FuncData} {f_check_within : Addr} {fd_check_within : FuncData} {f_check_coding : Addr} {fd_check_coding : FuncData} {f_parameter : Addr} {fd_parameter : FuncData} {f_read_code : Addr} {fd_read_code : FuncData} {f_number_with : Addr} {fd_number_with : FuncData} {f_table_behind : Addr} {fd_table_behind : FuncData}    (D : Dn K mg "read_numbers" s_read_numbers ["bits", "length", "coarse", "tables"] f fd) (bi : Bi mg) (G_check_within : FnOk P w K mg base CX0 3 f_check_within fd_check_within ["value", "low", "high"] spCkW) (D_check_within : Dn K mg "check_within" s_check_within ["value", "low", "high"] f_check_within fd_check_within) (G_check_coding : FnOk P w K mg base CX0 5 f_check_coding fd_check_coding ["length", "coarse", "tables"] (spCoding K)) (D_check_coding : Dn K mg "check_coding" s_check_coding ["length", "coarse", "tables"] f_check_coding fd_check_coding) (G_parameter : FnOk P w K mg base CX0 4 f_parameter fd_parameter ["table"] (spParG K)) (D_parameter : Dn K mg "parameter" s_parameter ["table"] f_parameter fd_parameter) (G_read_code : FnOk P w K mg base CX0 1 f_read_code fd_read_code ["bits", "place", "k"] spRdC) (D_read_code : Dn K mg "read_code" s_read_code ["bits", "place", "k"] f_read_code fd_read_code) (G_number_with : FnOk P w K mg base CX0 1 f_number_with fd_number_with ["code"] spNumW) (D_number_with : Dn K mg "number_with" s_number_with ["code"] f_number_with fd_number_with) (G_table_behind : FnOk P w K mg base CX0 1 f_table_behind fd_table_behind ["table", "code"] (spBehind K)) (D_table_behind : Dn K mg "table_behind" s_table_behind ["table", "code"] f_table_behind fd_table_behind)   (g_BLOCK_LIMIT : ∃ t, mg "BLOCK_LIMIT" = some (.int 64 t)) : FnOk P w K mg base CX0 6 f fd ["bits", "length", "coarse", "tables"] (spRd K) := by
  refine lt_out ?_
  simp (disch := with_unfolding_all
    refine D.F.ok sc_read_numbers (fun vs H Q E h => ?_) (fun cdv A outer s H vs Q E hr h => ?_)
    · obtain ⟨ns, first, b, T, rfl, _⟩ := h
      rfl
    · obtain ⟨ns, first, b, T, rfl, hl, hf, hn, hT, o1, o2, q⟩ := h
      obtain ⟨t64, g_BLOCK_LIMIT⟩ := g_BLOCK_LIMIT
      have hbin : ∀ c ∈ (wst ns first T ns.length).1.flatten, IsB c := wst_bin ns first T ns.length
      have hfl := wst_flat (first := first) hn o1 o2 ns.length hl
      have hfl2 : (wst ns first T ns.length).1.flatten.length ≤ 1000000 := by omega
      refine ⟨_, (pss_cons (ps_expr (pe_call G_check_within (hr.mono (by first | decide | exact Nat.le_refl _)) (by rfl) D_check_within.g D_check_within.F.kp D_check_within.b .nil pass0 (pa_cons (pv 1) (pa_cons pe_int (pa_cons (pe_glob (v := .int 64) (by rfl) g_BLOCK_LIMIT ⟨_, rfl⟩) pa_nil)))))
   (pss_cons (ps_expr (pe_call G_check_coding (hr.mono (by first | decide | exact Nat.le_refl _)) (by rfl) D_check_coding.g D_check_coding.F.kp D_check_coding.b .nil pass0 (pa_cons (pv 1) (pa_cons (pv 2) (pa_cons (pv 3) pa_nil)))))
   (pss_cons (ps_if (PW.pt (pw_or (pt_not (pt_val (pe_callB call_isi (by rfl) bi.isinstance_ (by decide +kernel) (pa_cons (pv 0) (pa_cons (pe_bltn (v := .ty "str") (by rfl) bi.str_ (by decide +kernel) rfl) pa_nil))))) (pw_or1 (pt_cmpR op_ne (pe_bm PySem.F.plainAttrs_str PySem.F.slot_str_strip PySem.F.type_str_strip mt_stripK (pv 0) (pa_cons pe_str pa_nil)) pe_str (nomark _)))))
   (pss_one (ps_ret pe_non))
   pss_nil)
   (pss_cons (ps_set (i := 4) sc_read_numbers.nd rfl (Or.inl rfl) (pe_callTy cList (by rfl) bi.list_ (by decide +kernel) (pa_cons (pv 3) pa_nil)))
   (pss_cons (ps_set (i := 5) sc_read_numbers.nd rfl (Or.inl rfl) (pe_lst pa_nil))
   (pss_cons (ps_set (i := 6) sc_read_numbers.nd rfl (Or.inl rfl) pe_int)
   (pss_cons (ps_for PassesOwn.never rfl (pi_range1 (by rfl) bi.range_ (pa_cons (pv 1) pa_nil)) (pg_name (i := 7) sc_read_numbers.nd rfl (Or.inl rfl))
   (pss_cons (ps_set (i := 8) sc_read_numbers.nd rfl (Or.inl rfl) (pe_ifExp (pt_cmpR op_lt (pv 7) (pv 2) (nomark _)) pe_int pe_int))
   (pss_cons (ps_set (i := 9) sc_read_numbers.nd rfl (Or.inl rfl) (pe_call G_read_code (hr.mono (by first | decide | exact Nat.le_refl _)) (by rfl) D_read_code.g D_read_code.F.kp D_read_code.b .nil pass0 (pa_cons (pv 0) (pa_cons (pv 6) (pa_cons (pe_call G_parameter (hr.mono (by first | decide | exact Nat.le_refl _)) (by rfl) D_parameter.g D_parameter.F.kp D_parameter.b .nil pass0 (pa_cons (pe_ix ix_list (pv 4) (pv 8) (fun _ _ => rfl)) pa_nil)) pa_nil)))))
   (pss_cons (ps_if (pt_cmpR cIsN (pv 9) pe_non (nomark _))
   (pss_one (ps_ret pe_non))
   pss_nil)
   (pss_cons (ps_asg (pv 9) (pg_tup rfl (pgs_cons (pg_name (i := 10) sc_read_numbers.nd rfl (Or.inl rfl)) (pgs_cons (pg_name (i := 6) sc_read_numbers.nd rfl (Or.inl rfl)) pgs_nil))))
   (pss_cons (ps_expr (pe_bm PySem.F.plainAttrs_list PySem.F.slot_list_append PySem.F.type_list_append mt_append (pv 5) (pa_cons (pe_call G_number_with (hr.mono (by first | decide | exact Nat.le_refl _)) (by rfl) D_number_with.g D_number_with.F.kp D_number_with.b .nil pass0 (pa_cons (pv 10) pa_nil)) pa_nil)))
   (pss_one (ps_asg (pe_call G_table_behind (hr.mono (by first | decide | exact Nat.le_refl _)) (by rfl) D_table_behind.g D_table_behind.F.kp D_table_behind.b .nil pass0 (pa_cons (pe_ix ix_list (pv 4) (pv 8) (fun _ _ => rfl)) (pa_cons (pv 10) pa_nil))) (pg_sub (pv 4) (pv 8) set_list)))))))))
   (pss_cons (ps_if (pt_cmpR op_ne (pv 6) (pe_callB cLen (by rfl) bi.len_ (by decide +kernel) (pa_cons (pv 0) pa_nil)) (nomark _))
   (pss_one (ps_ret pe_non))
   pss_nil)
   (pss_one (ps_ret (pe_tup (pa_cons (pv 5) (pa_cons (pe_callTy cTuple (by rfl) bi.tuple_ (by decide +kernel) (pa_cons (pv 4) pa_nil)) pa_nil))))))))))))), ?_⟩
      refine rd_start (σ := [some (.str (SX.S (wst ns first T ns.length).1.flatten)), some (.int (ns.length : Nat)), some (.int (first : Int)), some (.ref b), none, none, none, none, none, none, none]) rfl ?_
      walk_at "rd"
      refine use_coding hf hT o1 o2 ?_
      obtain ⟨r0, r1, h0, h1, h2⟩ := hT
      walk_at "rd"
      refine if_noN (congrArg V.str e_empty.symm) ?_
      walk_at "rd"
      refine rd_listQ h0.1 fun p hp => ?_
      walk_at "rd"
      rename_i w hw
      have hs2 : Same H (upd (upd H p (.lst [.ref r0, .ref r1])) w (.lst [])) := (same_new hp).trans (same_new hw)
      have hwn : H w = none := (same_new hp).free hw
      have hpw : p ≠ w := ne_of_none upd_same hw
      have hwp := hpw.symm
      refine for_range (lo := 0) (n := ((ns.length : Nat) : Int).toNat) (fun i σ H' => ∃ r0 r1 x7 x8 x9 x10, σ = [some (.str (SX.S (wst ns first T ns.length).1.flatten)), some (.int (ns.length : Nat)), some (.int (first : Int)), some (.ref b), some (.ref p), some (.ref w), some (.int (((wst ns first T i).1.flatten.length : Nat) : Int)), x7, x8, x9, x10] ∧ H' p = some (.lst [.ref r0, .ref r1]) ∧ H' w = some (.lst ((ns.take i).map V.int)) ∧ TbV K H' r0 (wst ns first T i).2.1 ∧ TbV K H' r1 (wst ns first T i).2.2 ∧ Same H H') ⟨r0, r1, none, none, none, none, rfl, look_new hw upd_same, upd_same, (h1.lk (.new hp)).lk (.new hw), (h2.lk (.new hp)).lk (.new hw), hs2⟩ (fun i σ H' hi hI => ?_) (fun σ H' hI => ?_)
      · obtain ⟨r0, r1, x7, x8, x9, x10, rfl, h3, h3w, h4, h5, hs⟩ := hI
        rw [Int.toNat_natCast] at hi
        obtain ⟨k1, k2⟩ := wst_ok (first := first) hn o1 o2 i (by omega)
        have bnd : (10 ^ 58 + (i : Int) * 10 ^ 56) < 10 ^ 60 := by omega
        have hz := getD_some (List.getElem?_eq_getElem hi)
        have htk : ns.take (i + 1) = ns.take i ++ [ns.getD i 0] := by rw [hz, List.take_add_one, List.getElem?_eq_getElem hi]; rfl
        obtain ⟨post, hpost⟩ := wst_split ns first T (i + 1) ns.length hi
        have hpl : (wst ns first T i).1.flatten.length ≤ (wst ns first T ns.length).1.flatten.length := by
          obtain ⟨post2, e⟩ := wst_split ns first T i ns.length (by omega)
          rw [e, List.length_append]
          omega
        rw [show (0 : Int) + (i : Int) = ((i : Nat) : Int) by omega]
        walk_at "rd"
        refine rd_iteD (fun c => ?_) (fun c => ?_)
        · have c := Int.ofNat_lt.mp c
          walk_at "rd"
          refine use_parG h4 k1 ?_
          walk_at "rd"
          have hpp := par_leG k1 bnd
          have hw1 : (wst ns first T ns.length).1.flatten = (wst ns first T i).1.flatten ++ (encB (uOf (ns.getD i 0)) (par (wst ns first T i).2.1.1 (wst ns first T i).2.1.2) ++ post) := by
            rw [hpost, wst_lo c, List.flatten_append, List.append_assoc]
            simp
          have hrd := rdC_good (wst ns first T i).1.flatten post (uOf (ns.getD i 0)) (par (wst ns first T i).2.1.1 (wst ns first T i).2.1.2)
          rw [← hw1] at hrd
          have hon : onesL ((wst ns first T ns.length).1.flatten.drop (wst ns first T i).1.flatten.length) ≤ 600 := by
            rw [hw1, List.drop_left]
            exact ones_enc _ _ _ (nb_small (uOf_getD hn i))
          refine use_rdC hbin hfl2 hpl (by omega) hon hrd fun p1 hp1 => ?_
          walk_at "rd"
          refine if_noD (fun z => V.noConfusion z) ?_
          have hlt : (ns.take i).length ≤ 1000 := by rw [List.length_take]; omega
          have hl1 : (wst ns first T (i + 1)).1.flatten.length = (wst ns first T i).1.flatten.length + (encB (uOf (ns.getD i 0)) (par (wst ns first T i).2.1.1 (wst ns first T i).2.1.2)).length := by
            rw [wst_lo c, List.flatten_append, List.length_append]
            simp
          walk_at "rd"
          rw [unU_uOf]
          walk_at "rd"
          have u3 := look_new (o := .tup [.int ((uOf (ns.getD i 0) : Nat) : Int), .int (((wst ns first T i).1.flatten.length + (encB (uOf (ns.getD i 0)) (par (wst ns first T i).2.1.1 (wst ns first T i).2.1.2)).length : Nat) : Int)]) hp1 h3
          have u3w := look_new (o := .tup [.int ((uOf (ns.getD i 0) : Nat) : Int), .int (((wst ns first T i).1.flatten.length + (encB (uOf (ns.getD i 0)) (par (wst ns first T i).2.1.1 (wst ns first T i).2.1.2)).length : Nat) : Int)]) hp1 h3w
          have v3 := look_upd (o := .lst ((ns.take i ++ [ns.getD i 0]).map V.int)) hpw u3
          have v4 : TbV K _ r0 (wst ns first T i).2.1 := TbV.lk (LK.at (o := .lst ((ns.take i ++ [ns.getD i 0]).map V.int)) u3w) (h4.lk (.new hp1))
          have v5 : TbV K _ r1 (wst ns first T i).2.2 := TbV.lk (LK.at (o := .lst ((ns.take i ++ [ns.getD i 0]).map V.int)) u3w) (h5.lk (.new hp1))
          refine use_behind v4 k1 fun p2 hp2 => ?_
          walk_at "rd"
          rw [hl1, wst_lo c, htk]
          refine ⟨p2, r1, _, _, _, _, rfl, upd_same, ?_, ?_, ?_, ?_⟩
          · rw [upd_ne hwp, upd_ne (ne_of_none upd_same hp2), upd_same]
          · exact TbV.lk (LK.at (look_new hp2 v3)) (TbV.of upd_same)
          · exact TbV.lk (LK.at (look_new hp2 v3)) (TbV.lk (LK.new hp2) v5)
          · intro b2 x e
            rw [upd_ne (ne_of_none e hp)]
            refine look_new hp2 ?_
            rw [upd_ne (ne_of_none e hwn)]
            exact look_new hp1 (hs _ _ e)
        · have c : ¬ i < first := fun z => c (Int.ofNat_lt.mpr z)
          walk_at "rd"
          refine use_parG h5 k2 ?_
          walk_at "rd"
          have hpp := par_leG k2 bnd
          have hw1 : (wst ns first T ns.length).1.flatten = (wst ns first T i).1.flatten ++ (encB (uOf (ns.getD i 0)) (par (wst ns first T i).2.2.1 (wst ns first T i).2.2.2) ++ post) := by
            rw [hpost, wst_hi c, List.flatten_append, List.append_assoc]
            simp
          have hrd := rdC_good (wst ns first T i).1.flatten post (uOf (ns.getD i 0)) (par (wst ns first T i).2.2.1 (wst ns first T i).2.2.2)
          rw [← hw1] at hrd
          have hon : onesL ((wst ns first T ns.length).1.flatten.drop (wst ns first T i).1.flatten.length) ≤ 600 := by
            rw [hw1, List.drop_left]
            exact ones_enc _ _ _ (nb_small (uOf_getD hn i))
          refine use_rdC hbin hfl2 hpl (by omega) hon hrd fun p1 hp1 => ?_
          walk_at "rd"
          refine if_noD (fun z => V.noConfusion z) ?_
          have hlt : (ns.take i).length ≤ 1000 := by rw [List.length_take]; omega
          have hl1 : (wst ns first T (i + 1)).1.flatten.length = (wst ns first T i).1.flatten.length + (encB (uOf (ns.getD i 0)) (par (wst ns first T i).2.2.1 (wst ns first T i).2.2.2)).length := by
            rw [wst_hi c, List.flatten_append, List.length_append]
            simp
          walk_at "rd"
          rw [unU_uOf]
          walk_at "rd"
          have u3 := look_new (o := .tup [.int ((uOf (ns.getD i 0) : Nat) : Int), .int (((wst ns first T i).1.flatten.length + (encB (uOf (ns.getD i 0)) (par (wst ns first T i).2.2.1 (wst ns first T i).2.2.2)).length : Nat) : Int)]) hp1 h3
          have u3w := look_new (o := .tup [.int ((uOf (ns.getD i 0) : Nat) : Int), .int (((wst ns first T i).1.flatten.length + (encB (uOf (ns.getD i 0)) (par (wst ns first T i).2.2.1 (wst ns first T i).2.2.2)).length : Nat) : Int)]) hp1 h3w
          have v3 := look_upd (o := .lst ((ns.take i ++ [ns.getD i 0]).map V.int)) hpw u3
          have v4 : TbV K _ r0 (wst ns first T i).2.1 := TbV.lk (LK.at (o := .lst ((ns.take i ++ [ns.getD i 0]).map V.int)) u3w) (h4.lk (.new hp1))
          have v5 : TbV K _ r1 (wst ns first T i).2.2 := TbV.lk (LK.at (o := .lst ((ns.take i ++ [ns.getD i 0]).map V.int)) u3w) (h5.lk (.new hp1))
          refine use_behind v5 k2 fun p2 hp2 => ?_
          walk_at "rd"
          rw [hl1, wst_hi c, htk]
          refine ⟨r0, p2, _, _, _, _, rfl, upd_same, ?_, ?_, ?_, ?_⟩
          · rw [upd_ne hwp, upd_ne (ne_of_none upd_same hp2), upd_same]
          · exact TbV.lk (LK.at (look_new hp2 v3)) (TbV.lk (LK.new hp2) v4)
          · exact TbV.lk (LK.at (look_new hp2 v3)) (TbV.of upd_same)
          · intro b2 x e
            rw [upd_ne (ne_of_none e hp)]
            refine look_new hp2 ?_
            rw [upd_ne (ne_of_none e hwn)]
            exact look_new hp1 (hs _ _ e)
      · obtain ⟨r0, r1, x7, x8, x9, x10, rfl, h3, h3w, h4, h5, hs⟩ := hI
        rw [Int.toNat_natCast] at *
        rw [List.take_length] at h3w
        walk_at "rd"
        refine if_noN rfl ?_
        walk_at "rd"
        rename_i q1 hq1 p1 hp1
        refine q p1 w q1 _ ((hs.trans (same_new hq1)).trans (same_new hp1)) ((hs.trans (same_new hq1)).free hp1) upd_same (look_new hp1 (look_new hq1 h3w)) ⟨r0, r1, .of (look_new hp1 upd_same), (h4.lk (.new hq1)).lk (.new hp1), (h5.lk (.new hq1)).lk (.new hp1)⟩
    ) only [↓lt_eq]
theorem ok_mark_of {f : Addr} {fd : FuncData} {f_check_block : Addr} {fd_check_block : FuncData} {f_code_number : Addr} {fd_code_number : FuncData}    (D : Dn K mg "mark_of" s_mark_of ["numbers"] f fd) (bi : Bi mg) (G_check_block : FnOk P w K mg base CX0 3 f_check_block fd_check_block ["values", "least"] spBlock) (D_check_block : Dn K mg "check_block" s_check_block ["values", "least"] f_check_block fd_check_block) (G_code_number : FnOk P w K mg base CX0 1 f_code_number fd_code_number ["number"] spCode) (D_code_number : Dn K mg "code_number" s_code_number ["number"] f_code_number fd_code_number)   (g_MARK_FACTOR : ∃ t, mg "MARK_FACTOR" = some (.int 31 t)) (g_MARK_MODULUS : ∃ t, mg "MARK_MODULUS" = some (.int 9973 t)) : FnOk P w K mg base CX0 4 f fd ["numbers"] spMark := by
  refine lt_out ?_
  simp (disch := with_unfolding_all
    refine D.F.ok sc_mark_of (fun vs H Q E h => ?_) (fun cdv A outer s H vs Q E hr h => ?_)
    · obtain ⟨a, ns, rfl, _⟩ := h
      rfl
    · obtain ⟨a, ns, rfl, hS, hl, q⟩ := h
      obtain ⟨tf, g_MARK_FACTOR⟩ := g_MARK_FACTOR
      obtain ⟨tm, g_MARK_MODULUS⟩ := g_MARK_MODULUS
      refine ⟨_, (pss_cons (ps_expr (pe_call G_check_block (hr.mono (by first | decide | exact Nat.le_refl _)) (by rfl) D_check_block.g D_check_block.F.kp D_check_block.b .nil pass0 (pa_cons (pv 0) (pa_cons pe_int pa_nil))))
   (pss_cons (ps_set (i := 1) sc_mark_of.nd rfl (Or.inl rfl) pe_int)
   (pss_cons (ps_for PassesOwn.never rfl (pi_list (pv 0)) (pg_name (i := 2) sc_mark_of.nd rfl (Or.inl rfl))
   (pss_one (ps_set (i := 1) sc_mark_of.nd rfl (Or.inl rfl) (pe_op op_mod (pe_op op_add (pe_op op_mul (pv 1) (pe_glob (v := .int 31) (by rfl) g_MARK_FACTOR ⟨_, rfl⟩)) (pe_call G_code_number (hr.mono (by first | decide | exact Nat.le_refl _)) (by rfl) D_code_number.g D_code_number.F.kp D_code_number.b .nil pass0 (pa_cons (pv 2) pa_nil))) (pe_glob (v := .int 9973) (by rfl) g_MARK_MODULUS ⟨_, rfl⟩)))))
   (pss_one (ps_ret (pv 1)))))), ?_⟩
      refine rd_start (σ := [some (.ref a), none, none]) rfl ?_
      walk_at "rd"
      refine' rd_lpL (xs := ns.map V.int) ?k1 ?_
      (case k1 => exact SqL.of (by walk_at "hg"))
      refine for_list (xs := ns.map V.int) (fun i σ H' => ∃ t, σ = [some (.ref a), some (.int (markF (ns.take i))), t] ∧ Same H H') ⟨none, rfl, by walk_at "sm"⟩ (fun i σ H1 _ hI => ?_) (fun i v σ H1 hv hI => ?_) (fun σ H1 hI => ?_)
      · obtain ⟨t, rfl, hs⟩ := hI
        exact hs.seq (SqL.of hS)
      · obtain ⟨t, rfl, hs⟩ := hI
        obtain ⟨z, rfl, hz⟩ : ∃ z, v = .int z ∧ ns[i]? = some z := by
          rw [List.getElem?_map] at hv
          cases g : ns[i]? with
          | none => rw [g] at hv; cases hv
          | some z => rw [g] at hv; exact ⟨z, (Option.some.inj hv).symm, rfl⟩
        have hb := markF_bound (ns.take i)
        walk_at "rd"
        refine ⟨some (.int z), ?_, hs⟩
        rw [show ns.take (i + 1) = ns.take i ++ [z] by rw [List.take_add_one, hz]; rfl, markF_snoc]
        rfl
      · obtain ⟨t, rfl, hs⟩ := hI
        walk_at "rd"
        rw [List.take_of_length_le (by rw [List.length_map]; exact Nat.le_refl _)]
        exact q _ hs
    ) only [↓lt_eq]
theorem ok_read_frame {f : Addr} {fd : FuncData} {f_read_numbers : Addr} {fd_read_numbers : FuncData} {f_coarse_count : Addr} {fd_coarse_count : FuncData} {f_mark_of : Addr} {fd_mark_of : FuncData}    (D : Dn K mg "read_frame" s_read_frame ["record", "tables"] f fd) (bi : Bi mg) (G_read_numbers : FnOk P w K mg base CX0 6 f_read_numbers fd_read_numbers ["bits", "length", "coarse", "tables"] (spRd K)) (D_read_numbers : Dn K mg "read_numbers" s_read_numbers ["bits", "length", "coarse", "tables"] f_read_numbers fd_read_numbers) (G_coarse_count : FnOk P w K mg base CX0 4 f_coarse_count fd_coarse_count ["length", "levels"] spCoarse) (D_coarse_count : Dn K mg "coarse_count" s_coarse_count ["length", "levels"] f_coarse_count fd_coarse_count) (G_mark_of : FnOk P w K mg base CX0 4 f_mark_of fd_mark_of ["numbers"] spMark) (D_mark_of : Dn K mg "mark_of" s_mark_of ["numbers"] f_mark_of fd_mark_of)    : FnOk P w K mg base CX0 7 f fd ["record", "tables"] (spRf K) := by
  refine lt_out ?_
  simp (disch := with_unfolding_all
    refine D.F.ok sc_read_frame (fun vs H Q E h => ?_) (fun cdv A outer s H vs Q E hr h => ?_)
    · obtain ⟨v, d, ns, T, t, rfl, _⟩ := h
      rfl
    · obtain ⟨v, d, ns, T, t, rfl, ⟨a, j, rfl, h, hj⟩, ok, hT, q⟩ := h
      unfold FrAt at h
      obtain ⟨hok, hl, hn, o1, o2⟩ := ok
      obtain ⟨k1, k2, k3, k4, k5, k6, k7, k8⟩ := hok
      refine ⟨_, (pss_cons (ps_asg (pe_slice sl_tup (pv 0) (po_some pe_int) po_none) (pg_tup rfl (pgs_cons (pg_name (i := 2) sc_read_frame.nd rfl (Or.inl rfl)) (pgs_cons (pg_name (i := 3) sc_read_frame.nd rfl (Or.inl rfl)) (pgs_cons (pg_name (i := 4) sc_read_frame.nd rfl (Or.inl rfl)) (pgs_cons (pg_name (i := 5) sc_read_frame.nd rfl (Or.inl rfl)) (pgs_cons (pg_name (i := 6) sc_read_frame.nd rfl (Or.inl rfl)) (pgs_cons (pg_name (i := 7) sc_read_frame.nd rfl (Or.inl rfl)) pgs_nil))))))))
   (pss_cons (ps_set (i := 8) sc_read_frame.nd rfl (Or.inl rfl) (pe_call G_read_numbers (hr.mono (by first | decide | exact Nat.le_refl _)) (by rfl) D_read_numbers.g D_read_numbers.F.kp D_read_numbers.b .nil pass0 (pa_cons (pv 7) (pa_cons (pv 2) (pa_cons (pe_call G_coarse_count (hr.mono (by first | decide | exact Nat.le_refl _)) (by rfl) D_coarse_count.g D_coarse_count.F.kp D_coarse_count.b .nil pass0 (pa_cons (pv 2) (pa_cons (pv 4) pa_nil))) (pa_cons (pv 1) pa_nil))))))
   (pss_cons (ps_if (PW.pt (pw_or (pt_cmpR cIsN (pv 8) pe_non (nomark _)) (pw_or1 (pt_cmpR op_ne (pe_call G_mark_of (hr.mono (by first | decide | exact Nat.le_refl _)) (by rfl) D_mark_of.g D_mark_of.F.kp D_mark_of.b .nil pass0 (pa_cons (pe_ix ix_tup (pv 8) pe_int (fun _ _ => rfl)) pa_nil)) (pv 6) (nomark _)))))
   (pss_one (ps_ret pe_non))
   pss_nil)
   (pss_one (ps_ret (pv 8)))))), ?_⟩
      refine rd_start (σ := [some (.ref a), some (.ref t), none, none, none, none, none, none, none]) rfl ?_
      walk_at "rd"
      refine rd_slTp (SqT.of h) (ys := [.int (d.1 : Nat), .ref j, .int (d.2.2.2.1 : Nat), .int (d.2.2.2.2 : Nat), .int (markF ns), .str (SX.S (bitsF d ns T))]) rfl (show ¬ (HT.sIx 7 0 (some 1) = 0 ∧ HT.sIx 7 7 none = 7) by decide) fun p1 hp1 => ?_
      walk_at "rd"
      refine use_coarse k1 k2 k6 ?_
      have hcc := cc_n d.1 d.2.2.2.1
      walk_at "rd"
      refine use_rd (ns := ns) (T := T) rfl hl.symm (by omega) (by omega) (fun z hz => Nat.lt_of_le_of_lt (hn z hz) (by decide)) (hT.lk (.new hp1)) (o1.up (by decide)) (o2.up (by decide)) fun p m q2 H2 hs2 hn2 hp2 hm2 hq2 => ?_
      walk_at "rd"
      refine if_noD (fun z => V.noConfusion z) ?_
      walk_at "rd"
      rename_i H3 hs3
      refine if_noN rfl ?_
      walk_at "rd"
      exact q p m q2 _ (((same_new hp1).trans hs2).trans hs3) ((same_new hp1).free hn2) (hs3 _ _ hp2) (hs3 _ _ hm2) (hq2.lk (.of hs3))
    ) only [↓lt_eq]
theorem ok_read_frames {f : Addr} {fd : FuncData} {f_read_frame : Addr} {fd_read_frame : FuncData}    (D : Dn K mg "read_frames" s_read_frames ["records"] f fd) (bi : Bi mg) (G_read_frame : FnOk P w K mg base CX0 7 f_read_frame fd_read_frame ["record", "tables"] (spRf K)) (D_read_frame : Dn K mg "read_frame" s_read_frame ["record", "tables"] f_read_frame fd_read_frame)   {a_START t0 t1 a_HARD : Addr} (g_START : mg "START" = some (.ref a_START)) (hSt : ∀ H, TupV K H a_START [.ref t0, .ref t1]) (hS0 : ∀ H, TupV K H t0 [.int 2, .int 1]) (hS1 : ∀ H, TupV K H t1 [.int 2, .int 1]) (g_HARD : mg "HARD" = some (.ref a_HARD)) (hHd : ∀ H, TupV K H a_HARD [.int 0, .int 0]) : FnOk P w K mg base CX0 8 f fd ["records"] (spFrs K) := by
  refine lt_out ?_
  simp (disch := with_unfolding_all
    refine D.F.ok sc_read_frames (fun vs H Q E h => ?_) (fun cdv A outer s H vs Q E hr h => ?_)
    · obtain ⟨a, refs, rs, T, rfl, _⟩ := h
      rfl
    · obtain ⟨a, refs, rs, Te, rfl, hS, hlen, hR, hV, q⟩ := h
      refine ⟨_, (pss_cons (ps_set (i := 1) sc_read_frames.nd rfl (Or.inl rfl) (pe_lst pa_nil))
   (pss_cons (ps_par3 (i := 2) (j := 3) (l := 4) rfl sc_read_frames.nd rfl rfl rfl (by decide) (by decide) (by decide) rfl rfl rfl (pa_cons (pe_glob (v := .ref a_START) (by rfl) g_START rfl) (pa_cons pe_int (pa_cons (pe_glob (v := .ref a_HARD) (by rfl) g_HARD rfl) pa_nil))) rfl)
   (pss_cons (ps_for PassesOwn.never rfl (pi_enum (by rfl) bi.enumerate_ (pa_cons (pv 0) pa_nil)) (pg_tup rfl (pgs_cons (pg_name (i := 5) sc_read_frames.nd rfl (Or.inl rfl)) (pgs_cons (pg_name (i := 6) sc_read_frames.nd rfl (Or.inl rfl)) pgs_nil)))
   (pss_one (ps_if (pt_cmpR op_eq (pe_ix ix_tup (pv 6) pe_int (fun _ _ => rfl)) pe_str (nomark _))
   (pss_one (ps_set (i := 2) sc_read_frames.nd rfl (Or.inl rfl) (pe_ix ix_tup (pv 6) pe_int (fun _ _ => rfl))))
   (pss_cons (ps_asg (pe_slice sl_tup (pv 6) (po_some pe_int) (po_some pe_int)) (pg_tup rfl (pgs_cons (pg_name (i := 7) sc_read_frames.nd rfl (Or.inl rfl)) (pgs_cons (pg_name (i := 8) sc_read_frames.nd rfl (Or.inl rfl)) pgs_nil))))
   (pss_cons (ps_set (i := 9) sc_read_frames.nd rfl (Or.inl rfl) (pe_call G_read_frame (hr.mono (by first | decide | exact Nat.le_refl _)) (by rfl) D_read_frame.g D_read_frame.F.kp D_read_frame.b .nil pass0 (pa_cons (pv 6) (pa_cons (pv 2) pa_nil))))
   (pss_cons (ps_if (PW.pt (pw_or (pt_cmpR op_gt (pe_op op_add (pe_ix ix_tup (pv 4) pe_int (fun _ _ => rfl)) (pe_ix ix_tup (pv 8) pe_int (fun _ _ => rfl))) (pv 7) (nomark _)) (pw_or1 (pt_cmpR cIsN (pv 9) pe_non (nomark _)))))
   (pss_one ps_never)
   pss_nil)
   (pss_cons (ps_asg (pv 9) (pg_tup rfl (pgs_cons (pg_name (i := 10) sc_read_frames.nd rfl (Or.inl rfl)) (pgs_cons (pg_name (i := 11) sc_read_frames.nd rfl (Or.inl rfl)) pgs_nil))))
   (pss_cons (ps_expr (pe_bm PySem.F.plainAttrs_list PySem.F.slot_list_append PySem.F.type_list_append mt_append (pv 1) (pa_cons (pe_tup (pa_cons (pe_tup (pa_cons (pv 5) (pa_cons (pv 3) (pa_cons (pv 7) (pa_cons (pv 4) (pa_cons (pv 8) pa_nil)))))) (pa_cons (pv 10) (pa_cons (pv 2) (pa_cons (pv 11) pa_nil))))) pa_nil)))
   (pss_one (ps_par3 (i := 2) (j := 3) (l := 4) rfl sc_read_frames.nd rfl rfl rfl (by decide) (by decide) (by decide) rfl rfl rfl (pa_cons (pv 11) (pa_cons (pe_op op_add (pv 3) (pv 7)) (pa_cons (pv 8) pa_nil))) rfl))))))))))
   (pss_cons (ps_if (pt_cmpR (op_neD hr.units) (pv 4) (pe_glob (v := .ref a_HARD) (by rfl) g_HARD rfl) (nomark _))
   (pss_one ps_never)
   pss_nil)
   (pss_one (ps_ret (pv 1))))))), ?_⟩
      refine rd_start (σ := [some (.ref a), none, none, none, none, none, none, none, none, none, none, none]) rfl ?_
      walk_at "rd"
      rename_i F hF
      refine rd_lpE (SqL.of (look_new hF hS)) ?_
      refine for_enum (xs := refs) (fun i σ H' => ∃ fms dn t T pl jl lj x5 x6 x7 x8 x9 x10 x11, σ = [some (.ref a), some (.ref F), some (.ref t), some (.int (pl : Nat)), some (.ref jl), x5, x6, x7, x8, x9, x10, x11] ∧ FI K F H H' rs Te i fms dn t T pl jl lj) ⟨[], [], a_START, T0, 0, a_HARD, (0, 0), none, none, none, none, none, none, none, rfl, ⟨upd_same, hF, .nil, rfl, hV, hHd _, fun _ => rfl, ⟨t0, t1, hSt _, hS0 _, hS1 _⟩, same_new hF, Nat.le_refl _⟩⟩ (fun i σ H1 _ hI => ?_) (fun i v σ H1 W hv hI hW => ?_) (fun σ H1 hI => ?_)
      · obtain ⟨fms, dn, t, T, pl, jl, lj, x5, x6, x7, x8, x9, x10, x11, rfl, hI⟩ := hI
        exact SqL.of (hI.sm _ _ hS)
      · obtain ⟨fms, dn, t, T, pl, jl, lj, x5, x6, x7, x8, x9, x10, x11, rfl, hI⟩ := hI
        obtain ⟨r, rr, hv2, hd1, hd2, hmem⟩ := hR.drop_head hv
        have hil := (List.getElem?_eq_some_iff.mp hv).1
        have hI := hI.same (same_new (o := .tup [.int (i : Nat), v]) hW)
        have hv2 := hv2.lk (.of hI.sm)
        have hok := hV.ok r hmem
        cases r with
        | st T' =>
          obtain ⟨b, t', rfl, hb, hT'⟩ := hv2
          walk_at "rd"
          refine if_yesD rfl ?_
          walk_at "rd"
          exact ⟨fms, dn, t', T', pl, jl, lj, _, _, _, _, _, _, _, rfl, hI.st hd1 hd2 hT'⟩
        | fr d ns T' =>
          obtain ⟨b, j, rfl, hb, hj⟩ := hv2
          have vd := hI.vd
          rw [hd1] at vd
          obtain ⟨rfl, v2, v3, v4, v5, v6, v7⟩ := vd
          have hrc : RcAt K _ (.ref b) (.fr d ns T') := ⟨b, j, rfl, hb, hj⟩
          unfold FrAt at hb
          walk_at "rd"
          refine if_noD st_ne_fr ?_
          walk_at "rd"
          refine rd_slTp (SqT.of hb) (ys := [.int (d.1 : Nat), .ref j]) rfl (show ¬ (HT.sIx 7 0 (some 1) = 0 ∧ HT.sIx 7 7 (some 3) = 7) by decide) fun p1 hp1 => ?_
          have lk1 := LK.new (o := .tup [.int (d.1 : Nat), .ref j]) hp1
          have hI := hI.same (same_new (o := .tup [.int (d.1 : Nat), .ref j]) hp1)
          have hrc := hrc.lk lk1
          walk_at "rd"
          refine use_rf hrc hok hI.tb fun p2 m2 q2 H2 hs2 hn2 hp2 hm2 hq2 => ?_
          have hI := hI.same hs2
          have hj2 := (LK.of hs2) _ _ (lk1 _ _ hj fun _ z => nomatch z) fun _ z => nomatch z
          have L1 := hI.jt.1
          walk_at "rd"
          refine if_noD (by omega) ?_
          walk_at "rd"
          refine if_noD (fun z => V.noConfusion z) ?_
          have eF := hI.eF
          have hlf := hI.len
          have nmF : m2 ≠ F := ne_fms eF hm2 (by have := v2.1; omega) (fms_ref hI.fm)
          walk_at "rd"
          rename_i b5 hb5 w6 hw6
          have s5 := same_new (o := .tup [.int (i : Nat), .int (pl : Nat), .int (d.1 : Nat), .ref jl, .ref j]) hb5
          have s6 := same_new (o := .tup [.ref b5, .ref m2, .ref t, .ref q2]) hw6
          have hI := hI.same (s5.trans s6)
          refine rd_appG hI.eF (by omega) ?_
          walk_at "rd"
          have lk5 := LK.of (s5.trans s6)
          have fm : FmAt K [F] _ (.ref w6) (i, pl, d, lj, ns, T') := ⟨w6, b5, jl, j, m2, t, q2, rfl, upd_same, s6 _ _ upd_same, hI.jt, lk5 _ _ hj2 (fun _ z => nomatch z), fun z => nmF (List.mem_singleton.mp z), s6 _ _ (s5 _ _ hm2), hI.tb, hq2.lk lk5⟩
          have hI := hI.fr hd1 hd2 fm (lk5 _ _ hj2 fun _ z => nomatch z) (hq2.lk lk5)
          refine ⟨_, _, q2, _, pl + d.1, j, _, some (.int (i : Nat)), some (.ref b), some (.int (d.1 : Nat)), some (.ref j), some (.ref p2), some (.ref m2), some (.ref q2), ?_, hI⟩
          rw [show ((pl + d.1 : Nat) : Int) = (pl : Int) + (d.1 : Int) by omega]
          rfl
      · obtain ⟨fms, dn, t, T, pl, jl, lj, x5, x6, x7, x8, x9, x10, x11, rfl, hI⟩ := hI
        rw [hR.len] at hI
        have vd := hI.vd
        rw [List.drop_length] at vd
        have l0 : lj.1 = 0 := vd.2
        have l1 := hI.j0 l0
        walk_at "rd"
        refine rd_neT2 hI.jt.1 (hHd _).1 (by omega) (by omega) ?_
        walk_at "rd"
        have sp := hI.sp
        rw [List.drop_length, show frR rs.length pl lj [] = [] from rfl, List.append_nil] at sp
        refine q F fms _ hF hI.eF ?_ hI.sm
        rw [sp]
        exact hI.fm.imp fun _ _ z => z.out
    ) only [↓lt_eq]
theorem ok_Stream___init__ {f : Addr} {fd : FuncData} {f_check_records : Addr} {fd_check_records : FuncData} {f_read_frames : Addr} {fd_read_frames : FuncData} {C_Stream : Addr}   (D : Mn K C_Stream "__init__" "Stream.__init__" s_Stream___init__ ["self", "records"] f fd) (bi : Bi mg) (G_check_records : FnOk P w K mg base CX0 7 f_check_records fd_check_records ["records"] (spCkRc K)) (D_check_records : Dn K mg "check_records" s_check_records ["records"] f_check_records fd_check_records) (G_read_frames : FnOk P w K mg base CX0 8 f_read_frames fd_read_frames ["records"] (spFrs K)) (D_read_frames : Dn K mg "read_frames" s_read_frames ["records"] f_read_frames fd_read_frames) (TC_Stream : StmC K mg C_Stream)   : FnOk P w K mg base CX0 9 f fd ["self", "records"] (spInitS K C_Stream) := by
  refine lt_out ?_
  simp (disch := with_unfolding_all
    refine D.F.ok sc_Stream___init__ (fun vs H Q E h => ?_) (fun cdv A outer s H vs Q E hr h => ?_)
    · obtain ⟨x, a, dx, refs, rs, Te, rfl, _⟩ := h
      rfl
    · obtain ⟨x, a, dx, refs, rs, Te, rfl, hx, hS, hl, hR, hV, q⟩ := h
      refine ⟨_, (pss_cons (ps_expr (pe_call G_check_records (hr.mono (by first | decide | exact Nat.le_refl _)) (by rfl) D_check_records.g D_check_records.F.kp D_check_records.b .nil pass0 (pa_cons (pv 1) pa_nil)))
   (pss_cons (ps_fld (pv 0) (pe_callTy cList (by rfl) bi.list_ (by decide +kernel) (pa_cons (pv 1) pa_nil)) rfl)
   (pss_one (ps_fld (pv 0) (pe_call G_read_frames (hr.mono (by first | decide | exact Nat.le_refl _)) (by rfl) D_read_frames.g D_read_frames.F.kp D_read_frames.b .nil pass0 (pa_cons (pe_fld (pv 0) rfl) pa_nil)) rfl)))), ?_⟩
      refine rd_start (σ := [some (.ref x), some (.ref a)]) rfl ?_
      walk_at "rd"
      refine use_ckrc hS hR hV.ok fun H1 hs1 => ?_
      have hS1 := hs1 _ _ hS
      have hx1 := hs1 _ _ hx
      walk_at "rd"
      refine rd_setF ?_
      walk_at "rd"
      rename_i L hL
      have nxL : x ≠ L := ne_of_none hx1 hL
      refine ⟨x, C_Stream, dx, _, rfl, look_new hL hx1, TC_Stream.cl, TC_Stream.nh, by decide, ?_⟩
      walk_at "rd"
      refine rd_setF ?_
      walk_at "rd"
      have k1 : Kp x H (upd (upd H1 L (.lst refs)) x (.ins C_Stream dx (putF "held" (.ref L) []))) := fun b o nb e => by rw [upd_ne nb]; exact look_new hL (hs1 _ _ e)
      have eL1 : (upd (upd H1 L (.lst refs)) x (.ins C_Stream dx (putF "held" (.ref L) []))) L = some (.lst refs) := by rw [upd_ne nxL.symm]; exact upd_same
      refine ⟨.ref x, rfl, x, C_Stream, dx, _, _, rfl, upd_same, TC_Stream.cl, TC_Stream.nh, held_ L, ?_⟩
      walk_at "rd"
      have hR1 := hR.lki (.ofK hx k1)
      refine use_frs eL1 hl hR1 hV fun F fms H2 hF eF hfm hs2 => ?_
      have hx2 := hs2 _ _ upd_same
      have k2 := k1.trans (Kp.of hs2)
      have k3 : Kp x H2 (upd H2 x (.ins C_Stream dx (sf L F))) := fun b o nb e => by rw [upd_ne nb]; exact e
      refine ⟨x, C_Stream, dx, _, rfl, hx2, TC_Stream.cl, TC_Stream.nr, by show 1 < 1000; decide, ?_⟩
      walk_at "rd"
      exact q _ ⟨dx, L, F, fms, Te, upd_same, k3 _ _ nxL.symm (hs2 _ _ eL1), hl, hR.lki (.ofK hx (k2.trans k3)), hV, lst_kp hx2 k3 _ _ eF, hfm.fld hx2 k3⟩ (k2.trans k3)
    ) only [↓lt_eq]
theorem ok_Stream_records {f : Addr} {fd : FuncData}  {C_Stream : Addr}  {p_Stream_records : Addr}  (D : Pn K C_Stream "records" "Stream.records" s_Stream_records ["self"] p_Stream_records f fd) (bi : Bi mg)  (TC_Stream : StmC K mg C_Stream)   : FnOk P w K mg base CX0 1 f fd ["self"] (spRecs K C_Stream) := by
  refine lt_out ?_
  simp (disch := with_unfolding_all
    refine D.F.ok sc_Stream_records (fun vs H Q E h => ?_) (fun cdv A outer s H vs Q E hr h => ?_)
    · obtain ⟨x, refs, rs, rfl, _⟩ := h
      rfl
    · obtain ⟨x, refs, rs, rfl, hS, q⟩ := h
      obtain ⟨dx, L, F, fms, Te, h1, h2, h3, h4, h5, h6, h7⟩ := hS
      refine ⟨_, (pss_one (ps_ret (pe_callTy cList (by rfl) bi.list_ (by decide +kernel) (pa_cons (pe_fld (pv 0) rfl) pa_nil)))), ?_⟩
      refine rd_start (σ := [some (.ref x)]) rfl ?_
      walk_at "rd"
      refine rd_heldV TC_Stream h1 rfl ?_
      walk_at "rd"
      exact q _ (by assumption)
    ) only [↓lt_eq]
theorem ok_Stream_part_of {f : Addr} {fd : FuncData} {f_is_within : Addr} {fd_is_within : FuncData} {C_Stream : Addr}   (D : Mn K C_Stream "part_of" "Stream.part_of" s_Stream_part_of ["self", "frame", "part"] f fd) (bi : Bi mg) (G_is_within : FnOk P w K mg base CX0 2 f_is_within fd_is_within ["value", "low", "high"] spWithin) (D_is_within : Dn K mg "is_within" s_is_within ["value", "low", "high"] f_is_within fd_is_within) (TC_Stream : StmC K mg C_Stream)   : FnOk P w K mg base CX0 3 f fd ["self", "frame", "part"] (spPart K C_Stream) := by
  refine lt_out ?_
  simp (disch := with_unfolding_all
    refine D.F.ok sc_Stream_part_of (fun vs H Q E h => ?_) (fun cdv A outer s H vs Q E hr h => ?_)
    · obtain ⟨x, refs, rs, n, k, f, rfl, _⟩ := h
      rfl
    · obtain ⟨x, refs, rs, n, k, f, rfl, hS, hf, hk, q⟩ := h
      obtain ⟨dx, L, F, fms, Te, h1, h2, h3, h4, h5, h6, h7⟩ := hS
      refine ⟨_, (pss_cons (ps_if (pt_not (pt_val (pe_call G_is_within (hr.mono (by first | decide | exact Nat.le_refl _)) (by rfl) D_is_within.g D_is_within.F.kp D_is_within.b .nil pass0 (pa_cons (pv 1) (pa_cons pe_int (pa_cons (pe_op op_sub (pe_callB cLen (by rfl) bi.len_ (by decide +kernel) (pa_cons (pe_fld (pv 0) rfl) pa_nil)) pe_int) pa_nil))))))
   (pss_one ps_never)
   pss_nil)
   (pss_one (ps_ret (pe_ix ix_tup (pe_ix ix_list (pe_fld (pv 0) rfl) (pv 1) (fun _ _ => rfl)) (pv 2) (fun _ _ => rfl))))), ?_⟩
      refine rd_start (σ := [some (.ref x), some (.int (n : Nat)), some (.int (k : Nat))]) rfl ?_
      walk_at "rd"
      refine rd_readV TC_Stream h1 rfl ?_
      have hn := (List.getElem?_eq_some_iff.mp hf).1
      have hln := h7.len
      walk_at "rd"
      rw [decide_eq_true (show (0 : Int) ≤ (n : Int) ∧ (n : Int) ≤ (fms.length : Nat) - 1 by omega)]
      walk_at "rd"
      refine rd_readV TC_Stream h1 rfl ?_
      obtain ⟨v, hv⟩ : ∃ v, fms[n]? = some v := ⟨fms[n]'(by omega), List.getElem?_eq_getElem (by omega)⟩
      obtain ⟨f', rr, hv2, hd1, _, _⟩ := h7.drop_head hv
      have ef : f' = f := by
        have z : (frR 0 0 (0, 0) rs)[n]? = some f' := by
          have y := congrArg (fun l => l[0]?) hd1
          simpa using y
        rw [hf] at z
        exact (Option.some.inj z).symm
      subst ef
      walk_at "rd"
      refine rd_ixL (SqL.of h6) (atI_nat hv) ?_
      obtain ⟨a, b, jl, j, m, t, q2, rfl, g1, g2, g3, g4, g5, g6, g7, g8⟩ := hv2
      walk_at "rd"
      obtain ⟨v, hv⟩ : ∃ v, ([.ref b, .ref m, .ref t, .ref q2] : List V)[k]? = some v := ⟨_, List.getElem?_eq_getElem hk⟩
      refine rd_ixT (SqT.of g1) (atI_nat hv) ?_
      exact q b m t q2 v ⟨jl, j, g2, g3, g4⟩ g6 g7 g8 hv
    ) only [↓lt_eq]
theorem ok_Stream_block {f : Addr} {fd : FuncData} {f_Stream_part_of : Addr} {fd_Stream_part_of : FuncData} {C_Stream : Addr}   (D : Mn K C_Stream "block" "Stream.block" s_Stream_block ["self", "frame"] f fd) (bi : Bi mg) (G_Stream_part_of : FnOk P w K mg base CX0 3 f_Stream_part_of fd_Stream_part_of ["self", "frame", "part"] (spPart K C_Stream)) (D_Stream_part_of : Mn K C_Stream "part_of" "Stream.part_of" s_Stream_part_of ["self", "frame", "part"] f_Stream_part_of fd_Stream_part_of) (TC_Stream : StmC K mg C_Stream)   : FnOk P w K mg base CX0 4 f fd ["self", "frame"] (spBlk K C_Stream) := by
  refine lt_out ?_
  simp (disch := with_unfolding_all
    refine D.F.ok sc_Stream_block (fun vs H Q E h => ?_) (fun cdv A outer s H vs Q E hr h => ?_)
    · obtain ⟨x, refs, rs, n, f, rfl, _⟩ := h
      rfl
    · obtain ⟨x, refs, rs, n, f, rfl, hS, hf, q⟩ := h
      refine ⟨_, (pss_one (ps_ret (pe_meth (pv 0) TC_Stream.cl D_Stream_part_of.m G_Stream_part_of (hr.mono (by first | decide | exact Nat.le_refl _)) D_Stream_part_of.b .nil pass0 (pa_cons (pv 1) (pa_cons pe_int pa_nil))))), ?_⟩
      refine rd_start (σ := [some (.ref x), some (.int (n : Nat))]) rfl ?_
      walk_at "rd"
      refine rd_methS hS rfl (by decide +kernel) (by decide +kernel) ?_
      walk_at "rd"
      refine use_part 0 rfl hS hf (by decide) fun b m t q2 v h1 h2 h3 h4 h5 => ?_
      cases h5
      exact q b h1
    ) only [↓lt_eq]
theorem ok_index_of {f : Addr} {fd : FuncData} {f_Stream_records : Addr} {fd_Stream_records : FuncData} {f_Stream_block : Addr} {fd_Stream_block : FuncData} {C_Stream : Addr} {p_Stream_records : Addr}  (D : Dn K mg "index_of" s_index_of ["stream"] f fd) (bi : Bi mg) (G_Stream_records : FnOk P w K mg base CX0 1 f_Stream_records fd_Stream_records ["self"] (spRecs K C_Stream)) (D_Stream_records : Pn K C_Stream "records" "Stream.records" s_Stream_records ["self"] p_Stream_records f_Stream_records fd_Stream_records) (G_Stream_block : FnOk P w K mg base CX0 4 f_Stream_block fd_Stream_block ["self", "frame"] (spBlk K C_Stream)) (D_Stream_block : Mn K C_Stream "block" "Stream.block" s_Stream_block ["self", "frame"] f_Stream_block fd_Stream_block) (TC_Stream : StmC K mg C_Stream)   : FnOk P w K mg base CX0 5 f fd ["stream"] (spIdx K C_Stream) := by
  refine lt_out ?_
  simp (disch := with_unfolding_all
    refine D.F.ok sc_index_of (fun vs H Q E h => ?_) (fun cdv A outer s H vs Q E hr h => ?_)
    · obtain ⟨x, refs, rs, rfl, _⟩ := h
      rfl
    · obtain ⟨x, refs, rs, rfl, hS, q⟩ := h
      refine ⟨_, (pss_cons (ps_set (i := 1) sc_index_of.nd rfl (Or.inl rfl) (pe_lst pa_nil))
   (pss_cons (ps_set (i := 2) sc_index_of.nd rfl (Or.inl rfl) pe_int)
   (pss_cons (ps_for PassesOwn.never rfl (pi_enum (by rfl) bi.enumerate_ (pa_cons (pe_prop (pv 0) TC_Stream.cl D_Stream_records.p G_Stream_records (hr.mono (by first | decide | exact Nat.le_refl _)) D_Stream_records.b .nil pass0 rfl) pa_nil)) (pg_tup rfl (pgs_cons (pg_name (i := 3) sc_index_of.nd rfl (Or.inl rfl)) (pgs_cons (pg_name (i := 4) sc_index_of.nd rfl (Or.inl rfl)) pgs_nil)))
   (pss_one (ps_if (pt_cmpR op_eq (pe_ix ix_tup (pv 4) pe_int (fun _ _ => rfl)) pe_str (nomark _))
   (pss_one (ps_set (i := 2) sc_index_of.nd rfl (Or.inl rfl) (pv 3)))
   (pss_one (ps_expr (pe_bm PySem.F.plainAttrs_list PySem.F.slot_list_append PySem.F.type_list_append mt_append (pv 1) (pa_cons (pe_op op_catT (pe_meth (pv 0) TC_Stream.cl D_Stream_block.m G_Stream_block (hr.mono (by first | decide | exact Nat.le_refl _)) D_Stream_block.b .nil pass0 (pa_cons (pe_callB cLen (by rfl) bi.len_ (by decide +kernel) (pa_cons (pv 1) pa_nil)) pa_nil)) (pe_tup (pa_cons (pe_ix ix_tup (pv 4) pe_int (fun _ _ => rfl)) (pa_cons (pe_ix ix_tup (pv 4) pe_int (fun _ _ => rfl)) (pa_cons (pv 2) pa_nil))))) pa_nil)))))))
   (pss_one (ps_ret (pv 1)))))), ?_⟩
      refine rd_start (σ := [some (.ref x), none, none, none, none]) rfl ?_
      walk_at "rd"
      rename_i D hD
      have hS1 := hS.same (same_new (o := .lst []) hD)
      refine rd_propS hS1 rfl ?_
      refine ⟨x, refs, rs, rfl, hS1, fun N hN => ?_⟩
      obtain ⟨dx, L, F, fms, Te, h1, h2, hl40, hR, hV, h6, h7⟩ := id hS
      have s0 : Same H (upd (upd H D (.lst [])) N (.lst refs)) := (same_new hD).trans (same_new hN)
      have nND : D ≠ N := ne_of_none upd_same hN
      walk_at "rd"
      refine rd_lpE (SqL.of upd_same) ?_
      refine for_enum (xs := refs) (fun i σ H' => ∃ idx dn fd pl lj o x3 x4, σ = [some (.ref x), some (.ref D), some (.int ((o : Nat) : Int)), x3, x4] ∧ H' N = some (.lst refs) ∧ II K D H H' rs i idx dn fd pl lj o) ⟨[], [], [], 0, (0, 0), 0, none, none, rfl, upd_same, ⟨look_new hN upd_same, hD, .nil, rfl, rfl, rfl, s0, Nat.le_refl _⟩⟩ (fun i σ H1 _ hI => ?_) (fun i v σ H1 W hv hI hW => ?_) (fun σ H1 hI => ?_)
      · obtain ⟨idx, dn, fd, pl, lj, o, x3, x4, rfl, eN, hI⟩ := hI
        exact SqL.of eN
      · obtain ⟨idx, dn, fd, pl, lj, o, x3, x4, rfl, eN, hI⟩ := hI
        obtain ⟨r, rr, hv2, hd1, hd2, hmem⟩ := hR.drop_head hv
        have hil := (List.getElem?_eq_some_iff.mp hv).1
        have eN := look_new (o := .tup [.int (i : Nat), v]) hW eN
        have hI := hI.same (same_new (o := .tup [.int (i : Nat), v]) hW)
        have hv2 := hv2.lk (.of hI.sm)
        cases r with
        | st T' =>
          obtain ⟨b, t', rfl, hb, hT'⟩ := hv2
          walk_at "rd"
          refine if_yesD rfl ?_
          walk_at "rd"
          exact ⟨_, _, _, _, _, i, _, _, rfl, eN, hI.st hd1 hd2⟩
        | fr d ns T' =>
          obtain ⟨b, j, rfl, hb, hj⟩ := hv2
          unfold FrAt at hb
          walk_at "rd"
          refine if_noD st_ne_fr ?_
          have eD := hI.eD
          have hlf := hI.len
          walk_at "rd"
          have hS2 := hS.same hI.sm
          refine rd_methS hS2 rfl (by decide +kernel) (by decide +kernel) ?_
          walk_at "rd"
          refine use_blk hS2 (hI.at hd1) fun b5 hb5 => ?_
          obtain ⟨jl, j5, e5, e6, e7⟩ := hb5
          walk_at "rd"
          rename_i p6 hp6
          have s6 := same_new (o := .tup [.int (d.2.2.2.1 : Nat), .int (d.2.2.2.2 : Nat), .int (o : Nat)]) hp6
          have hI := hI.same s6
          refine rd_catT2 (SqT.of (s6 _ _ e5)) (SqT.of upd_same) (fun z => nomatch z) (fun z => nomatch z) (by show 5 + 3 ≤ 1000; decide) (show _ = [.int (i : Nat), .int (pl : Nat), .int (d.1 : Nat), .ref jl, .ref j5, .int (d.2.2.2.1 : Nat), .int (d.2.2.2.2 : Nat), .int (o : Nat)] from rfl) fun p7 hp7 => ?_
          have s7 := same_new (o := .tup [.int (i : Nat), .int (pl : Nat), .int (d.1 : Nat), .ref jl, .ref j5, .int (d.2.2.2.1 : Nat), .int (d.2.2.2.2 : Nat), .int (o : Nat)]) hp7
          have hI := hI.same s7
          have s67 := s6.trans s7
          have rw : RwV K _ (.ref p7) (i, pl, d, lj, o) := ⟨p7, jl, j5, rfl, upd_same, e6.lk (.of s67), e7.lk (.of s67)⟩
          refine rd_nil ?_
          refine rd_appG hI.eD (by omega) ?_
          walk_at "rd"
          have nDN : D ≠ N := nND
          refine ⟨_, _, _, _, _, o, some (.int (i : Nat)), some (.ref b), rfl, ?_, hI.fr hd1 hd2 rw⟩
          rw [upd_ne nDN.symm]
          exact s67 _ _ eN
      · obtain ⟨idx, dn, fd, pl, lj, o, x3, x4, rfl, eN, hI⟩ := hI
        walk_at "rd"
        have s1 := hI.s1
        rw [hR.len, List.drop_length, show rowsF rs.length pl lj o [] = [] from rfl, List.append_nil, ← runR_rows] at s1
        refine q D idx _ hD hI.eD ?_ hI.sm
        rw [s1]
        exact hI.ix
    ) only [↓lt_eq]
theorem ok_check_stretch {f : Addr} {fd : FuncData} {f_is_within : Addr} {fd_is_within : FuncData}    (D : Dn K mg "check_stretch" s_check_stretch ["start", "end", "length"] f fd) (bi : Bi mg) (G_is_within : FnOk P w K mg base CX0 2 f_is_within fd_is_within ["value", "low", "high"] spWithin) (D_is_within : Dn K mg "is_within" s_is_within ["value", "low", "high"] f_is_within fd_is_within)    : FnOk P w K mg base CX0 3 f fd ["start", "end", "length"] spStretch := by
  refine lt_out ?_
  simp (disch := with_unfolding_all
    refine D.F.ok sc_check_stretch (fun vs H Q E h => ?_) (fun cdv A outer s H vs Q E hr h => ?_)
    · obtain ⟨s, e, n, rfl, _⟩ := h
      rfl
    · obtain ⟨s, e, n, rfl, h0, h1, h2, q⟩ := h
      refine ⟨_, (pss_cons (ps_for PassesOwn.never rfl (pi_tup (pe_tup (pa_cons (pv 0) (pa_cons (pv 1) pa_nil)))) (pg_name (i := 3) sc_check_stretch.nd rfl (Or.inl rfl))
   (pss_one (ps_if (pt_not (pt_val (pe_call G_is_within (hr.mono (by first | decide | exact Nat.le_refl _)) (by rfl) D_is_within.g D_is_within.F.kp D_is_within.b .nil pass0 (pa_cons (pv 3) (pa_cons pe_int (pa_cons (pv 2) pa_nil))))))
   (pss_one ps_never)
   pss_nil)))
   (pss_one (ps_if (pt_cmpR op_lt (pv 1) (pv 0) (nomark _))
   (pss_one ps_never)
   pss_nil))), ?_⟩
      refine rd_start (σ := [some (.int s), some (.int e), some (.int n), none]) rfl ?_
      walk_at "rd"
      rename_i p hp
      refine rd_lpT (SqT.of upd_same) ?_
      refine for_tup (xs := [.int s, .int e]) (fun i σ H' => ∃ t, σ = [some (.int s), some (.int e), some (.int n), t] ∧ H' = upd H p (.tup [.int s, .int e])) ⟨none, rfl, rfl⟩ (fun i σ H1 _ hI => ?_) (fun i v σ H1 hv hI => ?_) (fun σ H1 hI => ?_)
      · obtain ⟨t, rfl, rfl⟩ := hI
        exact SqT.of upd_same
      · obtain ⟨t, rfl, rfl⟩ := hI
        obtain ⟨z, rfl, hz⟩ : ∃ z, v = .int z ∧ 0 ≤ z ∧ z ≤ n := by
          rcases i with _ | _ | i
          · exact ⟨s, (Option.some.inj hv).symm, h0, by omega⟩
          · exact ⟨e, (Option.some.inj hv).symm, by omega, h2⟩
          · exact absurd hv (by simp)
        walk_at "rd"
        refine if_noN hz ?_
        walk_at "rd"
        exact ⟨_, rfl, rfl⟩
      · obtain ⟨t, rfl, rfl⟩ := hI
        walk_at "rd"
        refine if_noD (by omega) ?_
        walk_at "rd"
        exact q _ (same_new hp)
    ) only [↓lt_eq]
theorem ok_sound_length {f : Addr} {fd : FuncData}     (D : Dn K mg "sound_length" s_sound_length ["index"] f fd) (bi : Bi mg)     : FnOk P w K mg base CX0 1 f fd ["index"] (spSndLen K) := by
  refine lt_out ?_
  simp (disch := with_unfolding_all
    refine D.F.ok sc_sound_length (fun vs H Q E h => ?_) (fun cdv A outer s H vs Q E hr h => ?_)
    · obtain ⟨a, idx, rows, rfl, _⟩ := h
      rfl
    · obtain ⟨a, idx, rows, rfl, h, r, q⟩ := h
      refine ⟨_, (pss_cons (ps_if (pt_not (pt_truth (pv 0) (by intro _; rfl)))
   (pss_one (ps_ret pe_int))
   pss_nil)
   (pss_one (ps_ret (pe_op op_add (pe_ix ix_tup (pe_ix ix_list (pv 0) (pe_un un_neg pe_int) (fun _ _ => rfl)) pe_int (fun _ _ => rfl)) (pe_ix ix_tup (pe_ix ix_list (pv 0) (pe_un un_neg pe_int) (fun _ _ => rfl)) pe_int (fun _ _ => rfl)))))), ?_⟩
      refine rd_start (σ := [some (.ref a)]) rfl ?_
      walk_at "rd"
      refine ⟨_, .inl ⟨_, SqL.of h, rfl⟩, ?_⟩
      rcases r.lastE with ⟨rfl, rfl⟩ | ⟨xs, v, rs, r', rfl, rfl, hv⟩
      · walk_at "rd"
        exact q
      · rw [lenW_snoc] at q
        obtain ⟨b, jl, j, rfl, hb, _⟩ := hv
        refine if_no (by cases xs <;> rfl) ?_
        walk_at "rd"
        refine rd_ixL (SqL.of h) (atI_last _ _) ?_
        walk_at "rd"
        refine rd_ixL (SqL.of h) (atI_last _ _) ?_
        walk_at "rd"
        exact q
    ) only [↓lt_eq]
theorem ok_reach {f : Addr} {fd : FuncData}     (D : Dn K mg "reach" s_reach ["entry"] f fd) (bi : Bi mg)     : FnOk P w K mg base CX0 1 f fd ["entry"] (spReach K) := by
  refine lt_out ?_
  simp (disch := with_unfolding_all
    refine D.F.ok sc_reach (fun vs H Q E h => ?_) (fun cdv A outer s H vs Q E hr h => ?_)
    · obtain ⟨v, r, rfl, _⟩ := h
      rfl
    · obtain ⟨v, r, rfl, h, q⟩ := h
      refine ⟨_, (pss_cons (ps_asg (pe_slice sl_tup (pv 0) po_none (po_some pe_int)) (pg_tup rfl (pgs_cons (pg_name (i := 1) sc_reach.nd rfl (Or.inl rfl)) (pgs_cons (pg_name (i := 2) sc_reach.nd rfl (Or.inl rfl)) (pgs_cons (pg_name (i := 3) sc_reach.nd rfl (Or.inl rfl)) (pgs_cons (pg_name (i := 4) sc_reach.nd rfl (Or.inl rfl)) (pgs_cons (pg_name (i := 5) sc_reach.nd rfl (Or.inl rfl)) pgs_nil)))))))
   (pss_one (ps_ret (pe_tup (pa_cons (pe_op op_sub (pv 2) (pe_ix ix_tup (pv 4) pe_int (fun _ _ => rfl))) (pa_cons (pe_op op_add (pe_op op_add (pv 2) (pv 3)) (pe_ix ix_tup (pv 5) pe_int (fun _ _ => rfl))) pa_nil)))))), ?_⟩
      obtain ⟨a, jl, j, rfl, ha, hl, hj⟩ := h
      refine rd_start (σ := [some (.ref a), none, none, none, none, none]) rfl ?_
      walk_at "rd"
      refine rd_slTp (SqT.of ha) (ys := [.int (r.1 : Nat), .int (r.2.1 : Nat), .int (r.2.2.1.1 : Nat), .ref jl, .ref j]) rfl (show ¬ (HT.sIx 8 0 none = 0 ∧ HT.sIx 8 8 (some 5) = 8) by decide) fun p1 hp1 => ?_
      have hl2 := hl.lk (.new (o := .tup [.int (r.1 : Nat), .int (r.2.1 : Nat), .int (r.2.2.1.1 : Nat), .ref jl, .ref j]) hp1)
      have hj2 := look_new (o := .tup [.int (r.1 : Nat), .int (r.2.1 : Nat), .int (r.2.2.1.1 : Nat), .ref jl, .ref j]) hp1 hj
      walk_at "rd"
      refine rd_ixT hl2.1 (v := .int (r.2.2.2.1.1 : Nat)) rfl ?_
      walk_at "rd"
      rename_i p2 hp2
      exact q _ _ ((same_new hp1).free hp2) ((same_new hp1).trans (same_new hp2)) upd_same
    ) only [↓lt_eq]
theorem ok_needed_entries {f : Addr} {fd : FuncData} {f_reach : Addr} {fd_reach : FuncData}    (D : Dn K mg "needed_entries" s_needed_entries ["index", "start", "end"] f fd) (bi : Bi mg) (G_reach : FnOk P w K mg base CX0 1 f_reach fd_reach ["entry"] (spReach K)) (D_reach : Dn K mg "reach" s_reach ["entry"] f_reach fd_reach)    : FnOk P w K mg base CX0 2 f fd ["index", "start", "end"] (spNdE K) := by
  refine lt_out ?_
  simp (disch := with_unfolding_all
    refine D.F.ok sc_needed_entries (fun vs H Q E h => ?_) (fun cdv A outer s H vs Q E hr h => ?_)
    · obtain ⟨a, s, e, idx, rows, rfl, _⟩ := h
      rfl
    · obtain ⟨a, s, e, idx, rows, rfl, h, r, l, q⟩ := h
      refine ⟨_, (pss_cons (ps_if (pt_cmpR op_eq (pv 1) (pv 2) (nomark _))
   (pss_one (ps_ret (pe_lst pa_nil)))
   pss_nil)
   (pss_cons (ps_set (i := 3) sc_needed_entries.nd rfl (Or.inl rfl) (pe_lst pa_nil))
   (pss_cons (ps_for PassesOwn.never rfl (pi_list (pv 0)) (pg_name (i := 4) sc_needed_entries.nd rfl (Or.inl rfl))
   (pss_cons (ps_asg (pe_call G_reach (hr.mono (by first | decide | exact Nat.le_refl _)) (by rfl) D_reach.g D_reach.F.kp D_reach.b .nil pass0 (pa_cons (pv 4) pa_nil)) (pg_tup rfl (pgs_cons (pg_name (i := 5) sc_needed_entries.nd rfl (Or.inl rfl)) (pgs_cons (pg_name (i := 6) sc_needed_entries.nd rfl (Or.inl rfl)) pgs_nil))))
   (pss_one (ps_if (PW.pt (pw_and (pt_cmpR op_lt (pv 5) (pv 2) (nomark _)) (pw_and1 (pt_cmpR op_lt (pv 1) (pv 6) (nomark _)))))
   (pss_one (ps_expr (pe_bm PySem.F.plainAttrs_list PySem.F.slot_list_append PySem.F.type_list_append mt_append (pv 3) (pa_cons (pv 4) pa_nil))))
   pss_nil))))
   (pss_one (ps_ret (pv 3)))))), ?_⟩
      refine rd_start (σ := [some (.ref a), some (.int s), some (.int e), none, none, none, none]) rfl ?_
      walk_at "rd"
      refine rd_iteD (p := V.int s = V.int e) (fun c => ?_) (fun c => ?_)
      · walk_at "rd"
        rename_i D hD
        have en : ndW s e rows = [] := if_pos (V.int.inj c)
        exact q D [] _ hD upd_same (by rw [en]; exact .nil) (same_new hD)
      · walk_at "rd"
        rename_i D hD
        have en : ndW s e rows = rows.filter (selW s e) := if_neg fun z => c (by rw [z])
        rw [en] at q
        have hln := r.len
        refine rd_lpL (SqL.of (look_new hD h)) ?_
        refine for_list (xs := idx) (fun i σ H' => ∃ sel t1 t2 t3, σ = [some (.ref a), some (.int s), some (.int e), some (.ref D), t1, t2, t3] ∧ H' D = some (.lst sel) ∧ RwsV K H' sel ((rows.take i).filter (selW s e)) ∧ Same H H' ∧ sel.length ≤ i) ⟨[], none, none, none, rfl, upd_same, .nil, same_new hD, Nat.le_refl _⟩ (fun i σ H1 _ hI => ?_) (fun i v σ H1 hv hI => ?_) (fun σ H1 hI => ?_)
        · obtain ⟨sel, t1, t2, t3, rfl, eD, hsel, sm, hl⟩ := hI
          exact SqL.of (sm _ _ h)
        · obtain ⟨sel, t1, t2, t3, rfl, eD, hsel, sm, hl⟩ := hI
          have hil := (List.getElem?_eq_some_iff.mp hv).1
          obtain ⟨r', hv2, hm, _, ht⟩ := r.takeS hv
          have hv3 := hv2.same sm
          walk_at "rd"
          refine use_reach hv3 fun p H2 hp hs2 ep => ?_
          have hs3 := hs2 _ _ eD
          have no : ¬ selW s e r' = true → ((rows.take i).filter (selW s e) ++ [r'].filter (selW s e)) = (rows.take i).filter (selW s e) := fun z => by simp [z]
          have yes : selW s e r' = true → ((rows.take i).filter (selW s e) ++ [r'].filter (selW s e)) = (rows.take i).filter (selW s e) ++ [r'] := fun z => by simp [z]
          walk_at "rd"
          refine rd_iteD (p := rnear r' < e) (fun c1 => ?_) (fun c1 => ?_)
          · walk_at "rd"
            refine rd_iteD (p := s < rfar r') (fun c2 => ?_) (fun c2 => ?_)
            · walk_at "rd"
              refine rd_appG hs3 (by omega) ?_
              walk_at "rd"
              have lk := (LK.of hs2).trans (LK.at (o := .lst (sel ++ [v])) hs3)
              refine ⟨_, _, _, _, rfl, upd_same, ?_, same_put (sm.trans hs2) hD, by rw [List.length_append]; exact Nat.succ_le_succ hl⟩
              rw [ht, List.filter_append, yes (by unfold selW; rw [decide_eq_true c1, decide_eq_true c2]; rfl)]
              exact (hsel.lk lk).app (hv3.lk lk)
            · walk_at "rd"
              refine ⟨_, _, _, _, rfl, hs3, ?_, sm.trans hs2, Nat.le_succ_of_le hl⟩
              rw [ht, List.filter_append, no (by unfold selW; rw [decide_eq_false c2]; simp)]
              exact hsel.same hs2
          · walk_at "rd"
            refine ⟨_, _, _, _, rfl, hs3, ?_, sm.trans hs2, Nat.le_succ_of_le hl⟩
            rw [ht, List.filter_append, no (by unfold selW; rw [decide_eq_false c1]; simp)]
            exact hsel.same hs2
        · obtain ⟨sel, t1, t2, t3, rfl, eD, hsel, sm, hl⟩ := hI
          rw [hln, List.take_length] at hsel
          walk_at "rd"
          exact q D sel _ hD eD hsel sm
    ) only [↓lt_eq]
theorem ok_records_up_to {f : Addr} {fd : FuncData}     (D : Dn K mg "records_up_to" s_records_up_to ["entries"] f fd) (bi : Bi mg)     : FnOk P w K mg base CX0 1 f fd ["entries"] (spRcU K) := by
  refine lt_out ?_
  simp (disch := with_unfolding_all
    refine D.F.ok sc_records_up_to (fun vs H Q E h => ?_) (fun cdv A outer s H vs Q E hr h => ?_)
    · obtain ⟨a, sel, rows, rfl, _⟩ := h
      rfl
    · obtain ⟨a, sel, rows, rfl, h, r, o, q⟩ := h
      refine ⟨_, (pss_cons (ps_set (i := 1) sc_records_up_to.nd rfl (Or.inl rfl) (pe_lst pa_nil))
   (pss_cons (ps_set (i := 2) sc_records_up_to.nd rfl (Or.inl rfl) pe_int)
   (pss_cons (ps_for PassesOwn.never rfl (pi_list (pv 0)) (pg_name (i := 3) sc_records_up_to.nd rfl (Or.inl rfl))
   (pss_cons (ps_par (i := 4) (j := 5) rfl sc_records_up_to.nd rfl rfl (by decide) rfl rfl (pa_cons (pe_ix ix_tup (pv 3) pe_int (fun _ _ => rfl)) (pa_cons (pe_ix ix_tup (pv 3) pe_int (fun _ _ => rfl)) pa_nil)) rfl)
   (pss_cons (ps_expr (pe_bm PySem.F.plainAttrs_list PySem.F.slot_list_extend PySem.F.type_list_extend mt_extend (pv 1) (pa_cons (pe_listRg rfl (by rfl) bi.list_ (prg_2 (by rfl) bi.range_ (pe_callB (cMax rfl) (by rfl) bi.max_ (by decide +kernel) (pa_cons (pv 5) (pa_cons (pv 2) pa_nil))) (pe_op op_add (pv 4) pe_int))) pa_nil)))
   (pss_one (ps_set (i := 2) sc_records_up_to.nd rfl (Or.inl rfl) (pe_op op_add (pv 4) pe_int))))))
   (pss_one (ps_ret (pv 1)))))), ?_⟩
      refine rd_start (σ := [some (.ref a), none, none, none, none, none]) rfl ?_
      walk_at "rd"
      rename_i D hD
      have hln := r.len
      refine rd_lpL (SqL.of (look_new hD h)) ?_
      refine for_list (xs := sel) (fun i σ H' => ∃ t1 t2 t3, σ = [some (.ref a), some (.ref D), some (.int (behW (rows.take i))), t1, t2, t3] ∧ H' D = some (.lst ((rcU (rows.take i) 0).map V.int)) ∧ Same H H') ⟨none, none, none, rfl, upd_same, same_new hD⟩ (fun i σ H1 _ hI => ?_) (fun i v σ H1 hv hI => ?_) (fun σ H1 hI => ?_)
      · obtain ⟨t1, t2, t3, rfl, eD, sm⟩ := hI
        exact SqL.of (sm _ _ h)
      · obtain ⟨t1, t2, t3, rfl, eD, sm⟩ := hI
        obtain ⟨r', hv2, hm, he, ht⟩ := r.takeS hv
        obtain ⟨b, jl, j, rfl, hb, _⟩ := hv2.same sm
        obtain ⟨g1, g2⟩ := o.rg (i := i) hm
        have g3 := (o.sub (List.take_sublist i rows)).lenU
        walk_at "rd"
        refine rd_lstRg (rd_rg2 ?_)
        walk_at "rd"
        refine rd_ij ⟨g1, fun p hp => ?_⟩
        have eD2 := look_new (o := .lst (rgV (lowW r' (behW (rows.take i))) ((r'.1 : Int) + 1))) hp eD
        walk_at "rd"
        refine rd_extG (xs := (rcU (rows.take i) 0).map V.int) (zs := rgV (lowW r' (behW (rows.take i))) ((r'.1 : Int) + 1)) eD2 upd_same ?_ ?_
        · rw [rngV_eq, List.length_map, List.length_map]
          omega
        walk_at "rd"
        refine ⟨_, _, _, by rw [ht, behW_snoc]; rfl, ?_, same_put (sm.trans (same_new hp)) hD⟩
        rw [ht, rcU_put, List.map_append, ← rngV_eq]
        exact upd_same
      · obtain ⟨t1, t2, t3, rfl, eD, sm⟩ := hI
        rw [hln, List.take_length] at eD
        walk_at "rd"
        exact q D _ hD eD sm
    ) only [↓lt_eq]
theorem ok_needed_records {f : Addr} {fd : FuncData} {f_check_stretch : Addr} {fd_check_stretch : FuncData} {f_sound_length : Addr} {fd_sound_length : FuncData} {f_records_up_to : Addr} {fd_records_up_to : FuncData} {f_needed_entries : Addr} {fd_needed_entries : FuncData}    (D : Dn K mg "needed_records" s_needed_records ["index", "start", "end"] f fd) (bi : Bi mg) (G_check_stretch : FnOk P w K mg base CX0 3 f_check_stretch fd_check_stretch ["start", "end", "length"] spStretch) (D_check_stretch : Dn K mg "check_stretch" s_check_stretch ["start", "end", "length"] f_check_stretch fd_check_stretch) (G_sound_length : FnOk P w K mg base CX0 1 f_sound_length fd_sound_length ["index"] (spSndLen K)) (D_sound_length : Dn K mg "sound_length" s_sound_length ["index"] f_sound_length fd_sound_length) (G_records_up_to : FnOk P w K mg base CX0 1 f_records_up_to fd_records_up_to ["entries"] (spRcU K)) (D_records_up_to : Dn K mg "records_up_to" s_records_up_to ["entries"] f_records_up_to fd_records_up_to) (G_needed_entries : FnOk P w K mg base CX0 2 f_needed_entries fd_needed_entries ["index", "start", "end"] (spNdE K)) (D_needed_entries : Dn K mg "needed_entries" s_needed_entries ["index", "start", "end"] f_needed_entries fd_needed_entries)    : FnOk P w K mg base CX0 4 f fd ["index", "start", "end"] (spNdd K) := by
  refine lt_out ?_
  simp (disch := with_unfolding_all
    refine D.F.ok sc_needed_records (fun vs H Q E h => ?_) (fun cdv A outer s H vs Q E hr h => ?_)
    · obtain ⟨a, s, e, idx, rows, rfl, _⟩ := h
      rfl
    · obtain ⟨a, s, e, idx, rows, rfl, h, r, l, o, h0, h1, h2, q⟩ := h
      refine ⟨_, (pss_cons (ps_expr (pe_call G_check_stretch (hr.mono (by first | decide | exact Nat.le_refl _)) (by rfl) D_check_stretch.g D_check_stretch.F.kp D_check_stretch.b .nil pass0 (pa_cons (pv 1) (pa_cons (pv 2) (pa_cons (pe_call G_sound_length (hr.mono (by first | decide | exact Nat.le_refl _)) (by rfl) D_sound_length.g D_sound_length.F.kp D_sound_length.b .nil pass0 (pa_cons (pv 0) pa_nil)) pa_nil)))))
   (pss_one (ps_ret (pe_call G_records_up_to (hr.mono (by first | decide | exact Nat.le_refl _)) (by rfl) D_records_up_to.g D_records_up_to.F.kp D_records_up_to.b .nil pass0 (pa_cons (pe_call G_needed_entries (hr.mono (by first | decide | exact Nat.le_refl _)) (by rfl) D_needed_entries.g D_needed_entries.F.kp D_needed_entries.b .nil pass0 (pa_cons (pv 0) (pa_cons (pv 1) (pa_cons (pv 2) pa_nil)))) pa_nil))))), ?_⟩
      refine rd_start (σ := [some (.ref a), some (.int s), some (.int e)]) rfl ?_
      walk_at "rd"
      refine use_sndlen h r ?_
      walk_at "rd"
      refine use_stretch h0 h1 h2 fun H1 hs1 => ?_
      have e1 := hs1 _ _ h
      have r1 := r.same hs1
      walk_at "rd"
      refine use_ndE e1 r1 l fun D sel H2 hD eD hsel hs2 => ?_
      walk_at "rd"
      refine use_rcU eD hsel (o.sub nd_sub) fun D2 H3 hD2 eD2 hs3 => ?_
      exact q D2 H3 (hs1.free (hs2.free hD2)) eD2 ((hs1.trans hs2).trans hs3)
    ) only [↓lt_eq]
theorem ok_reached {f : Addr} {fd : FuncData}     (D : Dn K mg "_law_reached" s_reached ["_law_rows", "_law_first", "_law_last"] f fd) (bi : Bi mg)     : FnOk P w K mg base CX0 1 f fd ["_law_rows", "_law_first", "_law_last"] (spReached K) := by
  refine lt_out ?_
  simp (disch := with_unfolding_all
    refine D.F.ok sc_reached (fun vs H Q E h => ?_) (fun cdv A outer s H vs Q E hr h => ?_)
    · obtain ⟨a, s, e, rws, rows, rfl, _⟩ := h
      rfl
    · obtain ⟨a, s, e, rws, rows, rfl, h, r, l, h0, h1, h2, q⟩ := h
      refine ⟨_, (pss_cons (ps_set (i := 3) sc_reached.nd rfl (Or.inl rfl) (pe_lst pa_nil))
   (pss_cons (ps_for PassesOwn.never rfl (pi_enum (by rfl) bi.enumerate_ (pa_cons (pv 0) pa_nil)) (pg_tup rfl (pgs_cons (pg_name (i := 4) sc_reached.nd rfl (Or.inl rfl)) (pgs_cons (pg_name (i := 5) sc_reached.nd rfl (Or.inl rfl)) pgs_nil)))
   (pss_cons (ps_asg (pe_tup (pa_cons (pe_op op_sub (pe_ix ix_tup (pv 5) pe_int (fun _ _ => rfl)) (pe_ix ix_tup (pe_ix ix_tup (pv 5) pe_int (fun _ _ => rfl)) pe_int (fun _ _ => rfl))) (pa_cons (pe_op op_add (pe_op op_add (pe_ix ix_tup (pv 5) pe_int (fun _ _ => rfl)) (pe_ix ix_tup (pv 5) pe_int (fun _ _ => rfl))) (pe_ix ix_tup (pe_ix ix_tup (pv 5) pe_int (fun _ _ => rfl)) pe_int (fun _ _ => rfl))) pa_nil))) (pg_tup rfl (pgs_cons (pg_name (i := 6) sc_reached.nd rfl (Or.inr rfl)) (pgs_cons (pg_name (i := 7) sc_reached.nd rfl (Or.inr rfl)) pgs_nil))))
   (pss_one (ps_if (pt_cmpR (op_neD hr.units) (pe_lc (own := [("_law_place", 8)]) (g := gName 8) (tt := _) rfl sc_reached.nd (pi_range2 (by rfl) bi.range_ (pa_cons (pv 1) (pa_cons (pv 2) pa_nil))) (blkOk_by (N := ["_law_rows", "_law_first", "_law_last", "_law_found", "_law_at", "_law_row", "_law_near", "_law_far", "_law_place"]) (sc := defScope s_reached) (by decide +kernel)) (fun _ _ _ _ _ => pg_name (i := 8) sc_reached.nd rfl (Or.inl rfl)) (fun _ _ _ _ _ => (pts_one (pt_chain op_le op_lt (pv 6) (pv 8) (pv 7)))) (fun _ _ _ _ _ => (pv 8))) (pe_lst pa_nil) (nomark _))
   (pss_one (ps_expr (pe_bm PySem.F.plainAttrs_list PySem.F.slot_list_append PySem.F.type_list_append mt_append (pv 3) (pa_cons (pv 4) pa_nil))))
   pss_nil))))
   (pss_one (ps_ret (pv 3))))), ?_⟩
      refine rd_start (σ := [some (.ref a), some (.int s), some (.int e), none, none, none, none, none, none]) rfl ?_
      walk_at "rd"
      rename_i D hD
      have rl := r.len
      refine rd_lpE (SqL.of (look_new hD h)) ?_
      refine for_enum (xs := rws) (fun i σ H' => ∃ t1 t2 t3 t4 t5, σ = [some (.ref a), some (.int s), some (.int e), some (.ref D), t1, t2, t3, t4, t5] ∧ H' D = some (.lst ((ixsW (hitW s e) rows i).map nv)) ∧ Same H H') ⟨none, none, none, none, none, rfl, upd_same, same_new hD⟩ (fun i σ H1 _ hI => ?_) (fun i v σ H1 W hv hI hW => ?_) (fun σ H1 hI => ?_)
      · obtain ⟨t1, t2, t3, t4, t5, rfl, eD, sm⟩ := hI
        exact SqL.of (sm _ _ h)
      · obtain ⟨t1, t2, t3, t4, t5, rfl, eD, sm⟩ := hI
        have hil := (List.getElem?_eq_some_iff.mp hv).1
        obtain ⟨r', hv2, hm, he, _⟩ := r.takeS hv
        have eD := look_new (o := .tup [.int (i : Nat), v]) hW eD
        have sm := sm.trans (same_new (o := .tup [.int (i : Nat), v]) hW)
        obtain ⟨b, jl, j, rfl, hb, hl, hj⟩ := hv2.same sm
        walk_at "rd"
        refine rd_ixT hl.1 (v := .int (r'.2.2.2.1.1 : Nat)) rfl ?_
        walk_at "rd"
        rename_i T hT
        have eD := look_new (o := .tup [.int ((r'.2.1 : Int) - (r'.2.2.2.1.1 : Nat)), .int ((r'.2.1 : Int) + (r'.2.2.1.1 : Nat) + ((r'.2.2.1.2.1, r'.2.2.1.2.2.1).1 : Nat))]) hT eD
        have sm := sm.trans (same_new (o := .tup [.int ((r'.2.1 : Int) - (r'.2.2.2.1.1 : Nat)), .int ((r'.2.1 : Int) + (r'.2.2.1.1 : Nat) + ((r'.2.2.1.2.1, r'.2.2.1.2.2.1).1 : Nat))]) hT)
        refine rd_lc2 ?_
        walk_at "rd"
        rename_i E hE
        refine lc_filtI (fun x => decide (rnear r' ≤ x) && decide (x < rfar r')) (fun _ => rfl) hE (by omega) (fun x H3 q3 hs3 hq => ?_) (fun x H3 Q' hq => ?_) (fun H3 hs3 eE => ?_)
        · walk_at "rd"
          refine rd_iteD (fun c => ?_) (fun c => ?_)
          · walk_at "rd"
            have e2 : (decide (rnear r' ≤ x) && decide (x < rfar r')) = decide (x < rfar r') := by rw [decide_eq_true (show rnear r' ≤ x from c)]; rfl
            have hq : q3 (decide (rnear r' ≤ x) && decide (x < rfar r')) H3 := hq
            rw [e2] at hq
            exact hq
          · have e2 : (decide (rnear r' ≤ x) && decide (x < rfar r')) = false := by rw [decide_eq_false (show ¬ rnear r' ≤ x from c)]; rfl
            have hq : q3 (decide (rnear r' ≤ x) && decide (x < rfar r')) H3 := hq
            rw [e2] at hq
            exact ⟨_, rfl, hq⟩
        · walk_at "rd"
          exact hq
        · rw [show s + (((e - s).toNat : Nat) : Int) = e by omega] at eE
          have eD3 := hs3 _ _ eD
          have sm3 := sm.trans hs3
          walk_at "rd"
          rename_i Z hZ
          have hh : hitW s e r' = !decide (((rngI s e).filter fun x => decide (rnear r' ≤ x) && decide (x < rfar r')) = []) := by
            unfold hitW
            cases (rngI s e).filter fun x => decide (rnear r' ≤ x) && decide (x < rfar r') <;> rfl
          rw [← hh]
          have eD4 := look_new (o := .lst []) hZ eD3
          have sm4 := sm3.trans (same_new (o := .lst []) hZ)
          have li := ixsW_len (hitW s e) rows i
          cases c : hitW s e r' with
          | true =>
            refine if_yes rfl ?_
            walk_at "rd"
            refine rd_appG eD4 (by rw [List.length_map]; omega) ?_
            walk_at "rd"
            refine ⟨_, _, _, _, _, rfl, ?_, same_put sm4 hD⟩
            rw [ixsW_snoc he, c, if_pos rfl, List.map_append]
            exact upd_same
          | false =>
            refine if_no rfl ?_
            walk_at "rd"
            refine ⟨_, _, _, _, _, rfl, ?_, sm4⟩
            rw [ixsW_snoc he, c, if_neg Bool.false_ne_true, List.append_nil]
            exact eD4
      · obtain ⟨t1, t2, t3, t4, t5, rfl, eD, sm⟩ := hI
        rw [rl] at eD
        walk_at "rd"
        exact q D _ hD eD sm
    ) only [↓lt_eq]
theorem ok_needed {f : Addr} {fd : FuncData}     (D : Dn K mg "_law_needed" s_needed ["_law_rows", "_law_frames"] f fd) (bi : Bi mg)    (g_sorted : mg "sorted" = none) : FnOk P w K mg base CX0 1 f fd ["_law_rows", "_law_frames"] (spNeedL K) := by
  refine lt_out ?_
  simp (disch := with_unfolding_all
    refine D.F.ok sc_needed (fun vs H Q E h => ?_) (fun cdv A outer s H vs Q E hr h => ?_)
    · obtain ⟨a, b, rws, rows, js, rfl, _⟩ := h
      rfl
    · obtain ⟨a, b, rws, rows, js, rfl, h, r, hb, l, lt, o, q⟩ := h
      refine ⟨_, (pss_cons (ps_set (i := 2) sc_needed.nd rfl (Or.inl rfl) pe_dnewK)
   (pss_cons (ps_for PassesOwn.never rfl (pi_list (pv 1)) (pg_name (i := 3) sc_needed.nd rfl (Or.inl rfl))
   (pss_one (ps_for PassesOwn.never rfl (pi_range2 (by rfl) bi.range_ (pa_cons (pe_ix ix_tup (pe_ix ix_list (pv 0) (pv 3) (fun _ _ => rfl)) pe_int (fun _ _ => rfl)) (pa_cons (pe_op op_add (pe_ix ix_tup (pe_ix ix_list (pv 0) (pv 3) (fun _ _ => rfl)) pe_int (fun _ _ => rfl)) pe_int) pa_nil))) (pg_name (i := 4) sc_needed.nd rfl (Or.inl rfl))
   (pss_one (ps_dput (Nat.lt_of_le_of_lt (Nat.add_le_add_left (show 1 ≤ 64 by decide) _) hr.units) (pv 2) (pv 4) pe_bl rfl)))))
   (pss_one (ps_ret (pe_callB cr_sortedI (by rfl) g_sorted (by decide +kernel) (pa_cons (pe_callTy (call_list_dK rfl) (by rfl) bi.list_ (by decide +kernel) (pa_cons (pv 2) pa_nil)) pa_nil)))))), ?_⟩
      refine rd_start (σ := [some (.ref a), some (.ref b), none, none, none]) rfl ?_
      walk_at "rd"
      intro D hD
      walk_at "rd"
      refine rd_lpL (SqL.of (look_new hD hb)) ?_
      have rl := r.len
      refine for_list (xs := js.map nv) (fun i σ H' => ∃ ks t1 t2, σ = [some (.ref a), some (.ref b), some (.ref D), t1, t2] ∧ H' D = some (.dK (keysK ks)) ∧ Same H H' ∧ ks.Nodup ∧ ks.length ≤ i * 41 ∧ (∀ x, x ∈ ks ↔ ∃ j ∈ js.take i, ∃ r, rows[j]? = some r ∧ (r.2.2.2.2 : Int) ≤ x ∧ x ≤ r.1)) ⟨[], none, none, rfl, upd_same, same_new hD, .nil, Nat.le_refl _, fun x => ⟨fun z => (List.not_mem_nil z).elim, fun z => let ⟨_, hj, _⟩ := z; (List.not_mem_nil hj).elim⟩⟩ (fun i σ H1 _ hI => ?_) (fun i v σ H1 hv hI => ?_) (fun σ H1 hI => ?_)
      · obtain ⟨ks, t1, t2, rfl, eD, sm, _⟩ := hI
        exact SqL.of (sm _ _ hb)
      · obtain ⟨ks, t1, t2, rfl, eD, sm, nd, lk, mk⟩ := hI
        obtain ⟨j, hj, rfl⟩ : ∃ j, js[i]? = some j ∧ v = nv j := by
          rw [List.getElem?_map] at hv
          cases e : js[i]? with
          | none => rw [e] at hv; cases hv
          | some j => rw [e] at hv; exact ⟨j, rfl, (Option.some.inj hv).symm⟩
        have hil := (List.getElem?_eq_some_iff.mp hj).1
        have hjl := lt j (List.mem_of_getElem? hj)
        have gw := List.getElem?_eq_getElem (show j < rws.length by omega)
        obtain ⟨r', er, hv2, _⟩ := r.at_ j _ gw
        obtain ⟨b', jl, j2, ev, hb', _⟩ := hv2.same sm
        rw [ev] at gw
        obtain ⟨or, or2⟩ := o r' (List.mem_of_getElem? er)
        walk_at "rd"
        refine rd_ixL (SqL.of (sm _ _ h)) (atI_nat gw) ?_
        walk_at "rd"
        refine rd_ixL (SqL.of (sm _ _ h)) (atI_nat gw) ?_
        walk_at "rd"
        refine for_range (fun m σ H2 => ∃ ks2 t2, σ = [some (.ref a), some (.ref b), some (.ref D), some (nv j), t2] ∧ H2 D = some (.dK (keysK ks2)) ∧ Same H H2 ∧ ks2.Nodup ∧ ks2.length ≤ ks.length + m ∧ (∀ x, x ∈ ks2 ↔ x ∈ ks ∨ ((r'.2.2.2.2 : Int) ≤ x ∧ x < (r'.2.2.2.2 : Int) + (m : Nat)))) ⟨ks, _, rfl, eD, sm, nd, Nat.le_refl _, fun x => ⟨.inl, fun z => z.elim id fun w => by omega⟩⟩ (fun m σ H2 hm hI => ?_) (fun σ H2 hI => ?_)
        · obtain ⟨ks2, t2, rfl, eD2, sm2, nd2, l2, mk2⟩ := hI
          walk_at "rd"
          refine rd_dput ?_
          walk_at "rd"
          have hlt : (keysK ks2).length < sizeLine := by
            unfold keysK
            rw [List.length_map]
            exact Nat.lt_of_le_of_lt (show _ ≤ 10000 by omega) (by unfold sizeLine; decide)
          refine ⟨D, _, rfl, DPut.k (k := .inl ((r'.2.2.2.2 : Int) + (m : Nat))) eD2 hlt, ?_⟩
          rw [putK_keys]
          have pl := putX_len ks2 ((r'.2.2.2.2 : Int) + (m : Nat))
          refine ⟨_, _, rfl, upd_same, same_put sm2 hD, putX_nd nd2, by omega, fun x => ?_⟩
          rw [putX_mem, mk2]
          constructor
          · rintro ((z | z) | z)
            · exact .inl z
            · exact .inr (by omega)
            · exact .inr (by omega)
          · rintro (z | z)
            · exact .inl (.inl z)
            · by_cases c : x = (r'.2.2.2.2 : Int) + (m : Nat)
              · exact .inr c
              · exact .inl (.inr (by omega))
        · obtain ⟨ks2, t2, rfl, eD2, sm2, nd2, l2, mk2⟩ := hI
          refine ⟨ks2, _, _, rfl, eD2, sm2, nd2, by omega, fun x => ?_⟩
          rw [mk2, mk, List.take_add_one, hj]
          constructor
          · rintro (⟨j', a1, r2, a2, a3⟩ | z)
            · exact ⟨j', List.mem_append.mpr (.inl a1), r2, a2, a3⟩
            · exact ⟨j, List.mem_append.mpr (.inr (List.mem_singleton.mpr rfl)), r', er, by omega, by omega⟩
          · rintro ⟨j', a1, r2, a2, a3⟩
            rcases List.mem_append.mp a1 with a1 | a1
            · exact .inl ⟨j', a1, r2, a2, a3⟩
            · obtain rfl : j' = j := List.mem_singleton.mp a1
              rw [er] at a2
              obtain rfl := Option.some.inj a2
              exact .inr (by omega)
      · obtain ⟨ks, t1, t2, rfl, eD, sm, nd, lk, mk⟩ := hI
        rw [List.length_map, List.take_length] at mk
        walk_at "rd"
        refine ⟨D, _, rfl, eD, fun L hL => ?_⟩
        rw [keysK_list]
        walk_at "rd"
        refine ⟨L, ks, rfl, SqL.of upd_same, fun ns p pm as hp => ?_⟩
        exact q p ns _ (sm.free ((same_new hL).free hp)) upd_same (lt_of_nodup as (pm.nodup_iff.mpr nd)) (fun x => pm.mem_iff.trans (mk x)) ((sm.trans (same_new hL)).trans (same_new hp))
    ) only [↓lt_eq]
theorem ok_length {f : Addr} {fd : FuncData}     (D : Dn K mg "_law_length" s_length ["_law_rows"] f fd) (bi : Bi mg)     : FnOk P w K mg base CX0 1 f fd ["_law_rows"] (spLenL K) := by
  refine lt_out ?_
  simp (disch := with_unfolding_all
    refine D.F.ok sc_length (fun vs H Q E h => ?_) (fun cdv A outer s H vs Q E hr h => ?_)
    · obtain ⟨a, rws, rows, rfl, _⟩ := h
      rfl
    · obtain ⟨a, rws, rows, rfl, h, r, q⟩ := h
      refine ⟨_, (pss_one (ps_ret (pe_ifExp (pt_cmpR (op_neD hr.units) (pv 0) (pe_lst pa_nil) (nomark _)) (pe_op op_add (pe_ix ix_tup (pe_ix ix_list (pv 0) (pe_un un_neg pe_int) (fun _ _ => rfl)) pe_int (fun _ _ => rfl)) (pe_ix ix_tup (pe_ix ix_list (pv 0) (pe_un un_neg pe_int) (fun _ _ => rfl)) pe_int (fun _ _ => rfl))) pe_int))), ?_⟩
      refine rd_start (σ := [some (.ref a)]) rfl ?_
      walk_at "rd"
      rename_i D hD
      have h2 := look_new (o := .lst []) hD h
      refine rd_neRw (SqL.of h2) (SqL.of upd_same) (r.same (same_new hD)) ?_
      rcases r.lastE with ⟨rfl, rfl⟩ | ⟨xs, v, rs, r', rfl, rfl, hv⟩
      · refine rd_bl (if_noN rfl ?_)
        walk_at "rd"
        exact q _ (same_new hD)
      · rw [lenW_snoc] at q
        obtain ⟨b, jl, j, rfl, hb, _⟩ := hv.same (same_new (o := .lst []) hD)
        refine rd_bl (if_yesN (by simp) ?_)
        walk_at "rd"
        refine rd_ixL (SqL.of h2) (atI_last _ _) ?_
        walk_at "rd"
        refine rd_ixL (SqL.of h2) (atI_last _ _) ?_
        walk_at "rd"
        exact q _ (same_new hD)
    ) only [↓lt_eq]
theorem ok_stretch {f : Addr} {fd : FuncData} {f_take : Addr} {fd_take : FuncData} {f_length : Addr} {fd_length : FuncData}    (D : Dn K mg "_law_stretch" s_stretch ["_law_pool_here", "_law_rows"] f fd) (bi : Bi mg) (G_take : FnOk P w K mg base CX0 1 f_take fd_take ["_law_pool_here", "_law_many"] spTake) (D_take : Dn K mg "_law_take" s_take ["_law_pool_here", "_law_many"] f_take fd_take) (G_length : FnOk P w K mg base CX0 1 f_length fd_length ["_law_rows"] (spLenL K)) (D_length : Dn K mg "_law_length" s_length ["_law_rows"] f_length fd_length)    : FnOk P w K mg base CX0 2 f fd ["_law_pool_here", "_law_rows"] (spStrL K) := by
  refine lt_out ?_
  simp (disch := with_unfolding_all
    refine D.F.ok sc_stretch (fun vs H Q E h => ?_) (fun cdv A outer s H vs Q E hr h => ?_)
    · obtain ⟨p, a, rws, rows, rfl, _⟩ := h
      rfl
    · obtain ⟨p, a, rws, rows, rfl, hP, n, h, r, l, le, l5, q⟩ := h
      refine ⟨_, (pss_cons (ps_set (i := 2) sc_stretch.nd rfl (Or.inl rfl) (pe_call G_length (hr.mono (by first | decide | exact Nat.le_refl _)) (by rfl) D_length.g D_length.F.kp D_length.b .nil pass0 (pa_cons (pv 1) pa_nil)))
   (pss_cons (ps_set (i := 3) sc_stretch.nd rfl (Or.inl rfl) (pe_call G_take (hr.mono (by first | decide | exact Nat.le_refl _)) (by rfl) D_take.g D_take.F.kp D_take.b .nil pass0 (pa_cons (pv 0) (pa_cons (pe_op op_add (pv 2) pe_int) pa_nil))))
   (pss_cons (ps_set (i := 4) sc_stretch.nd rfl (Or.inl rfl) (pe_op op_add (pv 3) (pe_ix ix_list (pe_lst (pa_cons pe_int (pa_cons (pe_callB (cMin rfl) (by rfl) bi.min_ (by decide +kernel) (pa_cons pe_int (pa_cons (pe_op op_sub (pv 2) (pv 3)) pa_nil))) (pa_cons (pe_call G_take (hr.mono (by first | decide | exact Nat.le_refl _)) (by rfl) D_take.g D_take.F.kp D_take.b .nil pass0 (pa_cons (pv 0) (pa_cons (pe_op op_add (pe_op op_sub (pv 2) (pv 3)) pe_int) pa_nil))) pa_nil)))) (pe_call G_take (hr.mono (by first | decide | exact Nat.le_refl _)) (by rfl) D_take.g D_take.F.kp D_take.b .nil pass0 (pa_cons (pv 0) (pa_cons pe_int pa_nil))) (fun _ _ => rfl))))
   (pss_cons (ps_if (PW.pt (pw_and (pt_cmpR (op_neD hr.units) (pv 1) (pe_lst pa_nil) (nomark _)) (pw_and1 (pt_cmpR op_eq (pe_call G_take (hr.mono (by first | decide | exact Nat.le_refl _)) (by rfl) D_take.g D_take.F.kp D_take.b .nil pass0 (pa_cons (pv 0) (pa_cons pe_int pa_nil))) pe_int (nomark _)))))
   (pss_cons (ps_set (i := 5) sc_stretch.nd rfl (Or.inl rfl) (pe_ix ix_list (pv 1) (pe_call G_take (hr.mono (by first | decide | exact Nat.le_refl _)) (by rfl) D_take.g D_take.F.kp D_take.b .nil pass0 (pa_cons (pv 0) (pa_cons (pe_callB cLen (by rfl) bi.len_ (by decide +kernel) (pa_cons (pv 1) pa_nil)) pa_nil))) (fun _ _ => rfl)))
   (pss_one (ps_par (i := 3) (j := 4) rfl sc_stretch.nd rfl rfl (by decide) rfl rfl (pa_cons (pe_ix ix_tup (pv 5) pe_int (fun _ _ => rfl)) (pa_cons (pe_op op_add (pe_ix ix_tup (pv 5) pe_int (fun _ _ => rfl)) (pe_ix ix_tup (pv 5) pe_int (fun _ _ => rfl))) pa_nil)) rfl)))
   pss_nil)
   (pss_one (ps_ret (pe_ix ix_list (pe_lst (pa_cons (pe_tup (pa_cons (pv 3) (pa_cons (pv 4) pa_nil))) (pa_cons (pe_tup (pa_cons pe_int (pa_cons (pv 2) pa_nil))) pa_nil))) (pe_callTy cInt (by rfl) bi.int_ (by decide +kernel) (pa_cons (pe_cmpR op_eq (pe_call G_take (hr.mono (by first | decide | exact Nat.le_refl _)) (by rfl) D_take.g D_take.F.kp D_take.b .nil pass0 (pa_cons (pv 0) (pa_cons pe_int pa_nil))) pe_int (nomark _)) pa_nil)) (fun _ _ => rfl)))))))), ?_⟩
      refine rd_start (σ := [some (.ref p), some (.ref a), none, none, none, none]) rfl ?_
      walk_at "rd"
      refine use_lenL h r fun H1 hs1 => ?_
      have h1 := hs1 _ _ h
      have r1 := r.same hs1
      have hP1 := hP.same hs1
      walk_at "rd"
      rename_i f' H2 f0 f1 hP2 hK2 g H3 g0 g1 hP3 hK3 L hL k H4 k0 k1 hP4 hK4
      have h3 := hK3 _ _ n (hK2 _ _ n h1)
      have h4 := hK4 _ _ n (look_new hL h3)
      have r4 := (((r1.lk (.pool hP1 hK2)).lk (.pool hP2 hK3)).lk (.new hL)).lk (.pool (hP3.new hL) hK4)
      have eL := hK4 _ _ (hP3.ne hL) upd_same
      have K4 : Kp p H H4 := (((Kp.of hs1).trans hK2).trans hK3).trans ((Kp.new hL).trans hK4)
      clear hK2 hK3 hK4
      obtain ⟨d, hd, d0, d1⟩ : ∃ d, atI [V.int 0, .int (if ((lenW rows : Nat) : Int) - f' < 1 then ((lenW rows : Nat) : Int) - f' else 1), .int g] k = some (.int d) ∧ 0 ≤ d ∧ d ≤ ((lenW rows : Nat) : Int) - f' := by
        have : k = 0 ∨ k = 1 ∨ k = 2 := by omega
        rcases this with rfl | rfl | rfl
        · exact ⟨0, rfl, by omega, by omega⟩
        · exact ⟨_, rfl, by split <;> omega, by split <;> omega⟩
        · exact ⟨g, rfl, by omega, by omega⟩
      refine rd_ixL (SqL.of eL) hd ?_
      walk_at "rd"
      rename_i D hD
      have h5 := look_new (o := .lst []) hD h4
      have r5 := r4.same (same_new (o := .lst []) hD)
      have K5 := K4.trans (Kp.new (o := .lst []) hD)
      refine rd_neRw (SqL.of h5) (SqL.of upd_same) r5 ?_
      by_cases c : rws = []
      · refine rd_bl (if_noN c ?_)
        walk_at "rd"
        rename_i t1 ht1 t2 ht2 L2 hL2 z H9 z0 z1 hP9 hK9
        have eL2 := hK9 _ _ ((((hP4.new hD).new ht1).new ht2).ne hL2) upd_same
        have e1 := hK9 _ _ ((hP4.new hD).ne ht1) (look_new hL2 (look_new ht2 upd_same))
        have e2 := hK9 _ _ (((hP4.new hD).new ht1).ne ht2) (look_new hL2 upd_same)
        have K9 := K5.trans ((Kp.new ht1).trans ((Kp.new ht2).trans ((Kp.new hL2).trans hK9)))
        by_cases cz9 : V.int z = V.int 0
        · rw [decide_eq_true cz9, if_pos rfl]
          exact rd_ixL (SqL.of eL2) (v := .ref t2) rfl (q t2 0 _ H9 e2 (Int.le_refl _) (by omega) (Int.le_refl _) hP9 K9)
        · rw [decide_eq_false cz9, if_neg Bool.false_ne_true]
          exact rd_ixL (SqL.of eL2) (v := .ref t1) rfl (q t1 _ _ H9 e1 (by omega) (by omega) (by omega) hP9 K9)
      · refine rd_bl (if_yesN c ?_)
        have lpos : 0 < rws.length := List.length_pos_iff.mpr c
        have rl := r.len
        walk_at "rd"
        rename_i k4 H6 k40 k41 hP6 hK6
        have h6 := hK6 _ _ n h5
        have r6 := r5.lk (.pool (hP4.new hD) hK6)
        have K6 := K5.trans hK6
        clear hK6
        refine rd_iteD (fun cz => ?_) (fun cz => ?_)
        · walk_at "rd"
          rename_i m H7 m0 m1 hP7 hK7
          have h7 := hK7 _ _ n h6
          have r7 := r6.lk (.pool hP6 hK7)
          have K7 := K6.trans hK7
          clear hK7
          obtain ⟨j, rfl⟩ : ∃ j : Nat, m = (j : Int) := ⟨m.toNat, by omega⟩
          have hjl : j < rws.length := by omega
          have gw := List.getElem?_eq_getElem hjl
          obtain ⟨r', er, hv2, _⟩ := r7.at_ j _ gw
          obtain ⟨b', jl, j2, ev, hb', _⟩ := hv2
          rw [ev] at gw
          have lr := le r' (List.mem_of_getElem? er)
          unfold rend at lr
          refine rd_ixL (SqL.of h7) (atI_nat gw) ?_
          walk_at "rd"
          rename_i t1 ht1 t2 ht2 L2 hL2 z H9 z0 z1 hP9 hK9
          have eL2 := hK9 _ _ (((hP7.new ht1).new ht2).ne hL2) upd_same
          have e1 := hK9 _ _ (hP7.ne ht1) (look_new hL2 (look_new ht2 upd_same))
          have e2 := hK9 _ _ ((hP7.new ht1).ne ht2) (look_new hL2 upd_same)
          have K9 := K7.trans ((Kp.new ht1).trans ((Kp.new ht2).trans ((Kp.new hL2).trans hK9)))
          by_cases cz9 : V.int z = V.int 0
          · rw [decide_eq_true cz9, if_pos rfl]
            exact rd_ixL (SqL.of eL2) (v := .ref t2) rfl (q t2 0 _ H9 e2 (Int.le_refl _) (by omega) (Int.le_refl _) hP9 K9)
          · rw [decide_eq_false cz9, if_neg Bool.false_ne_true]
            exact rd_ixL (SqL.of eL2) (v := .ref t1) rfl (q t1 _ _ H9 e1 (by omega) (by omega) (by omega) hP9 K9)
        ·
          walk_at "rd"
          rename_i t1 ht1 t2 ht2 L2 hL2 z H9 z0 z1 hP9 hK9
          have eL2 := hK9 _ _ (((hP6.new ht1).new ht2).ne hL2) upd_same
          have e1 := hK9 _ _ (hP6.ne ht1) (look_new hL2 (look_new ht2 upd_same))
          have e2 := hK9 _ _ ((hP6.new ht1).ne ht2) (look_new hL2 upd_same)
          have K9 := K6.trans ((Kp.new ht1).trans ((Kp.new ht2).trans ((Kp.new hL2).trans hK9)))
          by_cases cz9 : V.int z = V.int 0
          · rw [decide_eq_true cz9, if_pos rfl]
            exact rd_ixL (SqL.of eL2) (v := .ref t2) rfl (q t2 0 _ H9 e2 (Int.le_refl _) (by omega) (Int.le_refl _) hP9 K9)
          · rw [decide_eq_false cz9, if_neg Bool.false_ne_true]
            exact rd_ixL (SqL.of eL2) (v := .ref t1) rfl (q t1 _ _ H9 e1 (by omega) (by omega) (by omega) hP9 K9)
    ) only [↓lt_eq]
theorem ok_same0 {f : Addr} {fd : FuncData} (D_same : Dn K mg "_law_same" s_same ["_law_actual", "_law_due"] f fd) (bi : Bi mg) : FnOk P w K mg base CX0 1 f fd ["_law_actual", "_law_due"] (spSame K 0) := by
  refine lt_out ?_
  simp (disch := with_unfolding_all
    refine D_same.F.ok sc_same (fun vs H Q E h => ?_) (fun cdv A outer s H vs Q E hr h => ?_)
    · obtain ⟨x, y, rfl, _⟩ := h
      rfl
    · obtain ⟨x, y, rfl, HS, q⟩ := h
      obtain ⟨rfl, hx⟩ := HS
      refine ⟨_, (pss_cons (ps_if (pt_cmpR cIsN (pv 1) pe_non (nomark _))
   (pss_one (ps_ret (pe_cmpR cIsN (pv 0) pe_non (nomark _))))
   pss_nil)
   (pss_cons (ps_if (pt_val (pe_callB call_isi (by rfl) bi.isinstance_ (by decide +kernel) (pa_cons (pv 1) (pa_cons (pe_bltn (v := .ty "bool") (by rfl) bi.bool_ (by decide +kernel) rfl) pa_nil))))
   (pss_one (ps_ret (pe_and (pe_callB call_isi (by rfl) bi.isinstance_ (by decide +kernel) (pa_cons (pv 0) (pa_cons (pe_bltn (v := .ty "bool") (by rfl) bi.bool_ (by decide +kernel) rfl) pa_nil))) (pe_one (pe_cmpR op_eq (pv 0) (pv 1) (nomark _))))))
   pss_nil)
   (pss_cons (ps_if (pt_val (pe_callB call_isi (by rfl) bi.isinstance_ (by decide +kernel) (pa_cons (pv 1) (pa_cons (pe_bltn (v := .ty "int") (by rfl) bi.int_ (by decide +kernel) rfl) pa_nil))))
   (pss_one (ps_ret (pe_and (pe_callB call_isi (by rfl) bi.isinstance_ (by decide +kernel) (pa_cons (pv 0) (pa_cons (pe_bltn (v := .ty "int") (by rfl) bi.int_ (by decide +kernel) rfl) pa_nil))) (pe_and (pe_not (pe_callB call_isi (by rfl) bi.isinstance_ (by decide +kernel) (pa_cons (pv 0) (pa_cons (pe_bltn (v := .ty "bool") (by rfl) bi.bool_ (by decide +kernel) rfl) pa_nil)))) (pe_one (pe_cmpR op_eq (pv 0) (pv 1) (nomark _)))))))
   pss_nil)
   (pss_cons (ps_if (pt_val (pe_callB call_isi (by rfl) bi.isinstance_ (by decide +kernel) (pa_cons (pv 1) (pa_cons (pe_bltn (v := .ty "str") (by rfl) bi.str_ (by decide +kernel) rfl) pa_nil))))
   (pss_one (ps_ret (pe_and (pe_callB call_isi (by rfl) bi.isinstance_ (by decide +kernel) (pa_cons (pv 0) (pa_cons (pe_bltn (v := .ty "str") (by rfl) bi.str_ (by decide +kernel) rfl) pa_nil))) (pe_one (pe_cmpR op_eq (pv 0) (pv 1) (nomark _))))))
   pss_nil)
   pss_never)))), ?_⟩
      refine rd_start (σ := [some x, some x, none, none]) rfl ?_
      have hQ := q H (Same.refl _)
      cases x with
      | non =>
        walk_at "rd"
        refine if_yesD rfl ?_
        walk_at "rd"
        rw [show decide (V.non = V.non) = true from decide_eq_true rfl]
        exact hQ
      | bl b =>
        walk_at "rd"
        refine if_noD (fun z => V.noConfusion z) ?_
        walk_at "rd"
        rw [show decide (V.bl b = V.bl b) = true from decide_eq_true rfl]
        exact hQ
      | int b =>
        walk_at "rd"
        refine if_noD (fun z => V.noConfusion z) ?_
        walk_at "rd"
        rw [show decide (V.int b = V.int b) = true from decide_eq_true rfl]
        exact hQ
      | str b =>
        walk_at "rd"
        refine if_noD (fun z => V.noConfusion z) ?_
        walk_at "rd"
        rw [show decide (V.str b = V.str b) = true from decide_eq_true rfl]
        exact hQ
      | ref _ => exact Bool.noConfusion hx
      | byt _ => exact Bool.noConfusion hx
      | flt _ => exact Bool.noConfusion hx
      | ty _ => exact Bool.noConfusion hx
    ) only [↓lt_eq]
theorem ok_sameS {f : Addr} {fd : FuncData} {n k : Nat} (D_same : Dn K mg "_law_same" s_same ["_law_actual", "_law_due"] f fd) (bi : Bi mg) (G_same : FnOk P w K mg base CX0 (k + 1) f fd ["_law_actual", "_law_due"] (spSame K n)) : FnOk P w K mg base CX0 (k + 2) f fd ["_law_actual", "_law_due"] (spSame K (n + 1)) := by
  refine lt_out ?_
  simp (disch := with_unfolding_all
    refine D_same.F.ok sc_same (fun vs H Q E h => ?_) (fun cdv A outer s H vs Q E hr h => ?_)
    · obtain ⟨x, y, rfl, _⟩ := h
      rfl
    · obtain ⟨x, y, rfl, HS, q⟩ := h
      rcases HS with HS | ⟨a, b, xs, ys, rfl, rfl, h1, h2, hl, HI⟩ | ⟨a, b, xs, ys, rfl, rfl, h1, h2, hl, HI⟩
      · obtain ⟨rfl, hx⟩ := HS
        refine ⟨_, (pss_cons (ps_if (pt_cmpR cIsN (pv 1) pe_non (nomark _))
   (pss_one (ps_ret (pe_cmpR cIsN (pv 0) pe_non (nomark _))))
   pss_nil)
   (pss_cons (ps_if (pt_val (pe_callB call_isi (by rfl) bi.isinstance_ (by decide +kernel) (pa_cons (pv 1) (pa_cons (pe_bltn (v := .ty "bool") (by rfl) bi.bool_ (by decide +kernel) rfl) pa_nil))))
   (pss_one (ps_ret (pe_and (pe_callB call_isi (by rfl) bi.isinstance_ (by decide +kernel) (pa_cons (pv 0) (pa_cons (pe_bltn (v := .ty "bool") (by rfl) bi.bool_ (by decide +kernel) rfl) pa_nil))) (pe_one (pe_cmpR op_eq (pv 0) (pv 1) (nomark _))))))
   pss_nil)
   (pss_cons (ps_if (pt_val (pe_callB call_isi (by rfl) bi.isinstance_ (by decide +kernel) (pa_cons (pv 1) (pa_cons (pe_bltn (v := .ty "int") (by rfl) bi.int_ (by decide +kernel) rfl) pa_nil))))
   (pss_one (ps_ret (pe_and (pe_callB call_isi (by rfl) bi.isinstance_ (by decide +kernel) (pa_cons (pv 0) (pa_cons (pe_bltn (v := .ty "int") (by rfl) bi.int_ (by decide +kernel) rfl) pa_nil))) (pe_and (pe_not (pe_callB call_isi (by rfl) bi.isinstance_ (by decide +kernel) (pa_cons (pv 0) (pa_cons (pe_bltn (v := .ty "bool") (by rfl) bi.bool_ (by decide +kernel) rfl) pa_nil)))) (pe_one (pe_cmpR op_eq (pv 0) (pv 1) (nomark _)))))))
   pss_nil)
   (pss_cons (ps_if (pt_val (pe_callB call_isi (by rfl) bi.isinstance_ (by decide +kernel) (pa_cons (pv 1) (pa_cons (pe_bltn (v := .ty "str") (by rfl) bi.str_ (by decide +kernel) rfl) pa_nil))))
   (pss_one (ps_ret (pe_and (pe_callB call_isi (by rfl) bi.isinstance_ (by decide +kernel) (pa_cons (pv 0) (pa_cons (pe_bltn (v := .ty "str") (by rfl) bi.str_ (by decide +kernel) rfl) pa_nil))) (pe_one (pe_cmpR op_eq (pv 0) (pv 1) (nomark _))))))
   pss_nil)
   pss_never)))), ?_⟩
        refine rd_start (σ := [some x, some x, none, none]) rfl ?_
        have hQ := q H (Same.refl _)
        cases x with
        | non =>
          walk_at "rd"
          refine if_yesD rfl ?_
          walk_at "rd"
          rw [show decide (V.non = V.non) = true from decide_eq_true rfl]
          exact hQ
        | bl b =>
          walk_at "rd"
          refine if_noD (fun z => V.noConfusion z) ?_
          walk_at "rd"
          rw [show decide (V.bl b = V.bl b) = true from decide_eq_true rfl]
          exact hQ
        | int b =>
          walk_at "rd"
          refine if_noD (fun z => V.noConfusion z) ?_
          walk_at "rd"
          rw [show decide (V.int b = V.int b) = true from decide_eq_true rfl]
          exact hQ
        | str b =>
          walk_at "rd"
          refine if_noD (fun z => V.noConfusion z) ?_
          walk_at "rd"
          rw [show decide (V.str b = V.str b) = true from decide_eq_true rfl]
          exact hQ
        | ref _ => exact Bool.noConfusion hx
        | byt _ => exact Bool.noConfusion hx
        | flt _ => exact Bool.noConfusion hx
        | ty _ => exact Bool.noConfusion hx

      · refine ⟨_, (pss_cons (ps_if (pt_cmpR cIsN (pv 1) pe_non (nomark _))
   (pss_one (ps_ret (pe_cmpR cIsN (pv 0) pe_non (nomark _))))
   pss_nil)
   (pss_cons (ps_if (pt_val (pe_callB call_isi (by rfl) bi.isinstance_ (by decide +kernel) (pa_cons (pv 1) (pa_cons (pe_bltn (v := .ty "bool") (by rfl) bi.bool_ (by decide +kernel) rfl) pa_nil))))
   (pss_one (ps_ret (pe_and (pe_callB call_isi (by rfl) bi.isinstance_ (by decide +kernel) (pa_cons (pv 0) (pa_cons (pe_bltn (v := .ty "bool") (by rfl) bi.bool_ (by decide +kernel) rfl) pa_nil))) (pe_one (pe_cmpR op_eq (pv 0) (pv 1) (nomark _))))))
   pss_nil)
   (pss_cons (ps_if (pt_val (pe_callB call_isi (by rfl) bi.isinstance_ (by decide +kernel) (pa_cons (pv 1) (pa_cons (pe_bltn (v := .ty "int") (by rfl) bi.int_ (by decide +kernel) rfl) pa_nil))))
   (pss_one (ps_ret (pe_and (pe_callB call_isi (by rfl) bi.isinstance_ (by decide +kernel) (pa_cons (pv 0) (pa_cons (pe_bltn (v := .ty "int") (by rfl) bi.int_ (by decide +kernel) rfl) pa_nil))) (pe_and (pe_not (pe_callB call_isi (by rfl) bi.isinstance_ (by decide +kernel) (pa_cons (pv 0) (pa_cons (pe_bltn (v := .ty "bool") (by rfl) bi.bool_ (by decide +kernel) rfl) pa_nil)))) (pe_one (pe_cmpR op_eq (pv 0) (pv 1) (nomark _)))))))
   pss_nil)
   (pss_cons (ps_if (pt_val (pe_callB call_isi (by rfl) bi.isinstance_ (by decide +kernel) (pa_cons (pv 1) (pa_cons (pe_bltn (v := .ty "str") (by rfl) bi.str_ (by decide +kernel) rfl) pa_nil))))
   (pss_one (ps_ret (pe_and (pe_callB call_isi (by rfl) bi.isinstance_ (by decide +kernel) (pa_cons (pv 0) (pa_cons (pe_bltn (v := .ty "str") (by rfl) bi.str_ (by decide +kernel) rfl) pa_nil))) (pe_one (pe_cmpR op_eq (pv 0) (pv 1) (nomark _))))))
   pss_nil)
   (pss_cons (ps_if (PW.pt (pw_and (pt_val (pe_callB call_isi (by rfl) bi.isinstance_ (by decide +kernel) (pa_cons (pv 1) (pa_cons (pe_bltn (v := .ty "list") (by rfl) bi.list_ (by decide +kernel) rfl) pa_nil)))) (pw_and1 (pt_not (pt_val (pe_callB call_isi (by rfl) bi.isinstance_ (by decide +kernel) (pa_cons (pv 0) (pa_cons (pe_bltn (v := .ty "list") (by rfl) bi.list_ (by decide +kernel) rfl) pa_nil))))))))
   (pss_one (ps_ret pe_bl))
   pss_nil)
   (pss_cons (ps_if (PW.pt (pw_and (pt_val (pe_callB call_isi (by rfl) bi.isinstance_ (by decide +kernel) (pa_cons (pv 1) (pa_cons (pe_bltn (v := .ty "tuple") (by rfl) bi.tuple_ (by decide +kernel) rfl) pa_nil)))) (pw_and1 (pt_not (pt_val (pe_callB call_isi (by rfl) bi.isinstance_ (by decide +kernel) (pa_cons (pv 0) (pa_cons (pe_bltn (v := .ty "tuple") (by rfl) bi.tuple_ (by decide +kernel) rfl) pa_nil))))))))
   (pss_one (ps_ret pe_bl))
   pss_nil)
   (pss_cons (ps_if (pt_cmpR op_ne (pe_callB cLen (by rfl) bi.len_ (by decide +kernel) (pa_cons (pv 0) pa_nil)) (pe_callB cLen (by rfl) bi.len_ (by decide +kernel) (pa_cons (pv 1) pa_nil)) (nomark _))
   (pss_one (ps_ret pe_bl))
   pss_nil)
   (pss_cons (ps_for PassesOwn.never rfl (RZ.pi_zipA (by rfl) bi.zip_ (pa_cons (pv 0) (pa_cons (pv 1) pa_nil))) (pg_tup rfl (pgs_cons (pg_name (i := 2) sc_same.nd rfl (Or.inl rfl)) (pgs_cons (pg_name (i := 3) sc_same.nd rfl (Or.inl rfl)) pgs_nil)))
   (pss_one (ps_if (pt_not (pt_val (pe_call G_same (hr.mono (by first | decide | exact Nat.le_refl _)) (by rfl) D_same.g D_same.F.kp D_same.b .nil pass0 (pa_cons (pv 2) (pa_cons (pv 3) pa_nil)))))
   (pss_one (ps_ret pe_bl))
   pss_nil)))
   (pss_one (ps_ret pe_bl)))))))))), ?_⟩
        refine rd_start (σ := [some (.ref a), some (.ref b), none, none]) rfl ?_
        have L1 := h1.1
        have L2 := h2.1
        walk_at "rd"
        refine if_noD (fun z => V.noConfusion z) ?_
        walk_at "rd"
        refine isi_ty h2.2 (d := false) (by decide +kernel) ?_
        walk_at "rd"
        refine isi_ty h2.2 (d := false) (by decide +kernel) ?_
        walk_at "rd"
        refine isi_ty h2.2 (d := false) (by decide +kernel) ?_
        walk_at "rd"
        refine isi_ty h2.2 (d := true) (by decide +kernel) ?_
        walk_at "rd"
        refine isi_ty h1.2 (d := true) (by decide +kernel) ?_
        walk_at "rd"
        refine isi_ty h2.2 (d := false) (by decide +kernel) ?_
        walk_at "rd"
        refine if_noN (by rw [hl]) ?_
        walk_at "rd"
        refine ⟨a, b, xs, ys, rfl, .inl ⟨L1, L2, ?_⟩⟩
        refine for_zip hl (fun i σ H' => ∃ t u, σ = [some (.ref a), some (.ref b), t, u] ∧ Same H H') ⟨none, none, rfl, Same.refl _⟩ (fun i σ H1 _ hI => ?_) (fun i v u σ H1 T hv hu hI hT => ?_) (fun σ H1 hI => ?_)
        · obtain ⟨t, u, rfl, hs⟩ := hI
          exact ⟨hs.seq L1, hs.seq L2⟩
        · obtain ⟨t, u', rfl, hs⟩ := hI
          walk_at "rd"
          refine use_same (.same (hs.trans (same_new hT)) _ (HI i v u hv hu)) fun H2 hs2 => ?_
          walk_at "rd"
          exact ⟨_, _, rfl, (hs.trans (same_new hT)).trans hs2⟩
        · obtain ⟨t, u, rfl, hs⟩ := hI
          walk_at "rd"
          exact q _ hs
      · refine ⟨_, (pss_cons (ps_if (pt_cmpR cIsN (pv 1) pe_non (nomark _))
   (pss_one (ps_ret (pe_cmpR cIsN (pv 0) pe_non (nomark _))))
   pss_nil)
   (pss_cons (ps_if (pt_val (pe_callB call_isi (by rfl) bi.isinstance_ (by decide +kernel) (pa_cons (pv 1) (pa_cons (pe_bltn (v := .ty "bool") (by rfl) bi.bool_ (by decide +kernel) rfl) pa_nil))))
   (pss_one (ps_ret (pe_and (pe_callB call_isi (by rfl) bi.isinstance_ (by decide +kernel) (pa_cons (pv 0) (pa_cons (pe_bltn (v := .ty "bool") (by rfl) bi.bool_ (by decide +kernel) rfl) pa_nil))) (pe_one (pe_cmpR op_eq (pv 0) (pv 1) (nomark _))))))
   pss_nil)
   (pss_cons (ps_if (pt_val (pe_callB call_isi (by rfl) bi.isinstance_ (by decide +kernel) (pa_cons (pv 1) (pa_cons (pe_bltn (v := .ty "int") (by rfl) bi.int_ (by decide +kernel) rfl) pa_nil))))
   (pss_one (ps_ret (pe_and (pe_callB call_isi (by rfl) bi.isinstance_ (by decide +kernel) (pa_cons (pv 0) (pa_cons (pe_bltn (v := .ty "int") (by rfl) bi.int_ (by decide +kernel) rfl) pa_nil))) (pe_and (pe_not (pe_callB call_isi (by rfl) bi.isinstance_ (by decide +kernel) (pa_cons (pv 0) (pa_cons (pe_bltn (v := .ty "bool") (by rfl) bi.bool_ (by decide +kernel) rfl) pa_nil)))) (pe_one (pe_cmpR op_eq (pv 0) (pv 1) (nomark _)))))))
   pss_nil)
   (pss_cons (ps_if (pt_val (pe_callB call_isi (by rfl) bi.isinstance_ (by decide +kernel) (pa_cons (pv 1) (pa_cons (pe_bltn (v := .ty "str") (by rfl) bi.str_ (by decide +kernel) rfl) pa_nil))))
   (pss_one (ps_ret (pe_and (pe_callB call_isi (by rfl) bi.isinstance_ (by decide +kernel) (pa_cons (pv 0) (pa_cons (pe_bltn (v := .ty "str") (by rfl) bi.str_ (by decide +kernel) rfl) pa_nil))) (pe_one (pe_cmpR op_eq (pv 0) (pv 1) (nomark _))))))
   pss_nil)
   (pss_cons (ps_if (PW.pt (pw_and (pt_val (pe_callB call_isi (by rfl) bi.isinstance_ (by decide +kernel) (pa_cons (pv 1) (pa_cons (pe_bltn (v := .ty "list") (by rfl) bi.list_ (by decide +kernel) rfl) pa_nil)))) (pw_and1 (pt_not (pt_val (pe_callB call_isi (by rfl) bi.isinstance_ (by decide +kernel) (pa_cons (pv 0) (pa_cons (pe_bltn (v := .ty "list") (by rfl) bi.list_ (by decide +kernel) rfl) pa_nil))))))))
   (pss_one (ps_ret pe_bl))
   pss_nil)
   (pss_cons (ps_if (PW.pt (pw_and (pt_val (pe_callB call_isi (by rfl) bi.isinstance_ (by decide +kernel) (pa_cons (pv 1) (pa_cons (pe_bltn (v := .ty "tuple") (by rfl) bi.tuple_ (by decide +kernel) rfl) pa_nil)))) (pw_and1 (pt_not (pt_val (pe_callB call_isi (by rfl) bi.isinstance_ (by decide +kernel) (pa_cons (pv 0) (pa_cons (pe_bltn (v := .ty "tuple") (by rfl) bi.tuple_ (by decide +kernel) rfl) pa_nil))))))))
   (pss_one (ps_ret pe_bl))
   pss_nil)
   (pss_cons (ps_if (pt_cmpR op_ne (pe_callB cLen (by rfl) bi.len_ (by decide +kernel) (pa_cons (pv 0) pa_nil)) (pe_callB cLen (by rfl) bi.len_ (by decide +kernel) (pa_cons (pv 1) pa_nil)) (nomark _))
   (pss_one (ps_ret pe_bl))
   pss_nil)
   (pss_cons (ps_for PassesOwn.never rfl (RZ.pi_zipA (by rfl) bi.zip_ (pa_cons (pv 0) (pa_cons (pv 1) pa_nil))) (pg_tup rfl (pgs_cons (pg_name (i := 2) sc_same.nd rfl (Or.inl rfl)) (pgs_cons (pg_name (i := 3) sc_same.nd rfl (Or.inl rfl)) pgs_nil)))
   (pss_one (ps_if (pt_not (pt_val (pe_call G_same (hr.mono (by first | decide | exact Nat.le_refl _)) (by rfl) D_same.g D_same.F.kp D_same.b .nil pass0 (pa_cons (pv 2) (pa_cons (pv 3) pa_nil)))))
   (pss_one (ps_ret pe_bl))
   pss_nil)))
   (pss_one (ps_ret pe_bl)))))))))), ?_⟩
        refine rd_start (σ := [some (.ref a), some (.ref b), none, none]) rfl ?_
        have L1 := h1.1
        have L2 := h2.1
        walk_at "rd"
        refine if_noD (fun z => V.noConfusion z) ?_
        walk_at "rd"
        refine isi_ty h2.2 (d := false) (by decide +kernel) ?_
        walk_at "rd"
        refine isi_ty h2.2 (d := false) (by decide +kernel) ?_
        walk_at "rd"
        refine isi_ty h2.2 (d := false) (by decide +kernel) ?_
        walk_at "rd"
        refine isi_ty h2.2 (d := false) (by decide +kernel) ?_
        walk_at "rd"
        refine isi_ty h2.2 (d := true) (by decide +kernel) ?_
        walk_at "rd"
        refine isi_ty h1.2 (d := true) (by decide +kernel) ?_
        walk_at "rd"
        refine if_noN (by rw [hl]) ?_
        walk_at "rd"
        refine ⟨a, b, xs, ys, rfl, .inr ⟨L1, L2, ?_⟩⟩
        refine for_zipT hl (fun i σ H' => ∃ t u, σ = [some (.ref a), some (.ref b), t, u] ∧ Same H H') ⟨none, none, rfl, Same.refl _⟩ (fun i σ H1 _ hI => ?_) (fun i v u σ H1 T hv hu hI hT => ?_) (fun σ H1 hI => ?_)
        · obtain ⟨t, u, rfl, hs⟩ := hI
          exact ⟨same_seqT hs L1, same_seqT hs L2⟩
        · obtain ⟨t, u', rfl, hs⟩ := hI
          walk_at "rd"
          refine use_same (.same (hs.trans (same_new hT)) _ (HI i v u hv hu)) fun H2 hs2 => ?_
          walk_at "rd"
          exact ⟨_, _, rfl, (hs.trans (same_new hT)).trans hs2⟩
        · obtain ⟨t, u, rfl, hs⟩ := hI
          walk_at "rd"
          exact q _ hs
    ) only [↓lt_eq]
theorem ok_law {f : Addr} {fd : FuncData} {f_pool : Addr} {fd_pool : FuncData} {f_take : Addr} {fd_take : FuncData} {f_stream : Addr} {fd_stream : FuncData} {f_reached : Addr} {fd_reached : FuncData} {f_needed : Addr} {fd_needed : FuncData} {f_stretch : Addr} {fd_stretch : FuncData} {f_same : Addr} {fd_same : FuncData} {f_index_of : Addr} {fd_index_of : FuncData} {f_needed_records : Addr} {fd_needed_records : FuncData} {f_Stream___init__ : Addr} {fd_Stream___init__ : FuncData} {C_Stream : Addr}   (D : Dn K mg "law" s_law ["_law_script"] f fd) (bi : Bi mg) (G_pool : FnOk P w K mg base CX0 1 f_pool fd_pool ["_law_script", "_law_k"] (spPool K)) (D_pool : Dn K mg "_law_pool" s_pool ["_law_script", "_law_k"] f_pool fd_pool) (G_take : FnOk P w K mg base CX0 1 f_take fd_take ["_law_pool_here", "_law_many"] spTake) (D_take : Dn K mg "_law_take" s_take ["_law_pool_here", "_law_many"] f_take fd_take) (G_stream : FnOk P w K mg base CX0 5 f_stream fd_stream ["_law_pool_here", "_law_many"] (spStream K)) (D_stream : Dn K mg "_law_stream" s_stream ["_law_pool_here", "_law_many"] f_stream fd_stream) (G_reached : FnOk P w K mg base CX0 1 f_reached fd_reached ["_law_rows", "_law_first", "_law_last"] (spReached K)) (D_reached : Dn K mg "_law_reached" s_reached ["_law_rows", "_law_first", "_law_last"] f_reached fd_reached) (G_needed : FnOk P w K mg base CX0 1 f_needed fd_needed ["_law_rows", "_law_frames"] (spNeedL K)) (D_needed : Dn K mg "_law_needed" s_needed ["_law_rows", "_law_frames"] f_needed fd_needed) (G_stretch : FnOk P w K mg base CX0 2 f_stretch fd_stretch ["_law_pool_here", "_law_rows"] (spStrL K)) (D_stretch : Dn K mg "_law_stretch" s_stretch ["_law_pool_here", "_law_rows"] f_stretch fd_stretch) (G_same : FnOk P w K mg base CX0 4 f_same fd_same ["_law_actual", "_law_due"] (spSame K 3)) (D_same : Dn K mg "_law_same" s_same ["_law_actual", "_law_due"] f_same fd_same) (G_index_of : FnOk P w K mg base CX0 5 f_index_of fd_index_of ["stream"] (spIdx K C_Stream)) (D_index_of : Dn K mg "index_of" s_index_of ["stream"] f_index_of fd_index_of) (G_needed_records : FnOk P w K mg base CX0 4 f_needed_records fd_needed_records ["index", "start", "end"] (spNdd K)) (D_needed_records : Dn K mg "needed_records" s_needed_records ["index", "start", "end"] f_needed_records fd_needed_records) (G_Stream___init__ : FnOk P w K mg base CX0 9 f_Stream___init__ fd_Stream___init__ ["self", "records"] (spInitS K C_Stream)) (D_Stream___init__ : Mn K C_Stream "__init__" "Stream.__init__" s_Stream___init__ ["self", "records"] f_Stream___init__ fd_Stream___init__) (TC_Stream : StmC K mg C_Stream)   : FnOk P w K mg base CX0 11 f fd ["_law_script"] (spLaw K) := by
  refine lt_out ?_
  simp (disch := with_unfolding_all
    refine D.F.ok sc_law (fun vs H Q E h => ?_) (fun cdv A outer s H vs Q E hr h => ?_)
    · obtain ⟨a, ns, rfl, _⟩ := h
      rfl
    · obtain ⟨a, ns, rfl, hS, hl, q⟩ := h
      refine ⟨_, (pss_cons (ps_for PassesOwn.never rfl (pi_range1 (by rfl) bi.range_ (pa_cons (pe_callB (cMax rfl) (by rfl) bi.max_ (by decide +kernel) (pa_cons pe_int (pa_cons (pe_callB (cMin rfl) (by rfl) bi.min_ (by decide +kernel) (pa_cons (pe_callB cLen (by rfl) bi.len_ (by decide +kernel) (pa_cons (pv 0) pa_nil)) (pa_cons pe_int pa_nil))) pa_nil))) pa_nil)) (pg_name (i := 1) sc_law.nd rfl (Or.inl rfl))
   (pss_cons (ps_set (i := 2) sc_law.nd rfl (Or.inl rfl) (pe_call G_pool (hr.mono (by first | decide | exact Nat.le_refl _)) (by rfl) D_pool.g D_pool.F.kp D_pool.b .nil pass0 (pa_cons (pv 0) (pa_cons (pv 1) pa_nil))))
   (pss_cons (ps_asg (pe_call G_stream (hr.mono (by first | decide | exact Nat.le_refl _)) (by rfl) D_stream.g D_stream.F.kp D_stream.b .nil pass0 (pa_cons (pv 2) (pa_cons (pe_call G_take (hr.mono (by first | decide | exact Nat.le_refl _)) (by rfl) D_take.g D_take.F.kp D_take.b .nil pass0 (pa_cons (pv 2) (pa_cons pe_int pa_nil))) pa_nil))) (pg_lst rfl (pgs_cons (pg_name (i := 3) sc_law.nd rfl (Or.inl rfl)) (pgs_cons (pg_name (i := 4) sc_law.nd rfl (Or.inl rfl)) (pgs_cons (pg_name (i := 5) sc_law.nd rfl (Or.inl rfl)) pgs_nil)))))
   (pss_cons (ps_set (i := 6) sc_law.nd rfl (Or.inl rfl) (pe_call G_index_of (hr.mono (by first | decide | exact Nat.le_refl _)) (by rfl) D_index_of.g D_index_of.F.kp D_index_of.b .nil pass0 (pa_cons (pe_make ⟨TC_Stream.mks, D_Stream___init__.m.at_, D_Stream___init__.m.fn, TC_Stream.kc⟩ G_Stream___init__ (hr.mono (by first | decide | exact Nat.le_refl _)) (by rfl) TC_Stream.g D_Stream___init__.b .nil pass0 (pa_cons (pv 3) pa_nil)) pa_nil)))
   (pss_one (ps_for PassesOwn.never rfl (pi_range1 (by rfl) bi.range_ (pa_cons pe_int pa_nil)) (pg_name (i := 7) sc_law.nd rfl (Or.inl rfl))
   (pss_cons (ps_asg (pe_call G_stretch (hr.mono (by first | decide | exact Nat.le_refl _)) (by rfl) D_stretch.g D_stretch.F.kp D_stretch.b .nil pass0 (pa_cons (pv 2) (pa_cons (pv 4) pa_nil))) (pg_tup rfl (pgs_cons (pg_name (i := 8) sc_law.nd rfl (Or.inl rfl)) (pgs_cons (pg_name (i := 9) sc_law.nd rfl (Or.inl rfl)) pgs_nil))))
   (pss_cons (ps_set (i := 10) sc_law.nd rfl (Or.inl rfl) (pe_call G_needed (hr.mono (by first | decide | exact Nat.le_refl _)) (by rfl) D_needed.g D_needed.F.kp D_needed.b .nil pass0 (pa_cons (pv 4) (pa_cons (pe_call G_reached (hr.mono (by first | decide | exact Nat.le_refl _)) (by rfl) D_reached.g D_reached.F.kp D_reached.b .nil pass0 (pa_cons (pv 4) (pa_cons (pv 8) (pa_cons (pv 9) pa_nil)))) pa_nil))))
   (pss_cons (ps_set (i := 11) sc_law.nd rfl (Or.inl rfl) (pe_call G_needed_records (hr.mono (by first | decide | exact Nat.le_refl _)) (by rfl) D_needed_records.g D_needed_records.F.kp D_needed_records.b .nil pass0 (pa_cons (pv 6) (pa_cons (pv 8) (pa_cons (pv 9) pa_nil)))))
   (pss_cons (ps_if (PW.pt (pw_or (pt_not (pt_val (pe_call G_same (hr.mono (by first | decide | exact Nat.le_refl _)) (by rfl) D_same.g D_same.F.kp D_same.b .nil pass0 (pa_cons (pv 11) (pa_cons (pv 10) pa_nil))))) (pw_or1 (pt_not (pt_val (pe_call G_same (hr.mono (by first | decide | exact Nat.le_refl _)) (by rfl) D_same.g D_same.F.kp D_same.b .nil pass0 (pa_cons (pv 6) (pa_cons (pv 4) pa_nil))))))))
   (pss_one (ps_ret pe_bl))
   pss_nil)
   (pss_cons (ps_expr (pe_bm PySem.F.plainAttrs_list PySem.F.slot_list_append PySem.F.type_list_append mt_append (pv 11) (pa_cons pe_int pa_nil)))
   (pss_one (ps_if (pt_not (pt_val (pe_call G_same (hr.mono (by first | decide | exact Nat.le_refl _)) (by rfl) D_same.g D_same.F.kp D_same.b .nil pass0 (pa_cons (pe_call G_needed_records (hr.mono (by first | decide | exact Nat.le_refl _)) (by rfl) D_needed_records.g D_needed_records.F.kp D_needed_records.b .nil pass0 (pa_cons (pv 6) (pa_cons (pv 8) (pa_cons (pv 9) pa_nil)))) (pa_cons (pv 10) pa_nil)))))
   (pss_one (ps_ret pe_bl))
   pss_nil)))))))))))))
   (pss_one (ps_ret pe_bl))), ?_⟩
      refine rd_start (σ := [some (.ref a), none, none, none, none, none, none, none, none, none, none, none]) rfl ?_
      walk_at "rd"
      have hn := mm_nat (ns.map V.int).length 8 (by decide)
      refine for_range (lo := 0) (n := _) (fun i σ H' => ∃ x1 x2 x3 x4 x5 x6 x7 x8 x9 x10 x11, σ = [some (.ref a), x1, x2, x3, x4, x5, x6, x7, x8, x9, x10, x11] ∧ Same H H') ⟨_, _, _, _, _, _, _, _, _, _, _, rfl, by walk_at "sm"⟩ (fun i σ H1 hi hI => ?_) (fun σ H1 hI => ?_)
      · obtain ⟨x1, x2, x3, x4, x5, x6, x7, x8, x9, x10, x11, rfl, hs⟩ := hI
        have hi' : i < 8 := Nat.lt_of_lt_of_le hi hn
        have hS1 : SqL K H1 a (ns.map V.int) := hs.seq hS
        walk_at "rd"
        rename_i p H2 hp0 hs2 hP2 r3 H3 h30 h31 hP3 hK3
        obtain ⟨m, rfl⟩ : ∃ k : Nat, r3 = (k : Int) := ⟨r3.toNat, by omega⟩
        refine use_stream hP3 (by omega) fun L R W B refs rws bks rs T H4 nL nR nW nB eL eR eW eB hl hRc hRw hBk hV hP4 hK4 => ?_
        refine rd_glst (SqL.of eL) rfl ?_
        walk_at "rd"
        refine rd_mk ?_
        walk_at "rd"
        intro x dx hx hdx hne
        have sx : Same H4 (upd (upd H4 dx (.own x)) x (.ins C_Stream dx [])) := fun b o e => by
          rw [upd_ne (ne_of_none e hx), upd_ne (ne_of_none e hdx)]
          exact e
        have eN := sx _ _ eR
        refine use_init upd_same eN (by omega) (hRc.lk (.of sx)) hV fun H5 hS5 hK5 => ⟨rfl, ?_⟩
        have s45 : Same H4 H5 := fun b o e => hK5 b o (ne_of_none e hx) (sx _ _ e)
        walk_at "rd"
        refine use_idx hS5 fun A idx H6 hA eA hix hs6 => ?_
        have S14 : Same H1 H4 := same_kp (same_kp hs2 hp0 hK3) hp0 hK4
        have s46 := s45.trans hs6
        have S16 := S14.trans s46
        have hP6 := hP4.same s46
        have hRw6 : RwsV K H6 rws (runR rs).rows := (hRw.lk (.of s46)).v
        have eW6 := s46 _ _ eW
        have nA : A ≠ p := (hP4.same s45).ne hA
        have nW' : W ≠ p := hP3.ne nW
        have ri := runR_at rs
        have lr := hRc.len
        have RO := runO hV.ok
        have ro := RO.rows (by omega)
        have lw := hRw6.len
        have li := hix.len
        have rl := rows_le rs
        have ple := RO.pl
        have last := RO.last
        have l5 : lenW (runR rs).rows ≤ 5000 := by omega
        have lend : ∀ r ∈ (runR rs).rows, rend r ≤ lenW (runR rs).rows := fun r hr => by rw [last]; exact (RO.each r hr).2.2.2
        have lo : ∀ r ∈ (runR rs).rows, r.1 < 40 ∧ r.2.2.2.2 ≤ r.1 := fun r hr => ⟨(ro.each r hr).2, (ro.each r hr).1.o⟩
        clear hK3 hK4 hK5 hs2 sx
        walk_at "rd"
        refine for_range (lo := 0) (n := 5) (fun t σ H' => ∃ y1 y2 y3 y4 y5, σ = [some (.ref a), some (.int (0 + (i : Int))), some (.ref p), some (.ref R), some (.ref W), some (.ref B), some (.ref A), y1, y2, y3, y4, y5] ∧ Pool H' p ∧ Kp p H6 H') ⟨_, _, _, _, _, rfl, hP6, fun _ _ _ z => z⟩ (fun t σ H7 ht hI => ?_) (fun σ H7 hI => ?_)
        · obtain ⟨y1, y2, y3, y4, y5, rfl, hP7, hK7⟩ := hI
          have eW7 := hK7 _ _ nW' eW6
          have hRw7 := hRw6.lk (.pool hP6 hK7)
          walk_at "rd"
          refine use_strL hP7 nW' eW7 hRw7 (by omega) lend l5 fun t8 s e H8 et s0 se ele hP8 hK8 => ?_
          have K8 := hK7.trans hK8
          have eW8 := K8 _ _ nW' eW6
          have hRw8 := hRw6.lk (.pool hP6 K8)
          have eA8 := K8 _ _ nA eA
          have hix8 := hix.lk (.pool hP6 K8)
          clear hK7 hK8
          walk_at "rd"
          refine use_reached eW8 hRw8 (by omega) s0 se (by omega) fun F H9 hF eF hs9 => ?_
          walk_at "rd"
          refine use_needL (hs9 _ _ eW8) (hRw8.same hs9) eF (by have := ixsW_len (hitW s e) (runR rs).rows (runR rs).rows.length; omega) (fun j hj => ixsW_lt hj) lo fun D ns H10 hD eD as mem hs10 => ?_
          have s8x := hs9.trans hs10
          walk_at "rd"
          refine use_ndd (s8x _ _ eA8) (hix8.same s8x) (by omega) ro s0 se ele fun G H11 hG eG hs11 => ?_
          rw [need_same ro se as mem] at eG
          have ln := (ro.sub (nd_sub (s := s) (e := e))).lenU
          rw [need_same ro se as mem] at ln
          walk_at "rd"
          have s8y := s8x.trans hs11
          refine use_same (sm_ints3 eG (hs11 _ _ eD)) fun H12 hs12 => ?_
          walk_at "rd"
          have s8z := s8y.trans hs12
          refine use_same (sm_rows (s8z _ _ eA8) (s8z _ _ eW8) (hix8.same s8z) (hRw8.same s8z)) fun H13 hs13 => ?_
          have eG13 := hs13 _ _ (hs12 _ _ eG)
          walk_at "rd"
          have sXG : Same H10 (upd H13 G (.lst ((ns ++ [0]).map V.int))) := same_put ((hs11.trans hs12).trans hs13) hG
          have s8w := s8x.trans sXG
          refine use_ndd (s8w _ _ eA8) (hix8.same s8w) (by omega) ro s0 se ele fun G2 H14 hG2 eG2 hs14 => ?_
          rw [need_same ro se as mem] at eG2
          walk_at "rd"
          refine use_same (sm_ints3 eG2 (hs14 _ _ (sXG _ _ eD))) fun H15 hs15 => ?_
          walk_at "rd"
          have sl := (s8w.trans hs14).trans hs15
          exact ⟨_, _, _, _, _, rfl, hP8.same sl, K8.trans (Kp.of sl)⟩
        · obtain ⟨y1, y2, y3, y4, y5, rfl, hP7, hK7⟩ := hI
          exact ⟨_, _, _, _, _, _, _, _, _, _, _, rfl, hs.trans (same_kp S16 hp0 hK7)⟩
      · obtain ⟨x1, x2, x3, x4, x5, x6, x7, x8, x9, x10, x11, rfl, hs⟩ := hI
        walk_at "rd"
        exact q _
    ) only [↓lt_eq]
end
theorem all_mk {l : PySem.W.OpenLaw} {w : World} {K : PySem.W.Frag} {h : Heap} {mg : Str → Option Value} {fa : Addr} (X : K.In h) (G : h.Ns mainGlobals mg) (hfa : mg "law" = some (.ref fa))
    {f_is_integer : Addr} {od_is_integer an_is_integer : Option Addr} {sl_is_integer : Array (Option Value)} {oc_is_integer kV_is_integer dc_is_integer pm_is_integer cd_is_integer ct_is_integer : Value}
    {f_is_within : Addr} {od_is_within an_is_within : Option Addr} {sl_is_within : Array (Option Value)} {oc_is_within kV_is_within dc_is_within pm_is_within cd_is_within ct_is_within : Value}
    {f_check_integer : Addr} {od_check_integer an_check_integer : Option Addr} {sl_check_integer : Array (Option Value)} {oc_check_integer kV_check_integer dc_check_integer pm_check_integer cd_check_integer ct_check_integer : Value}
    {f_check_within : Addr} {od_check_within an_check_within : Option Addr} {sl_check_within : Array (Option Value)} {oc_check_within kV_check_within dc_check_within pm_check_within cd_check_within ct_check_within : Value}
    {f_check_stretch : Addr} {od_check_stretch an_check_stretch : Option Addr} {sl_check_stretch : Array (Option Value)} {oc_check_stretch kV_check_stretch dc_check_stretch pm_check_stretch cd_check_stretch ct_check_stretch : Value}
    {f_check_items : Addr} {od_check_items an_check_items : Option Addr} {sl_check_items : Array (Option Value)} {oc_check_items kV_check_items dc_check_items pm_check_items cd_check_items ct_check_items : Value}
    {f_check_block : Addr} {od_check_block an_check_block : Option Addr} {sl_check_block : Array (Option Value)} {oc_check_block kV_check_block dc_check_block pm_check_block cd_check_block ct_check_block : Value}
    {f_is_joint : Addr} {od_is_joint an_is_joint : Option Addr} {sl_is_joint : Array (Option Value)} {oc_is_joint kV_is_joint dc_is_joint pm_is_joint cd_is_joint ct_is_joint : Value}
    {f_coarse_count : Addr} {od_coarse_count an_coarse_count : Option Addr} {sl_coarse_count : Array (Option Value)} {oc_coarse_count kV_coarse_count dc_coarse_count pm_coarse_count cd_coarse_count ct_coarse_count : Value}
    {f_is_table : Addr} {od_is_table an_is_table : Option Addr} {sl_is_table : Array (Option Value)} {oc_is_table kV_is_table dc_is_table pm_is_table cd_is_table ct_is_table : Value}
    {f_is_tables : Addr} {od_is_tables an_is_tables : Option Addr} {sl_is_tables : Array (Option Value)} {oc_is_tables kV_is_tables dc_is_tables pm_is_tables cd_is_tables ct_is_tables : Value}
    {f_parameter : Addr} {od_parameter an_parameter : Option Addr} {sl_parameter : Array (Option Value)} {oc_parameter kV_parameter dc_parameter pm_parameter cd_parameter ct_parameter : Value}
    {f_table_behind : Addr} {od_table_behind an_table_behind : Option Addr} {sl_table_behind : Array (Option Value)} {oc_table_behind kV_table_behind dc_table_behind pm_table_behind cd_table_behind ct_table_behind : Value}
    {f_code_number : Addr} {od_code_number an_code_number : Option Addr} {sl_code_number : Array (Option Value)} {oc_code_number kV_code_number dc_code_number pm_code_number cd_code_number ct_code_number : Value}
    {f_number_with : Addr} {od_number_with an_number_with : Option Addr} {sl_number_with : Array (Option Value)} {oc_number_with kV_number_with dc_number_with pm_number_with cd_number_with ct_number_with : Value}
    {f_read_numbers : Addr} {od_read_numbers an_read_numbers : Option Addr} {sl_read_numbers : Array (Option Value)} {oc_read_numbers kV_read_numbers dc_read_numbers pm_read_numbers cd_read_numbers ct_read_numbers : Value}
    {f_check_coding : Addr} {od_check_coding an_check_coding : Option Addr} {sl_check_coding : Array (Option Value)} {oc_check_coding kV_check_coding dc_check_coding pm_check_coding cd_check_coding ct_check_coding : Value}
    {f_read_code : Addr} {od_read_code an_read_code : Option Addr} {sl_read_code : Array (Option Value)} {oc_read_code kV_read_code dc_read_code pm_read_code cd_read_code ct_read_code : Value}
    {f_mark_of : Addr} {od_mark_of an_mark_of : Option Addr} {sl_mark_of : Array (Option Value)} {oc_mark_of kV_mark_of dc_mark_of pm_mark_of cd_mark_of ct_mark_of : Value}
    {f_is_record : Addr} {od_is_record an_is_record : Option Addr} {sl_is_record : Array (Option Value)} {oc_is_record kV_is_record dc_is_record pm_is_record cd_is_record ct_is_record : Value}
    {f_is_state : Addr} {od_is_state an_is_state : Option Addr} {sl_is_state : Array (Option Value)} {oc_is_state kV_is_state dc_is_state pm_is_state cd_is_state ct_is_state : Value}
    {f_is_frame : Addr} {od_is_frame an_is_frame : Option Addr} {sl_is_frame : Array (Option Value)} {oc_is_frame kV_is_frame dc_is_frame pm_is_frame cd_is_frame ct_is_frame : Value}
    {f_is_layout : Addr} {od_is_layout an_is_layout : Option Addr} {sl_is_layout : Array (Option Value)} {oc_is_layout kV_is_layout dc_is_layout pm_is_layout cd_is_layout ct_is_layout : Value}
    {f_is_bits : Addr} {od_is_bits an_is_bits : Option Addr} {sl_is_bits : Array (Option Value)} {oc_is_bits kV_is_bits dc_is_bits pm_is_bits cd_is_bits ct_is_bits : Value}
    {f_read_frame : Addr} {od_read_frame an_read_frame : Option Addr} {sl_read_frame : Array (Option Value)} {oc_read_frame kV_read_frame dc_read_frame pm_read_frame cd_read_frame ct_read_frame : Value}
    {f_check_records : Addr} {od_check_records an_check_records : Option Addr} {sl_check_records : Array (Option Value)} {oc_check_records kV_check_records dc_check_records pm_check_records cd_check_records ct_check_records : Value}
    {f_read_frames : Addr} {od_read_frames an_read_frames : Option Addr} {sl_read_frames : Array (Option Value)} {oc_read_frames kV_read_frames dc_read_frames pm_read_frames cd_read_frames ct_read_frames : Value}
    {f_index_of : Addr} {od_index_of an_index_of : Option Addr} {sl_index_of : Array (Option Value)} {oc_index_of kV_index_of dc_index_of pm_index_of cd_index_of ct_index_of : Value}
    {f_needed_records : Addr} {od_needed_records an_needed_records : Option Addr} {sl_needed_records : Array (Option Value)} {oc_needed_records kV_needed_records dc_needed_records pm_needed_records cd_needed_records ct_needed_records : Value}
    {f_sound_length : Addr} {od_sound_length an_sound_length : Option Addr} {sl_sound_length : Array (Option Value)} {oc_sound_length kV_sound_length dc_sound_length pm_sound_length cd_sound_length ct_sound_length : Value}
    {f_reach : Addr} {od_reach an_reach : Option Addr} {sl_reach : Array (Option Value)} {oc_reach kV_reach dc_reach pm_reach cd_reach ct_reach : Value}
    {f_needed_entries : Addr} {od_needed_entries an_needed_entries : Option Addr} {sl_needed_entries : Array (Option Value)} {oc_needed_entries kV_needed_entries dc_needed_entries pm_needed_entries cd_needed_entries ct_needed_entries : Value}
    {f_records_up_to : Addr} {od_records_up_to an_records_up_to : Option Addr} {sl_records_up_to : Array (Option Value)} {oc_records_up_to kV_records_up_to dc_records_up_to pm_records_up_to cd_records_up_to ct_records_up_to : Value}
    {f_pool : Addr} {od_pool an_pool : Option Addr} {sl_pool : Array (Option Value)} {oc_pool kV_pool dc_pool pm_pool cd_pool ct_pool : Value}
    {f_take : Addr} {od_take an_take : Option Addr} {sl_take : Array (Option Value)} {oc_take kV_take dc_take pm_take cd_take ct_take : Value}
    {f_same : Addr} {od_same an_same : Option Addr} {sl_same : Array (Option Value)} {oc_same kV_same dc_same pm_same cd_same ct_same : Value}
    {f_binary : Addr} {od_binary an_binary : Option Addr} {sl_binary : Array (Option Value)} {oc_binary kV_binary dc_binary pm_binary cd_binary ct_binary : Value}
    {f_l_parameter : Addr} {od_l_parameter an_l_parameter : Option Addr} {sl_l_parameter : Array (Option Value)} {oc_l_parameter kV_l_parameter dc_l_parameter pm_l_parameter cd_l_parameter ct_l_parameter : Value}
    {f_code : Addr} {od_code an_code : Option Addr} {sl_code : Array (Option Value)} {oc_code kV_code dc_code pm_code cd_code ct_code : Value}
    {f_behind : Addr} {od_behind an_behind : Option Addr} {sl_behind : Array (Option Value)} {oc_behind kV_behind dc_behind pm_behind cd_behind ct_behind : Value}
    {f_u : Addr} {od_u an_u : Option Addr} {sl_u : Array (Option Value)} {oc_u kV_u dc_u pm_u cd_u ct_u : Value}
    {f_written : Addr} {od_written an_written : Option Addr} {sl_written : Array (Option Value)} {oc_written kV_written dc_written pm_written cd_written ct_written : Value}
    {f_mark : Addr} {od_mark an_mark : Option Addr} {sl_mark : Array (Option Value)} {oc_mark kV_mark dc_mark pm_mark cd_mark ct_mark : Value}
    {f_counts : Addr} {od_counts an_counts : Option Addr} {sl_counts : Array (Option Value)} {oc_counts kV_counts dc_counts pm_counts cd_counts ct_counts : Value}
    {f_values : Addr} {od_values an_values : Option Addr} {sl_values : Array (Option Value)} {oc_values kV_values dc_values pm_values cd_values ct_values : Value}
    {f_heads : Addr} {od_heads an_heads : Option Addr} {sl_heads : Array (Option Value)} {oc_heads kV_heads dc_heads pm_heads cd_heads ct_heads : Value}
    {f_some : Addr} {od_some an_some : Option Addr} {sl_some : Array (Option Value)} {oc_some kV_some dc_some pm_some cd_some ct_some : Value}
    {f_frame : Addr} {od_frame an_frame : Option Addr} {sl_frame : Array (Option Value)} {oc_frame kV_frame dc_frame pm_frame cd_frame ct_frame : Value}
    {f_tables : Addr} {od_tables an_tables : Option Addr} {sl_tables : Array (Option Value)} {oc_tables kV_tables dc_tables pm_tables cd_tables ct_tables : Value}
    {f_stream : Addr} {od_stream an_stream : Option Addr} {sl_stream : Array (Option Value)} {oc_stream kV_stream dc_stream pm_stream cd_stream ct_stream : Value}
    {f_reached : Addr} {od_reached an_reached : Option Addr} {sl_reached : Array (Option Value)} {oc_reached kV_reached dc_reached pm_reached cd_reached ct_reached : Value}
    {f_needed : Addr} {od_needed an_needed : Option Addr} {sl_needed : Array (Option Value)} {oc_needed kV_needed dc_needed pm_needed cd_needed ct_needed : Value}
    {f_length : Addr} {od_length an_length : Option Addr} {sl_length : Array (Option Value)} {oc_length kV_length dc_length pm_length cd_length ct_length : Value}
    {f_stretch : Addr} {od_stretch an_stretch : Option Addr} {sl_stretch : Array (Option Value)} {oc_stretch kV_stretch dc_stretch pm_stretch cd_stretch ct_stretch : Value}
    {f_law : Addr} {od_law an_law : Option Addr} {sl_law : Array (Option Value)} {oc_law kV_law dc_law pm_law cd_law ct_law : Value}
    {t_BLOCK_LIMIT : Tok}
    {t_COUNT_LIMIT : Tok}
    {t_SHAPE_LIMIT : Tok}
    {t_WIDTH_LIMIT : Tok}
    {t_LEVEL_LIMIT : Tok}
    {t_STEP_LIMIT : Tok}
    {t_MARK_MODULUS : Tok}
    {t_HALVED_COUNT : Tok}
    {t_LONG_FORM : Tok}
    {t_MARK_FACTOR : Tok}
    {t_FRAME_ITEMS : Tok}
    (a_is_integer : PySem.W.nsIn K mainGlobals "is_integer" = some (some (.ref f_is_integer))) (l_is_integer : K.lookup f_is_integer = some ⟨oc_is_integer, od_is_integer, .func (PySem.W.fnOf "is_integer" "is_integer" (defArgs s_is_integer) (defBody s_is_integer) (defScope s_is_integer) .none kV_is_integer dc_is_integer pm_is_integer an_is_integer cd_is_integer ct_is_integer), sl_is_integer⟩) (c_is_integer : PySem.W.codeIn K cd_is_integer "is_integer" = true) (k_is_integer : PySem.W.keepIn K (.ref f_is_integer) = true)
    (a_is_within : PySem.W.nsIn K mainGlobals "is_within" = some (some (.ref f_is_within))) (l_is_within : K.lookup f_is_within = some ⟨oc_is_within, od_is_within, .func (PySem.W.fnOf "is_within" "is_within" (defArgs s_is_within) (defBody s_is_within) (defScope s_is_within) .none kV_is_within dc_is_within pm_is_within an_is_within cd_is_within ct_is_within), sl_is_within⟩) (c_is_within : PySem.W.codeIn K cd_is_within "is_within" = true) (k_is_within : PySem.W.keepIn K (.ref f_is_within) = true)
    (a_check_integer : PySem.W.nsIn K mainGlobals "check_integer" = some (some (.ref f_check_integer))) (l_check_integer : K.lookup f_check_integer = some ⟨oc_check_integer, od_check_integer, .func (PySem.W.fnOf "check_integer" "check_integer" (defArgs s_check_integer) (defBody s_check_integer) (defScope s_check_integer) .none kV_check_integer dc_check_integer pm_check_integer an_check_integer cd_check_integer ct_check_integer), sl_check_integer⟩) (c_check_integer : PySem.W.codeIn K cd_check_integer "check_integer" = true) (k_check_integer : PySem.W.keepIn K (.ref f_check_integer) = true)
    (a_check_within : PySem.W.nsIn K mainGlobals "check_within" = some (some (.ref f_check_within))) (l_check_within : K.lookup f_check_within = some ⟨oc_check_within, od_check_within, .func (PySem.W.fnOf "check_within" "check_within" (defArgs s_check_within) (defBody s_check_within) (defScope s_check_within) .none kV_check_within dc_check_within pm_check_within an_check_within cd_check_within ct_check_within), sl_check_within⟩) (c_check_within : PySem.W.codeIn K cd_check_within "check_within" = true) (k_check_within : PySem.W.keepIn K (.ref f_check_within) = true)
    (a_check_stretch : PySem.W.nsIn K mainGlobals "check_stretch" = some (some (.ref f_check_stretch))) (l_check_stretch : K.lookup f_check_stretch = some ⟨oc_check_stretch, od_check_stretch, .func (PySem.W.fnOf "check_stretch" "check_stretch" (defArgs s_check_stretch) (defBody s_check_stretch) (defScope s_check_stretch) .none kV_check_stretch dc_check_stretch pm_check_stretch an_check_stretch cd_check_stretch ct_check_stretch), sl_check_stretch⟩) (c_check_stretch : PySem.W.codeIn K cd_check_stretch "check_stretch" = true) (k_check_stretch : PySem.W.keepIn K (.ref f_check_stretch) = true)
    (a_check_items : PySem.W.nsIn K mainGlobals "check_items" = some (some (.ref f_check_items))) (l_check_items : K.lookup f_check_items = some ⟨oc_check_items, od_check_items, .func (PySem.W.fnOf "check_items" "check_items" (defArgs s_check_items) (defBody s_check_items) (defScope s_check_items) .none kV_check_items dc_check_items pm_check_items an_check_items cd_check_items ct_check_items), sl_check_items⟩) (c_check_items : PySem.W.codeIn K cd_check_items "check_items" = true) (k_check_items : PySem.W.keepIn K (.ref f_check_items) = true)
    (a_check_block : PySem.W.nsIn K mainGlobals "check_block" = some (some (.ref f_check_block))) (l_check_block : K.lookup f_check_block = some ⟨oc_check_block, od_check_block, .func (PySem.W.fnOf "check_block" "check_block" (defArgs s_check_block) (defBody s_check_block) (defScope s_check_block) .none kV_check_block dc_check_block pm_check_block an_check_block cd_check_block ct_check_block), sl_check_block⟩) (c_check_block : PySem.W.codeIn K cd_check_block "check_block" = true) (k_check_block : PySem.W.keepIn K (.ref f_check_block) = true)
    (a_is_joint : PySem.W.nsIn K mainGlobals "is_joint" = some (some (.ref f_is_joint))) (l_is_joint : K.lookup f_is_joint = some ⟨oc_is_joint, od_is_joint, .func (PySem.W.fnOf "is_joint" "is_joint" (defArgs s_is_joint) (defBody s_is_joint) (defScope s_is_joint) .none kV_is_joint dc_is_joint pm_is_joint an_is_joint cd_is_joint ct_is_joint), sl_is_joint⟩) (c_is_joint : PySem.W.codeIn K cd_is_joint "is_joint" = true) (k_is_joint : PySem.W.keepIn K (.ref f_is_joint) = true)
    (a_coarse_count : PySem.W.nsIn K mainGlobals "coarse_count" = some (some (.ref f_coarse_count))) (l_coarse_count : K.lookup f_coarse_count = some ⟨oc_coarse_count, od_coarse_count, .func (PySem.W.fnOf "coarse_count" "coarse_count" (defArgs s_coarse_count) (defBody s_coarse_count) (defScope s_coarse_count) .none kV_coarse_count dc_coarse_count pm_coarse_count an_coarse_count cd_coarse_count ct_coarse_count), sl_coarse_count⟩) (c_coarse_count : PySem.W.codeIn K cd_coarse_count "coarse_count" = true) (k_coarse_count : PySem.W.keepIn K (.ref f_coarse_count) = true)
    (a_is_table : PySem.W.nsIn K mainGlobals "is_table" = some (some (.ref f_is_table))) (l_is_table : K.lookup f_is_table = some ⟨oc_is_table, od_is_table, .func (PySem.W.fnOf "is_table" "is_table" (defArgs s_is_table) (defBody s_is_table) (defScope s_is_table) .none kV_is_table dc_is_table pm_is_table an_is_table cd_is_table ct_is_table), sl_is_table⟩) (c_is_table : PySem.W.codeIn K cd_is_table "is_table" = true) (k_is_table : PySem.W.keepIn K (.ref f_is_table) = true)
    (a_is_tables : PySem.W.nsIn K mainGlobals "is_tables" = some (some (.ref f_is_tables))) (l_is_tables : K.lookup f_is_tables = some ⟨oc_is_tables, od_is_tables, .func (PySem.W.fnOf "is_tables" "is_tables" (defArgs s_is_tables) (defBody s_is_tables) (defScope s_is_tables) .none kV_is_tables dc_is_tables pm_is_tables an_is_tables cd_is_tables ct_is_tables), sl_is_tables⟩) (c_is_tables : PySem.W.codeIn K cd_is_tables "is_tables" = true) (k_is_tables : PySem.W.keepIn K (.ref f_is_tables) = true)
    (a_parameter : PySem.W.nsIn K mainGlobals "parameter" = some (some (.ref f_parameter))) (l_parameter : K.lookup f_parameter = some ⟨oc_parameter, od_parameter, .func (PySem.W.fnOf "parameter" "parameter" (defArgs s_parameter) (defBody s_parameter) (defScope s_parameter) .none kV_parameter dc_parameter pm_parameter an_parameter cd_parameter ct_parameter), sl_parameter⟩) (c_parameter : PySem.W.codeIn K cd_parameter "parameter" = true) (k_parameter : PySem.W.keepIn K (.ref f_parameter) = true)
    (a_table_behind : PySem.W.nsIn K mainGlobals "table_behind" = some (some (.ref f_table_behind))) (l_table_behind : K.lookup f_table_behind = some ⟨oc_table_behind, od_table_behind, .func (PySem.W.fnOf "table_behind" "table_behind" (defArgs s_table_behind) (defBody s_table_behind) (defScope s_table_behind) .none kV_table_behind dc_table_behind pm_table_behind an_table_behind cd_table_behind ct_table_behind), sl_table_behind⟩) (c_table_behind : PySem.W.codeIn K cd_table_behind "table_behind" = true) (k_table_behind : PySem.W.keepIn K (.ref f_table_behind) = true)
    (a_code_number : PySem.W.nsIn K mainGlobals "code_number" = some (some (.ref f_code_number))) (l_code_number : K.lookup f_code_number = some ⟨oc_code_number, od_code_number, .func (PySem.W.fnOf "code_number" "code_number" (defArgs s_code_number) (defBody s_code_number) (defScope s_code_number) .none kV_code_number dc_code_number pm_code_number an_code_number cd_code_number ct_code_number), sl_code_number⟩) (c_code_number : PySem.W.codeIn K cd_code_number "code_number" = true) (k_code_number : PySem.W.keepIn K (.ref f_code_number) = true)
    (a_number_with : PySem.W.nsIn K mainGlobals "number_with" = some (some (.ref f_number_with))) (l_number_with : K.lookup f_number_with = some ⟨oc_number_with, od_number_with, .func (PySem.W.fnOf "number_with" "number_with" (defArgs s_number_with) (defBody s_number_with) (defScope s_number_with) .none kV_number_with dc_number_with pm_number_with an_number_with cd_number_with ct_number_with), sl_number_with⟩) (c_number_with : PySem.W.codeIn K cd_number_with "number_with" = true) (k_number_with : PySem.W.keepIn K (.ref f_number_with) = true)
    (a_read_numbers : PySem.W.nsIn K mainGlobals "read_numbers" = some (some (.ref f_read_numbers))) (l_read_numbers : K.lookup f_read_numbers = some ⟨oc_read_numbers, od_read_numbers, .func (PySem.W.fnOf "read_numbers" "read_numbers" (defArgs s_read_numbers) (defBody s_read_numbers) (defScope s_read_numbers) .none kV_read_numbers dc_read_numbers pm_read_numbers an_read_numbers cd_read_numbers ct_read_numbers), sl_read_numbers⟩) (c_read_numbers : PySem.W.codeIn K cd_read_numbers "read_numbers" = true) (k_read_numbers : PySem.W.keepIn K (.ref f_read_numbers) = true)
    (a_check_coding : PySem.W.nsIn K mainGlobals "check_coding" = some (some (.ref f_check_coding))) (l_check_coding : K.lookup f_check_coding = some ⟨oc_check_coding, od_check_coding, .func (PySem.W.fnOf "check_coding" "check_coding" (defArgs s_check_coding) (defBody s_check_coding) (defScope s_check_coding) .none kV_check_coding dc_check_coding pm_check_coding an_check_coding cd_check_coding ct_check_coding), sl_check_coding⟩) (c_check_coding : PySem.W.codeIn K cd_check_coding "check_coding" = true) (k_check_coding : PySem.W.keepIn K (.ref f_check_coding) = true)
    (a_read_code : PySem.W.nsIn K mainGlobals "read_code" = some (some (.ref f_read_code))) (l_read_code : K.lookup f_read_code = some ⟨oc_read_code, od_read_code, .func (PySem.W.fnOf "read_code" "read_code" (defArgs s_read_code) (defBody s_read_code) (defScope s_read_code) .none kV_read_code dc_read_code pm_read_code an_read_code cd_read_code ct_read_code), sl_read_code⟩) (c_read_code : PySem.W.codeIn K cd_read_code "read_code" = true) (k_read_code : PySem.W.keepIn K (.ref f_read_code) = true)
    (a_mark_of : PySem.W.nsIn K mainGlobals "mark_of" = some (some (.ref f_mark_of))) (l_mark_of : K.lookup f_mark_of = some ⟨oc_mark_of, od_mark_of, .func (PySem.W.fnOf "mark_of" "mark_of" (defArgs s_mark_of) (defBody s_mark_of) (defScope s_mark_of) .none kV_mark_of dc_mark_of pm_mark_of an_mark_of cd_mark_of ct_mark_of), sl_mark_of⟩) (c_mark_of : PySem.W.codeIn K cd_mark_of "mark_of" = true) (k_mark_of : PySem.W.keepIn K (.ref f_mark_of) = true)
    (a_is_record : PySem.W.nsIn K mainGlobals "is_record" = some (some (.ref f_is_record))) (l_is_record : K.lookup f_is_record = some ⟨oc_is_record, od_is_record, .func (PySem.W.fnOf "is_record" "is_record" (defArgs s_is_record) (defBody s_is_record) (defScope s_is_record) .none kV_is_record dc_is_record pm_is_record an_is_record cd_is_record ct_is_record), sl_is_record⟩) (c_is_record : PySem.W.codeIn K cd_is_record "is_record" = true) (k_is_record : PySem.W.keepIn K (.ref f_is_record) = true)
    (a_is_state : PySem.W.nsIn K mainGlobals "is_state" = some (some (.ref f_is_state))) (l_is_state : K.lookup f_is_state = some ⟨oc_is_state, od_is_state, .func (PySem.W.fnOf "is_state" "is_state" (defArgs s_is_state) (defBody s_is_state) (defScope s_is_state) .none kV_is_state dc_is_state pm_is_state an_is_state cd_is_state ct_is_state), sl_is_state⟩) (c_is_state : PySem.W.codeIn K cd_is_state "is_state" = true) (k_is_state : PySem.W.keepIn K (.ref f_is_state) = true)
    (a_is_frame : PySem.W.nsIn K mainGlobals "is_frame" = some (some (.ref f_is_frame))) (l_is_frame : K.lookup f_is_frame = some ⟨oc_is_frame, od_is_frame, .func (PySem.W.fnOf "is_frame" "is_frame" (defArgs s_is_frame) (defBody s_is_frame) (defScope s_is_frame) .none kV_is_frame dc_is_frame pm_is_frame an_is_frame cd_is_frame ct_is_frame), sl_is_frame⟩) (c_is_frame : PySem.W.codeIn K cd_is_frame "is_frame" = true) (k_is_frame : PySem.W.keepIn K (.ref f_is_frame) = true)
    (a_is_layout : PySem.W.nsIn K mainGlobals "is_layout" = some (some (.ref f_is_layout))) (l_is_layout : K.lookup f_is_layout = some ⟨oc_is_layout, od_is_layout, .func (PySem.W.fnOf "is_layout" "is_layout" (defArgs s_is_layout) (defBody s_is_layout) (defScope s_is_layout) .none kV_is_layout dc_is_layout pm_is_layout an_is_layout cd_is_layout ct_is_layout), sl_is_layout⟩) (c_is_layout : PySem.W.codeIn K cd_is_layout "is_layout" = true) (k_is_layout : PySem.W.keepIn K (.ref f_is_layout) = true)
    (a_is_bits : PySem.W.nsIn K mainGlobals "is_bits" = some (some (.ref f_is_bits))) (l_is_bits : K.lookup f_is_bits = some ⟨oc_is_bits, od_is_bits, .func (PySem.W.fnOf "is_bits" "is_bits" (defArgs s_is_bits) (defBody s_is_bits) (defScope s_is_bits) .none kV_is_bits dc_is_bits pm_is_bits an_is_bits cd_is_bits ct_is_bits), sl_is_bits⟩) (c_is_bits : PySem.W.codeIn K cd_is_bits "is_bits" = true) (k_is_bits : PySem.W.keepIn K (.ref f_is_bits) = true)
    (a_read_frame : PySem.W.nsIn K mainGlobals "read_frame" = some (some (.ref f_read_frame))) (l_read_frame : K.lookup f_read_frame = some ⟨oc_read_frame, od_read_frame, .func (PySem.W.fnOf "read_frame" "read_frame" (defArgs s_read_frame) (defBody s_read_frame) (defScope s_read_frame) .none kV_read_frame dc_read_frame pm_read_frame an_read_frame cd_read_frame ct_read_frame), sl_read_frame⟩) (c_read_frame : PySem.W.codeIn K cd_read_frame "read_frame" = true) (k_read_frame : PySem.W.keepIn K (.ref f_read_frame) = true)
    (a_check_records : PySem.W.nsIn K mainGlobals "check_records" = some (some (.ref f_check_records))) (l_check_records : K.lookup f_check_records = some ⟨oc_check_records, od_check_records, .func (PySem.W.fnOf "check_records" "check_records" (defArgs s_check_records) (defBody s_check_records) (defScope s_check_records) .none kV_check_records dc_check_records pm_check_records an_check_records cd_check_records ct_check_records), sl_check_records⟩) (c_check_records : PySem.W.codeIn K cd_check_records "check_records" = true) (k_check_records : PySem.W.keepIn K (.ref f_check_records) = true)
    (a_read_frames : PySem.W.nsIn K mainGlobals "read_frames" = some (some (.ref f_read_frames))) (l_read_frames : K.lookup f_read_frames = some ⟨oc_read_frames, od_read_frames, .func (PySem.W.fnOf "read_frames" "read_frames" (defArgs s_read_frames) (defBody s_read_frames) (defScope s_read_frames) .none kV_read_frames dc_read_frames pm_read_frames an_read_frames cd_read_frames ct_read_frames), sl_read_frames⟩) (c_read_frames : PySem.W.codeIn K cd_read_frames "read_frames" = true) (k_read_frames : PySem.W.keepIn K (.ref f_read_frames) = true)
    (a_index_of : PySem.W.nsIn K mainGlobals "index_of" = some (some (.ref f_index_of))) (l_index_of : K.lookup f_index_of = some ⟨oc_index_of, od_index_of, .func (PySem.W.fnOf "index_of" "index_of" (defArgs s_index_of) (defBody s_index_of) (defScope s_index_of) .none kV_index_of dc_index_of pm_index_of an_index_of cd_index_of ct_index_of), sl_index_of⟩) (c_index_of : PySem.W.codeIn K cd_index_of "index_of" = true) (k_index_of : PySem.W.keepIn K (.ref f_index_of) = true)
    (a_needed_records : PySem.W.nsIn K mainGlobals "needed_records" = some (some (.ref f_needed_records))) (l_needed_records : K.lookup f_needed_records = some ⟨oc_needed_records, od_needed_records, .func (PySem.W.fnOf "needed_records" "needed_records" (defArgs s_needed_records) (defBody s_needed_records) (defScope s_needed_records) .none kV_needed_records dc_needed_records pm_needed_records an_needed_records cd_needed_records ct_needed_records), sl_needed_records⟩) (c_needed_records : PySem.W.codeIn K cd_needed_records "needed_records" = true) (k_needed_records : PySem.W.keepIn K (.ref f_needed_records) = true)
    (a_sound_length : PySem.W.nsIn K mainGlobals "sound_length" = some (some (.ref f_sound_length))) (l_sound_length : K.lookup f_sound_length = some ⟨oc_sound_length, od_sound_length, .func (PySem.W.fnOf "sound_length" "sound_length" (defArgs s_sound_length) (defBody s_sound_length) (defScope s_sound_length) .none kV_sound_length dc_sound_length pm_sound_length an_sound_length cd_sound_length ct_sound_length), sl_sound_length⟩) (c_sound_length : PySem.W.codeIn K cd_sound_length "sound_length" = true) (k_sound_length : PySem.W.keepIn K (.ref f_sound_length) = true)
    (a_reach : PySem.W.nsIn K mainGlobals "reach" = some (some (.ref f_reach))) (l_reach : K.lookup f_reach = some ⟨oc_reach, od_reach, .func (PySem.W.fnOf "reach" "reach" (defArgs s_reach) (defBody s_reach) (defScope s_reach) .none kV_reach dc_reach pm_reach an_reach cd_reach ct_reach), sl_reach⟩) (c_reach : PySem.W.codeIn K cd_reach "reach" = true) (k_reach : PySem.W.keepIn K (.ref f_reach) = true)
    (a_needed_entries : PySem.W.nsIn K mainGlobals "needed_entries" = some (some (.ref f_needed_entries))) (l_needed_entries : K.lookup f_needed_entries = some ⟨oc_needed_entries, od_needed_entries, .func (PySem.W.fnOf "needed_entries" "needed_entries" (defArgs s_needed_entries) (defBody s_needed_entries) (defScope s_needed_entries) .none kV_needed_entries dc_needed_entries pm_needed_entries an_needed_entries cd_needed_entries ct_needed_entries), sl_needed_entries⟩) (c_needed_entries : PySem.W.codeIn K cd_needed_entries "needed_entries" = true) (k_needed_entries : PySem.W.keepIn K (.ref f_needed_entries) = true)
    (a_records_up_to : PySem.W.nsIn K mainGlobals "records_up_to" = some (some (.ref f_records_up_to))) (l_records_up_to : K.lookup f_records_up_to = some ⟨oc_records_up_to, od_records_up_to, .func (PySem.W.fnOf "records_up_to" "records_up_to" (defArgs s_records_up_to) (defBody s_records_up_to) (defScope s_records_up_to) .none kV_records_up_to dc_records_up_to pm_records_up_to an_records_up_to cd_records_up_to ct_records_up_to), sl_records_up_to⟩) (c_records_up_to : PySem.W.codeIn K cd_records_up_to "records_up_to" = true) (k_records_up_to : PySem.W.keepIn K (.ref f_records_up_to) = true)
    (a_pool : PySem.W.nsIn K mainGlobals "_law_pool" = some (some (.ref f_pool))) (l_pool : K.lookup f_pool = some ⟨oc_pool, od_pool, .func (PySem.W.fnOf "_law_pool" "_law_pool" (defArgs s_pool) (defBody s_pool) (defScope s_pool) .none kV_pool dc_pool pm_pool an_pool cd_pool ct_pool), sl_pool⟩) (c_pool : PySem.W.codeIn K cd_pool "_law_pool" = true) (k_pool : PySem.W.keepIn K (.ref f_pool) = true)
    (a_take : PySem.W.nsIn K mainGlobals "_law_take" = some (some (.ref f_take))) (l_take : K.lookup f_take = some ⟨oc_take, od_take, .func (PySem.W.fnOf "_law_take" "_law_take" (defArgs s_take) (defBody s_take) (defScope s_take) .none kV_take dc_take pm_take an_take cd_take ct_take), sl_take⟩) (c_take : PySem.W.codeIn K cd_take "_law_take" = true) (k_take : PySem.W.keepIn K (.ref f_take) = true)
    (a_same : PySem.W.nsIn K mainGlobals "_law_same" = some (some (.ref f_same))) (l_same : K.lookup f_same = some ⟨oc_same, od_same, .func (PySem.W.fnOf "_law_same" "_law_same" (defArgs s_same) (defBody s_same) (defScope s_same) .none kV_same dc_same pm_same an_same cd_same ct_same), sl_same⟩) (c_same : PySem.W.codeIn K cd_same "_law_same" = true) (k_same : PySem.W.keepIn K (.ref f_same) = true)
    (a_binary : PySem.W.nsIn K mainGlobals "_law_binary" = some (some (.ref f_binary))) (l_binary : K.lookup f_binary = some ⟨oc_binary, od_binary, .func (PySem.W.fnOf "_law_binary" "_law_binary" (defArgs s_binary) (defBody s_binary) (defScope s_binary) .none kV_binary dc_binary pm_binary an_binary cd_binary ct_binary), sl_binary⟩) (c_binary : PySem.W.codeIn K cd_binary "_law_binary" = true) (k_binary : PySem.W.keepIn K (.ref f_binary) = true)
    (a_l_parameter : PySem.W.nsIn K mainGlobals "_law_parameter" = some (some (.ref f_l_parameter))) (l_l_parameter : K.lookup f_l_parameter = some ⟨oc_l_parameter, od_l_parameter, .func (PySem.W.fnOf "_law_parameter" "_law_parameter" (defArgs s_l_parameter) (defBody s_l_parameter) (defScope s_l_parameter) .none kV_l_parameter dc_l_parameter pm_l_parameter an_l_parameter cd_l_parameter ct_l_parameter), sl_l_parameter⟩) (c_l_parameter : PySem.W.codeIn K cd_l_parameter "_law_parameter" = true) (k_l_parameter : PySem.W.keepIn K (.ref f_l_parameter) = true)
    (a_code : PySem.W.nsIn K mainGlobals "_law_code" = some (some (.ref f_code))) (l_code : K.lookup f_code = some ⟨oc_code, od_code, .func (PySem.W.fnOf "_law_code" "_law_code" (defArgs s_code) (defBody s_code) (defScope s_code) .none kV_code dc_code pm_code an_code cd_code ct_code), sl_code⟩) (c_code : PySem.W.codeIn K cd_code "_law_code" = true) (k_code : PySem.W.keepIn K (.ref f_code) = true)
    (a_behind : PySem.W.nsIn K mainGlobals "_law_behind" = some (some (.ref f_behind))) (l_behind : K.lookup f_behind = some ⟨oc_behind, od_behind, .func (PySem.W.fnOf "_law_behind" "_law_behind" (defArgs s_behind) (defBody s_behind) (defScope s_behind) .none kV_behind dc_behind pm_behind an_behind cd_behind ct_behind), sl_behind⟩) (c_behind : PySem.W.codeIn K cd_behind "_law_behind" = true) (k_behind : PySem.W.keepIn K (.ref f_behind) = true)
    (a_u : PySem.W.nsIn K mainGlobals "_law_u" = some (some (.ref f_u))) (l_u : K.lookup f_u = some ⟨oc_u, od_u, .func (PySem.W.fnOf "_law_u" "_law_u" (defArgs s_u) (defBody s_u) (defScope s_u) .none kV_u dc_u pm_u an_u cd_u ct_u), sl_u⟩) (c_u : PySem.W.codeIn K cd_u "_law_u" = true) (k_u : PySem.W.keepIn K (.ref f_u) = true)
    (a_written : PySem.W.nsIn K mainGlobals "_law_written" = some (some (.ref f_written))) (l_written : K.lookup f_written = some ⟨oc_written, od_written, .func (PySem.W.fnOf "_law_written" "_law_written" (defArgs s_written) (defBody s_written) (defScope s_written) .none kV_written dc_written pm_written an_written cd_written ct_written), sl_written⟩) (c_written : PySem.W.codeIn K cd_written "_law_written" = true) (k_written : PySem.W.keepIn K (.ref f_written) = true)
    (a_mark : PySem.W.nsIn K mainGlobals "_law_mark" = some (some (.ref f_mark))) (l_mark : K.lookup f_mark = some ⟨oc_mark, od_mark, .func (PySem.W.fnOf "_law_mark" "_law_mark" (defArgs s_mark) (defBody s_mark) (defScope s_mark) .none kV_mark dc_mark pm_mark an_mark cd_mark ct_mark), sl_mark⟩) (c_mark : PySem.W.codeIn K cd_mark "_law_mark" = true) (k_mark : PySem.W.keepIn K (.ref f_mark) = true)
    (a_counts : PySem.W.nsIn K mainGlobals "_law_counts" = some (some (.ref f_counts))) (l_counts : K.lookup f_counts = some ⟨oc_counts, od_counts, .func (PySem.W.fnOf "_law_counts" "_law_counts" (defArgs s_counts) (defBody s_counts) (defScope s_counts) .none kV_counts dc_counts pm_counts an_counts cd_counts ct_counts), sl_counts⟩) (c_counts : PySem.W.codeIn K cd_counts "_law_counts" = true) (k_counts : PySem.W.keepIn K (.ref f_counts) = true)
    (a_values : PySem.W.nsIn K mainGlobals "_law_values" = some (some (.ref f_values))) (l_values : K.lookup f_values = some ⟨oc_values, od_values, .func (PySem.W.fnOf "_law_values" "_law_values" (defArgs s_values) (defBody s_values) (defScope s_values) .none kV_values dc_values pm_values an_values cd_values ct_values), sl_values⟩) (c_values : PySem.W.codeIn K cd_values "_law_values" = true) (k_values : PySem.W.keepIn K (.ref f_values) = true)
    (a_heads : PySem.W.nsIn K mainGlobals "_law_heads" = some (some (.ref f_heads))) (l_heads : K.lookup f_heads = some ⟨oc_heads, od_heads, .func (PySem.W.fnOf "_law_heads" "_law_heads" (defArgs s_heads) (defBody s_heads) (defScope s_heads) .none kV_heads dc_heads pm_heads an_heads cd_heads ct_heads), sl_heads⟩) (c_heads : PySem.W.codeIn K cd_heads "_law_heads" = true) (k_heads : PySem.W.keepIn K (.ref f_heads) = true)
    (a_some : PySem.W.nsIn K mainGlobals "_law_some" = some (some (.ref f_some))) (l_some : K.lookup f_some = some ⟨oc_some, od_some, .func (PySem.W.fnOf "_law_some" "_law_some" (defArgs s_some) (defBody s_some) (defScope s_some) .none kV_some dc_some pm_some an_some cd_some ct_some), sl_some⟩) (c_some : PySem.W.codeIn K cd_some "_law_some" = true) (k_some : PySem.W.keepIn K (.ref f_some) = true)
    (a_frame : PySem.W.nsIn K mainGlobals "_law_frame" = some (some (.ref f_frame))) (l_frame : K.lookup f_frame = some ⟨oc_frame, od_frame, .func (PySem.W.fnOf "_law_frame" "_law_frame" (defArgs s_frame) (defBody s_frame) (defScope s_frame) .none kV_frame dc_frame pm_frame an_frame cd_frame ct_frame), sl_frame⟩) (c_frame : PySem.W.codeIn K cd_frame "_law_frame" = true) (k_frame : PySem.W.keepIn K (.ref f_frame) = true)
    (a_tables : PySem.W.nsIn K mainGlobals "_law_tables" = some (some (.ref f_tables))) (l_tables : K.lookup f_tables = some ⟨oc_tables, od_tables, .func (PySem.W.fnOf "_law_tables" "_law_tables" (defArgs s_tables) (defBody s_tables) (defScope s_tables) .none kV_tables dc_tables pm_tables an_tables cd_tables ct_tables), sl_tables⟩) (c_tables : PySem.W.codeIn K cd_tables "_law_tables" = true) (k_tables : PySem.W.keepIn K (.ref f_tables) = true)
    (a_stream : PySem.W.nsIn K mainGlobals "_law_stream" = some (some (.ref f_stream))) (l_stream : K.lookup f_stream = some ⟨oc_stream, od_stream, .func (PySem.W.fnOf "_law_stream" "_law_stream" (defArgs s_stream) (defBody s_stream) (defScope s_stream) .none kV_stream dc_stream pm_stream an_stream cd_stream ct_stream), sl_stream⟩) (c_stream : PySem.W.codeIn K cd_stream "_law_stream" = true) (k_stream : PySem.W.keepIn K (.ref f_stream) = true)
    (a_reached : PySem.W.nsIn K mainGlobals "_law_reached" = some (some (.ref f_reached))) (l_reached : K.lookup f_reached = some ⟨oc_reached, od_reached, .func (PySem.W.fnOf "_law_reached" "_law_reached" (defArgs s_reached) (defBody s_reached) (defScope s_reached) .none kV_reached dc_reached pm_reached an_reached cd_reached ct_reached), sl_reached⟩) (c_reached : PySem.W.codeIn K cd_reached "_law_reached" = true) (k_reached : PySem.W.keepIn K (.ref f_reached) = true)
    (a_needed : PySem.W.nsIn K mainGlobals "_law_needed" = some (some (.ref f_needed))) (l_needed : K.lookup f_needed = some ⟨oc_needed, od_needed, .func (PySem.W.fnOf "_law_needed" "_law_needed" (defArgs s_needed) (defBody s_needed) (defScope s_needed) .none kV_needed dc_needed pm_needed an_needed cd_needed ct_needed), sl_needed⟩) (c_needed : PySem.W.codeIn K cd_needed "_law_needed" = true) (k_needed : PySem.W.keepIn K (.ref f_needed) = true)
    (a_length : PySem.W.nsIn K mainGlobals "_law_length" = some (some (.ref f_length))) (l_length : K.lookup f_length = some ⟨oc_length, od_length, .func (PySem.W.fnOf "_law_length" "_law_length" (defArgs s_length) (defBody s_length) (defScope s_length) .none kV_length dc_length pm_length an_length cd_length ct_length), sl_length⟩) (c_length : PySem.W.codeIn K cd_length "_law_length" = true) (k_length : PySem.W.keepIn K (.ref f_length) = true)
    (a_stretch : PySem.W.nsIn K mainGlobals "_law_stretch" = some (some (.ref f_stretch))) (l_stretch : K.lookup f_stretch = some ⟨oc_stretch, od_stretch, .func (PySem.W.fnOf "_law_stretch" "_law_stretch" (defArgs s_stretch) (defBody s_stretch) (defScope s_stretch) .none kV_stretch dc_stretch pm_stretch an_stretch cd_stretch ct_stretch), sl_stretch⟩) (c_stretch : PySem.W.codeIn K cd_stretch "_law_stretch" = true) (k_stretch : PySem.W.keepIn K (.ref f_stretch) = true)
    (a_law : PySem.W.nsIn K mainGlobals "law" = some (some (.ref f_law))) (l_law : K.lookup f_law = some ⟨oc_law, od_law, .func (PySem.W.fnOf "law" "law" (defArgs s_law) (defBody s_law) (defScope s_law) .none kV_law dc_law pm_law an_law cd_law ct_law), sl_law⟩) (c_law : PySem.W.codeIn K cd_law "law" = true) (k_law : PySem.W.keepIn K (.ref f_law) = true)
    (a_BLOCK_LIMIT : PySem.W.nsIn K mainGlobals "BLOCK_LIMIT" = some (some (.int 64 t_BLOCK_LIMIT)))
    (a_COUNT_LIMIT : PySem.W.nsIn K mainGlobals "COUNT_LIMIT" = some (some (.int 15 t_COUNT_LIMIT)))
    (a_SHAPE_LIMIT : PySem.W.nsIn K mainGlobals "SHAPE_LIMIT" = some (some (.int 3 t_SHAPE_LIMIT)))
    (a_WIDTH_LIMIT : PySem.W.nsIn K mainGlobals "WIDTH_LIMIT" = some (some (.int 8 t_WIDTH_LIMIT)))
    (a_LEVEL_LIMIT : PySem.W.nsIn K mainGlobals "LEVEL_LIMIT" = some (some (.int 5 t_LEVEL_LIMIT)))
    (a_STEP_LIMIT : PySem.W.nsIn K mainGlobals "STEP_LIMIT" = some (some (.int 64 t_STEP_LIMIT)))
    (a_MARK_MODULUS : PySem.W.nsIn K mainGlobals "MARK_MODULUS" = some (some (.int 9973 t_MARK_MODULUS)))
    (a_HALVED_COUNT : PySem.W.nsIn K mainGlobals "HALVED_COUNT" = some (some (.int 8 t_HALVED_COUNT)))
    (a_LONG_FORM : PySem.W.nsIn K mainGlobals "LONG_FORM" = some (some (.int 20 t_LONG_FORM)))
    (a_MARK_FACTOR : PySem.W.nsIn K mainGlobals "MARK_FACTOR" = some (some (.int 31 t_MARK_FACTOR)))
    (a_FRAME_ITEMS : PySem.W.nsIn K mainGlobals "FRAME_ITEMS" = some (some (.int 7 t_FRAME_ITEMS)))
    {a_START t0 t1 a_HARD : Addr} {oS o0 o1 oH : Option Addr} {nS n0 n1 nH : Nat} {qS q0 q1 qH : Array (Option Value)} {b0 b1 d0 d1 bH dH : Tok} (zS : PySem.W.nsIn K mainGlobals "START" = some (some (.ref a_START))) (lS : K.lookup a_START = some ⟨.type "tuple", oS, .seq #[.ref t0, .ref t1] nS, qS⟩) (lt0 : K.lookup t0 = some ⟨.type "tuple", o0, .seq #[.int 2 b0, .int 1 d0] n0, q0⟩) (lt1 : K.lookup t1 = some ⟨.type "tuple", o1, .seq #[.int 2 b1, .int 1 d1] n1, q1⟩)
    (zH : PySem.W.nsIn K mainGlobals "HARD" = some (some (.ref a_HARD))) (lH : K.lookup a_HARD = some ⟨.type "tuple", oH, .seq #[.int 0 bH, .int 0 dH] nH, qH⟩)
     (z_sorted : PySem.W.nsIn K mainGlobals "sorted" = some none)
    (z_int : PySem.W.nsIn K mainGlobals "int" = some none)
    (z_bool : PySem.W.nsIn K mainGlobals "bool" = some none)
    (z_str : PySem.W.nsIn K mainGlobals "str" = some none)
    (z_list : PySem.W.nsIn K mainGlobals "list" = some none)
    (z_tuple : PySem.W.nsIn K mainGlobals "tuple" = some none)
    (z_len : PySem.W.nsIn K mainGlobals "len" = some none)
    (z_abs : PySem.W.nsIn K mainGlobals "abs" = some none)
    (z_max : PySem.W.nsIn K mainGlobals "max" = some none)
    (z_min : PySem.W.nsIn K mainGlobals "min" = some none)
    (z_range : PySem.W.nsIn K mainGlobals "range" = some none)
    (z_zip : PySem.W.nsIn K mainGlobals "zip" = some none)
    (z_isinstance : PySem.W.nsIn K mainGlobals "isinstance" = some none)
    (z_enumerate : PySem.W.nsIn K mainGlobals "enumerate" = some none)
    (z_reversed : PySem.W.nsIn K mainGlobals "reversed" = some none)
    {C_Stream : Addr} (x_Stream : PySem.W.nsIn K mainGlobals "Stream" = some (some (.ref C_Stream))) (pg_Stream : PySem.W.plainGet K C_Stream Str.empty = true) (hd_Stream : PySem.W.hasDictIn K C_Stream = true) (po_Stream : PySem.W.plainOver K C_Stream = true) (sa_Stream : PySem.W.findIn K (.ref C_Stream) "__setattr__" = some (some (.builtin "object.__setattr__"))) (mk_Stream : PySem.W.makesIn K C_Stream = true) (kc_Stream : PySem.W.keepIn K (.ref C_Stream) = true)
    (na_Stream_held : PySem.W.findIn K (.ref C_Stream) "held" = some none)
    (na_Stream_read : PySem.W.findIn K (.ref C_Stream) "read" = some none)
    {f_Stream___init__ : Addr} {od_Stream___init__ an_Stream___init__ : Option Addr} {sl_Stream___init__ : Array (Option Value)} {oc_Stream___init__ kV_Stream___init__ dc_Stream___init__ pm_Stream___init__ cd_Stream___init__ ct_Stream___init__ : Value}
    (at_Stream___init__ : PySem.W.findIn K (.ref C_Stream) "__init__" = some (some (.ref f_Stream___init__))) (if_Stream___init__ : PySem.W.isFn K (.ref f_Stream___init__) = true)
    (l_Stream___init__ : K.lookup f_Stream___init__ = some ⟨oc_Stream___init__, od_Stream___init__, .func (PySem.W.fnOf "__init__" "Stream.__init__" (defArgs s_Stream___init__) (defBody s_Stream___init__) (defScope s_Stream___init__) .none kV_Stream___init__ dc_Stream___init__ pm_Stream___init__ an_Stream___init__ cd_Stream___init__ ct_Stream___init__), sl_Stream___init__⟩) (c_Stream___init__ : PySem.W.codeIn K cd_Stream___init__ "Stream.__init__" = true) (k_Stream___init__ : PySem.W.keepIn K (.ref f_Stream___init__) = true)
    {f_Stream_records : Addr} {od_Stream_records an_Stream_records : Option Addr} {sl_Stream_records : Array (Option Value)} {oc_Stream_records kV_Stream_records dc_Stream_records pm_Stream_records cd_Stream_records ct_Stream_records : Value}
    {p_Stream_records : Addr} {rs_Stream_records : List Value} (at_Stream_records : PySem.W.findIn K (.ref C_Stream) "records" = some (some (.ref p_Stream_records))) (gt_Stream_records : PySem.W.specialIn K (.ref p_Stream_records) "__get__" = some (some (.builtin "property.__get__"))) (tk_Stream_records : PySem.W.takesIn K (.ref p_Stream_records) = some true) (rc_Stream_records : PySem.W.recIn K p_Stream_records "property" = some (.ref f_Stream_records :: rs_Stream_records))
    (l_Stream_records : K.lookup f_Stream_records = some ⟨oc_Stream_records, od_Stream_records, .func (PySem.W.fnOf "records" "Stream.records" (defArgs s_Stream_records) (defBody s_Stream_records) (defScope s_Stream_records) .none kV_Stream_records dc_Stream_records pm_Stream_records an_Stream_records cd_Stream_records ct_Stream_records), sl_Stream_records⟩) (c_Stream_records : PySem.W.codeIn K cd_Stream_records "Stream.records" = true) (k_Stream_records : PySem.W.keepIn K (.ref f_Stream_records) = true)
    {f_Stream_block : Addr} {od_Stream_block an_Stream_block : Option Addr} {sl_Stream_block : Array (Option Value)} {oc_Stream_block kV_Stream_block dc_Stream_block pm_Stream_block cd_Stream_block ct_Stream_block : Value}
    (at_Stream_block : PySem.W.findIn K (.ref C_Stream) "block" = some (some (.ref f_Stream_block))) (if_Stream_block : PySem.W.isFn K (.ref f_Stream_block) = true)
    (l_Stream_block : K.lookup f_Stream_block = some ⟨oc_Stream_block, od_Stream_block, .func (PySem.W.fnOf "block" "Stream.block" (defArgs s_Stream_block) (defBody s_Stream_block) (defScope s_Stream_block) .none kV_Stream_block dc_Stream_block pm_Stream_block an_Stream_block cd_Stream_block ct_Stream_block), sl_Stream_block⟩) (c_Stream_block : PySem.W.codeIn K cd_Stream_block "Stream.block" = true) (k_Stream_block : PySem.W.keepIn K (.ref f_Stream_block) = true)
    {f_Stream_part_of : Addr} {od_Stream_part_of an_Stream_part_of : Option Addr} {sl_Stream_part_of : Array (Option Value)} {oc_Stream_part_of kV_Stream_part_of dc_Stream_part_of pm_Stream_part_of cd_Stream_part_of ct_Stream_part_of : Value}
    (at_Stream_part_of : PySem.W.findIn K (.ref C_Stream) "part_of" = some (some (.ref f_Stream_part_of))) (if_Stream_part_of : PySem.W.isFn K (.ref f_Stream_part_of) = true)
    (l_Stream_part_of : K.lookup f_Stream_part_of = some ⟨oc_Stream_part_of, od_Stream_part_of, .func (PySem.W.fnOf "part_of" "Stream.part_of" (defArgs s_Stream_part_of) (defBody s_Stream_part_of) (defScope s_Stream_part_of) .none kV_Stream_part_of dc_Stream_part_of pm_Stream_part_of an_Stream_part_of cd_Stream_part_of ct_Stream_part_of), sl_Stream_part_of⟩) (c_Stream_part_of : PySem.W.codeIn K cd_Stream_part_of "Stream.part_of" = true) (k_Stream_part_of : PySem.W.keepIn K (.ref f_Stream_part_of) = true)
    : ∃ fd : FuncData, (∀ (s : Shared) (v : Value), BindsTo s fd ⟨[v], []⟩ [("_law_script", v)]) ∧ ∀ base : Heap, K.In base → base.Ns mainGlobals mg → FnOk l.prog w K mg base CX0 11 fa fd ["_law_script"] (spLaw K) := by
  have e := hfa.symm.trans (PySem.W.mg_of X G a_law)
  cases e
  have bi : Bi mg := ⟨PySem.W.mg_none_of X G z_int, PySem.W.mg_none_of X G z_bool, PySem.W.mg_none_of X G z_str, PySem.W.mg_none_of X G z_list, PySem.W.mg_none_of X G z_tuple, PySem.W.mg_none_of X G z_len, PySem.W.mg_none_of X G z_abs, PySem.W.mg_none_of X G z_max, PySem.W.mg_none_of X G z_min, PySem.W.mg_none_of X G z_range, PySem.W.mg_none_of X G z_zip, PySem.W.mg_none_of X G z_isinstance, PySem.W.mg_none_of X G z_enumerate, PySem.W.mg_none_of X G z_reversed⟩
  have F_is_integer := fun_mk (st := s_is_integer) l_is_integer c_is_integer k_is_integer
  have D_is_integer : Dn K mg "is_integer" s_is_integer ["value"] _ _ := ⟨F_is_integer, PySem.W.mg_of X G a_is_integer, F_is_integer.binds (ps := ["value"]) fun _ _ _ _ _ _ us hl => match us, hl with | [_], _ => rfl⟩
  have F_is_within := fun_mk (st := s_is_within) l_is_within c_is_within k_is_within
  have D_is_within : Dn K mg "is_within" s_is_within ["value", "low", "high"] _ _ := ⟨F_is_within, PySem.W.mg_of X G a_is_within, F_is_within.binds (ps := ["value", "low", "high"]) fun _ _ _ _ _ _ us hl => match us, hl with | [_, _, _], _ => rfl⟩
  have F_check_integer := fun_mk (st := s_check_integer) l_check_integer c_check_integer k_check_integer
  have D_check_integer : Dn K mg "check_integer" s_check_integer ["value"] _ _ := ⟨F_check_integer, PySem.W.mg_of X G a_check_integer, F_check_integer.binds (ps := ["value"]) fun _ _ _ _ _ _ us hl => match us, hl with | [_], _ => rfl⟩
  have F_check_within := fun_mk (st := s_check_within) l_check_within c_check_within k_check_within
  have D_check_within : Dn K mg "check_within" s_check_within ["value", "low", "high"] _ _ := ⟨F_check_within, PySem.W.mg_of X G a_check_within, F_check_within.binds (ps := ["value", "low", "high"]) fun _ _ _ _ _ _ us hl => match us, hl with | [_, _, _], _ => rfl⟩
  have F_check_stretch := fun_mk (st := s_check_stretch) l_check_stretch c_check_stretch k_check_stretch
  have D_check_stretch : Dn K mg "check_stretch" s_check_stretch ["start", "end", "length"] _ _ := ⟨F_check_stretch, PySem.W.mg_of X G a_check_stretch, F_check_stretch.binds (ps := ["start", "end", "length"]) fun _ _ _ _ _ _ us hl => match us, hl with | [_, _, _], _ => rfl⟩
  have F_check_items := fun_mk (st := s_check_items) l_check_items c_check_items k_check_items
  have D_check_items : Dn K mg "check_items" s_check_items ["values"] _ _ := ⟨F_check_items, PySem.W.mg_of X G a_check_items, F_check_items.binds (ps := ["values"]) fun _ _ _ _ _ _ us hl => match us, hl with | [_], _ => rfl⟩
  have F_check_block := fun_mk (st := s_check_block) l_check_block c_check_block k_check_block
  have D_check_block : Dn K mg "check_block" s_check_block ["values", "least"] _ _ := ⟨F_check_block, PySem.W.mg_of X G a_check_block, F_check_block.binds (ps := ["values", "least"]) fun _ _ _ _ _ _ us hl => match us, hl with | [_, _], _ => rfl⟩
  have F_is_joint := fun_mk (st := s_is_joint) l_is_joint c_is_joint k_is_joint
  have D_is_joint : Dn K mg "is_joint" s_is_joint ["value"] _ _ := ⟨F_is_joint, PySem.W.mg_of X G a_is_joint, F_is_joint.binds (ps := ["value"]) fun _ _ _ _ _ _ us hl => match us, hl with | [_], _ => rfl⟩
  have F_coarse_count := fun_mk (st := s_coarse_count) l_coarse_count c_coarse_count k_coarse_count
  have D_coarse_count : Dn K mg "coarse_count" s_coarse_count ["length", "levels"] _ _ := ⟨F_coarse_count, PySem.W.mg_of X G a_coarse_count, F_coarse_count.binds (ps := ["length", "levels"]) fun _ _ _ _ _ _ us hl => match us, hl with | [_, _], _ => rfl⟩
  have F_is_table := fun_mk (st := s_is_table) l_is_table c_is_table k_is_table
  have D_is_table : Dn K mg "is_table" s_is_table ["value"] _ _ := ⟨F_is_table, PySem.W.mg_of X G a_is_table, F_is_table.binds (ps := ["value"]) fun _ _ _ _ _ _ us hl => match us, hl with | [_], _ => rfl⟩
  have F_is_tables := fun_mk (st := s_is_tables) l_is_tables c_is_tables k_is_tables
  have D_is_tables : Dn K mg "is_tables" s_is_tables ["value"] _ _ := ⟨F_is_tables, PySem.W.mg_of X G a_is_tables, F_is_tables.binds (ps := ["value"]) fun _ _ _ _ _ _ us hl => match us, hl with | [_], _ => rfl⟩
  have F_parameter := fun_mk (st := s_parameter) l_parameter c_parameter k_parameter
  have D_parameter : Dn K mg "parameter" s_parameter ["table"] _ _ := ⟨F_parameter, PySem.W.mg_of X G a_parameter, F_parameter.binds (ps := ["table"]) fun _ _ _ _ _ _ us hl => match us, hl with | [_], _ => rfl⟩
  have F_table_behind := fun_mk (st := s_table_behind) l_table_behind c_table_behind k_table_behind
  have D_table_behind : Dn K mg "table_behind" s_table_behind ["table", "code"] _ _ := ⟨F_table_behind, PySem.W.mg_of X G a_table_behind, F_table_behind.binds (ps := ["table", "code"]) fun _ _ _ _ _ _ us hl => match us, hl with | [_, _], _ => rfl⟩
  have F_code_number := fun_mk (st := s_code_number) l_code_number c_code_number k_code_number
  have D_code_number : Dn K mg "code_number" s_code_number ["number"] _ _ := ⟨F_code_number, PySem.W.mg_of X G a_code_number, F_code_number.binds (ps := ["number"]) fun _ _ _ _ _ _ us hl => match us, hl with | [_], _ => rfl⟩
  have F_number_with := fun_mk (st := s_number_with) l_number_with c_number_with k_number_with
  have D_number_with : Dn K mg "number_with" s_number_with ["code"] _ _ := ⟨F_number_with, PySem.W.mg_of X G a_number_with, F_number_with.binds (ps := ["code"]) fun _ _ _ _ _ _ us hl => match us, hl with | [_], _ => rfl⟩
  have F_read_numbers := fun_mk (st := s_read_numbers) l_read_numbers c_read_numbers k_read_numbers
  have D_read_numbers : Dn K mg "read_numbers" s_read_numbers ["bits", "length", "coarse", "tables"] _ _ := ⟨F_read_numbers, PySem.W.mg_of X G a_read_numbers, F_read_numbers.binds (ps := ["bits", "length", "coarse", "tables"]) fun _ _ _ _ _ _ us hl => match us, hl with | [_, _, _, _], _ => rfl⟩
  have F_check_coding := fun_mk (st := s_check_coding) l_check_coding c_check_coding k_check_coding
  have D_check_coding : Dn K mg "check_coding" s_check_coding ["length", "coarse", "tables"] _ _ := ⟨F_check_coding, PySem.W.mg_of X G a_check_coding, F_check_coding.binds (ps := ["length", "coarse", "tables"]) fun _ _ _ _ _ _ us hl => match us, hl with | [_, _, _], _ => rfl⟩
  have F_read_code := fun_mk (st := s_read_code) l_read_code c_read_code k_read_code
  have D_read_code : Dn K mg "read_code" s_read_code ["bits", "place", "k"] _ _ := ⟨F_read_code, PySem.W.mg_of X G a_read_code, F_read_code.binds (ps := ["bits", "place", "k"]) fun _ _ _ _ _ _ us hl => match us, hl with | [_, _, _], _ => rfl⟩
  have F_mark_of := fun_mk (st := s_mark_of) l_mark_of c_mark_of k_mark_of
  have D_mark_of : Dn K mg "mark_of" s_mark_of ["numbers"] _ _ := ⟨F_mark_of, PySem.W.mg_of X G a_mark_of, F_mark_of.binds (ps := ["numbers"]) fun _ _ _ _ _ _ us hl => match us, hl with | [_], _ => rfl⟩
  have F_is_record := fun_mk (st := s_is_record) l_is_record c_is_record k_is_record
  have D_is_record : Dn K mg "is_record" s_is_record ["value"] _ _ := ⟨F_is_record, PySem.W.mg_of X G a_is_record, F_is_record.binds (ps := ["value"]) fun _ _ _ _ _ _ us hl => match us, hl with | [_], _ => rfl⟩
  have F_is_state := fun_mk (st := s_is_state) l_is_state c_is_state k_is_state
  have D_is_state : Dn K mg "is_state" s_is_state ["value"] _ _ := ⟨F_is_state, PySem.W.mg_of X G a_is_state, F_is_state.binds (ps := ["value"]) fun _ _ _ _ _ _ us hl => match us, hl with | [_], _ => rfl⟩
  have F_is_frame := fun_mk (st := s_is_frame) l_is_frame c_is_frame k_is_frame
  have D_is_frame : Dn K mg "is_frame" s_is_frame ["value"] _ _ := ⟨F_is_frame, PySem.W.mg_of X G a_is_frame, F_is_frame.binds (ps := ["value"]) fun _ _ _ _ _ _ us hl => match us, hl with | [_], _ => rfl⟩
  have F_is_layout := fun_mk (st := s_is_layout) l_is_layout c_is_layout k_is_layout
  have D_is_layout : Dn K mg "is_layout" s_is_layout ["value"] _ _ := ⟨F_is_layout, PySem.W.mg_of X G a_is_layout, F_is_layout.binds (ps := ["value"]) fun _ _ _ _ _ _ us hl => match us, hl with | [_], _ => rfl⟩
  have F_is_bits := fun_mk (st := s_is_bits) l_is_bits c_is_bits k_is_bits
  have D_is_bits : Dn K mg "is_bits" s_is_bits ["value"] _ _ := ⟨F_is_bits, PySem.W.mg_of X G a_is_bits, F_is_bits.binds (ps := ["value"]) fun _ _ _ _ _ _ us hl => match us, hl with | [_], _ => rfl⟩
  have F_read_frame := fun_mk (st := s_read_frame) l_read_frame c_read_frame k_read_frame
  have D_read_frame : Dn K mg "read_frame" s_read_frame ["record", "tables"] _ _ := ⟨F_read_frame, PySem.W.mg_of X G a_read_frame, F_read_frame.binds (ps := ["record", "tables"]) fun _ _ _ _ _ _ us hl => match us, hl with | [_, _], _ => rfl⟩
  have F_check_records := fun_mk (st := s_check_records) l_check_records c_check_records k_check_records
  have D_check_records : Dn K mg "check_records" s_check_records ["records"] _ _ := ⟨F_check_records, PySem.W.mg_of X G a_check_records, F_check_records.binds (ps := ["records"]) fun _ _ _ _ _ _ us hl => match us, hl with | [_], _ => rfl⟩
  have F_read_frames := fun_mk (st := s_read_frames) l_read_frames c_read_frames k_read_frames
  have D_read_frames : Dn K mg "read_frames" s_read_frames ["records"] _ _ := ⟨F_read_frames, PySem.W.mg_of X G a_read_frames, F_read_frames.binds (ps := ["records"]) fun _ _ _ _ _ _ us hl => match us, hl with | [_], _ => rfl⟩
  have F_index_of := fun_mk (st := s_index_of) l_index_of c_index_of k_index_of
  have D_index_of : Dn K mg "index_of" s_index_of ["stream"] _ _ := ⟨F_index_of, PySem.W.mg_of X G a_index_of, F_index_of.binds (ps := ["stream"]) fun _ _ _ _ _ _ us hl => match us, hl with | [_], _ => rfl⟩
  have F_needed_records := fun_mk (st := s_needed_records) l_needed_records c_needed_records k_needed_records
  have D_needed_records : Dn K mg "needed_records" s_needed_records ["index", "start", "end"] _ _ := ⟨F_needed_records, PySem.W.mg_of X G a_needed_records, F_needed_records.binds (ps := ["index", "start", "end"]) fun _ _ _ _ _ _ us hl => match us, hl with | [_, _, _], _ => rfl⟩
  have F_sound_length := fun_mk (st := s_sound_length) l_sound_length c_sound_length k_sound_length
  have D_sound_length : Dn K mg "sound_length" s_sound_length ["index"] _ _ := ⟨F_sound_length, PySem.W.mg_of X G a_sound_length, F_sound_length.binds (ps := ["index"]) fun _ _ _ _ _ _ us hl => match us, hl with | [_], _ => rfl⟩
  have F_reach := fun_mk (st := s_reach) l_reach c_reach k_reach
  have D_reach : Dn K mg "reach" s_reach ["entry"] _ _ := ⟨F_reach, PySem.W.mg_of X G a_reach, F_reach.binds (ps := ["entry"]) fun _ _ _ _ _ _ us hl => match us, hl with | [_], _ => rfl⟩
  have F_needed_entries := fun_mk (st := s_needed_entries) l_needed_entries c_needed_entries k_needed_entries
  have D_needed_entries : Dn K mg "needed_entries" s_needed_entries ["index", "start", "end"] _ _ := ⟨F_needed_entries, PySem.W.mg_of X G a_needed_entries, F_needed_entries.binds (ps := ["index", "start", "end"]) fun _ _ _ _ _ _ us hl => match us, hl with | [_, _, _], _ => rfl⟩
  have F_records_up_to := fun_mk (st := s_records_up_to) l_records_up_to c_records_up_to k_records_up_to
  have D_records_up_to : Dn K mg "records_up_to" s_records_up_to ["entries"] _ _ := ⟨F_records_up_to, PySem.W.mg_of X G a_records_up_to, F_records_up_to.binds (ps := ["entries"]) fun _ _ _ _ _ _ us hl => match us, hl with | [_], _ => rfl⟩
  have F_pool := fun_mk (st := s_pool) l_pool c_pool k_pool
  have D_pool : Dn K mg "_law_pool" s_pool ["_law_script", "_law_k"] _ _ := ⟨F_pool, PySem.W.mg_of X G a_pool, F_pool.binds (ps := ["_law_script", "_law_k"]) fun _ _ _ _ _ _ us hl => match us, hl with | [_, _], _ => rfl⟩
  have F_take := fun_mk (st := s_take) l_take c_take k_take
  have D_take : Dn K mg "_law_take" s_take ["_law_pool_here", "_law_many"] _ _ := ⟨F_take, PySem.W.mg_of X G a_take, F_take.binds (ps := ["_law_pool_here", "_law_many"]) fun _ _ _ _ _ _ us hl => match us, hl with | [_, _], _ => rfl⟩
  have F_same := fun_mk (st := s_same) l_same c_same k_same
  have D_same : Dn K mg "_law_same" s_same ["_law_actual", "_law_due"] _ _ := ⟨F_same, PySem.W.mg_of X G a_same, F_same.binds (ps := ["_law_actual", "_law_due"]) fun _ _ _ _ _ _ us hl => match us, hl with | [_, _], _ => rfl⟩
  have F_binary := fun_mk (st := s_binary) l_binary c_binary k_binary
  have D_binary : Dn K mg "_law_binary" s_binary ["_law_u_here"] _ _ := ⟨F_binary, PySem.W.mg_of X G a_binary, F_binary.binds (ps := ["_law_u_here"]) fun _ _ _ _ _ _ us hl => match us, hl with | [_], _ => rfl⟩
  have F_l_parameter := fun_mk (st := s_l_parameter) l_l_parameter c_l_parameter k_l_parameter
  have D_l_parameter : Dn K mg "_law_parameter" s_l_parameter ["_law_row"] _ _ := ⟨F_l_parameter, PySem.W.mg_of X G a_l_parameter, F_l_parameter.binds (ps := ["_law_row"]) fun _ _ _ _ _ _ us hl => match us, hl with | [_], _ => rfl⟩
  have F_code := fun_mk (st := s_code) l_code c_code k_code
  have D_code : Dn K mg "_law_code" s_code ["_law_u_here", "_law_k"] _ _ := ⟨F_code, PySem.W.mg_of X G a_code, F_code.binds (ps := ["_law_u_here", "_law_k"]) fun _ _ _ _ _ _ us hl => match us, hl with | [_, _], _ => rfl⟩
  have F_behind := fun_mk (st := s_behind) l_behind c_behind k_behind
  have D_behind : Dn K mg "_law_behind" s_behind ["_law_row", "_law_u_here"] _ _ := ⟨F_behind, PySem.W.mg_of X G a_behind, F_behind.binds (ps := ["_law_row", "_law_u_here"]) fun _ _ _ _ _ _ us hl => match us, hl with | [_, _], _ => rfl⟩
  have F_u := fun_mk (st := s_u) l_u c_u k_u
  have D_u : Dn K mg "_law_u" s_u ["_law_number"] _ _ := ⟨F_u, PySem.W.mg_of X G a_u, F_u.binds (ps := ["_law_number"]) fun _ _ _ _ _ _ us hl => match us, hl with | [_], _ => rfl⟩
  have F_written := fun_mk (st := s_written) l_written c_written k_written
  have D_written : Dn K mg "_law_written" s_written ["_law_some_here", "_law_first", "_law_start"] _ _ := ⟨F_written, PySem.W.mg_of X G a_written, F_written.binds (ps := ["_law_some_here", "_law_first", "_law_start"]) fun _ _ _ _ _ _ us hl => match us, hl with | [_, _, _], _ => rfl⟩
  have F_mark := fun_mk (st := s_mark) l_mark c_mark k_mark
  have D_mark : Dn K mg "_law_mark" s_mark ["_law_some_here"] _ _ := ⟨F_mark, PySem.W.mg_of X G a_mark, F_mark.binds (ps := ["_law_some_here"]) fun _ _ _ _ _ _ us hl => match us, hl with | [_], _ => rfl⟩
  have F_counts := fun_mk (st := s_counts) l_counts c_counts k_counts
  have D_counts : Dn K mg "_law_counts" s_counts ["_law_size", "_law_many"] _ _ := ⟨F_counts, PySem.W.mg_of X G a_counts, F_counts.binds (ps := ["_law_size", "_law_many"]) fun _ _ _ _ _ _ us hl => match us, hl with | [_, _], _ => rfl⟩
  have F_values := fun_mk (st := s_values) l_values c_values k_values
  have D_values : Dn K mg "_law_values" s_values ["_law_some_here", "_law_many"] _ _ := ⟨F_values, PySem.W.mg_of X G a_values, F_values.binds (ps := ["_law_some_here", "_law_many"]) fun _ _ _ _ _ _ us hl => match us, hl with | [_, _], _ => rfl⟩
  have F_heads := fun_mk (st := s_heads) l_heads c_heads k_heads
  have D_heads : Dn K mg "_law_heads" s_heads ["_law_pool_here", "_law_many"] _ _ := ⟨F_heads, PySem.W.mg_of X G a_heads, F_heads.binds (ps := ["_law_pool_here", "_law_many"]) fun _ _ _ _ _ _ us hl => match us, hl with | [_, _], _ => rfl⟩
  have F_some := fun_mk (st := s_some) l_some c_some k_some
  have D_some : Dn K mg "_law_some" s_some ["_law_pool_here", "_law_size"] _ _ := ⟨F_some, PySem.W.mg_of X G a_some, F_some.binds (ps := ["_law_pool_here", "_law_size"]) fun _ _ _ _ _ _ us hl => match us, hl with | [_, _], _ => rfl⟩
  have F_frame := fun_mk (st := s_frame) l_frame c_frame k_frame
  have D_frame : Dn K mg "_law_frame" s_frame ["_law_head", "_law_some_here", "_law_start"] _ _ := ⟨F_frame, PySem.W.mg_of X G a_frame, F_frame.binds (ps := ["_law_head", "_law_some_here", "_law_start"]) fun _ _ _ _ _ _ us hl => match us, hl with | [_, _, _], _ => rfl⟩
  have F_tables := fun_mk (st := s_tables) l_tables c_tables k_tables
  have D_tables : Dn K mg "_law_tables" s_tables ["_law_pool_here"] _ _ := ⟨F_tables, PySem.W.mg_of X G a_tables, F_tables.binds (ps := ["_law_pool_here"]) fun _ _ _ _ _ _ us hl => match us, hl with | [_], _ => rfl⟩
  have F_stream := fun_mk (st := s_stream) l_stream c_stream k_stream
  have D_stream : Dn K mg "_law_stream" s_stream ["_law_pool_here", "_law_many"] _ _ := ⟨F_stream, PySem.W.mg_of X G a_stream, F_stream.binds (ps := ["_law_pool_here", "_law_many"]) fun _ _ _ _ _ _ us hl => match us, hl with | [_, _], _ => rfl⟩
  have F_reached := fun_mk (st := s_reached) l_reached c_reached k_reached
  have D_reached : Dn K mg "_law_reached" s_reached ["_law_rows", "_law_first", "_law_last"] _ _ := ⟨F_reached, PySem.W.mg_of X G a_reached, F_reached.binds (ps := ["_law_rows", "_law_first", "_law_last"]) fun _ _ _ _ _ _ us hl => match us, hl with | [_, _, _], _ => rfl⟩
  have F_needed := fun_mk (st := s_needed) l_needed c_needed k_needed
  have D_needed : Dn K mg "_law_needed" s_needed ["_law_rows", "_law_frames"] _ _ := ⟨F_needed, PySem.W.mg_of X G a_needed, F_needed.binds (ps := ["_law_rows", "_law_frames"]) fun _ _ _ _ _ _ us hl => match us, hl with | [_, _], _ => rfl⟩
  have F_length := fun_mk (st := s_length) l_length c_length k_length
  have D_length : Dn K mg "_law_length" s_length ["_law_rows"] _ _ := ⟨F_length, PySem.W.mg_of X G a_length, F_length.binds (ps := ["_law_rows"]) fun _ _ _ _ _ _ us hl => match us, hl with | [_], _ => rfl⟩
  have F_stretch := fun_mk (st := s_stretch) l_stretch c_stretch k_stretch
  have D_stretch : Dn K mg "_law_stretch" s_stretch ["_law_pool_here", "_law_rows"] _ _ := ⟨F_stretch, PySem.W.mg_of X G a_stretch, F_stretch.binds (ps := ["_law_pool_here", "_law_rows"]) fun _ _ _ _ _ _ us hl => match us, hl with | [_, _], _ => rfl⟩
  have F_law := fun_mk (st := s_law) l_law c_law k_law
  have D_law : Dn K mg "law" s_law ["_law_script"] _ _ := ⟨F_law, PySem.W.mg_of X G a_law, F_law.binds (ps := ["_law_script"]) fun _ _ _ _ _ _ us hl => match us, hl with | [_], _ => rfl⟩
  have TC_Stream : StmC K mg C_Stream := ⟨⟨pg_Stream, hd_Stream, po_Stream, sa_Stream⟩, PySem.W.mg_of X G x_Stream, mk_Stream, kc_Stream, na_Stream_held, na_Stream_read⟩
  have F_Stream___init__ := fun_mk (st := s_Stream___init__) l_Stream___init__ c_Stream___init__ k_Stream___init__
  have D_Stream___init__ : Mn K C_Stream "__init__" "Stream.__init__" s_Stream___init__ ["self", "records"] _ _ := ⟨F_Stream___init__, ⟨at_Stream___init__, if_Stream___init__, k_Stream___init__⟩, F_Stream___init__.binds (ps := ["self", "records"]) fun _ _ _ _ _ _ us hl => match us, hl with | [_, _], _ => rfl⟩
  have F_Stream_records := fun_mk (st := s_Stream_records) l_Stream_records c_Stream_records k_Stream_records
  have D_Stream_records : Pn K C_Stream "records" "Stream.records" s_Stream_records ["self"] p_Stream_records _ _ := ⟨F_Stream_records, ⟨at_Stream_records, gt_Stream_records, tk_Stream_records, rs_Stream_records, rc_Stream_records⟩, F_Stream_records.binds (ps := ["self"]) fun _ _ _ _ _ _ us hl => match us, hl with | [_], _ => rfl⟩
  have F_Stream_block := fun_mk (st := s_Stream_block) l_Stream_block c_Stream_block k_Stream_block
  have D_Stream_block : Mn K C_Stream "block" "Stream.block" s_Stream_block ["self", "frame"] _ _ := ⟨F_Stream_block, ⟨at_Stream_block, if_Stream_block, k_Stream_block⟩, F_Stream_block.binds (ps := ["self", "frame"]) fun _ _ _ _ _ _ us hl => match us, hl with | [_, _], _ => rfl⟩
  have F_Stream_part_of := fun_mk (st := s_Stream_part_of) l_Stream_part_of c_Stream_part_of k_Stream_part_of
  have D_Stream_part_of : Mn K C_Stream "part_of" "Stream.part_of" s_Stream_part_of ["self", "frame", "part"] _ _ := ⟨F_Stream_part_of, ⟨at_Stream_part_of, if_Stream_part_of, k_Stream_part_of⟩, F_Stream_part_of.binds (ps := ["self", "frame", "part"]) fun _ _ _ _ _ _ us hl => match us, hl with | [_, _, _], _ => rfl⟩
  refine ⟨PySem.W.fnOf "law" "law" (defArgs s_law) (defBody s_law) (defScope s_law) .none kV_law dc_law pm_law an_law cd_law ct_law, fun s v => .of_eq rfl, fun base _ _ => ?_⟩
  have hSt := tupV_K (xs := [.ref t0, .ref t1]) lS (Nat.le_of_ble_eq_true rfl) (.cons rfl (.cons rfl .nil))
  have hS0 := tupV_K (xs := [.int 2, .int 1]) lt0 (Nat.le_of_ble_eq_true rfl) (.cons ⟨_, rfl⟩ (.cons ⟨_, rfl⟩ .nil))
  have hS1 := tupV_K (xs := [.int 2, .int 1]) lt1 (Nat.le_of_ble_eq_true rfl) (.cons ⟨_, rfl⟩ (.cons ⟨_, rfl⟩ .nil))
  have hHd := tupV_K (xs := [.int 0, .int 0]) lH (Nat.le_of_ble_eq_true rfl) (.cons ⟨_, rfl⟩ (.cons ⟨_, rfl⟩ .nil))
  have G_take := ok_take (P := l.prog) (w := w) (base := base) D_take bi    
  have G_pool := ok_pool (P := l.prog) (w := w) (base := base) D_pool bi    
  have G_binary := ok_binary (P := l.prog) (w := w) (base := base) D_binary bi    
  have G_l_parameter := ok_l_parameter (P := l.prog) (w := w) (base := base) D_l_parameter bi    
  have G_code := ok_code (P := l.prog) (w := w) (base := base) D_code bi G_binary D_binary   
  have G_behind := ok_behind (P := l.prog) (w := w) (base := base) D_behind bi    
  have G_u := ok_u (P := l.prog) (w := w) (base := base) D_u bi    
  have G_written := ok_written (P := l.prog) (w := w) (base := base) D_written bi G_code D_code G_u D_u G_l_parameter D_l_parameter G_behind D_behind   
  have G_mark := ok_mark (P := l.prog) (w := w) (base := base) D_mark bi G_u D_u   
  have G_counts := ok_counts (P := l.prog) (w := w) (base := base) D_counts bi    
  have G_tables := ok_tables (P := l.prog) (w := w) (base := base) D_tables bi G_take D_take   
  have G_some := ok_some (P := l.prog) (w := w) (base := base) D_some bi G_take D_take   
  have G_frame := ok_frame (P := l.prog) (w := w) (base := base) D_frame bi G_counts D_counts G_written D_written G_mark D_mark   
  have G_values := ok_values (P := l.prog) (w := w) (base := base) D_values bi G_counts D_counts   
  have G_heads := ok_heads (P := l.prog) (w := w) (base := base) D_heads bi G_take D_take   
  have G_stream := ok_stream (P := l.prog) (w := w) (base := base) D_stream bi G_take D_take G_heads D_heads G_tables D_tables G_some D_some G_frame D_frame G_values D_values   
  have G_is_integer := ok_is_integer (P := l.prog) (w := w) (base := base) D_is_integer bi    
  have G_is_within := ok_is_within (P := l.prog) (w := w) (base := base) D_is_within bi G_is_integer D_is_integer   
  have G_is_joint := ok_is_joint (P := l.prog) (w := w) (base := base) D_is_joint bi G_is_within D_is_within   ⟨_, PySem.W.mg_of X G a_WIDTH_LIMIT⟩ ⟨_, PySem.W.mg_of X G a_SHAPE_LIMIT⟩
  have G_is_table := ok_is_table (P := l.prog) (w := w) (base := base) D_is_table bi G_is_integer D_is_integer G_is_within D_is_within   ⟨_, PySem.W.mg_of X G a_COUNT_LIMIT⟩
  have G_is_tables := ok_is_tables (P := l.prog) (w := w) (base := base) D_is_tables bi G_is_table D_is_table   
  have G_is_bits := ok_is_bits (P := l.prog) (w := w) (base := base) D_is_bits bi    
  have G_is_layout := ok_is_layout (P := l.prog) (w := w) (base := base) D_is_layout bi G_is_within D_is_within G_is_joint D_is_joint   ⟨_, PySem.W.mg_of X G a_BLOCK_LIMIT⟩ ⟨_, PySem.W.mg_of X G a_LEVEL_LIMIT⟩ ⟨_, PySem.W.mg_of X G a_STEP_LIMIT⟩
  have G_is_frame := ok_is_frame (P := l.prog) (w := w) (base := base) D_is_frame bi G_is_layout D_is_layout G_is_within D_is_within G_is_bits D_is_bits   ⟨_, PySem.W.mg_of X G a_FRAME_ITEMS⟩ ⟨_, PySem.W.mg_of X G a_MARK_MODULUS⟩
  have G_is_state := ok_is_state (P := l.prog) (w := w) (base := base) D_is_state bi G_is_tables D_is_tables   
  have G_is_record := ok_is_record (P := l.prog) (w := w) (base := base) D_is_record bi G_is_state D_is_state G_is_frame D_is_frame   
  have G_check_records := ok_check_records (P := l.prog) (w := w) (base := base) D_check_records bi G_is_record D_is_record   
  have G_check_within := ok_check_within (P := l.prog) (w := w) (base := base) D_check_within bi G_is_within D_is_within   
  have G_check_integer := ok_check_integer (P := l.prog) (w := w) (base := base) D_check_integer bi G_is_integer D_is_integer   
  have G_check_items := ok_check_items (P := l.prog) (w := w) (base := base) D_check_items bi G_is_integer D_is_integer   
  have G_check_block := ok_check_block (P := l.prog) (w := w) (base := base) D_check_block bi G_check_items D_check_items   ⟨_, PySem.W.mg_of X G a_BLOCK_LIMIT⟩
  have G_coarse_count := ok_coarse_count (P := l.prog) (w := w) (base := base) D_coarse_count bi G_check_within D_check_within   ⟨_, PySem.W.mg_of X G a_BLOCK_LIMIT⟩ ⟨_, PySem.W.mg_of X G a_LEVEL_LIMIT⟩
  have G_parameter := ok_parameter (P := l.prog) (w := w) (base := base) D_parameter bi G_is_table D_is_table   
  have G_table_behind := ok_table_behind (P := l.prog) (w := w) (base := base) D_table_behind bi    ⟨_, PySem.W.mg_of X G a_COUNT_LIMIT⟩ ⟨_, PySem.W.mg_of X G a_HALVED_COUNT⟩
  have G_code_number := ok_code_number (P := l.prog) (w := w) (base := base) D_code_number bi    
  have G_number_with := ok_number_with (P := l.prog) (w := w) (base := base) D_number_with bi    
  have G_read_code := ok_read_code (P := l.prog) (w := w) (base := base) D_read_code bi    ⟨_, PySem.W.mg_of X G a_LONG_FORM⟩
  have G_check_coding := ok_check_coding (P := l.prog) (w := w) (base := base) D_check_coding bi G_check_within D_check_within G_is_tables D_is_tables   
  have G_read_numbers := ok_read_numbers (P := l.prog) (w := w) (base := base) D_read_numbers bi G_check_within D_check_within G_check_coding D_check_coding G_parameter D_parameter G_read_code D_read_code G_number_with D_number_with G_table_behind D_table_behind   ⟨_, PySem.W.mg_of X G a_BLOCK_LIMIT⟩
  have G_mark_of := ok_mark_of (P := l.prog) (w := w) (base := base) D_mark_of bi G_check_block D_check_block G_code_number D_code_number   ⟨_, PySem.W.mg_of X G a_MARK_FACTOR⟩ ⟨_, PySem.W.mg_of X G a_MARK_MODULUS⟩
  have G_read_frame := ok_read_frame (P := l.prog) (w := w) (base := base) D_read_frame bi G_read_numbers D_read_numbers G_coarse_count D_coarse_count G_mark_of D_mark_of   
  have G_read_frames := ok_read_frames (P := l.prog) (w := w) (base := base) D_read_frames bi G_read_frame D_read_frame   (PySem.W.mg_of X G zS) hSt hS0 hS1 (PySem.W.mg_of X G zH) hHd
  have G_Stream___init__ := ok_Stream___init__ (P := l.prog) (w := w) (base := base) D_Stream___init__ bi G_check_records D_check_records G_read_frames D_read_frames TC_Stream  
  have G_Stream_records := ok_Stream_records (P := l.prog) (w := w) (base := base) D_Stream_records bi  TC_Stream  
  have G_Stream_part_of := ok_Stream_part_of (P := l.prog) (w := w) (base := base) D_Stream_part_of bi G_is_within D_is_within TC_Stream  
  have G_Stream_block := ok_Stream_block (P := l.prog) (w := w) (base := base) D_Stream_block bi G_Stream_part_of D_Stream_part_of TC_Stream  
  have G_index_of := ok_index_of (P := l.prog) (w := w) (base := base) D_index_of bi G_Stream_records D_Stream_records G_Stream_block D_Stream_block TC_Stream  
  have G_check_stretch := ok_check_stretch (P := l.prog) (w := w) (base := base) D_check_stretch bi G_is_within D_is_within   
  have G_sound_length := ok_sound_length (P := l.prog) (w := w) (base := base) D_sound_length bi    
  have G_reach := ok_reach (P := l.prog) (w := w) (base := base) D_reach bi    
  have G_needed_entries := ok_needed_entries (P := l.prog) (w := w) (base := base) D_needed_entries bi G_reach D_reach   
  have G_records_up_to := ok_records_up_to (P := l.prog) (w := w) (base := base) D_records_up_to bi    
  have G_needed_records := ok_needed_records (P := l.prog) (w := w) (base := base) D_needed_records bi G_check_stretch D_check_stretch G_sound_length D_sound_length G_records_up_to D_records_up_to G_needed_entries D_needed_entries   
  have G_reached := ok_reached (P := l.prog) (w := w) (base := base) D_reached bi    
  have G_needed := ok_needed (P := l.prog) (w := w) (base := base) D_needed bi    (PySem.W.mg_none_of X G z_sorted)
  have G_length := ok_length (P := l.prog) (w := w) (base := base) D_length bi    
  have G_stretch := ok_stretch (P := l.prog) (w := w) (base := base) D_stretch bi G_take D_take G_length D_length   
  have G_same0 := ok_same0 (P := l.prog) (w := w) (base := base) D_same bi
  have G_same1 := ok_sameS (P := l.prog) (w := w) (base := base) D_same bi G_same0
  have G_same2 := ok_sameS (P := l.prog) (w := w) (base := base) D_same bi G_same1
  have G_same3 := ok_sameS (P := l.prog) (w := w) (base := base) D_same bi G_same2
  have G_same := G_same3
  exact ok_law D_law bi G_pool D_pool G_take D_take G_stream D_stream G_reached D_reached G_needed D_needed G_stretch D_stretch G_same D_same G_index_of D_index_of G_needed_records D_needed_records G_Stream___init__ D_Stream___init__ TC_Stream
end Z
open PySem PySem.W PyProof.Rows
set_option maxHeartbeats 0 in
theorem PySem.Challenge.cw_framejoins_k32_needed_records_holds : PySem.Challenge.rw_framejoins_k32_needed_records.Holds := by
  w_on; refine headTop ?_
  k_fill
  refine L2.walk_of (l := PySem.Challenge.rw_framejoins_k32_needed_records) (n := 63) (k := 11) (x := "_law_script") (CX := fun _ => L2.CX0) (sp := fun w => Z.spLaw _) rfl (by decide) rfl ⟨rfl, by decide, by decide⟩ (fun w h Y => PySem.W.kIn_of Y) ?F (fun _ _ a ns hl _ hS => ⟨a, ns, rfl, hS, hl, fun _ => rfl⟩) (fun _ _ _ _ _ h => h)
  case F =>
    intro w mg fa h KX G hmg
    refine' Z.all_mk KX G hmg ?a_is_integer ?l_is_integer ?c_is_integer ?k_is_integer ?a_is_within ?l_is_within ?c_is_within ?k_is_within ?a_check_integer ?l_check_integer ?c_check_integer ?k_check_integer ?a_check_within ?l_check_within ?c_check_within ?k_check_within ?a_check_stretch ?l_check_stretch ?c_check_stretch ?k_check_stretch ?a_check_items ?l_check_items ?c_check_items ?k_check_items ?a_check_block ?l_check_block ?c_check_block ?k_check_block ?a_is_joint ?l_is_joint ?c_is_joint ?k_is_joint ?a_coarse_count ?l_coarse_count ?c_coarse_count ?k_coarse_count ?a_is_table ?l_is_table ?c_is_table ?k_is_table ?a_is_tables ?l_is_tables ?c_is_tables ?k_is_tables ?a_parameter ?l_parameter ?c_parameter ?k_parameter ?a_table_behind ?l_table_behind ?c_table_behind ?k_table_behind ?a_code_number ?l_code_number ?c_code_number ?k_code_number ?a_number_with ?l_number_with ?c_number_with ?k_number_with ?a_read_numbers ?l_read_numbers ?c_read_numbers ?k_read_numbers ?a_check_coding ?l_check_coding ?c_check_coding ?k_check_coding ?a_read_code ?l_read_code ?c_read_code ?k_read_code ?a_mark_of ?l_mark_of ?c_mark_of ?k_mark_of ?a_is_record ?l_is_record ?c_is_record ?k_is_record ?a_is_state ?l_is_state ?c_is_state ?k_is_state ?a_is_frame ?l_is_frame ?c_is_frame ?k_is_frame ?a_is_layout ?l_is_layout ?c_is_layout ?k_is_layout ?a_is_bits ?l_is_bits ?c_is_bits ?k_is_bits ?a_read_frame ?l_read_frame ?c_read_frame ?k_read_frame ?a_check_records ?l_check_records ?c_check_records ?k_check_records ?a_read_frames ?l_read_frames ?c_read_frames ?k_read_frames ?a_index_of ?l_index_of ?c_index_of ?k_index_of ?a_needed_records ?l_needed_records ?c_needed_records ?k_needed_records ?a_sound_length ?l_sound_length ?c_sound_length ?k_sound_length ?a_reach ?l_reach ?c_reach ?k_reach ?a_needed_entries ?l_needed_entries ?c_needed_entries ?k_needed_entries ?a_records_up_to ?l_records_up_to ?c_records_up_to ?k_records_up_to ?a_pool ?l_pool ?c_pool ?k_pool ?a_take ?l_take ?c_take ?k_take ?a_same ?l_same ?c_same ?k_same ?a_binary ?l_binary ?c_binary ?k_binary ?a_l_parameter ?l_l_parameter ?c_l_parameter ?k_l_parameter ?a_code ?l_code ?c_code ?k_code ?a_behind ?l_behind ?c_behind ?k_behind ?a_u ?l_u ?c_u ?k_u ?a_written ?l_written ?c_written ?k_written ?a_mark ?l_mark ?c_mark ?k_mark ?a_counts ?l_counts ?c_counts ?k_counts ?a_values ?l_values ?c_values ?k_values ?a_heads ?l_heads ?c_heads ?k_heads ?a_some ?l_some ?c_some ?k_some ?a_frame ?l_frame ?c_frame ?k_frame ?a_tables ?l_tables ?c_tables ?k_tables ?a_stream ?l_stream ?c_stream ?k_stream ?a_reached ?l_reached ?c_reached ?k_reached ?a_needed ?l_needed ?c_needed ?k_needed ?a_length ?l_length ?c_length ?k_length ?a_stretch ?l_stretch ?c_stretch ?k_stretch ?a_law ?l_law ?c_law ?k_law ?a_BLOCK_LIMIT ?a_COUNT_LIMIT ?a_SHAPE_LIMIT ?a_WIDTH_LIMIT ?a_LEVEL_LIMIT ?a_STEP_LIMIT ?a_MARK_MODULUS ?a_HALVED_COUNT ?a_LONG_FORM ?a_MARK_FACTOR ?a_FRAME_ITEMS ?zS ?lS ?lt0 ?lt1 ?zH ?lH ?z_sorted ?z_int ?z_bool ?z_str ?z_list ?z_tuple ?z_len ?z_abs ?z_max ?z_min ?z_range ?z_zip ?z_isinstance ?z_enumerate ?z_reversed ?x_Stream ?pg_Stream ?hd_Stream ?po_Stream ?sa_Stream ?mk_Stream ?kc_Stream ?na_Stream_held ?na_Stream_read ?at_Stream___init__ ?if_Stream___init__ ?l_Stream___init__ ?c_Stream___init__ ?k_Stream___init__ ?at_Stream_records ?gt_Stream_records ?tk_Stream_records ?rc_Stream_records ?l_Stream_records ?c_Stream_records ?k_Stream_records ?at_Stream_block ?if_Stream_block ?l_Stream_block ?c_Stream_block ?k_Stream_block ?at_Stream_part_of ?if_Stream_part_of ?l_Stream_part_of ?c_Stream_part_of ?k_Stream_part_of
    (case a_is_integer => k_is); (case l_is_integer => k_is); (case c_is_integer => k_is); (case k_is_integer => k_is); (case a_is_within => k_is); (case l_is_within => k_is); (case c_is_within => k_is); (case k_is_within => k_is); (case a_check_integer => k_is); (case l_check_integer => k_is); (case c_check_integer => k_is); (case k_check_integer => k_is); (case a_check_within => k_is); (case l_check_within => k_is); (case c_check_within => k_is); (case k_check_within => k_is); (case a_check_stretch => k_is); (case l_check_stretch => k_is); (case c_check_stretch => k_is); (case k_check_stretch => k_is); (case a_check_items => k_is); (case l_check_items => k_is); (case c_check_items => k_is); (case k_check_items => k_is); (case a_check_block => k_is); (case l_check_block => k_is); (case c_check_block => k_is); (case k_check_block => k_is); (case a_is_joint => k_is); (case l_is_joint => k_is); (case c_is_joint => k_is); (case k_is_joint => k_is); (case a_coarse_count => k_is); (case l_coarse_count => k_is); (case c_coarse_count => k_is); (case k_coarse_count => k_is); (case a_is_table => k_is); (case l_is_table => k_is); (case c_is_table => k_is); (case k_is_table => k_is); (case a_is_tables => k_is); (case l_is_tables => k_is); (case c_is_tables => k_is); (case k_is_tables => k_is); (case a_parameter => k_is); (case l_parameter => k_is); (case c_parameter => k_is); (case k_parameter => k_is); (case a_table_behind => k_is); (case l_table_behind => k_is); (case c_table_behind => k_is); (case k_table_behind => k_is); (case a_code_number => k_is); (case l_code_number => k_is); (case c_code_number => k_is); (case k_code_number => k_is); (case a_number_with => k_is); (case l_number_with => k_is); (case c_number_with => k_is); (case k_number_with => k_is); (case a_read_numbers => k_is); (case l_read_numbers => k_is); (case c_read_numbers => k_is); (case k_read_numbers => k_is); (case a_check_coding => k_is); (case l_check_coding => k_is); (case c_check_coding => k_is); (case k_check_coding => k_is); (case a_read_code => k_is); (case l_read_code => k_is); (case c_read_code => k_is); (case k_read_code => k_is); (case a_mark_of => k_is); (case l_mark_of => k_is); (case c_mark_of => k_is); (case k_mark_of => k_is); (case a_is_record => k_is); (case l_is_record => k_is); (case c_is_record => k_is); (case k_is_record => k_is); (case a_is_state => k_is); (case l_is_state => k_is); (case c_is_state => k_is); (case k_is_state => k_is); (case a_is_frame => k_is); (case l_is_frame => k_is); (case c_is_frame => k_is); (case k_is_frame => k_is); (case a_is_layout => k_is); (case l_is_layout => k_is); (case c_is_layout => k_is); (case k_is_layout => k_is); (case a_is_bits => k_is); (case l_is_bits => k_is); (case c_is_bits => k_is); (case k_is_bits => k_is); (case a_read_frame => k_is); (case l_read_frame => k_is); (case c_read_frame => k_is); (case k_read_frame => k_is); (case a_check_records => k_is); (case l_check_records => k_is); (case c_check_records => k_is); (case k_check_records => k_is); (case a_read_frames => k_is); (case l_read_frames => k_is); (case c_read_frames => k_is); (case k_read_frames => k_is); (case a_index_of => k_is); (case l_index_of => k_is); (case c_index_of => k_is); (case k_index_of => k_is); (case a_needed_records => k_is); (case l_needed_records => k_is); (case c_needed_records => k_is); (case k_needed_records => k_is); (case a_sound_length => k_is); (case l_sound_length => k_is); (case c_sound_length => k_is); (case k_sound_length => k_is); (case a_reach => k_is); (case l_reach => k_is); (case c_reach => k_is); (case k_reach => k_is); (case a_needed_entries => k_is); (case l_needed_entries => k_is); (case c_needed_entries => k_is); (case k_needed_entries => k_is); (case a_records_up_to => k_is); (case l_records_up_to => k_is); (case c_records_up_to => k_is); (case k_records_up_to => k_is); (case a_pool => k_is); (case l_pool => k_is); (case c_pool => k_is); (case k_pool => k_is); (case a_take => k_is); (case l_take => k_is); (case c_take => k_is); (case k_take => k_is); (case a_same => k_is); (case l_same => k_is); (case c_same => k_is); (case k_same => k_is); (case a_binary => k_is); (case l_binary => k_is); (case c_binary => k_is); (case k_binary => k_is); (case a_l_parameter => k_is); (case l_l_parameter => k_is); (case c_l_parameter => k_is); (case k_l_parameter => k_is); (case a_code => k_is); (case l_code => k_is); (case c_code => k_is); (case k_code => k_is); (case a_behind => k_is); (case l_behind => k_is); (case c_behind => k_is); (case k_behind => k_is); (case a_u => k_is); (case l_u => k_is); (case c_u => k_is); (case k_u => k_is); (case a_written => k_is); (case l_written => k_is); (case c_written => k_is); (case k_written => k_is); (case a_mark => k_is); (case l_mark => k_is); (case c_mark => k_is); (case k_mark => k_is); (case a_counts => k_is); (case l_counts => k_is); (case c_counts => k_is); (case k_counts => k_is); (case a_values => k_is); (case l_values => k_is); (case c_values => k_is); (case k_values => k_is); (case a_heads => k_is); (case l_heads => k_is); (case c_heads => k_is); (case k_heads => k_is); (case a_some => k_is); (case l_some => k_is); (case c_some => k_is); (case k_some => k_is); (case a_frame => k_is); (case l_frame => k_is); (case c_frame => k_is); (case k_frame => k_is); (case a_tables => k_is); (case l_tables => k_is); (case c_tables => k_is); (case k_tables => k_is); (case a_stream => k_is); (case l_stream => k_is); (case c_stream => k_is); (case k_stream => k_is); (case a_reached => k_is); (case l_reached => k_is); (case c_reached => k_is); (case k_reached => k_is); (case a_needed => k_is); (case l_needed => k_is); (case c_needed => k_is); (case k_needed => k_is); (case a_length => k_is); (case l_length => k_is); (case c_length => k_is); (case k_length => k_is); (case a_stretch => k_is); (case l_stretch => k_is); (case c_stretch => k_is); (case k_stretch => k_is); (case a_law => k_is); (case l_law => k_is); (case c_law => k_is); (case k_law => k_is); (case a_BLOCK_LIMIT => k_is); (case a_COUNT_LIMIT => k_is); (case a_SHAPE_LIMIT => k_is); (case a_WIDTH_LIMIT => k_is); (case a_LEVEL_LIMIT => k_is); (case a_STEP_LIMIT => k_is); (case a_MARK_MODULUS => k_is); (case a_HALVED_COUNT => k_is); (case a_LONG_FORM => k_is); (case a_MARK_FACTOR => k_is); (case a_FRAME_ITEMS => k_is); (case zS => k_is); (case lS => k_is); (case lt0 => k_is); (case lt1 => k_is); (case zH => k_is); (case lH => k_is); (case z_sorted => k_is); (case z_int => k_is); (case z_bool => k_is); (case z_str => k_is); (case z_list => k_is); (case z_tuple => k_is); (case z_len => k_is); (case z_abs => k_is); (case z_max => k_is); (case z_min => k_is); (case z_range => k_is); (case z_zip => k_is); (case z_isinstance => k_is); (case z_enumerate => k_is); (case z_reversed => k_is); (case x_Stream => k_is); (case pg_Stream => k_is); (case hd_Stream => k_is); (case po_Stream => k_is); (case sa_Stream => k_is); (case mk_Stream => k_is); (case kc_Stream => k_is); (case na_Stream_held => k_is); (case na_Stream_read => k_is); (case at_Stream___init__ => k_is); (case if_Stream___init__ => k_is); (case l_Stream___init__ => k_is); (case c_Stream___init__ => k_is); (case k_Stream___init__ => k_is); (case at_Stream_records => k_is); (case gt_Stream_records => k_is); (case tk_Stream_records => k_is); (case rc_Stream_records => k_is); (case l_Stream_records => k_is); (case c_Stream_records => k_is); (case k_Stream_records => k_is); (case at_Stream_block => k_is); (case if_Stream_block => k_is); (case l_Stream_block => k_is); (case c_Stream_block => k_is); (case k_Stream_block => k_is); (case at_Stream_part_of => k_is); (case if_Stream_part_of => k_is); (case l_Stream_part_of => k_is); (case c_Stream_part_of => k_is); (case k_Stream_part_of => k_is)
