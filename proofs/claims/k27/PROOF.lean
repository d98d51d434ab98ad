import PyProof.Rows.All
import Wide.All
import OpenK.AllK
import Wide.FinOn
import HandS.ForExc
import HandS.ForMost
import HandS.IsInst
import HandS.Style
import HandS.Zip
import HandS.RevRange
import HandS.Lambda
import HandS.TryOnly
import HandS.TryMany
import HandS.ExcOwn
import HandS.ExcInit
import HandS.ExcField
import HandS.ExcIs
import HandS.EndTab
import HandS.CallLocal
import KE.KExcIs
import KE.KNestM
import KE.IntBitsLaws
import HandS.WideBits
import KE.GoesEnum
import KE.GoesMore
import HandS.Codes
import HandS.Conv
import HandS.IntHex
import PyProof.FString3
import PyProof.StrOps2
import KE.IntText
import HandS.StrMore
import HandS.FStr
import HandS.Flt
import HandS.Property
import HandS.List
import HandS.TupAny
import HandS.Wide
import HandS.OwnEq
import HandS.Defaults
import HandS.MakeKwOnly
import HandS.RaiseMore
import PySem.Challenge.RW_framejoins_k27_even_plans_and_choices
set_option Elab.async false
set_option linter.all false
set_option maxRecDepth 100000
set_option maxHeartbeats 4000000
section
open PySem PySem.W PyProof.Rows
set_option maxHeartbeats 0 in
open_top headTop for PySem.Challenge.rw_framejoins_k27_even_plans_and_choices
end
namespace Z
def Lt1 (P : Prop) : Prop := P
theorem lt_eq {P : Prop} (h : P) : Lt1 P = True := eq_true h
theorem lt_out {P : Prop} (h : Lt1 P) : P := h
open PySem PySem.Spec PyProof.Rows L2
def rLen (K : PySem.W.Frag) : List V → Hp → VK → Prop := fun xs H Q => ∃ x n, xs = [x] ∧ LenV K x H n ∧ Q (.int n) H
def rAbs : List V → Hp → VK → Prop := fun xs H Q => ∃ i, xs = [.int i] ∧ Q (.int (if i < 0 then -i else i)) H
def rMax2 : List V → Hp → VK → Prop := fun xs H Q => ∃ i j, xs = [.int i, .int j] ∧ Q (.int (if j > i then j else i)) H
def rMin2 : List V → Hp → VK → Prop := fun xs H Q => ∃ i j, xs = [.int i, .int j] ∧ Q (.int (if j < i then j else i)) H
def rToInt : List V → Hp → VK → Prop := fun xs H Q => (∃ i, xs = [.int i] ∧ Q (.int i) H) ∨ ∃ k, xs = [.bl k] ∧ Q (.int (if k then 1 else 0)) H
def rToList (K : PySem.W.Frag) : List V → Hp → VK → Prop := fun xs H Q => ∃ p ys, xs = [.ref p] ∧ (SqL K H p ys ∨ SqT K H p ys) ∧ ∀ l, H l = none → Q (.ref l) (upd H l (.lst ys))
section
variable {X : Cx}
theorem cLen : CallR X (.builtin "len") (rLen X.K) := call_len
theorem cMax (hc : X.calm = true) : CallR X (.builtin "max") rMax2 := call_max2 hc
theorem cMin (hc : X.calm = true) : CallR X (.builtin "min") rMin2 := call_min2 hc
theorem cInt : CallR X (.type "int") rToInt := call_int1
theorem cList : CallR X (.type "list") (rToList X.K) := call_list_of
end
/-- the values by position and by keyword, put in the parameters' order -/
def kg {α : Type} (m n : Nat) (idx : List Nat) (us ws : List α) : List α := if us.length = m ∧ ws.length = n then idx.filterMap (fun i => (us ++ ws)[i]?) else []
theorem len1 {α : Type} {l : List α} (h : l.length = 1) : ∃ a, l = [a] := List.length_eq_one_iff.mp h
theorem len2 {α : Type} : ∀ {l : List α}, l.length = 2 → ∃ a b, l = [a, b]
  | [a, b], _ => ⟨a, b, rfl⟩
section
variable {X : Cx} {K : PySem.W.Frag} {σ : L2.St} {H : Hp} {Q : VK} {n : L2.St → Hp → Prop} {r : VK} {b c : L2.St → Hp → Prop} {ta tb tc te : TE} {tA tB1 : TT} {t u : TS} {v : V}
theorem rd_seq (h : t ⟨u ⟨n, r, b, c⟩, r, b, c⟩ σ H) : tSeq t u ⟨n, r, b, c⟩ σ H := h
theorem rd_start {D : Ends} {σ σ' : L2.St} (e : σ' = σ) (h : t D σ H) : t D σ' H := e ▸ h
theorem rd_next (h : n σ H) : tNext ⟨n, r, b, c⟩ σ H := h
theorem rd_asg {g : TG} (h : te σ H fun x H1 => g x σ H1 n) : tAsg te g ⟨n, r, b, c⟩ σ H := h
theorem rd_gname {i : Nat} {Q : L2.St → Hp → Prop} (h : Q (σ.set i (some v)) H) : gName i v σ H Q := h
theorem rd_gsub {to ti : TE} {s : TSet} {Q : L2.St → Hp → Prop} (h : to σ H fun o H1 => ti σ H1 fun i H2 => s o i v H2 fun H3 => Q σ H3) : gSub to ti s v σ H Q := h
theorem rd_ret (h : te σ H r) : tRet te ⟨n, r, b, c⟩ σ H := h
theorem rd_retn (h : r .non H) : tRetN ⟨n, r, b, c⟩ σ H := h
theorem rd_ifs (h : tA σ H fun d H1 => if d = true then t ⟨n, r, b, c⟩ σ H1 else u ⟨n, r, b, c⟩ σ H1) : tIfS tA t u ⟨n, r, b, c⟩ σ H := h
theorem rd_drop (h : te σ H fun _ H1 => n σ H1) : tDrop te ⟨n, r, b, c⟩ σ H := h
theorem rd_par {i j : Nat} {ts : TA} (h : ts σ H fun vs H1 => ∃ v w, vs = [v, w] ∧ n ((σ.set i (some v)).set j (some w)) H1) : tPar i j ts ⟨n, r, b, c⟩ σ H := h
theorem rd_par3 {i j l : Nat} {ts : TA} (h : ts σ H fun vs H1 => ∃ u v w, vs = [u, v, w] ∧ n (((σ.set i (some u)).set j (some v)).set l (some w)) H1) : tPar3 i j l ts ⟨n, r, b, c⟩ σ H := h
theorem rd_two {v w : V} {P : V → V → Prop} (h : P v w) : ∃ a b, [v, w] = [a, b] ∧ P a b := ⟨v, w, rfl, h⟩
theorem rd_three {u v w : V} {P : V → V → V → Prop} (h : P u v w) : ∃ a b c, [u, v, w] = [a, b, c] ∧ P a b c := ⟨u, v, w, rfl, h⟩
theorem rd_var {i : Nat} (e : σ[i]? = some (some v)) (h : Q v H) : tVar i σ H Q := ⟨v, e, h⟩
theorem rd_c (h : Q v H) : tC v σ H Q := h
theorem rd_op {o : R2} (h : ta σ H fun x H1 => tb σ H1 fun y H2 => o x y H2 Q) : tOp o ta tb σ H Q := h
theorem rd_un {o : V → Hp → VK → Prop} (h : ta σ H fun x H1 => o x H1 Q) : tUn o ta σ H Q := h
theorem rd_i0 {g : Int → Int → V} {i j : Int} (h : Q (g i j) H) : rI0 g (.int i) (.int j) H Q := ⟨i, j, rfl, rfl, h⟩
theorem rd_i {C : Int → Int → Prop} {g : Int → Int → V} {i j : Int} (hC : C i j) (h : Q (g i j) H) : rI C g (.int i) (.int j) H Q := ⟨i, j, rfl, rfl, hC, h⟩
theorem rd_u {g : Int → V} {i : Int} (h : Q (g i) H) : rU g (.int i) H Q := ⟨i, rfl, h⟩
theorem rd_eq {x y : V} (e : scal x y = true) (h : Q (.bl (decide (x = y))) H) : rEq x y H Q := ⟨e, h⟩
theorem rd_ne {x y : V} (e : scal x y = true) (h : Q (.bl (!decide (x = y))) H) : rNe x y H Q := ⟨e, h⟩
theorem rd_test {q : Bool → Hp → Prop} (h : te σ H fun x H' => ∃ k, x = .bl k ∧ q k H') : tTest te σ H q := h
theorem rd_b {q : Bool → Hp → Prop} (h : te σ H fun x H' => ∃ k, x = .bl k ∧ q k H') : tB te σ H q := h
theorem rd_bl {k : Bool} {P : Bool → Prop} (h : P k) : ∃ d, V.bl k = .bl d ∧ P d := ⟨k, rfl, h⟩
theorem rd_not {q : Bool → Hp → Prop} (h : tA σ H fun d H1 => q (!d) H1) : tNot tA σ H q := h
theorem rd_and {q : Bool → Hp → Prop} (h : tA σ H fun d H1 => if d = true then tB1 σ H1 q else q false H1) : tAnd tA tB1 σ H q := h
theorem rd_or {q : Bool → Hp → Prop} (h : tA σ H fun d H1 => if d = true then q true H1 else tB1 σ H1 q) : tOr tA tB1 σ H q := h
theorem rd_andV (h : ta σ H fun x H1 => ∃ c, x = .bl c ∧ if c = true then tb σ H1 Q else Q (.bl false) H1) : tAndV ta tb σ H Q := h
theorem rd_orV (h : ta σ H fun x H1 => ∃ c, x = .bl c ∧ if c = true then Q (.bl true) H1 else tb σ H1 Q) : tOrV ta tb σ H Q := h
theorem rd_notV (h : ta σ H fun x H1 => ∃ c, x = .bl c ∧ Q (.bl (!c)) H1) : tNotV ta σ H Q := h
theorem rd_if (h : tA σ H fun d H1 => if d = true then ta σ H1 Q else tb σ H1 Q) : tIf tA ta tb σ H Q := h
theorem rd_chain {o o' : R2} (h : ta σ H fun x H1 => tb σ H1 fun y H2 => o x y H2 fun z H3 => ∃ k, z = .bl k ∧ if k = true then tc σ H3 fun w' H4 => o' y w' H4 Q else Q (.bl false) H3) : tChain o o' ta tb tc σ H Q := h
theorem rd_call {sp : Sp} {dvs : List V} {E : XK} {ts : TA} (h : ts σ H fun vs H1 => sp (vs ++ dvs) H1 Q E) : tCall sp dvs E ts σ H Q := h
theorem rd_callK {sp : Sp} {gV : List V → List V → List V} {E : XK} {ts tk : TA} (h : ts σ H fun vs H1 => tk σ H1 fun zs H2 => sp (gV vs zs) H2 Q E) : tCallK sp gV E ts tk σ H Q := h
theorem rd_cb {rr : List V → Hp → VK → Prop} {ts : TA} (h : ts σ H fun vs H1 => rr vs H1 Q) : tCB rr ts σ H Q := h
theorem rd_cons {tr : TA} {q : List V → Hp → Prop} (h : te σ H fun x H1 => tr σ H1 fun xs H2 => q (x :: xs) H2) : tCons te tr σ H q := h
theorem rd_nil {q : List V → Hp → Prop} (h : q [] H) : tNil σ H q := h
theorem rd_tup {ts : TA} (h : ts σ H fun xs H1 => xs.length ≤ sizeLine ∧ ∀ p, H1 p = none → Q (.ref p) (upd H1 p (.tup xs))) : tTup ts σ H Q := h
theorem rd_lst {ts : TA} (h : ts σ H fun xs H1 => xs.length ≤ sizeLine ∧ ∀ p, H1 p = none → Q (.ref p) (upd H1 p (.lst xs))) : tLst ts σ H Q := h
theorem rd_int {i : Int} (h : Q (.int i) H) : rToInt [.int i] H Q := .inl ⟨i, rfl, h⟩
theorem rd_intb {k : Bool} (h : Q (.int (if k then 1 else 0)) H) : rToInt [.bl k] H Q := .inr ⟨k, rfl, h⟩
theorem rd_abs {i : Int} (h : Q (.int (if i < 0 then -i else i)) H) : rAbs [.int i] H Q := ⟨i, rfl, h⟩
theorem rd_max {i j : Int} (h : Q (.int (if j > i then j else i)) H) : rMax2 [.int i, .int j] H Q := ⟨i, j, rfl, h⟩
theorem rd_min {i j : Int} (h : Q (.int (if j < i then j else i)) H) : rMin2 [.int i, .int j] H Q := ⟨i, j, rfl, h⟩
theorem rd_lenL {p : Addr} {xs : List V} (e : SqL K H p xs) (h : Q (.int xs.length) H) : rLen K [.ref p] H Q := ⟨.ref p, xs.length, rfl, .inl ⟨xs, e, rfl⟩, h⟩
theorem rd_lenT {p : Addr} {xs : List V} (e : SqT K H p xs) (h : Q (.int xs.length) H) : rLen K [.ref p] H Q := ⟨.ref p, xs.length, rfl, .inr ⟨xs, e, rfl⟩, h⟩
theorem rd_ixL {p : Addr} {xs : List V} {i : Int} {v : V} (e : SqL K H p xs) (a : atI xs i = some v) (h : Q v H) : rIxL K (.ref p) (.int i) H Q := ⟨p, xs, i, v, rfl, rfl, e, a, h⟩
theorem rd_ixT {p : Addr} {xs : List V} {i : Int} {v : V} (e : SqT K H p xs) (a : atI xs i = some v) (h : Q v H) : rIxT K (.ref p) (.int i) H Q := ⟨p, xs, i, v, rfl, rfl, e, a, h⟩
theorem rd_setL {p : Addr} {xs : List V} {i : Int} {j : Nat} {v : V} {q : Hp → Prop} (e : H p = some (.lst xs)) (a : ixN xs.length i = some j) (h : q (upd H p (.lst (xs.set j v)))) : rSetL (.ref p) (.int i) v H q := ⟨p, xs, i, j, rfl, rfl, e, a, h⟩
theorem rd_listL {p : Addr} {xs : List V} (e : SqL K H p xs) (h : ∀ l, H l = none → Q (.ref l) (upd H l (.lst xs))) : rToList K [.ref p] H Q := ⟨p, xs, rfl, .inl e, h⟩
theorem rd_iteD {p : Prop} [Decidable p] {A B : Prop} (h1 : p → A) (h2 : ¬ p → B) : if decide p = true then A else B := by
  by_cases h : p
  · rw [if_pos (decide_eq_true h)]; exact h1 h
  · rw [decide_eq_false h, if_neg Bool.false_ne_true]; exact h2 h
theorem rd_iteN {p : Prop} [Decidable p] {A B : Prop} (h1 : ¬ p → A) (h2 : p → B) : if (!decide p) = true then A else B := by
  by_cases h : p
  · rw [decide_eq_true h]; exact iteF (h2 h)
  · rw [decide_eq_false h]; exact iteT (h1 h)
theorem iteNT {A B : Prop} (h : B) : if (!true) = true then A else B := iteF h
theorem iteNF {A B : Prop} (h : A) : if (!false) = true then A else B := iteT h
theorem rd_isi {x c : V} {t' u' : Value} {d : Bool} (k : ClsV c u') (ty : TyX K H x t') (e : PySem.W.kitOne K t' u' = some d) (h : Q (.bl d) H) : rIsi K [x, c] H Q := ⟨x, c, t', u', d, rfl, k, ty, e, h⟩
theorem isi_int_int {i : Int} (h : Q (.bl true) H) : rIsi K [.int i, .ty "int"] H Q := rd_isi (.ty "int") (.base (.int i)) (kit_ty (by decide +kernel)) h
theorem isi_int_bool {i : Int} (h : Q (.bl false) H) : rIsi K [.int i, .ty "bool"] H Q := rd_isi (.ty "bool") (.base (.int i)) (kit_ty (by decide +kernel)) h
theorem isi_int_str {i : Int} (h : Q (.bl false) H) : rIsi K [.int i, .ty "str"] H Q := rd_isi (.ty "str") (.base (.int i)) (kit_ty (by decide +kernel)) h
theorem isi_int_list {i : Int} (h : Q (.bl false) H) : rIsi K [.int i, .ty "list"] H Q := rd_isi (.ty "list") (.base (.int i)) (kit_ty (by decide +kernel)) h
theorem isi_int_tuple {i : Int} (h : Q (.bl false) H) : rIsi K [.int i, .ty "tuple"] H Q := rd_isi (.ty "tuple") (.base (.int i)) (kit_ty (by decide +kernel)) h
theorem isi_bl_int {i : Bool} (h : Q (.bl true) H) : rIsi K [.bl i, .ty "int"] H Q := rd_isi (.ty "int") (.base (.bl i)) (kit_ty (by decide +kernel)) h
theorem isi_bl_bool {i : Bool} (h : Q (.bl true) H) : rIsi K [.bl i, .ty "bool"] H Q := rd_isi (.ty "bool") (.base (.bl i)) (kit_ty (by decide +kernel)) h
theorem isi_bl_str {i : Bool} (h : Q (.bl false) H) : rIsi K [.bl i, .ty "str"] H Q := rd_isi (.ty "str") (.base (.bl i)) (kit_ty (by decide +kernel)) h
theorem isi_bl_list {i : Bool} (h : Q (.bl false) H) : rIsi K [.bl i, .ty "list"] H Q := rd_isi (.ty "list") (.base (.bl i)) (kit_ty (by decide +kernel)) h
theorem isi_bl_tuple {i : Bool} (h : Q (.bl false) H) : rIsi K [.bl i, .ty "tuple"] H Q := rd_isi (.ty "tuple") (.base (.bl i)) (kit_ty (by decide +kernel)) h
theorem isi_non_int  (h : Q (.bl false) H) : rIsi K [.non, .ty "int"] H Q := rd_isi (.ty "int") (.base .non) (kit_ty (by decide +kernel)) h
theorem isi_non_bool  (h : Q (.bl false) H) : rIsi K [.non, .ty "bool"] H Q := rd_isi (.ty "bool") (.base .non) (kit_ty (by decide +kernel)) h
theorem isi_non_str  (h : Q (.bl false) H) : rIsi K [.non, .ty "str"] H Q := rd_isi (.ty "str") (.base .non) (kit_ty (by decide +kernel)) h
theorem isi_non_list  (h : Q (.bl false) H) : rIsi K [.non, .ty "list"] H Q := rd_isi (.ty "list") (.base .non) (kit_ty (by decide +kernel)) h
theorem isi_non_tuple  (h : Q (.bl false) H) : rIsi K [.non, .ty "tuple"] H Q := rd_isi (.ty "tuple") (.base .non) (kit_ty (by decide +kernel)) h
theorem isi_str_int {z : Str} (h : Q (.bl false) H) : rIsi K [.str z, .ty "int"] H Q := rd_isi (.ty "int") (.base (.str z)) (kit_ty (by decide +kernel)) h
theorem isi_str_bool {z : Str} (h : Q (.bl false) H) : rIsi K [.str z, .ty "bool"] H Q := rd_isi (.ty "bool") (.base (.str z)) (kit_ty (by decide +kernel)) h
theorem isi_str_str {z : Str} (h : Q (.bl true) H) : rIsi K [.str z, .ty "str"] H Q := rd_isi (.ty "str") (.base (.str z)) (kit_ty (by decide +kernel)) h
theorem isi_str_list {z : Str} (h : Q (.bl false) H) : rIsi K [.str z, .ty "list"] H Q := rd_isi (.ty "list") (.base (.str z)) (kit_ty (by decide +kernel)) h
theorem isi_str_tuple {z : Str} (h : Q (.bl false) H) : rIsi K [.str z, .ty "tuple"] H Q := rd_isi (.ty "tuple") (.base (.str z)) (kit_ty (by decide +kernel)) h
theorem isi_lst_int {p : Addr} {xs : List V} (hp : H p = some (.lst xs)) (h : Q (.bl false) H) : rIsi K [.ref p, .ty "int"] H Q := rd_isi (.ty "int") (.base (.lst hp)) (kit_ty (by decide +kernel)) h
theorem isi_lst_bool {p : Addr} {xs : List V} (hp : H p = some (.lst xs)) (h : Q (.bl false) H) : rIsi K [.ref p, .ty "bool"] H Q := rd_isi (.ty "bool") (.base (.lst hp)) (kit_ty (by decide +kernel)) h
theorem isi_lst_str {p : Addr} {xs : List V} (hp : H p = some (.lst xs)) (h : Q (.bl false) H) : rIsi K [.ref p, .ty "str"] H Q := rd_isi (.ty "str") (.base (.lst hp)) (kit_ty (by decide +kernel)) h
theorem isi_lst_list {p : Addr} {xs : List V} (hp : H p = some (.lst xs)) (h : Q (.bl true) H) : rIsi K [.ref p, .ty "list"] H Q := rd_isi (.ty "list") (.base (.lst hp)) (kit_ty (by decide +kernel)) h
theorem isi_lst_tuple {p : Addr} {xs : List V} (hp : H p = some (.lst xs)) (h : Q (.bl false) H) : rIsi K [.ref p, .ty "tuple"] H Q := rd_isi (.ty "tuple") (.base (.lst hp)) (kit_ty (by decide +kernel)) h
theorem isi_tup_int {p : Addr} {xs : List V} (hp : H p = some (.tup xs)) (h : Q (.bl false) H) : rIsi K [.ref p, .ty "int"] H Q := rd_isi (.ty "int") (.base (.tup hp)) (kit_ty (by decide +kernel)) h
theorem isi_tup_bool {p : Addr} {xs : List V} (hp : H p = some (.tup xs)) (h : Q (.bl false) H) : rIsi K [.ref p, .ty "bool"] H Q := rd_isi (.ty "bool") (.base (.tup hp)) (kit_ty (by decide +kernel)) h
theorem isi_tup_str {p : Addr} {xs : List V} (hp : H p = some (.tup xs)) (h : Q (.bl false) H) : rIsi K [.ref p, .ty "str"] H Q := rd_isi (.ty "str") (.base (.tup hp)) (kit_ty (by decide +kernel)) h
theorem isi_tup_list {p : Addr} {xs : List V} (hp : H p = some (.tup xs)) (h : Q (.bl false) H) : rIsi K [.ref p, .ty "list"] H Q := rd_isi (.ty "list") (.base (.tup hp)) (kit_ty (by decide +kernel)) h
theorem isi_tup_tuple {p : Addr} {xs : List V} (hp : H p = some (.tup xs)) (h : Q (.bl true) H) : rIsi K [.ref p, .ty "tuple"] H Q := rd_isi (.ty "tuple") (.base (.tup hp)) (kit_ty (by decide +kernel)) h
theorem rd_for1 {ts : TA} {g : TG} {tb' : TS} {D : Ends} (h : ts σ H fun vs H1 => ∃ j : Int, vs = [.int j] ∧ -(2 ^ 62) ≤ j ∧ j < 2 ^ 62 ∧ (∃ W : Nat → Nat → L2.St → Hp → Prop, (∃ m, W 0 m σ H1) ∧ ∀ i m σ H, W i m σ H →
      ((Itr 0 j.toNat).stop i H ∧ D.nx σ H) ∨ ((Itr 0 j.toNat).go i H ∧ ∃ N : L2.St → Hp → Prop, (∀ σ' H', N σ' H' → ∃ m', m' < m ∧ W (i + 1) m' σ' H') ∧ ∀ x H', (Itr 0 j.toNat).yld i H x H' → g x σ H' fun σ2 H2 => tb' { D with nx := N, ct := N, bk := D.nx } σ2 H2))) : tFor (iRng1 ts) g tb' D σ H := h
theorem rd_all {n m : Nat} {P : Addr → Prop} (h1 : n ≤ m) (h : ∀ p, H p = none → P p) : n ≤ m ∧ ∀ p, H p = none → P p := ⟨h1, h⟩
theorem rd_ixP {p : Addr} {xs : List V} {i : Int} (Pm : V → Prop) (e : SqL K H p xs) (h0 : 0 ≤ i) (h1 : i < xs.length) (hP : ∀ v ∈ xs, Pm v) (h : ∀ v, Pm v → Q v H) : rIxL K (.ref p) (.int i) H Q := by
  obtain ⟨j, rfl⟩ : ∃ j : Nat, i = (j : Int) := ⟨i.toNat, by omega⟩
  have hj : j < xs.length := by omega
  have g : xs[j]? = some xs[j] := List.getElem?_eq_getElem hj
  exact ⟨p, xs, (j : Int), xs[j], rfl, rfl, e, atI_nat g, h _ (hP _ (List.getElem_mem hj))⟩
theorem rd_gtup {a : Addr} {xs : List V} {k : Nat} {ts : TGs} {q : L2.St → Hp → Prop} (e : SqT K H a xs) (l : xs.length = k) (h : ts xs σ H q) : gTup K k ts (.ref a) σ H q := ⟨a, xs, rfl, e, l, h⟩
theorem rd_gcons {g : TG} {ts : TGs} {v : V} {vs : List V} {q : L2.St → Hp → Prop} (h : g v σ H fun σ' H' => ts vs σ' H' q) : gCons g ts (v :: vs) σ H q := ⟨v, vs, rfl, h⟩
theorem rd_gnil {q : L2.St → Hp → Prop} (h : q σ H) : gNil [] σ H q := ⟨rfl, h⟩
def LpW (J : It) (g : TG) (tb : TS) (D : Ends) (σ : L2.St) (H1 : Hp) : Prop := ∃ W : Nat → Nat → L2.St → Hp → Prop, (∃ m, W 0 m σ H1) ∧ ∀ i m σ H, W i m σ H →
      (J.stop i H ∧ D.nx σ H) ∨ (J.go i H ∧ ∃ N : L2.St → Hp → Prop, (∀ σ' H', N σ' H' → ∃ m', m' < m ∧ W (i + 1) m' σ' H') ∧ ∀ x H', J.yld i H x H' → g x σ H' fun σ2 H2 => tb { D with nx := N, ct := N, bk := D.nx } σ2 H2)
theorem rd_forT {g : TG} {tb' : TS} {D : Ends} (h : te σ H fun x H1 => ∃ a, x = .ref a ∧ (∃ xs, SqT K H1 a xs) ∧ LpW (Itt K a) g tb' D σ H1) : tFor (iTup K te) g tb' D σ H := h
theorem rd_forL {g : TG} {tb' : TS} {D : Ends} (h : te σ H fun x H1 => ∃ a, x = .ref a ∧ (∃ xs, SqL K H1 a xs) ∧ LpW (Itl K a) g tb' D σ H1) : tFor (iList K te) g tb' D σ H := h
theorem rd_lpL {a : Addr} {xs : List V} {g : TG} {tb' : TS} {D : Ends} (e : SqL K H a xs) (h : LpW (Itl K a) g tb' D σ H) : ∃ b, V.ref a = .ref b ∧ (∃ xs, SqL K H b xs) ∧ LpW (Itl K b) g tb' D σ H := ⟨a, rfl, ⟨xs, e⟩, h⟩
theorem rd_for2 {ts : TA} {g : TG} {tb' : TS} {D : Ends} (h : ts σ H fun vs H1 => ∃ i j : Int, vs = [.int i, .int j] ∧ (-(2 ^ 62) ≤ i ∧ i < 2 ^ 62 ∧ -(2 ^ 62) ≤ j ∧ j < 2 ^ 62) ∧ LpW (Itr i (j - i).toNat) g tb' D σ H1) : tFor (iRng2 ts) g tb' D σ H := h
theorem rd_n2 {i j : Int} {A : Int → Int → Prop} (h1 : -(2 ^ 62) ≤ i ∧ i < 2 ^ 62 ∧ -(2 ^ 62) ≤ j ∧ j < 2 ^ 62) (h : A i j) : ∃ k l : Int, [V.int i, V.int j] = [V.int k, V.int l] ∧ (-(2 ^ 62) ≤ k ∧ k < 2 ^ 62 ∧ -(2 ^ 62) ≤ l ∧ l < 2 ^ 62) ∧ A k l := ⟨i, j, rfl, h1, h⟩
theorem dp_ints : ∀ ns : List Int, DpAll K H (ns.map V.int) (ns.map PyData.int)
  | [] => .nil
  | n :: r => .cons (.int n) (dp_ints r)
theorem rd_neT2 {p q : Addr} {a b c d : Int} (hp : SqT K H p [.int a, .int b]) (hq : SqT K H q [.int c, .int d]) (e1 : a = c) (e2 : b = d) (h : Q (.bl false) H) : rNeD K (.ref p) (.ref q) H Q := by
  subst e1 e2
  exact ⟨_, _, .tup hp (dp_ints [a, b]), .tup hq (dp_ints [a, b]), rfl, rfl, by
    have e : PyData.eqv (.tuple ([a, b].map PyData.int)) (.tuple ([a, b].map PyData.int)) = true := by simp [PyData.eqv, PyData.eqvAll]
    rw [e]
    exact h⟩
def rIsN : R2 := fun x y H Q => y = .non ∧ Q (.bl (decide (x = .non))) H
theorem cIsN {X : Cx} : OpR X (compareOp .Is) rIsN := op_isN
theorem rd_isN {x : V} (h : Q (.bl (decide (x = .non))) H) : rIsN x .non H Q := ⟨rfl, h⟩
theorem rd_one {v : V} {P : V → Prop} (h : P v) : ∃ a, [v] = [a] ∧ P a := ⟨v, rfl, h⟩
theorem rd_n1 {j : Int} {A : Int → Prop} (h1 : -(2 ^ 62) ≤ j) (h2 : j < 2 ^ 62) (h : A j) : ∃ k : Int, [V.int j] = [V.int k] ∧ -(2 ^ 62) ≤ k ∧ k < 2 ^ 62 ∧ A k := ⟨j, rfl, h1, h2, h⟩
end
theorem look_same {H H' : Hp} {a : Addr} {u : HO} (s : Same H H') (h : H a = some u) : H' a = some u := s a u h
theorem look_new {H : Hp} {p a : Addr} {o u : HO} (hp : H p = none) (h : H a = some u) : upd H p o a = some u := by rw [upd_ne (ne_of_none h hp)]; exact h
/-- all but the object at p stay -/
def Kp (p : Addr) (H H' : Hp) : Prop := ∀ a o, a ≠ p → H a = some o → H' a = some o
theorem Kp.refl {p : Addr} {H : Hp} : Kp p H H := fun _ _ _ h => h
theorem Kp.trans {p : Addr} {H H1 H2 : Hp} (a : Kp p H H1) (b : Kp p H1 H2) : Kp p H H2 := fun c o n h => b c o n (a c o n h)
theorem Kp.of {p : Addr} {H H' : Hp} (s : Same H H') : Kp p H H' := fun a o _ h => s a o h
theorem same_new {H : Hp} {p : Addr} {o : HO} (h : H p = none) : Same H (upd H p o) := fun b x e => look_new h e
theorem Kp.new {p q : Addr} {H : Hp} {o : HO} (h : H q = none) : Kp p H (upd H q o) := .of (same_new h)
theorem Kp.at {p : Addr} {H : Hp} {o : HO} : Kp p H (upd H p o) := fun a x n h => by rw [upd_ne n]; exact h
theorem same_kp {p : Addr} {H0 H H' : Hp} (s : Same H0 H) (n : H0 p = none) (k : Kp p H H') : Same H0 H' := fun a o h => k a o (ne_of_none h n) (s a o h)
theorem sqL_new {K : PySem.W.Frag} {p a : Addr} {H : Hp} {o : HO} {xs : List V} (n : H p = none) (h : SqL K H a xs) : SqL K (upd H p o) a xs := (same_new n).seq h
theorem sqL_same {K : PySem.W.Frag} {a : Addr} {H H' : Hp} {xs : List V} (s : Same H H') (h : SqL K H a xs) : SqL K H' a xs := s.seq h
theorem seqT_K {K : PySem.W.Frag} {a : Addr} {od : Option Addr} {its : Array Value} {n : Nat} {sl : Array (Option Value)} {xs : List V} (l : K.lookup a = some ⟨.type "tuple", od, .seq its n, sl⟩) (hs : its.size ≤ sizeLine) (hv : Vals xs its.toList) : ∀ H, SqT K H a xs := fun _ => .inr ⟨_, its, n, l, rfl, rfl, hs, hv⟩
theorem by_all {K : PySem.W.Frag} {a : Addr} {xs : List V} {H : Hp} (h : ∀ H, SqT K H a xs) : SqT K H a xs := h H
def Pool (H : Hp) (p : Addr) : Prop := ∃ x y : Int, H p = some (.lst [.int x, .int y]) ∧ 0 ≤ x ∧ 0 ≤ y ∧ y < 2147483647
theorem look_kp {p a : Addr} {H H' : Hp} {u : HO} (k : Kp p H H') (n : a ≠ p) (h : H a = some u) : H' a = some u := k a u n h
theorem Pool.ne {H : Hp} {p a : Addr} (h : Pool H p) (n : H a = none) : a ≠ p := by
  obtain ⟨x, y, e, _⟩ := h
  exact (ne_of_none e n).symm
theorem Pool.ne' {H : Hp} {p a : Addr} (n : H a = none) (h : Pool H p) : a ≠ p := h.ne n
theorem Pool.new {H : Hp} {p q : Addr} {o : HO} (h : Pool H p) (n : H q = none) : Pool (upd H q o) p := by
  obtain ⟨x, y, e, r⟩ := h
  exact ⟨x, y, look_new n e, r⟩
theorem Pool.same {H H' : Hp} {p : Addr} (h : Pool H p) (s : Same H H') : Pool H' p := by
  obtain ⟨x, y, e, r⟩ := h
  exact ⟨x, y, s _ _ e, r⟩
theorem Pool.same' {H H' : Hp} {p : Addr} (s : Same H H') (h : Pool H p) : Pool H' p := h.same s
theorem Pool.new' {H : Hp} {p q : Addr} {o : HO} (n : H q = none) (h : Pool H p) : Pool (upd H q o) p := h.new n
def spTake : Sp := fun vs H Q _ => ∃ (p : Addr) (m : Int), vs = [.ref p, .int m] ∧ Pool H p ∧ 0 < m ∧ m < 1073741824 ∧ ∀ r H', 0 ≤ r → r < m → Pool H' p → Kp p H H' → Q (.int r) H'
theorem use_take {p : Addr} {m : Int} {H : Hp} {Q : VK} {E : XK} (h1 : Pool H p) (h2 : 0 < m) (h3 : m < 1073741824) (q : ∀ r H', 0 ≤ r → r < m → Pool H' p → Kp p H H' → Q (.int r) H') : spTake ([.ref p, .int m] ++ []) H Q E := ⟨p, m, rfl, h1, h2, h3, q⟩
def spPool (K : PySem.W.Frag) : Sp := fun vs H Q _ => ∃ (a : Addr) (ns : List Int) (k : Int), vs = [.ref a, .int k] ∧ SqL K H a (ns.map V.int) ∧ ns.length ≤ 63 ∧ 0 ≤ k ∧ k < 64 ∧ ∀ p H', H p = none → Same H H' → Pool H' p → Q (.ref p) H'
theorem use_pool {K : PySem.W.Frag} {a : Addr} {ns : List Int} {k : Int} {H : Hp} {Q : VK} {E : XK} (h1 : SqL K H a (ns.map V.int)) (h2 : ns.length ≤ 63) (h3 : 0 ≤ k) (h4 : k < 64) (q : ∀ p H', H p = none → Same H H' → Pool H' p → Q (.ref p) H') : spPool K ([.ref a, .int k] ++ []) H Q E := ⟨a, ns, k, rfl, h1, h2, h3, h4, q⟩
def spNumber : Sp := fun vs H Q _ => ∃ (p : Addr), vs = [.ref p] ∧ Pool H p ∧ ∀ r H', r.natAbs < 10 ^ 55 → Pool H' p → Kp p H H' → Q (.int r) H'
theorem use_number {p : Addr} {H : Hp} {Q : VK} {E : XK} (h1 : Pool H p) (q : ∀ r H', r.natAbs < 10 ^ 55 → Pool H' p → Kp p H H' → Q (.int r) H') : spNumber ([.ref p] ++ []) H Q E := ⟨p, rfl, h1, q⟩
def isI : V → Bool
  | .int _ => true
  | _ => false
def TyV (H : Hp) : V → Prop
  | .non => True
  | .bl _ => True
  | .int _ => True
  | .str _ => True
  | .ref a => (∃ xs, H a = some (.lst xs)) ∨ ∃ xs, H a = some (.tup xs)
  | _ => False
def spIsI : Sp := fun vs H Q _ => ∃ x, vs = [x] ∧ TyV H x ∧ Q (.bl (isI x)) H
theorem use_isi {x : V} {H : Hp} {Q : VK} {E : XK} (t : TyV H x) (q : Q (.bl (isI x)) H) : spIsI ([x] ++ []) H Q E := ⟨x, rfl, t, q⟩
theorem use_isi_int {i : Int} {H : Hp} {Q : VK} {E : XK} (q : Q (.bl true) H) : spIsI ([.int i] ++ []) H Q E := ⟨_, rfl, trivial, q⟩
def inI (x : V) (lo hi : Int) : Bool := match x with
  | .int i => decide (lo ≤ i ∧ i ≤ hi)
  | _ => false
def spWithin : Sp := fun vs H Q _ => ∃ x lo hi, vs = [x, .int lo, .int hi] ∧ TyV H x ∧ Q (.bl (inI x lo hi)) H
theorem use_within {x : V} {lo hi : Int} {H : Hp} {Q : VK} {E : XK} (t : TyV H x) (q : Q (.bl (inI x lo hi)) H) : spWithin ([x, .int lo, .int hi] ++ []) H Q E := ⟨x, lo, hi, rfl, t, q⟩
theorem use_within_int {i lo hi : Int} {H : Hp} {Q : VK} {E : XK} (q : Q (.bl (decide (lo ≤ i ∧ i ≤ hi))) H) : spWithin ([.int i, .int lo, .int hi] ++ []) H Q E := ⟨_, lo, hi, rfl, trivial, q⟩
def spCkI : Sp := fun vs H Q _ => ∃ i, vs = [.int i] ∧ Q .non H
theorem use_cki {i : Int} {H : Hp} {Q : VK} {E : XK} (q : Q .non H) : spCkI ([.int i] ++ []) H Q E := ⟨_, rfl, q⟩
def spCkW : Sp := fun vs H Q _ => ∃ i lo hi, vs = [.int i, .int lo, .int hi] ∧ lo ≤ i ∧ i ≤ hi ∧ Q .non H
theorem use_ckw {i lo hi : Int} {H : Hp} {Q : VK} {E : XK} (h1 : lo ≤ i) (h2 : i ≤ hi) (q : Q .non H) : spCkW ([.int i, .int lo, .int hi] ++ []) H Q E := ⟨_, _, _, rfl, h1, h2, q⟩
def spQuant : Sp := fun vs H Q _ => ∃ v s, vs = [.int v, .int s] ∧ 1 ≤ s ∧ s ≤ 64 ∧ Q (.int ((2 * v + s) / (2 * s))) H
theorem use_quant {v s : Int} {H : Hp} {Q : VK} {E : XK} (h1 : 1 ≤ s) (h2 : s ≤ 64) (q : Q (.int ((2 * v + s) / (2 * s))) H) : spQuant ([.int v, .int s] ++ []) H Q E := ⟨v, s, rfl, h1, h2, q⟩
theorem use_quantK {v s : Int} {H : Hp} {Q : VK} {E : XK} (h1 : 1 ≤ s) (h2 : s ≤ 64) (q : Q (.int ((2 * v + s) / (2 * s))) H) : spQuant (kg 0 2 [1, 0] [] [.int s, .int v]) H Q E := ⟨v, s, rfl, h1, h2, q⟩
def cC (s : Int) : Int := if s = 0 then -1 else if s = 1 then -2 else if s = 2 then 1 else 2
def cD (s : Int) : Int := if s = 0 then 2 else if s = 1 then 3 else if s = 2 then -2 else -3
def foldP (s a b : Int) : Int × Int :=
  (a + (cC s * b + 2) / 4 + (cC s * (b + (cD s * (a + (cC s * b + 2) / 4) + 2) / 4) + 2) / 4, b + (cD s * (a + (cC s * b + 2) / 4) + 2) / 4)
def unfoldP (s a b : Int) : Int × Int :=
  (a - (cC s * b + 2) / 4 - (cC s * (b - (cD s * (a - (cC s * b + 2) / 4) + 2) / 4) + 2) / 4, b - (cD s * (a - (cC s * b + 2) / 4) + 2) / 4)
theorem unfold_fold (s a b : Int) : unfoldP s (foldP s a b).1 (foldP s a b).2 = (a, b) := by
  unfold unfoldP foldP
  dsimp only
  rw [Int.add_sub_cancel, Int.add_sub_cancel, Int.add_sub_cancel]
theorem fold_unfold (s a b : Int) : foldP s (unfoldP s a b).1 (unfoldP s a b).2 = (a, b) := by
  unfold unfoldP foldP
  dsimp only
  rw [Int.sub_add_cancel, Int.sub_add_cancel, Int.sub_add_cancel]
def spPair (f : Int → Int → Int → Int × Int) : Sp := fun vs H Q _ => ∃ s a b, vs = [.int s, .int a, .int b] ∧ 0 ≤ s ∧ s < 4 ∧ ∀ p, H p = none → Q (.ref p) (upd H p (.tup [.int (f s a b).1, .int (f s a b).2]))
theorem use_pair {f : Int → Int → Int → Int × Int} {s a b : Int} {H : Hp} {Q : VK} {E : XK} (h1 : 0 ≤ s) (h2 : s < 4) (q : ∀ p, H p = none → Q (.ref p) (upd H p (.tup [.int (f s a b).1, .int (f s a b).2]))) : spPair f ([.int s, .int a, .int b] ++ []) H Q E := ⟨s, a, b, rfl, h1, h2, q⟩
def spCkP : Sp := fun vs H Q _ => ∃ s a b, vs = [.int s, .int a, .int b] ∧ 0 ≤ s ∧ s < 4 ∧ Q .non H
theorem use_ckp {s a b : Int} {H : Hp} {Q : VK} {E : XK} (h1 : 0 ≤ s) (h2 : s < 4) (q : Q .non H) : spCkP ([.int s, .int a, .int b] ++ []) H Q E := ⟨s, a, b, rfl, h1, h2, q⟩
theorem four {s : Int} (h0 : 0 ≤ s) (h1 : s < 4) : s = 0 ∨ s = 1 ∨ s = 2 ∨ s = 3 := by omega
def spLFold : Sp := fun vs H Q _ => ∃ s a b, vs = [.int s, .int a, .int b] ∧ 0 ≤ s ∧ s < 4 ∧ ∀ p H', Same H H' → H' p = some (.tup [.int (foldP s a b).1, .int (foldP s a b).2]) → Q (.ref p) H'
theorem use_lfold {s a b : Int} {H : Hp} {Q : VK} {E : XK} (h1 : 0 ≤ s) (h2 : s < 4) (q : ∀ p H', Same H H' → H' p = some (.tup [.int (foldP s a b).1, .int (foldP s a b).2]) → Q (.ref p) H') : spLFold ([.int s, .int a, .int b] ++ []) H Q E := ⟨s, a, b, rfl, h1, h2, q⟩
def spIsPair : Sp := fun vs H Q _ => ∃ p x y, vs = [.ref p] ∧ H p = some (.tup [.int x, .int y]) ∧ Q (.bl true) H
theorem use_ispair {p : Addr} {x y : Int} {H : Hp} {Q : VK} {E : XK} (h : H p = some (.tup [.int x, .int y])) (q : Q (.bl true) H) : spIsPair ([.ref p] ++ []) H Q E := ⟨p, x, y, rfl, h, q⟩
theorem look_upd {H : Hp} {p a : Addr} {o u : HO} (n : a ≠ p) (h : H a = some u) : upd H p o a = some u := by rw [upd_ne n]; exact h
theorem ixN_nat {n j : Nat} (h : j < n) : ixN n (j : Int) = some j := by
  unfold ixN
  rw [if_pos (show (0 : Int) ≤ (j : Int) by omega), if_pos (show (j : Int) < (n : Int) by omega)]
  rfl
theorem at_ints {ns : List Int} {j : Nat} {z : Int} (h : ns[j]? = some z) : atI (ns.map V.int) (j : Int) = some (.int z) := atI_nat (by rw [List.getElem?_map, h]; rfl)
def Kp2 (p q : Addr) (H H' : Hp) : Prop := ∀ a o, a ≠ p → a ≠ q → H a = some o → H' a = some o
theorem Kp2.refl {p q : Addr} {H : Hp} : Kp2 p q H H := fun _ _ _ _ h => h
theorem Kp2.trans {p q : Addr} {H H1 H2 : Hp} (a : Kp2 p q H H1) (b : Kp2 p q H1 H2) : Kp2 p q H H2 := fun c o n m h => b c o n m (a c o n m h)
theorem Kp2.ofK {p q : Addr} {H H' : Hp} (k : Kp p H H') : Kp2 p q H H' := fun a o n _ h => k a o n h
theorem Kp2.ofS {p q : Addr} {H H' : Hp} (k : Same H H') : Kp2 p q H H' := fun a o _ _ h => k a o h
theorem Kp2.new {p q r : Addr} {H : Hp} {o : HO} (h : H r = none) : Kp2 p q H (upd H r o) := .ofS (same_new h)
theorem Kp2.at {p q : Addr} {H : Hp} {o : HO} : Kp2 p q H (upd H q o) := fun a x _ n h => by rw [upd_ne n]; exact h
theorem close_turn {p : Addr} {H H1 H2 H3 : Hp} (s : Same H H1) (n : H1 p = none) (s2 : Same H1 H2) (k : Kp p H2 H3) : Same H H3 := same_kp (s.trans s2) (s.free n) k
def spLaw (K : PySem.W.Frag) : Sp := fun vs H Q _ => ∃ (a : Addr) (ns : List Int), vs = [.ref a] ∧ SqL K H a (ns.map V.int) ∧ ns.length ≤ 63 ∧ ∀ H', Q (.bl true) H'
theorem if_no {c : Bool} {A B : Prop} (h : c = false) (q : B) : if c = true then A else B := by rw [h]; exact iteF q
theorem if_yes {c : Bool} {A B : Prop} (h : c = true) (q : A) : if c = true then A else B := by rw [h]; exact iteT q
theorem if_noD {p : Prop} [Decidable p] {A B : Prop} (h : ¬ p) (q : B) : if decide p = true then A else B := if_no (decide_eq_false h) q
theorem if_yesD {p : Prop} [Decidable p] {A B : Prop} (h : p) (q : A) : if decide p = true then A else B := if_yes (decide_eq_true h) q
theorem if_noN {p : Prop} [Decidable p] {A B : Prop} (h : p) (q : B) : if (!decide p) = true then A else B := if_no (by rw [decide_eq_true h]; rfl) q
theorem if_yesN {p : Prop} [Decidable p] {A B : Prop} (h : ¬ p) (q : A) : if (!decide p) = true then A else B := if_yes (by rw [decide_eq_false h]; rfl) q
theorem canLay_ints : ∀ ns : List Int, PyData.canLayAll0 (ns.map PyData.int) = true
  | [] => rfl
  | n :: r => by
    show (PyData.canLay0 (.int n) && PyData.canLayAll0 (r.map PyData.int)) = true
    rw [canLay_ints r]
    rfl
theorem depth_ints : ∀ ns : List Int, PyData.depthAll (ns.map PyData.int) = 0
  | [] => rfl
  | n :: r => by
    show max (PyData.depth (.int n)) (PyData.depthAll (r.map PyData.int)) = 0
    rw [depth_ints r]
    rfl
theorem shaped_ints (ns : List Int) : SeqAt.shaped (.list (ns.map PyData.int)) = true := by
  show (PyData.canLayAll0 (ns.map PyData.int) && decide (PyData.depthAll (ns.map PyData.int) + 1 ≤ 64)) = true
  rw [canLay_ints, depth_ints]
  rfl
theorem eqv_ints : ∀ ns ms : List Int, PyData.eqvAll (ns.map PyData.int) (ms.map PyData.int) = decide (ns = ms)
  | [], [] => by simp [PyData.eqvAll]
  | [], m :: r => by simp [PyData.eqvAll]
  | n :: r, [] => by simp [PyData.eqvAll]
  | n :: r, m :: t => by
    show (PyData.eqv (.int n) (.int m) && PyData.eqvAll (r.map PyData.int) (t.map PyData.int)) = decide (n :: r = m :: t)
    rw [eqv_ints r t]
    show ((n == m) && decide (r = t)) = decide (n :: r = m :: t)
    by_cases h : n = m
    · subst h
      simp
    · have e : (n == m) = false := by simpa using h
      rw [e, Bool.false_and]
      exact (decide_eq_false fun z => h (List.cons.inj z).1).symm
section
variable {K : PySem.W.Frag} {H : Hp} {Q : VK} {p q : Addr} {ns ms : List Int}
theorem rd_neL (hp : SqL K H p (ns.map V.int)) (hq : SqL K H q (ms.map V.int)) (h : Q (.bl (!decide (ns = ms))) H) : rNeD K (.ref p) (.ref q) H Q :=
  ⟨_, _, .lst hp (dp_ints ns), .lst hq (dp_ints ms), shaped_ints ns, shaped_ints ms, by
    rw [show PyData.eqv (.list (ns.map PyData.int)) (.list (ms.map PyData.int)) = decide (ns = ms) by rw [← eqv_ints]; simp only [PyData.eqv]]
    exact h⟩
theorem rd_eqL (hp : SqL K H p (ns.map V.int)) (hq : SqL K H q (ms.map V.int)) (h : Q (.bl (decide (ns = ms))) H) : rEqD K (.ref p) (.ref q) H Q :=
  ⟨_, _, .lst hp (dp_ints ns), .lst hq (dp_ints ms), shaped_ints ns, shaped_ints ms, by
    rw [show PyData.eqv (.list (ns.map PyData.int)) (.list (ms.map PyData.int)) = decide (ns = ms) by rw [← eqv_ints]; simp only [PyData.eqv]]
    exact h⟩
theorem rd_neN (hp : SqL K H p (ns.map V.int)) (hq : SqL K H q []) (h : Q (.bl (!decide (ns = []))) H) : rNeD K (.ref p) (.ref q) H Q := rd_neL (ms := []) hp hq h
end
section
variable {K : PySem.W.Frag} {σ : L2.St} {H : Hp} {Q : VK} {g : TG} {tb : TS} {D : Ends}
theorem rd_forE {ts : TA} (h : ts σ H fun vs H1 => ∃ a xs, vs = [.ref a] ∧ SqL K H1 a xs ∧ LpW (Ite K a) g tb D σ H1) : tFor (iEnum K ts) g tb D σ H := h
theorem rd_lpE {a : Addr} {xs : List V} (e : SqL K H a xs) (h : LpW (Ite K a) g tb D σ H) : ∃ b ys, [V.ref a] = [.ref b] ∧ SqL K H b ys ∧ LpW (Ite K b) g tb D σ H := ⟨a, xs, rfl, e, h⟩
theorem for_enum {a : Addr} {xs : List V} (Pv : Nat → L2.St → Hp → Prop) (h0 : Pv 0 σ H) (hl : ∀ i σ H, i ≤ xs.length → Pv i σ H → SqL K H a xs)
    (hs : ∀ i x σ H T, xs[i]? = some x → Pv i σ H → H T = none → g (.ref T) σ (upd H T (.tup [.int (i : Nat), x])) fun σ2 H2 => tb { D with nx := Pv (i + 1), ct := Pv (i + 1), bk := D.nx } σ2 H2) (hd : ∀ σ H, Pv xs.length σ H → D.nx σ H) : LpW (Ite K a) g tb D σ H := by
  refine ⟨fun i m σ H => m = xs.length - i ∧ i ≤ xs.length ∧ Pv i σ H, ⟨xs.length, by simp, Nat.zero_le _, h0⟩, ?_⟩
  rintro i m σ H ⟨rfl, hi, p⟩
  have q := hl i σ H hi p
  by_cases hlt : i < xs.length
  · refine .inr ⟨⟨xs, xs[i], q, by simp [hlt]⟩, Pv (i + 1), fun σ' H' p' => ⟨xs.length - (i + 1), by omega, rfl, hlt, p'⟩, fun x H' y => ?_⟩
    obtain ⟨T, x1, rfl, nT, rfl, y⟩ := y
    exact hs i x1 σ H T (y xs q) p nT
  · have e : i = xs.length := by omega
    subst e
    exact .inl ⟨⟨xs, q, Nat.le_refl _⟩, hd σ H p⟩
theorem rd_forZ {ts : TA} (h : ts σ H fun vs H1 => ∃ a b xs ys, vs = [.ref a, .ref b] ∧ ((SqL K H1 a xs ∧ SqL K H1 b ys ∧ LpW (Itz K a b) g tb D σ H1) ∨ (SqT K H1 a xs ∧ SqT K H1 b ys ∧ LpW (RZ.ItzT K a b) g tb D σ H1))) : tFor (RZ.iZipA K ts) g tb D σ H := h
theorem for_zip {a b : Addr} {xs ys : List V} (hln : xs.length = ys.length) (Pv : Nat → L2.St → Hp → Prop) (h0 : Pv 0 σ H) (hl : ∀ i σ H, i ≤ xs.length → Pv i σ H → SqL K H a xs ∧ SqL K H b ys)
    (hs : ∀ i x y σ H T, xs[i]? = some x → ys[i]? = some y → Pv i σ H → H T = none → g (.ref T) σ (upd H T (.tup [x, y])) fun σ2 H2 => tb { D with nx := Pv (i + 1), ct := Pv (i + 1), bk := D.nx } σ2 H2) (hd : ∀ σ H, Pv xs.length σ H → D.nx σ H) : LpW (Itz K a b) g tb D σ H := by
  refine ⟨fun i m σ H => m = xs.length - i ∧ i ≤ xs.length ∧ Pv i σ H, ⟨xs.length, by simp, Nat.zero_le _, h0⟩, ?_⟩
  rintro i m σ H ⟨rfl, hi, p⟩
  obtain ⟨q1, q2⟩ := hl i σ H hi p
  by_cases hlt : i < xs.length
  · have hlt2 : i < ys.length := by omega
    refine .inr ⟨⟨xs, ys, xs[i], ys[i], q1, q2, by simp [hlt], by simp [hlt2]⟩, Pv (i + 1), fun σ' H' p' => ⟨xs.length - (i + 1), by omega, rfl, hlt, p'⟩, fun x H' y => ?_⟩
    obtain ⟨T, x1, y1, rfl, nT, rfl, f1, f2⟩ := y
    exact hs i x1 y1 σ H T (f1 xs q1) (f2 ys q2) p nT
  · have e : i = xs.length := by omega
    subst e
    exact .inl ⟨⟨xs, ys, q1, q2, .inl (Nat.le_refl _)⟩, hd σ H p⟩
def LcW (J : It) (g : TG) (tt : TT) (te : TE) (vs : List Nat) (Q : VK) (σ : L2.St) (H1 : Hp) (D : Addr) : Prop := ∃ W : Nat → Nat → Hp → Prop, (∃ m, W 0 m (upd H1 D (.lst []))) ∧ ∀ i m H, W i m H →
  (J.stop i H ∧ Q (.ref D) H) ∨ (J.go i H ∧ ∃ Nx : Hp → Prop, (∀ H', Nx H' → ∃ m', m' < m ∧ W (i + 1) m' H') ∧ ∀ x H', J.yld i H x H' → g x (wipe σ vs) H' fun σ2 H2 => wipe σ2 vs = wipe σ vs ∧ tt σ2 H2 fun b H3 =>
    if b = true then te σ2 H3 fun y H4 => ∃ acc, H4 D = some (.lst acc) ∧ acc.length < sizeLine ∧ Nx (upd H4 D (.lst (acc ++ [y]))) else Nx H3)
theorem rd_lc1 {ts : TA} {tt : TT} {te : TE} {vs : List Nat} (h : ts σ H fun us H1 => ∃ j : Int, us = [.int j] ∧ -(2 ^ 62) ≤ j ∧ j < 2 ^ 62 ∧ ∀ D, H1 D = none → LcW (Itr 0 j.toNat) g tt te vs Q σ H1 D) : tLc (iRng1 ts) g tt te vs σ H Q := h
theorem rd_yes {σ : L2.St} {H : Hp} {A B : Hp → Prop} (h : A H) : tYes σ H fun b H3 => if b = true then A H3 else B H3 := by
  show if true = true then A H else B H
  rw [if_pos rfl]
  exact h
theorem kp_app {p D : Addr} {H1 H H' : Hp} {o : HO} (hD : H1 D = none) (k : Kp p H1 H) (k2 : Kp p H H') : Kp p H1 (upd H' D o) := fun a x n e => by
  rw [upd_ne (ne_of_none e hD)]
  exact k2 a x n (k a x n e)
theorem rd_lcD {J : It} {tt : TT} {te : TE} {vs : List Nat} (h : ∀ D, H D = none → LcW J g tt te vs Q σ H D) : ∀ D, H D = none → LcW J g tt te vs Q σ H D := h
theorem lc_numbers {vs : List Nat} {i k : Nat} {p D : Addr} {n : Nat} {H1 : Hp} (hσ : ∀ v, ((wipe σ vs).set k (some v))[i]? = some (some (.ref p))) (hw : ∀ v, wipe ((wipe σ vs).set k (some v)) vs = wipe σ vs) (hP : Pool H1 p) (hD : H1 D = none) (hn : n ≤ 1000)
    (q : ∀ (ns : List Int) H', ns.length = n → (∀ z ∈ ns, z.natAbs < 10 ^ 55) → Pool H' p → Kp p H1 H' → H' D = some (.lst (ns.map V.int)) → Q (.ref D) H') :
    LcW (Itr 0 n) (gName k) tYes (tCall spNumber [] E0 (tCons (tVar i) tNil)) vs Q σ H1 D := by
  have hDp : D ≠ p := hP.ne hD
  refine lc_range (Pv := fun j H => ∃ ns : List Int, ns.length = j ∧ (∀ z ∈ ns, z.natAbs < 10 ^ 55) ∧ Pool H p ∧ Kp p H1 H ∧ H D = some (.lst (ns.map V.int))) ⟨[], rfl, List.forall_mem_nil _, hP.new hD, Kp.new hD, upd_same⟩ (fun j H hj hI => ?_) (fun H hI => ?_)
  · obtain ⟨ns, hl, hb, hP', hK, hd⟩ := hI
    refine ⟨hw _, rd_yes ?_⟩
    refine rd_call (rd_cons (rd_var (hσ _) (rd_nil (use_number hP' fun r H' hr hP2 hK2 => ?_))))
    refine ⟨_, hK2 _ _ hDp hd, ?_, ns ++ [r], ?_, ?_, ?_, kp_app hD hK hK2, ?_⟩
    · rw [List.length_map]
      exact small1000 (by omega)
    · rw [List.length_append, hl]
      rfl
    · intro z hz
      rcases List.mem_append.mp hz with hz | hz
      · exact hb z hz
      · rw [List.mem_singleton.mp hz]
        exact hr
    · obtain ⟨x, y, e, r⟩ := hP2
      exact ⟨x, y, by rw [upd_ne hDp.symm]; exact e, r⟩
    · rw [upd_same, List.map_append]
      rfl
  · obtain ⟨ns, hl, hb, hP', hK, hd⟩ := hI
    exact q ns H hl hb hP' hK hd
end
def scalarV : V → Bool
  | .non => true
  | .bl _ => true
  | .int _ => true
  | .str _ => true
  | _ => false
def LstV (K : PySem.W.Frag) (H : Hp) (a : Addr) (xs : List V) : Prop := SqL K H a xs ∧ TyX K H (.ref a) (.type "list")
def TupV (K : PySem.W.Frag) (H : Hp) (a : Addr) (xs : List V) : Prop := SqT K H a xs ∧ TyX K H (.ref a) (.type "tuple")
def SmV (K : PySem.W.Frag) (H : Hp) : Nat → V → V → Prop
  | 0, x, y => x = y ∧ scalarV x = true
  | n + 1, x, y => (x = y ∧ scalarV x = true) ∨ (∃ a b xs ys, x = .ref a ∧ y = .ref b ∧ LstV K H a xs ∧ LstV K H b ys ∧ xs.length = ys.length ∧ ∀ (i : Nat) x y, xs[i]? = some x → ys[i]? = some y → SmV K H n x y) ∨
      ∃ a b xs ys, x = .ref a ∧ y = .ref b ∧ TupV K H a xs ∧ TupV K H b ys ∧ xs.length = ys.length ∧ ∀ (i : Nat) x y, xs[i]? = some x → ys[i]? = some y → SmV K H n x y
theorem LstV.of {K : PySem.W.Frag} {H : Hp} {a : Addr} {xs : List V} (h : H a = some (.lst xs)) : LstV K H a xs := ⟨SqL.of h, .base (.lst h)⟩
theorem TupV.of {K : PySem.W.Frag} {H : Hp} {a : Addr} {xs : List V} (h : H a = some (.tup xs)) : TupV K H a xs := ⟨SqT.of h, .base (.tup h)⟩
section
variable {K : PySem.W.Frag} {H H' : Hp}
theorem tyo_same {x : V} {t : Value} (s : Same H H') (h : TyOf K H x t) : TyOf K H' x t := by
  cases h with
  | non => exact .non
  | bl x => exact .bl x
  | int i => exact .int i
  | str x => exact .str x
  | flt x => exact .flt x
  | lst e => exact .lst (s _ _ e)
  | frz e => exact .frz (s _ _ e)
  | tup e => exact .tup (s _ _ e)
  | dK e => exact .dK (s _ _ e)
  | dT e => exact .dT (s _ _ e)
  | ins e cl ha hn htk hm => exact .ins (s _ _ e) cl ha hn htk hm
theorem tyx_same {x : V} {t : Value} (s : Same H H') (h : TyX K H x t) : TyX K H' x t := by
  cases h with
  | base b => exact .base (tyo_same s b)
  | byt b => exact .byt b
  | set e => exact .set (s _ _ e)
  | kList e c => exact .kList e c
  | kTuple e c => exact .kTuple e c
  | kDict e c => exact .kDict e c
  | fTuple e => exact .fTuple (s _ _ e)
  | fDict e => exact .fDict (s _ _ e)
theorem LstV.same {a : Addr} {xs : List V} (s : Same H H') (h : LstV K H a xs) : LstV K H' a xs := ⟨s.seq h.1, tyx_same s h.2⟩
theorem same_seqT {a : Addr} {xs : List V} (s : Same H H') (h : SqT K H a xs) : SqT K H' a xs := by
  rcases h with (h | ⟨o, h⟩) | h
  · exact .inl (.inl (s _ _ h))
  · exact .inl (.inr ⟨o, s _ _ h⟩)
  · exact .inr h
theorem TupV.same {a : Addr} {xs : List V} (s : Same H H') (h : TupV K H a xs) : TupV K H' a xs := ⟨same_seqT s h.1, tyx_same s h.2⟩
theorem SmV.same (s : Same H H') : ∀ (n : Nat) {x y : V}, SmV K H n x y → SmV K H' n x y
  | 0, _, _, h => h
  | n + 1, x, y, h => by
    rcases h with h | ⟨a, b, xs, ys, e1, e2, h1, h2, l, h⟩ | ⟨a, b, xs, ys, e1, e2, h1, h2, l, h⟩
    · exact .inl h
    · exact .inr (.inl ⟨a, b, xs, ys, e1, e2, h1.same s, h2.same s, l, fun i x y a b => SmV.same s n (h i x y a b)⟩)
    · exact .inr (.inr ⟨a, b, xs, ys, e1, e2, h1.same s, h2.same s, l, fun i x y a b => SmV.same s n (h i x y a b)⟩)
theorem isi_ty {Q : VK} {x : V} {t n : String} {d : Bool} (h : TyX K H x (.type t)) (e : kitB t n = some d) (q : Q (.bl d) H) : rIsi K [x, .ty n] H Q := rd_isi (.ty n) h (kit_ty e) q
theorem sm_ints {p q : Addr} {ns : List Int} (hp : H p = some (.lst (ns.map V.int))) (hq : H q = some (.lst (ns.map V.int))) : SmV K H 1 (.ref p) (.ref q) :=
  .inr (.inl ⟨p, q, _, _, rfl, rfl, .of hp, .of hq, rfl, fun i x y e1 e2 => by
    rw [e1] at e2
    have e := Option.some.inj e2
    subst e
    rw [List.getElem?_map] at e1
    cases g : ns[i]? with
    | none => rw [g] at e1; cases e1
    | some z => rw [g] at e1; cases e1; exact ⟨rfl, rfl⟩⟩)
end
theorem sm_sc {K : PySem.W.Frag} {H : Hp} {x : V} (h : scalarV x = true) : ∀ {n : Nat}, SmV K H n x x
  | 0 => ⟨rfl, h⟩
  | _ + 1 => .inl ⟨rfl, h⟩
def spSame (K : PySem.W.Frag) (n : Nat) : Sp := fun vs H Q _ => ∃ x y, vs = [x, y] ∧ SmV K H n x y ∧ ∀ H', Same H H' → Q (.bl true) H'
theorem use_same {K : PySem.W.Frag} {n : Nat} {x y : V} {H : Hp} {Q : VK} {E : XK} (h : SmV K H n x y) (q : ∀ H', Same H H' → Q (.bl true) H') : spSame K n ([x, y] ++ []) H Q E := ⟨x, y, rfl, h, q⟩
def spItems (K : PySem.W.Frag) : Sp := fun vs H Q _ => ∃ (a : Addr) (ns : List Int), vs = [.ref a] ∧ SqL K H a (ns.map V.int) ∧ ∀ H', Same H H' → Q .non H'
theorem use_items {K : PySem.W.Frag} {a : Addr} {ns : List Int} {H : Hp} {Q : VK} {E : XK} (h : SqL K H a (ns.map V.int)) (q : ∀ H', Same H H' → Q .non H') : spItems K ([.ref a] ++ []) H Q E := ⟨a, ns, rfl, h, q⟩
def spBlock : Sp := fun vs H Q _ => ∃ (a : Addr) (ns : List Int) (least : Int), vs = [.ref a, .int least] ∧ H a = some (.lst (ns.map V.int)) ∧ least ≤ ns.length ∧ ns.length ≤ 64 ∧ ∀ H', Same H H' → Q .non H'
theorem use_block {a : Addr} {ns : List Int} {least : Int} {H : Hp} {Q : VK} {E : XK} (h : H a = some (.lst (ns.map V.int))) (h1 : least ≤ ns.length) (h2 : ns.length ≤ 64) (q : ∀ H', Same H H' → Q .non H') : spBlock ([.ref a, .int least] ++ []) H Q E := ⟨a, ns, least, rfl, h, h1, h2, q⟩
def codeU (n : Int) : Int := if n ≥ 0 then 2 * n else -2 * n - 1
def spCode : Sp := fun vs H Q _ => ∃ n, vs = [.int n] ∧ Q (.int (codeU n)) H
theorem use_code {n : Int} {H : Hp} {Q : VK} {E : XK} (q : Q (.int (codeU n)) H) : spCode ([.int n] ++ []) H Q E := ⟨n, rfl, q⟩
def markF (ns : List Int) : Int := ns.foldl (fun m n => (m * 31 + codeU n) % 9973) 1
theorem markF_snoc (ns : List Int) (z : Int) : markF (ns ++ [z]) = (markF ns * 31 + codeU z) % 9973 := by
  unfold markF
  rw [List.foldl_append]
  rfl
theorem foldm_bound : ∀ (ns : List Int) (m : Int), 0 ≤ m → m < 9973 → 0 ≤ ns.foldl (fun m n => (m * 31 + codeU n) % 9973) m ∧ ns.foldl (fun m n => (m * 31 + codeU n) % 9973) m < 9973
  | [], m, h0, h1 => ⟨h0, h1⟩
  | n :: r, m, _, _ => foldm_bound r _ (Int.emod_nonneg _ (by decide)) (Int.emod_lt_of_pos _ (by decide))
theorem markF_bound (ns : List Int) : 0 ≤ markF ns ∧ markF ns < 9973 := foldm_bound ns 1 (by decide) (by decide)
def spMark : Sp := fun vs H Q _ => ∃ (a : Addr) (ns : List Int), vs = [.ref a] ∧ H a = some (.lst (ns.map V.int)) ∧ ns.length ≤ 64 ∧ ∀ H', Same H H' → Q (.int (markF ns)) H'
theorem use_mark {a : Addr} {ns : List Int} {H : Hp} {Q : VK} {E : XK} (h : H a = some (.lst (ns.map V.int))) (h2 : ns.length ≤ 64) (q : ∀ H', Same H H' → Q (.int (markF ns)) H') : spMark ([.ref a] ++ []) H Q E := ⟨a, ns, rfl, h, h2, q⟩
def jx (u v : V) : Bool := match u, v with
  | .int w, .int t => decide (0 < w) || decide (t = 0)
  | _, _ => false
def jt (u v : V) : Bool := inI u 0 8 && (inI v 0 3 && jx u v)
theorem dec_i0 (t : Int) : decide (V.int t = V.int 0) = decide (t = 0) := decide_eq_decide.mpr ⟨V.int.inj, congrArg V.int⟩
inductive JR (H : Hp) : V → Bool → Prop where
  | flat {x : V} (h : scalarV x = true) : JR H x false
  | lst {a : Addr} {xs : List V} (h : H a = some (.lst xs)) : JR H (.ref a) false
  | tupn {a : Addr} {xs : List V} (h : H a = some (.tup xs)) (n : xs.length ≠ 2) : JR H (.ref a) false
  | tup2 {a : Addr} {u v : V} (h : H a = some (.tup [u, v])) (hu : TyV H u) (hv : TyV H v) : JR H (.ref a) (jt u v)
def spJ : Sp := fun vs H Q _ => ∃ x b, vs = [x] ∧ JR H x b ∧ Q (.bl b) H
theorem use_j {x : V} {b : Bool} {H : Hp} {Q : VK} {E : XK} (h : JR H x b) (q : Q (.bl b) H) : spJ ([x] ++ []) H Q E := ⟨x, b, rfl, h, q⟩
theorem jt_no1 {u v : V} (h : inI u 0 8 = false) : jt u v = false := by unfold jt; rw [h]; rfl
theorem jt_no2 {u v : V} (h : inI v 0 3 = false) : jt u v = false := by unfold jt; rw [h, Bool.false_and, Bool.and_false]
theorem inI_isI {x : V} {lo hi : Int} (h : inI x lo hi = true) : isI x = true := by
  cases x <;> first | rfl | exact Bool.noConfusion h
theorem isI_yes {x : V} (h : isI x = true) : ∃ i, x = .int i := by
  cases x <;> first | exact ⟨_, rfl⟩ | exact Bool.noConfusion h
def spS : List Int → List Int
  | a :: b :: r => ((a + b) / 2) :: spS r
  | r => r
def spD : List Int → List Int
  | a :: b :: r => (a - b) :: spD r
  | _ => []
theorem spD_length : ∀ ns : List Int, (spD ns).length = ns.length / 2
  | [] => rfl
  | [_] => by simp [spD]
  | a :: b :: r => by
    show (spD r).length + 1 = (r.length + 1 + 1) / 2
    rw [spD_length r]
    omega
theorem spS_length : ∀ ns : List Int, (spS ns).length = (ns.length + 1) / 2
  | [] => rfl
  | [_] => by simp [spS]
  | a :: b :: r => by
    show (spS r).length + 1 = (r.length + 1 + 1 + 1) / 2
    rw [spS_length r]
    omega
theorem spS_get : ∀ (ns : List Int) (i : Nat) (a b : Int), ns[2 * i]? = some a → ns[2 * i + 1]? = some b → (spS ns)[i]? = some ((a + b) / 2)
  | [], i, a, b, h, _ => by simp at h
  | [x], 0, a, b, _, h => by simp at h
  | [x], i + 1, a, b, h, _ => by simp at h
  | x :: y :: r, 0, a, b, h1, h2 => by
    have e1 : x = a := Option.some.inj h1
    have e2 : y = b := Option.some.inj h2
    subst e1 e2
    rfl
  | x :: y :: r, i + 1, a, b, h1, h2 => by
    show (spS r)[i]? = _
    exact spS_get r i a b (by rw [show 2 * (i + 1) = 2 * i + 1 + 1 by omega] at h1; exact h1) (by rw [show 2 * (i + 1) + 1 = 2 * i + 1 + 1 + 1 by omega] at h2; exact h2)
theorem spD_get : ∀ (ns : List Int) (i : Nat) (a b : Int), ns[2 * i]? = some a → ns[2 * i + 1]? = some b → (spD ns)[i]? = some (a - b)
  | [], i, a, b, h, _ => by simp at h
  | [x], 0, a, b, _, h => by simp at h
  | [x], i + 1, a, b, h, _ => by simp at h
  | x :: y :: r, 0, a, b, h1, h2 => by
    have e1 : x = a := Option.some.inj h1
    have e2 : y = b := Option.some.inj h2
    subst e1 e2
    rfl
  | x :: y :: r, i + 1, a, b, h1, h2 => by
    show (spD r)[i]? = _
    exact spD_get r i a b (by rw [show 2 * (i + 1) = 2 * i + 1 + 1 by omega] at h1; exact h1) (by rw [show 2 * (i + 1) + 1 = 2 * i + 1 + 1 + 1 by omega] at h2; exact h2)
theorem spS_parts : ∀ ns : List Int, spS ns = (spS ns).take (ns.length / 2) ++ ns.drop (2 * (ns.length / 2))
  | [] => rfl
  | [_] => by simp [spS]
  | a :: b :: r => by
    have ih := spS_parts r
    show ((a + b) / 2) :: spS r = (((a + b) / 2) :: spS r).take ((r.length + 1 + 1) / 2) ++ (a :: b :: r).drop (2 * ((r.length + 1 + 1) / 2))
    rw [show (r.length + 1 + 1) / 2 = r.length / 2 + 1 by omega, show 2 * (r.length / 2 + 1) = 2 * (r.length / 2) + 1 + 1 by omega]
    show ((a + b) / 2) :: spS r = ((a + b) / 2) :: ((spS r).take (r.length / 2) ++ r.drop (2 * (r.length / 2)))
    rw [← ih]
/-- behind i levels: the sums, and the differences -/
def lvS (ns : List Int) : Nat → List Int
  | 0 => ns
  | i + 1 => spS (lvS ns i)
def lvR (ns : List Int) : Nat → List Int
  | 0 => []
  | i + 1 => spD (lvS ns i) ++ lvR ns i
def splitL (ns : List Int) (i : Nat) : List Int := lvS ns i ++ lvR ns i
theorem lvS_le (ns : List Int) : ∀ i, (lvS ns i).length ≤ ns.length
  | 0 => Nat.le_refl _
  | i + 1 => by
    have := lvS_le ns i
    show (spS (lvS ns i)).length ≤ _
    rw [spS_length]
    omega
theorem lv_length (ns : List Int) : ∀ i, (lvS ns i).length + (lvR ns i).length = ns.length
  | 0 => rfl
  | i + 1 => by
    have := lv_length ns i
    show (spS (lvS ns i)).length + (spD (lvS ns i) ++ lvR ns i).length = _
    rw [List.length_append, spS_length, spD_length]
    omega
theorem splitL_length (ns : List Int) (i : Nat) : (splitL ns i).length = ns.length := by
  unfold splitL
  rw [List.length_append]
  exact lv_length ns i
theorem last_odd {ns : List Int} (h : ns.length % 2 = 1) : ∃ z, ns[ns.length - 1]? = some z ∧ ns.drop (2 * (ns.length / 2)) = [z] ∧ atI (ns.map V.int) (-1) = some (.int z) := by
  have h1 : ns.length - 1 < ns.length := by omega
  refine ⟨ns[ns.length - 1], List.getElem?_eq_getElem h1, ?_, ?_⟩
  · rw [show 2 * (ns.length / 2) = ns.length - 1 by omega, List.drop_eq_getElem_cons h1, show ns.length - 1 + 1 = ns.length by omega, List.drop_length]
  · have e : ns.map V.int = (ns.dropLast.map V.int) ++ [.int ns[ns.length - 1]] := by
      have hne : ns ≠ [] := fun z => by rw [z] at h; simp at h
      have := List.dropLast_concat_getLast hne
      rw [List.getLast_eq_getElem] at this
      rw [← List.map_singleton, ← List.map_append, this]
    rw [e]
    exact atI_last _ _
theorem drop_even {ns : List Int} (h : ¬ ns.length % 2 = 1) : ns.drop (2 * (ns.length / 2)) = [] := by
  rw [show 2 * (ns.length / 2) = ns.length by omega, List.drop_length]
theorem rg2 (n : Nat) (h : n ≤ 64) : RgC 0 ((n : Int) - 1) 2 (n / 2) := by
  have hs : Builtin.Range.rangeSize 0 ((n : Int) - 1) 2 = ((n / 2 : Nat) : Int) := by
    unfold Builtin.Range.rangeSize
    rw [if_pos (by decide)]
    split <;> omega
  refine ⟨by decide, by decide, ?_, hs⟩
  unfold Builtin.Range.small
  rw [hs]
  simp only [Builtin.Range.rangeFitsLong, Bool.and_eq_true, Bool.or_eq_true, decide_eq_true_eq, beq_iff_eq, show ((2 : Int) > 0) by decide, if_true]
  omega
section
variable {K : PySem.W.Frag} {σ : L2.St} {H : Hp} {Q : VK} {g : TG} {tb : TS} {D : Ends}
theorem rd_for3 {ts : TA} (h : ts σ H fun vs H1 => ∃ (i j c : Int) (n : Nat), vs = [.int i, .int j, .int c] ∧ RgC i j c n ∧ LpW (Itc i c n) g tb D σ H1) : tFor (iRng3 ts) g tb D σ H := h
theorem rd_n3 {n : Nat} {A : Int → Int → Int → Nat → Prop} (h : n ≤ 64) (q : A 0 ((n : Int) - 1) 2 (n / 2)) : ∃ (i j c : Int) (k : Nat), [V.int 0, V.int ((n : Int) - 1), V.int 2] = [.int i, .int j, .int c] ∧ RgC i j c k ∧ A i j c k := ⟨_, _, _, _, rfl, rg2 n h, q⟩
theorem rd_catL {a b : Addr} {xs ys : List Int} (h1 : H a = some (.lst (xs.map V.int))) (h2 : H b = some (.lst (ys.map V.int))) (n : xs.length + ys.length ≤ 1000) (q : ∀ p, H p = none → Q (.ref p) (upd H p (.lst ((xs ++ ys).map V.int)))) : rCat (.ref a) (.ref b) H Q :=
  ⟨a, b, _, _, rfl, rfl, h1, h2, by rw [List.length_map, List.length_map]; exact Nat.le_of_lt (small1000 n), fun p hp => by rw [← List.map_append]; exact q p hp⟩
theorem rd_appI {a : Addr} {xs : List Int} {z : Int} (h : H a = some (.lst (xs.map V.int))) (n : xs.length ≤ 1000) (q : Q .non (upd H a (.lst ((xs ++ [z]).map V.int)))) : rAppend (.ref a) [.int z] H Q :=
  ⟨a, _, _, rfl, rfl, h, by rw [List.length_map]; exact small1000 n, by rw [List.map_append] at q; exact q⟩
theorem rd_sl {te : TE} {tl th : TO} {r : V → Option Int → Option Int → Hp → VK → Prop} (h : te σ H fun x H1 => tl σ H1 fun l H2 => th σ H2 fun u H3 => r x l u H3 Q) : L2.tSl r te tl th σ H Q := h
theorem rd_part {te : TE} {q : Option Int → Hp → Prop} (h : te σ H fun x H1 => ∃ i, x = .int i ∧ q (some i) H1) : tPart te σ H q := h
theorem rd_nopart {q : Option Int → Hp → Prop} (h : q none H) : tNoPart σ H q := h
theorem rd_oneI {i : Int} {P : Int → Prop} (h : P i) : ∃ j, V.int i = .int j ∧ P j := ⟨i, rfl, h⟩
theorem rd_bm {m : V → List V → Hp → VK → Prop} {to : TE} {ts : TA} (h : to σ H fun x H1 => tyV K "list" x H1 ∧ ts σ H1 fun xs H2 => m x xs H2 Q) : tBM K "list" m to ts σ H Q := h
theorem rd_tyL {a : Addr} {xs : List V} {P : Prop} (h : H a = some (.lst xs)) (q : P) : tyV K "list" (.ref a) H ∧ P := ⟨.inl ⟨rfl, _, .inl (.inl h)⟩, q⟩
end
def spOnce (K : PySem.W.Frag) : Sp := fun vs H Q _ => ∃ (a : Addr) (ns : List Int), vs = [.ref a] ∧ SqL K H a (ns.map V.int) ∧ ns.length ≤ 64 ∧ ∀ p s d H', Same H H' → H' p = some (.tup [.ref s, .ref d]) → H' s = some (.lst ((spS ns).map V.int)) → H' d = some (.lst ((spD ns).map V.int)) → H s = none → Q (.ref p) H'
theorem use_once {K : PySem.W.Frag} {a : Addr} {ns : List Int} {H : Hp} {Q : VK} {E : XK} (h : SqL K H a (ns.map V.int)) (n : ns.length ≤ 64) (q : ∀ p s d H', Same H H' → H' p = some (.tup [.ref s, .ref d]) → H' s = some (.lst ((spS ns).map V.int)) → H' d = some (.lst ((spD ns).map V.int)) → H s = none → Q (.ref p) H') : spOnce K ([.ref a] ++ []) H Q E := ⟨a, ns, rfl, h, n, q⟩
def spSplit : Sp := fun vs H Q _ => ∃ (a : Addr) (ns : List Int) (k : Int), vs = [.ref a, .int k] ∧ H a = some (.lst (ns.map V.int)) ∧ 1 ≤ ns.length ∧ ns.length ≤ 64 ∧ 0 ≤ k ∧ k ≤ 5 ∧ ∀ p H', H p = none → Same H H' → H' p = some (.lst ((splitL ns k.toNat).map V.int)) → Q (.ref p) H'
theorem use_split {a : Addr} {ns : List Int} {k : Int} {H : Hp} {Q : VK} {E : XK} (h : H a = some (.lst (ns.map V.int))) (h1 : 1 ≤ ns.length) (h2 : ns.length ≤ 64) (h3 : 0 ≤ k) (h4 : k ≤ 5) (q : ∀ p H', H p = none → Same H H' → H' p = some (.lst ((splitL ns k.toNat).map V.int)) → Q (.ref p) H') : spSplit ([.ref a, .int k] ++ []) H Q E := ⟨a, ns, k, rfl, h, h1, h2, h3, h4, q⟩
theorem use_splitK {a : Addr} {ns : List Int} {k : Int} {H : Hp} {Q : VK} {E : XK} (h : H a = some (.lst (ns.map V.int))) (h1 : 1 ≤ ns.length) (h2 : ns.length ≤ 64) (h3 : 0 ≤ k) (h4 : k ≤ 5) (q : ∀ p H', H p = none → Same H H' → H' p = some (.lst ((splitL ns k.toNat).map V.int)) → Q (.ref p) H') : spSplit (kg 0 2 [1, 0] [] [.int k, .ref a]) H Q E := ⟨a, ns, k, rfl, h, h1, h2, h3, h4, q⟩
def jn : List Int → List Int → List Int
  | s :: S, d :: D => (s - d / 2 + d) :: (s - d / 2) :: jn S D
  | S, _ => S
/-- how many are coarse -/
def cc (n : Nat) : Nat → Nat
  | 0 => n
  | i + 1 => (cc n i + 1) / 2
theorem cc_le (n : Nat) : ∀ i, cc n (i + 1) ≤ cc n i
  | 0 => by show (n + 1) / 2 ≤ n; omega
  | i + 1 => by show (cc n (i + 1) + 1) / 2 ≤ cc n (i + 1); omega
theorem cc_n (n : Nat) : ∀ i, cc n i ≤ n
  | 0 => Nat.le_refl _
  | i + 1 => Nat.le_trans (cc_le n i) (cc_n n i)
/-- the values when j of m levels are joined -/
def wv (ns : List Int) (m : Nat) : Nat → List Int
  | 0 => ns.take (cc ns.length m)
  | j + 1 => jn (wv ns m j) ((ns.drop (cc ns.length (m - j))).take (cc ns.length (m - (j + 1)) - cc ns.length (m - j)))
def joinL (ns : List Int) (m : Nat) : List Int := wv ns m m
theorem cut_mid (ns : List Int) (j k : Nat) (hj : j ≤ ns.length) (hk : k ≤ ns.length) : cutV (ns.map V.int) (some (j : Int)) (some (k : Int)) = ((ns.drop j).take (k - j)).map V.int := by
  unfold cutV
  rw [show HT.sIx (ns.map V.int).length 0 (some (j : Int)) = min j (ns.map V.int).length from HT.sIx_nat _ _ j, show HT.sIx (ns.map V.int).length (ns.map V.int).length (some (k : Int)) = min k (ns.map V.int).length from HT.sIx_nat _ _ k]
  rw [List.length_map, Nat.min_eq_left hj, Nat.min_eq_left hk, ← List.map_drop, ← List.map_take]
section
variable {K : PySem.W.Frag} {σ : L2.St} {H : Hp} {Q : VK} {g : TG} {tb : TS} {D : Ends}
theorem rd_slM {a : Addr} {ns : List Int} {j k : Nat} (h : SqL K H a (ns.map V.int)) (hj : j ≤ ns.length) (hk : k ≤ ns.length) (q : ∀ p, H p = none → Q (.ref p) (upd H p (.lst (((ns.drop j).take (k - j)).map V.int)))) : rSlL K (.ref a) (some (j : Int)) (some (k : Int)) H Q :=
  ⟨a, _, rfl, h, fun p hp => by rw [cut_mid ns j k hj hk]; exact q p hp⟩
theorem rd_forV {te : TE} (h : te σ H fun x H1 => ∃ n, x = .int n ∧ (-(2 ^ 62) ≤ (0 : Int) ∧ (0 : Int) < 2 ^ 62 ∧ -(2 ^ 62) ≤ n ∧ n < 2 ^ 62 ∧ LpW (Itc (0 + (((n - 0).toNat : Nat) : Int) - 1) (-1) (n - 0).toNat) g tb D σ H1)) : tFor (iRevR (tRg1 te)) g tb D σ H := h
theorem rd_nV {n : Int} {P : Prop} (h1 : -(2 ^ 62) ≤ n) (h2 : n < 2 ^ 62) (q : P) : -(2 ^ 62) ≤ (0 : Int) ∧ (0 : Int) < 2 ^ 62 ∧ -(2 ^ 62) ≤ n ∧ n < 2 ^ 62 ∧ P := ⟨by decide, by decide, h1, h2, q⟩
end
def spCoarse : Sp := fun vs H Q _ => ∃ (n k : Nat), vs = [.int (n : Int), .int (k : Int)] ∧ 1 ≤ n ∧ n ≤ 64 ∧ k ≤ 5 ∧ Q (.int (cc n k : Nat)) H
theorem use_coarse {n k : Nat} {H : Hp} {Q : VK} {E : XK} (h1 : 1 ≤ n) (h2 : n ≤ 64) (h3 : k ≤ 5) (q : Q (.int (cc n k : Nat)) H) : spCoarse ([.int (n : Int), .int (k : Int)] ++ []) H Q E := ⟨n, k, rfl, h1, h2, h3, q⟩
def spJoin1 : Sp := fun vs H Q _ => ∃ (s d : Addr) (S D : List Int), vs = [.ref s, .ref d] ∧ H s = some (.lst (S.map V.int)) ∧ H d = some (.lst (D.map V.int)) ∧ D.length ≤ S.length ∧ S.length ≤ 64 ∧ ∀ p H', Same H H' → H p = none → H' p = some (.lst ((jn S D).map V.int)) → Q (.ref p) H'
theorem use_join1 {s d : Addr} {S D : List Int} {H : Hp} {Q : VK} {E : XK} (h1 : H s = some (.lst (S.map V.int))) (h2 : H d = some (.lst (D.map V.int))) (h3 : D.length ≤ S.length) (h4 : S.length ≤ 64) (q : ∀ p H', Same H H' → H p = none → H' p = some (.lst ((jn S D).map V.int)) → Q (.ref p) H') : spJoin1 ([.ref s, .ref d] ++ []) H Q E := ⟨s, d, S, D, rfl, h1, h2, h3, h4, q⟩
def spJoin : Sp := fun vs H Q _ => ∃ (a : Addr) (ns : List Int) (k : Int), vs = [.ref a, .int k] ∧ H a = some (.lst (ns.map V.int)) ∧ 1 ≤ ns.length ∧ ns.length ≤ 64 ∧ 0 ≤ k ∧ k ≤ 5 ∧ ∀ p H', H p = none → Same H H' → H' p = some (.lst ((joinL ns k.toNat).map V.int)) → Q (.ref p) H'
theorem use_join {a : Addr} {ns : List Int} {k : Int} {H : Hp} {Q : VK} {E : XK} (h : H a = some (.lst (ns.map V.int))) (h1 : 1 ≤ ns.length) (h2 : ns.length ≤ 64) (h3 : 0 ≤ k) (h4 : k ≤ 5) (q : ∀ p H', H p = none → Same H H' → H' p = some (.lst ((joinL ns k.toNat).map V.int)) → Q (.ref p) H') : spJoin ([.ref a, .int k] ++ []) H Q E := ⟨a, ns, k, rfl, h, h1, h2, h3, h4, q⟩
theorem use_joinK {a : Addr} {ns : List Int} {k : Int} {H : Hp} {Q : VK} {E : XK} (h : H a = some (.lst (ns.map V.int))) (h1 : 1 ≤ ns.length) (h2 : ns.length ≤ 64) (h3 : 0 ≤ k) (h4 : k ≤ 5) (q : ∀ p H', H p = none → Same H H' → H' p = some (.lst ((joinL ns k.toNat).map V.int)) → Q (.ref p) H') : spJoin (kg 0 2 [1, 0] [] [.int k, .ref a]) H Q E := ⟨a, ns, k, rfl, h, h1, h2, h3, h4, q⟩
def spInts : Sp := fun vs H Q _ => ∃ (a : Addr) (ns : List Int) (n : Int), vs = [.ref a, .int n] ∧ H a = some (.lst (ns.map V.int)) ∧ (ns.length : Int) = n ∧ Q (.bl true) H
theorem use_ints {a : Addr} {ns : List Int} {n : Int} {H : Hp} {Q : VK} {E : XK} (h : H a = some (.lst (ns.map V.int))) (h1 : (ns.length : Int) = n) (q : Q (.bl true) H) : spInts ([.ref a, .int n] ++ []) H Q E := ⟨a, ns, n, rfl, h, h1, q⟩
section
variable {K : PySem.W.Frag} {σ : L2.St} {H : Hp} {Q : VK} {g : TG}
theorem rd_lcL {ti te : TE} {tt : TT} {vs : List Nat} (h : ti σ H fun x H1 => ∃ a, x = .ref a ∧ (∃ xs, SqL K H1 a xs) ∧ ∀ D, H1 D = none → LcW (Itl K a) g tt te vs Q σ H1 D) : tLc (iList K ti) g tt te vs σ H Q := h
theorem rd_lcP {a : Addr} {xs : List V} {te : TE} {tt : TT} {vs : List Nat} (e : SqL K H a xs) (h : ∀ D, H D = none → LcW (Itl K a) g tt te vs Q σ H D) : ∃ b, V.ref a = .ref b ∧ (∃ xs, SqL K H b xs) ∧ ∀ D, H D = none → LcW (Itl K b) g tt te vs Q σ H D := ⟨a, rfl, ⟨xs, e⟩, h⟩
end
structure Dn (K : PySem.W.Frag) (mg : Str → Option Value) (x : Str) (st : Stmt) (ps : List Str) (f : Addr) (fd : FuncData) : Prop where
  F : Fun K x x st f fd
  g : mg x = some (.ref f)
  b : Binds K fd ps []
structure Bi (mg : Str → Option Value) : Prop where
  int_ : mg "int" = none
  bool_ : mg "bool" = none
  str_ : mg "str" = none
  list_ : mg "list" = none
  tuple_ : mg "tuple" = none
  len_ : mg "len" = none
  abs_ : mg "abs" = none
  max_ : mg "max" = none
  min_ : mg "min" = none
  range_ : mg "range" = none
  zip_ : mg "zip" = none
  isinstance_ : mg "isinstance" = none
  enumerate_ : mg "enumerate" = none
  reversed_ : mg "reversed" = none
end Z
namespace Z
open PySem PySem.Spec PyProof.Rows L2
theorem mk_heap {H : Hp} {a d : Addr} {o1 o2 o3 o4 : HO} (ha : H a = none) (hd : d ≠ a) : upd (del (upd (upd (upd H a o1) d o2) a o3) a) d o4 = upd H d o4 := by
  funext b
  by_cases h1 : b = d
  · subst h1; rw [upd_same, upd_same]
  · rw [upd_ne h1, upd_ne h1]
    by_cases h2 : b = a
    · subst h2; rw [del_same, ha]
    · rw [del_ne h2, upd_ne h2, upd_ne h1, upd_ne h2]
/-- an own error class C, its name x, its one field f, its __init__ at fI -/
structure EC (K : PySem.W.Frag) (mg : Str → Option Value) (x f : Str) (C fI : Addr) : Prop where
  o : OexC K C
  xf : XfC K C
  ec : ExcC K C
  g : mg x = some (.ref C)
  noF : PySem.W.findIn K (.ref C) f = some none
  te : PySem.W.exmOne K (.ref C) (.ref C) = some true
  iC : PySem.W.findIn K (.ref C) "__init__" = some (some (.ref fI))
  tI : PySem.W.typeIn K (.ref fI) = some (.type "function")
def spInit (K : PySem.W.Frag) (C : Addr) (f : Str) : Sp := fun vs H Q _ => ∃ (a : Addr) (v : V), vs = [.ref a, v] ∧ H a = some (exo a C none) ∧ ∀ dx, H dx = none → dx ≠ a → Q .non (upd (upd H dx (exd dx [(f, v)])) a (exo a C (some dx)))
/-- the reading of raise C(e) -/
def tRaiseX (K : PySem.W.Frag) (C : Addr) (f : Str) (W : WX) (ta : TA) : TS := fun _ σ H => tMkO C (spInit K C f) [] ta σ H fun cls d H' => W cls d σ H'
section
variable {X : Cx} {C fI : Addr} {x f : Str} {fd : FuncData} {W : WX} {e : Expr} {ta : TA} {p pos pos2 : Pos} {k : Nat} {ps : List Str}
theorem ps_raiseX (T : EC X.K X.mg x f C fI) (F : FnOk X.prog X.w X.K X.mg X.base CX0 k fI fd ps (spInit X.K C f)) (hb : Binds X.K fd ps []) (hc : X.calm = true) (hr : Room (k + 1) X.A) (tk : Takes X W) (ha : PA X [e] ta) (hg : Gl X x := by rfl)
    (hdb : (x == ("__debug__" : Str)) = false := by decide) (he : starEach (e :: []) X.env = (false, eval e X.env) :: starEach [] X.env := by rfl) (hpl : (backTo pos (starEach [] X.env)).any (·.1) = false := by rfl) :
    PS X (.Raise (some (.Call (.Name x p) [e] [] pos)) none pos2) (tRaiseX X.K C f W ta) :=
  ps_raise hc tk (pmk_oex T.o T.iC T.tI F hr hb .nil (fun _ _ _ _ _ _ _ z => z.elim) hg T.g ha hdb he hpl)
end
section
variable {K : PySem.W.Frag} {σ : L2.St} {H : Hp} {C : Addr} {f : Str} {W : WX} {ta : TA} {D : Ends}
theorem rd_raiseX (h : ta σ H fun vs H1 => ∃ v, vs = [v] ∧ ∀ d, H1 d = none → W (.ref C) (some d) σ (upd H1 d (.xd [(f, v)]))) (hm : ∀ {q q' : List V → Hp → Prop}, (∀ vs H, q vs H → q' vs H) → ta σ H q → ta σ H q') : tRaiseX K C f W ta D σ H := by
  refine hm (fun vs H1 h => ?_) h
  obtain ⟨v, rfl, h⟩ := h
  refine ⟨by simp, fun a ha => ⟨a, v, rfl, upd_same, fun dx hdx hne => ⟨rfl, dx, [(f, v)], upd_same, ?_, ?_, ?_⟩⟩⟩
  · rw [upd_ne hne, upd_same]
  · rw [upd_ne hne] at hdx
    exact hdx
  · rw [mk_heap ha hne]
    rw [upd_ne hne] at hdx
    exact h dx hdx
theorem rd_raise1 {te : TE} (h : te σ H fun v H1 => ∀ d, H1 d = none → W (.ref C) (some d) σ (upd H1 d (.xd [(f, v)]))) (hm : ∀ {q q' : V → Hp → Prop}, (∀ v H, q v H → q' v H) → te σ H q → te σ H q') : tRaiseX K C f W (tCons te tNil) D σ H :=
  rd_raiseX (hm (fun v H1 z => ⟨v, rfl, z⟩) h) fun {q q'} hq hh => hm (fun v H1 z => hq _ _ z) hh
theorem rd_raiseV {i : Nat} {v : V} (e : σ[i]? = some (some v)) (h : ∀ d, H d = none → W (.ref C) (some d) σ (upd H d (.xd [(f, v)]))) : tRaiseX K C f W (tCons (tVar i) tNil) D σ H :=
  rd_raise1 ⟨v, e, h⟩ fun hq ⟨v, e, z⟩ => ⟨v, e, hq _ _ z⟩
theorem rd_raiseC {v : V} (h : ∀ d, H d = none → W (.ref C) (some d) σ (upd H d (.xd [(f, v)]))) : tRaiseX K C f W (tCons (tC v) tNil) D σ H := rd_raise1 (te := tC v) h fun hq z => hq _ _ z
end
/-- how an error leaves: of the class C, the field f holding v -/
def Err (C : Addr) (f : Str) (v : V) (H : Hp) (E : XK) : Prop := ∀ d H', Same H H' → H d = none → H' d = some (.xd [(f, v)]) → E (.ref C) (some d) H'
theorem Err.now {C : Addr} {f : Str} {v : V} {H : Hp} {E : XK} (h : Err C f v H E) : ∀ d, H d = none → E (.ref C) (some d) (upd H d (.xd [(f, v)])) := fun d n => h d _ (same_new n) n upd_same
theorem Err.same {C : Addr} {f : Str} {v : V} {H H' : Hp} {E : XK} (s : Same H H') (h : Err C f v H E) : Err C f v H' E := fun d H2 s2 n e => h d H2 (s.trans s2) (s.free n) e
/-- an own error class with its own __init__, ready to be made -/
def ErrK (P : Program) (w : World) (K : PySem.W.Frag) (mg : Str → Option Value) (base : Heap) (x f : Str) (C : Addr) : Prop :=
  ∃ (fI : Addr) (fd : FuncData), EC K mg x f C fI ∧ FnOk P w K mg base CX0 1 fI fd ["self", f] (spInit K C f) ∧ Binds K fd ["self", f] []
section
variable {P : Program} {w : World} {K : PySem.W.Frag} {mg : Str → Option Value} {base : Heap} {x f : Str} {C : Addr}
theorem ErrK.g (T : ErrK P w K mg base x f C) : mg x = some (.ref C) := let ⟨_, _, t, _⟩ := T; t.g
theorem ErrK.xf (T : ErrK P w K mg base x f C) : XfC K C := let ⟨_, _, t, _⟩ := T; t.xf
theorem ErrK.noF (T : ErrK P w K mg base x f C) : PySem.W.findIn K (.ref C) f = some none := let ⟨_, _, t, _⟩ := T; t.noF
theorem ErrK.te (T : ErrK P w K mg base x f C) : PySem.W.exmOne K (.ref C) (.ref C) = some true := let ⟨_, _, t, _⟩ := T; t.te
end
section
variable {X : Cx} {C : Addr} {x f : Str} {W : WX} {e : Expr} {ta : TA} {p pos pos2 : Pos}
theorem ps_raiseE (T : ErrK X.prog X.w X.K X.mg X.base x f C) (hc : X.calm = true) (hr : Room 2 X.A) (tk : Takes X W) (ha : PA X [e] ta) (hg : Gl X x := by rfl)
    (hdb : (x == ("__debug__" : Str)) = false := by decide) (he : starEach (e :: []) X.env = (false, eval e X.env) :: starEach [] X.env := by rfl) (hpl : (backTo pos (starEach [] X.env)).any (·.1) = false := by rfl) :
    PS X (.Raise (some (.Call (.Name x p) [e] [] pos)) none pos2) (tRaiseX X.K C f W ta) := by
  obtain ⟨fI, fd, t, F, b⟩ := T
  exact ps_raiseX t F b hc hr tk ha hg hdb he hpl
end
def spCkWX (C : Addr) : Sp := fun vs H Q E => ∃ x lo hi, vs = [x, .int lo, .int hi] ∧ TyV H x ∧ (inI x lo hi = false → Err C "value" x H E) ∧ (inI x lo hi = true → Q .non H)
theorem use_ckwx {C : Addr} {x : V} {lo hi : Int} {H : Hp} {Q : VK} {E : XK} (t : TyV H x) (h1 : inI x lo hi = false → Err C "value" x H E) (h2 : inI x lo hi = true → Q .non H) : spCkWX C ([x, .int lo, .int hi] ++ []) H Q E := ⟨x, lo, hi, rfl, t, h1, h2⟩
theorem inI_yes {x : V} {lo hi : Int} (h : inI x lo hi = true) : ∃ i, x = .int i ∧ lo ≤ i ∧ i ≤ hi := by
  cases x with
  | int i => exact ⟨i, rfl, of_decide_eq_true h⟩
  | _ => exact Bool.noConfusion h
open LamX
def KpN (p : Addr) (H H' : Hp) : Prop := ∀ b o, b ≠ p → H b = some o → (∀ ps, o ≠ .tbl ps) → H' b = some o
section
variable {p q : Addr} {H H' H1 H2 : Hp} {o u : HO}
theorem KpN.refl : KpN p H H := fun _ _ _ h _ => h
theorem KpN.trans (a : KpN p H H1) (b : KpN p H1 H2) : KpN p H H2 := fun c o n h t => b c o n (a c o n h t) t
theorem KpN.ofK (k : Kp p H H') : KpN p H H' := fun a o n h _ => k a o n h
theorem KpN.of (s : Same H H') : KpN p H H' := fun a o _ h _ => s a o h
theorem KpN.ofN (s : ExtN H H') : KpN p H H' := fun a o _ h t => s a o h t
theorem KpN.new (h : H q = none) : KpN p H (upd H q o) := .of (same_new h)
theorem KpN.at : KpN p H (upd H p o) := .ofK Kp.at
theorem lst_ntbl {xs : List V} : ∀ ps, HO.lst xs ≠ .tbl ps := fun _ z => nomatch z
theorem tup_ntbl {xs : List V} : ∀ ps, HO.tup xs ≠ .tbl ps := fun _ z => nomatch z
theorem look_extL {a : Addr} {xs : List V} (s : ExtN H H') (h : H a = some (.lst xs)) : H' a = some (.lst xs) := s _ _ h lst_ntbl
theorem look_extT {a : Addr} {xs : List V} (s : ExtN H H') (h : H a = some (.tup xs)) : H' a = some (.tup xs) := s _ _ h tup_ntbl
theorem Pool.ext (s : ExtN H H') (h : Pool H p) : Pool H' p := by
  obtain ⟨x, y, e, r⟩ := h
  exact ⟨x, y, s _ _ e lst_ntbl, r⟩
theorem Tabs.same {T : List (Addr × Str)} (s : Same H H') (t : Tabs T H) : Tabs T H' := t.ext fun b o h => s b o h
theorem Tabs.new {T : List (Addr × Str)} (n : H q = none) (t : Tabs T H) : Tabs T (upd H q o) := t.ext fun b o h => same_new n b o h
theorem codeO_lst {c : Addr} {q : Str} {xs : List V} : CodeO c q ≠ .lst xs := fun z => by
  unfold CodeO at z
  cases z
theorem Tabs.kp {T : List (Addr × Str)} (hp : Pool H p) (k : Kp p H H') (t : Tabs T H) : Tabs T H' := fun e he => by
  obtain ⟨x, y, hl, _⟩ := hp
  obtain ⟨ps, h1, h2, h3⟩ := t e he
  refine ⟨ps, k _ _ (fun z => by rw [z, hl] at h1; cases h1) h1, h2, fun pos cv hc => ?_⟩
  obtain ⟨c, e1, e2⟩ := h3 pos cv hc
  exact ⟨c, e1, k _ _ (fun z => by rw [z, hl] at e2; exact codeO_lst (Option.some.inj e2).symm) e2⟩
end
def DV (p : Addr) (H : Hp) (v : V) : Prop := scalarV v = true ∨ ∃ a xs, v = .ref a ∧ a ≠ p ∧ (H a = some (.lst xs) ∨ H a = some (.tup xs)) ∧ ∀ x ∈ xs, scalarV x = true
section
variable {p : Addr} {H H' : Hp} {v : V} {K : PySem.W.Frag}
theorem DV.ty (h : DV p H v) : TyV H v := by
  rcases h with h | ⟨a, xs, rfl, _, h | h, _⟩
  · cases v <;> first | exact True.intro | exact Bool.noConfusion h
  · exact .inl ⟨xs, h⟩
  · exact .inr ⟨xs, h⟩
theorem DV.sm (h : DV p H v) : SmV K H 1 v v := by
  rcases h with h | ⟨a, xs, rfl, _, h | h, s⟩
  · exact .inl ⟨rfl, h⟩
  · exact .inr (.inl ⟨a, a, xs, xs, rfl, rfl, .of h, .of h, rfl, fun i x y e1 e2 => by
      rw [e1] at e2
      exact ⟨Option.some.inj e2, s x (List.mem_of_getElem? e1)⟩⟩)
  · exact .inr (.inr ⟨a, a, xs, xs, rfl, rfl, .of h, .of h, rfl, fun i x y e1 e2 => by
      rw [e1] at e2
      exact ⟨Option.some.inj e2, s x (List.mem_of_getElem? e1)⟩⟩)
theorem DV.sc (h : scalarV v = true) : DV p H v := .inl h
theorem DV.lst {a : Addr} {xs : List V} (n : a ≠ p) (h : H a = some (.lst xs)) (s : ∀ x ∈ xs, scalarV x = true) : DV p H (.ref a) := .inr ⟨a, xs, rfl, n, .inl h, s⟩
theorem DV.tup {a : Addr} {xs : List V} (n : a ≠ p) (h : H a = some (.tup xs)) (s : ∀ x ∈ xs, scalarV x = true) : DV p H (.ref a) := .inr ⟨a, xs, rfl, n, .inr h, s⟩
end
/-- what the error that told caught becomes: a list of flags and of its field -/
def ErL (C : Addr) (f : Str) (L : V → List V) (Q : VK) : XK := fun cls d H' => cls = .ref C ∧ ∃ dd v, d = some dd ∧ H' dd = some (.xd [(f, v)]) ∧ ∀ p H'', Same H' H'' → H' p = none → H'' p = some (.lst (L v)) → Q (.ref p) H''
/-- try: a() / except C as e: return [.., e.f] / return None -/
def TTnone (C : Addr) (f : Str) (L : V → List V) : (XK → Hp → VK → Prop) → Hp → VK → Prop := fun tl H Q => tl (ErL C f L Q) H (fun _ H' => Q .non H')
/-- the facts of an own error class, gathered -/
theorem ec_mk {K : PySem.W.Frag} {mg : Str → Option Value} {x f : Str} {C fI N : Addr} {nm q : Str} {bs bm : List Value} {sn : List Str} {sub : List Value} {ab : Bool} {col : Option Bool} {dd : Option Addr} {m0 m1 m2 m3 m5 : Option Value}
    (g : mg x = some (.ref C)) (l : K.lookup C = some (PySem.excClassObj nm q C N bs bm true sn sub ab col dd m0 m1 m2 m3 m5 "ValueError.__new__")) (hb : PySem.HandSPX.refsVE bm = true)
    (sa : PySem.W.findIn K (.ref C) "__setattr__" = some (some (.builtin "object.__setattr__"))) (ga : PySem.W.findIn K (.ref C) "__getattribute__" = some (some (.builtin "BaseException.__getattribute__")))
    (gg : PySem.W.findIn K (.ref C) "__getattr__" = some none) (nf : PySem.W.findIn K (.ref C) f = some none) (ic : PySem.W.findIn K (.ref C) "__init__" = some (some (.ref fI))) (ti : PySem.W.typeIn K (.ref fI) = some (.type "function"))
    (ca : PySem.W.findIn K (.ref C) "__class__" = some (some (.builtin "object.__class__"))) (cn : PySem.W.specialIn K (.builtin "object.__class__") "__get__" = some (some (.builtin "getset_descriptor.__get__")))
    (ct : PySem.W.takesIn K (.builtin "object.__class__") = some true) (cm : PySem.W.mroIn K C (.type "object") = some true) (kp : PySem.W.keepIn K (.ref C) = true) (sb : PySem.W.subIn K (.ref C) (.type "BaseException") = some true)
    (tc : PySem.W.typeIn K (.ref C) = some (.type "type")) (hd : PySem.W.hasDictIn K C = true) (ss : PySem.W.subIn K (.ref C) (.ref C) = some true) : EC K mg x f C fI :=
  { o := ⟨⟨nm, q, N, bs, bm, sn, sub, ab, col, dd, m0, m1, m2, m3, m5, l, hb⟩, sa, sb, tc, kp⟩, xf := ⟨ga, gg, sb, hd⟩, ec := ⟨ga, gg, sb, hd, ca, cn, ct, cm⟩, g := g, noF := nf, te := PySem.W.exm_ref sb hd tc ss, iC := ic, tI := ti }
section
variable {X : Cx} {K : PySem.W.Frag} {σ : L2.St} {H : Hp} {Q : VK} {D : Ends} {n : L2.St → Hp → Prop} {r : VK} {b c : L2.St → Hp → Prop}
theorem rd_xf {C a : Addr} {cls : Value} {d : Option Addr} {f : Str} {te : TE} (h : te σ H fun x H1 => x = .ref a ∧ cls = .ref C ∧ ∃ (dd : Addr) (fs : List (Str × V)) (v : V), d = some dd ∧ H1 dd = some (.xd fs) ∧ fs.lookup f = some v ∧ Q v H1) : tXf a cls d C f te σ H Q := h
theorem rd_lam {T : List (Addr × Str)} {TT : (XK → Hp → VK → Prop) → Hp → VK → Prop} {t : XK → TE} (h1 : Tabs T H) (h2 : ∀ H1, ExtN H H1 → Tabs T H1 → TT (fun E H' Q' => t E σ H' Q') H1 Q) : tLam T TT t σ H Q := ⟨h1, h2⟩
theorem rd_told {C : Addr} {f : Str} {L : V → List V} {tl : XK → Hp → VK → Prop} (h : tl (ErL C f L Q) H (fun _ H' => Q .non H')) : TTnone C f L tl H Q := h
theorem rd_catG {a b : Addr} {xs ys : List V} (h1 : H a = some (.lst xs)) (h2 : H b = some (.lst ys)) (n : xs.length + ys.length ≤ 1000) (q : ∀ p, H p = none → Q (.ref p) (upd H p (.lst (xs ++ ys)))) : rCat (.ref a) (.ref b) H Q :=
  ⟨a, b, _, _, rfl, rfl, h1, h2, Nat.le_of_lt (small1000 n), fun p hp => q p hp⟩
end
end Z
namespace Z
open PySem PySem.Spec PyProof.Rows L2
def geZ : V → Bool
  | .int i => decide (0 ≤ i)
  | _ => false
def tt (u v : V) : Bool := isI u && (geZ u && inI v 1 15)
inductive TR (H : Hp) : V → Bool → Prop where
  | flat {x : V} (h : scalarV x = true) : TR H x false
  | lst {a : Addr} {xs : List V} (h : H a = some (.lst xs)) : TR H (.ref a) false
  | tupn {a : Addr} {xs : List V} (h : H a = some (.tup xs)) (n : xs.length ≠ 2) : TR H (.ref a) false
  | tup2 {a : Addr} {u v : V} (h : H a = some (.tup [u, v])) (hu : TyV H u) (hv : TyV H v) : TR H (.ref a) (tt u v)
inductive TSR (H : Hp) : V → Bool → Prop where
  | flat {x : V} (h : scalarV x = true) : TSR H x false
  | lst {a : Addr} {xs : List V} (h : H a = some (.lst xs)) : TSR H (.ref a) false
  | tupn {a : Addr} {xs : List V} (h : H a = some (.tup xs)) (n : xs.length ≠ 2) : TSR H (.ref a) false
  | tup2 {a : Addr} {u v : V} {b1 b2 : Bool} (h : H a = some (.tup [u, v])) (hu : TR H u b1) (hv : TR H v b2) : TSR H (.ref a) (b1 && b2)
theorem tt_int {t : Int} {v : V} : tt (.int t) v = (decide (0 ≤ t) && inI v 1 15) := rfl
/-- the parameter of a table -/
def par (t c : Int) : Nat := Builtin.Int.intBits ((if 1 > (t + c - 1) / c then 1 else (t + c - 1) / c) - 1)
theorem par_le {t c : Int} (ht : 0 ≤ t) (hc : 1 ≤ c) (hb : t < 10 ^ 60) (hc2 : c ≤ 15) : par t c ≤ 300 := by
  have d1 := Int.mul_ediv_self_le (x := t + c - 1) (k := c) (by omega)
  unfold par
  rw [PySem.intBits_le_iff]
  have e : (10 : Int) ^ 60 + 20 < 2 ^ 300 := by decide
  have q0 : 0 ≤ (t + c - 1) / c := Int.ediv_nonneg (by omega) (by omega)
  have q1 : (t + c - 1) / c ≤ t + c - 1 := Int.ediv_le_self _ (by omega)
  generalize (t + c - 1) / c = q at q0 q1 ⊢
  have e2 : ((2 ^ 300 : Nat) : Int) = 2 ^ 300 := by norm_cast
  split <;> omega
/-- drawn rows: drawn values, their numbers not too long -/
def smallV : V → Prop
  | .int i => i.natAbs < 10 ^ 58
  | _ => True
def RV (p : Addr) (H : Hp) (v : V) : Prop := scalarV v = true ∨ ∃ a xs, v = .ref a ∧ a ≠ p ∧ (H a = some (.lst xs) ∨ H a = some (.tup xs)) ∧ (∀ x ∈ xs, scalarV x = true) ∧ ∀ x ∈ xs, smallV x
section
variable {p : Addr} {H H' : Hp} {v : V}
theorem RV.sc (h : scalarV v = true) : RV p H v := .inl h
theorem RV.lst {a : Addr} {xs : List V} (n : a ≠ p) (h : H a = some (.lst xs)) (s : ∀ x ∈ xs, scalarV x = true) (t : ∀ x ∈ xs, smallV x) : RV p H (.ref a) := .inr ⟨a, xs, rfl, n, .inl h, s, t⟩
theorem RV.tup {a : Addr} {xs : List V} (n : a ≠ p) (h : H a = some (.tup xs)) (s : ∀ x ∈ xs, scalarV x = true) (t : ∀ x ∈ xs, smallV x) : RV p H (.ref a) := .inr ⟨a, xs, rfl, n, .inr h, s, t⟩
theorem flat_ty {x : V} (h : scalarV x = true) : TyV H x := by cases x <;> first | exact True.intro | exact Bool.noConfusion h
/-- what a drawn row is as a table: no table, or two numbers in their limits -/
theorem RV.tr (h : RV p H v) : ∃ b, TR H v b ∧ (b = true → ∃ a t c, v = .ref a ∧ H a = some (.tup [.int t, .int c]) ∧ 0 ≤ t ∧ t < 10 ^ 60 ∧ 1 ≤ c ∧ c ≤ 15) := by
  rcases h with h | ⟨a, xs, rfl, n, h | h, s, t⟩
  · exact ⟨false, .flat h, fun z => Bool.noConfusion z⟩
  · exact ⟨false, .lst h, fun z => Bool.noConfusion z⟩
  · by_cases hl : xs.length = 2
    · obtain ⟨u, w, rfl⟩ := len2 hl
      have su := s u (by simp)
      have sw := s w (by simp)
      refine ⟨_, .tup2 h (flat_ty su) (flat_ty sw), fun z => ?_⟩
      unfold tt at z
      simp only [Bool.and_eq_true] at z
      obtain ⟨z1, z2, z3⟩ := z
      obtain ⟨i, rfl⟩ := isI_yes z1
      obtain ⟨j, rfl, j1, j2⟩ := inI_yes z3
      have hi : i.natAbs < 10 ^ 58 := t (.int i) (by simp)
      have h0 : 0 ≤ i := of_decide_eq_true z2
      exact ⟨a, i, j, rfl, h, h0, by omega, j1, j2⟩
    · exact ⟨false, .tupn h hl, fun z => Bool.noConfusion z⟩
theorem RV.ne {a : Addr} (h : RV p H (.ref a)) : a ≠ p := by
  rcases h with h | ⟨b, xs, e, n, _⟩
  · exact Bool.noConfusion h
  · cases e
    exact n
theorem RV.tsr (h : RV p H v) : TSR H v false := by
  rcases h with h | ⟨a, xs, rfl, n, h | h, s, t⟩
  · exact .flat h
  · exact .lst h
  · by_cases hl : xs.length = 2
    · obtain ⟨u, w, rfl⟩ := len2 hl
      exact .tup2 (b1 := false) (b2 := false) h (.flat (s u (by simp))) (.flat (s w (by simp)))
    · exact .tupn h hl
end
theorem tupV_K {K : PySem.W.Frag} {a : Addr} {od : Option Addr} {its : Array Value} {n : Nat} {sl : Array (Option Value)} {xs : List V} (l : K.lookup a = some ⟨.type "tuple", od, .seq its n, sl⟩) (hs : its.size ≤ sizeLine) (hv : Vals xs its.toList) : ∀ H, TupV K H a xs := fun H => ⟨seqT_K l hs hv H, .kTuple l rfl⟩
def spRow : Sp := fun vs H Q _ => ∃ p, vs = [.ref p] ∧ Pool H p ∧ ∀ v H', RV p H' v → Pool H' p → Kp p H H' → Q v H'
theorem use_row {p : Addr} {H : Hp} {Q : VK} {E : XK} (h : Pool H p) (q : ∀ v H', RV p H' v → Pool H' p → Kp p H H' → Q v H') : spRow ([.ref p] ++ []) H Q E := ⟨p, rfl, h, q⟩
section
variable {K : PySem.W.Frag} {σ : L2.St} {H : Hp} {Q : VK}
theorem rd_bits {te : TE} (h : te σ H fun x H1 => ∃ i, x = .int i ∧ Q (.int (Builtin.Int.intBits i : Nat)) H1) : tBits te σ H Q := h
end
end Z
namespace Z
open PySem PySem.Spec PyProof.Rows L2
/-- joints: place, width, shape -/
abbrev Jo := Nat × Nat × Nat
/-- the steps of a folding: shape, left, right -/
def prs1 (j : Jo) (i : Nat) : List (Nat × Nat × Nat) := (List.range i).map fun i => (j.2.2, j.1 - 1 - i, j.1 + i)
def prs (js : List Jo) : List (Nat × Nat × Nat) := js.flatMap fun j => prs1 j j.2.1
def stp (f : Int → Int → Int → Int × Int) (xs : List Int) (t : Nat × Nat × Nat) : List Int := (xs.set t.2.1 (f t.1 (xs.getD t.2.1 0) (xs.getD t.2.2 0)).1).set t.2.2 (f t.1 (xs.getD t.2.1 0) (xs.getD t.2.2 0)).2
def turnL (f : Int → Int → Int → Int × Int) (xs : List Int) (js : List Jo) : List Int := (prs js).foldl (stp f) xs
/-- the joints have room: behind the place b of a joint of the width wb, in a list of n values -/
def Rm (n : Nat) : Nat → Nat → List Jo → Prop
  | _, _, [] => True
  | b, wb, j :: r => b < j.1 ∧ j.1 < n ∧ b + wb + j.2.1 ≤ j.1 ∧ j.1 + j.2.1 ≤ n ∧ j.2.1 ≤ 8 ∧ j.2.2 ≤ 3 ∧ (j.2.1 = 0 → j.2.2 = 0) ∧ Rm n j.1 j.2.1 r
/-- triples apart -/
def Ap (n : Nat) (ts : List (Nat × Nat × Nat)) : Prop := (∀ t ∈ ts, t.2.1 < n ∧ t.2.2 < n ∧ t.2.1 ≠ t.2.2) ∧ ts.Pairwise fun t u => t.2.1 ≠ u.2.1 ∧ t.2.1 ≠ u.2.2 ∧ t.2.2 ≠ u.2.1 ∧ t.2.2 ≠ u.2.2
theorem stp_length {f : Int → Int → Int → Int × Int} {xs : List Int} {t : Nat × Nat × Nat} : (stp f xs t).length = xs.length := by simp [stp]
theorem foldl_length {f : Int → Int → Int → Int × Int} : ∀ (ts : List (Nat × Nat × Nat)) (xs : List Int), (ts.foldl (stp f) xs).length = xs.length
  | [], _ => rfl
  | t :: r, xs => by rw [List.foldl_cons, foldl_length r, stp_length]
theorem turnL_length {f : Int → Int → Int → Int × Int} {xs : List Int} {js : List Jo} : (turnL f xs js).length = xs.length := foldl_length _ _
theorem stp_out {f : Int → Int → Int → Int × Int} {xs : List Int} {t : Nat × Nat × Nat} {k : Nat} (h1 : t.2.1 ≠ k) (h2 : t.2.2 ≠ k) : (stp f xs t)[k]? = xs[k]? := by
  unfold stp
  rw [List.getElem?_set_ne h2, List.getElem?_set_ne h1]
theorem get_out {f : Int → Int → Int → Int × Int} : ∀ (ts : List (Nat × Nat × Nat)) (xs : List Int) (k : Nat), (∀ t ∈ ts, t.2.1 ≠ k ∧ t.2.2 ≠ k) → (ts.foldl (stp f) xs)[k]? = xs[k]?
  | [], _, _, _ => rfl
  | t :: r, xs, k, h => by
    rw [List.foldl_cons, get_out r _ k fun u hu => h u (List.mem_cons_of_mem _ hu), stp_out (h t List.mem_cons_self).1 (h t List.mem_cons_self).2]
theorem getD_of {xs ys : List Int} {k : Nat} (h : xs[k]? = ys[k]?) : xs.getD k 0 = ys.getD k 0 := by
  rw [List.getD_eq_getElem?_getD, List.getD_eq_getElem?_getD, h]
theorem get_in {f : Int → Int → Int → Int × Int} {n : Nat} : ∀ (ts : List (Nat × Nat × Nat)) (xs : List Int), xs.length = n → Ap n ts → ∀ t ∈ ts,
    (ts.foldl (stp f) xs)[t.2.1]? = some (f t.1 (xs.getD t.2.1 0) (xs.getD t.2.2 0)).1 ∧ (ts.foldl (stp f) xs)[t.2.2]? = some (f t.1 (xs.getD t.2.1 0) (xs.getD t.2.2 0)).2
  | [], _, _, _, t, h => absurd h List.not_mem_nil
  | u :: r, xs, hn, ⟨h1, h2⟩, t, ht => by
    obtain ⟨h3, h4⟩ := List.pairwise_cons.mp h2
    have hu := h1 u List.mem_cons_self
    rw [List.foldl_cons]
    rcases List.mem_cons.mp ht with rfl | ht
    · rw [get_out r _ _ fun v hv => ⟨(h3 v hv).1.symm, (h3 v hv).2.1.symm⟩, get_out r _ _ fun v hv => ⟨(h3 v hv).2.2.1.symm, (h3 v hv).2.2.2.symm⟩]
      unfold stp
      refine ⟨?_, ?_⟩
      · rw [List.getElem?_set_ne (Ne.symm hu.2.2), List.getElem?_set_self (by omega)]
      · rw [List.getElem?_set_self (by rw [List.length_set]; omega)]
    · have ih := get_in (f := f) r (stp f xs u) (by rw [stp_length, hn]) ⟨fun v hv => h1 v (List.mem_cons_of_mem _ hv), h4⟩ t ht
      have a := h3 t ht
      rw [getD_of (stp_out (f := f) (xs := xs) a.1 a.2.2.1), getD_of (stp_out (f := f) (xs := xs) a.2.1 a.2.2.2)] at ih
      exact ih
theorem prs_snoc (js : List Jo) (j : Jo) : prs (js ++ [j]) = prs js ++ prs1 j j.2.1 := by simp [prs]
theorem prs1_succ (j : Jo) (i : Nat) : prs1 j (i + 1) = prs1 j i ++ [(j.2.2, j.1 - 1 - i, j.1 + i)] := by simp [prs1, List.range_succ]
theorem mem_prs1 {j : Jo} {i : Nat} {t : Nat × Nat × Nat} : t ∈ prs1 j i ↔ ∃ k, k < i ∧ t = (j.2.2, j.1 - 1 - k, j.1 + k) := by
  simp only [prs1, List.mem_map, List.mem_range]
  exact ⟨fun ⟨k, h, e⟩ => ⟨k, h, e.symm⟩, fun ⟨k, h, e⟩ => ⟨k, h, e.symm⟩⟩
/-- each step lies within its joint's room -/
theorem rm_mem {n : Nat} : ∀ (js : List Jo) (b wb : Nat), Rm n b wb js → ∀ t ∈ prs js, b + wb ≤ t.2.1 ∧ t.2.1 < t.2.2 ∧ t.2.2 < n
  | [], _, _, _, t, h => absurd h List.not_mem_nil
  | j :: r, b, wb, ⟨a1, a2, a3, a4, a5, a6, a7, a8⟩, t, h => by
    have e : prs (j :: r) = prs1 j j.2.1 ++ prs r := by simp [prs]
    rw [e] at h
    rcases List.mem_append.mp h with h | h
    · obtain ⟨k, hk, rfl⟩ := mem_prs1.mp h
      dsimp only
      omega
    · have := rm_mem r j.1 j.2.1 a8 t h
      omega
theorem rm_ap {n : Nat} : ∀ (js : List Jo) (b wb : Nat), Rm n b wb js → Ap n (prs js)
  | [], _, _, _ => ⟨fun t h => absurd h List.not_mem_nil, List.Pairwise.nil⟩
  | j :: r, b, wb, h => by
    have hm := rm_mem (j :: r) b wb h
    refine ⟨fun t ht => ?_, ?_⟩
    · have := hm t ht
      omega
    · obtain ⟨a1, a2, a3, a4, a5, a6, a7, a8⟩ := h
      have e : prs (j :: r) = prs1 j j.2.1 ++ prs r := by simp [prs]
      rw [e]
      refine List.pairwise_append.mpr ⟨?_, (rm_ap r j.1 j.2.1 a8).2, fun t ht u hu => ?_⟩
      · unfold prs1
        refine List.pairwise_map.mpr (List.Pairwise.imp_of_mem (fun {x y} hx hy hxy => ?_) (List.nodup_range))
        have hx' := List.mem_range.mp hx
        have hy' := List.mem_range.mp hy
        dsimp only
        omega
      · obtain ⟨k, hk, rfl⟩ := mem_prs1.mp ht
        have := rm_mem r j.1 j.2.1 a8 u hu
        dsimp only
        omega
/-- the place that is folded with a place -/
def prt : List Jo → Nat → Option Nat
  | [], _ => none
  | j :: r, k => if j.1 ≤ k + j.2.1 ∧ k < j.1 + j.2.1 then some (2 * j.1 - 1 - k) else prt r k
theorem prt_none : ∀ (js : List Jo) (k : Nat), prt js k = none → (∀ j ∈ js, j.2.1 ≤ j.1) → ∀ t ∈ prs js, t.2.1 ≠ k ∧ t.2.2 ≠ k
  | [], _, _, _, t, h => absurd h List.not_mem_nil
  | j :: r, k, hp, hw, t, h => by
    have e : prs (j :: r) = prs1 j j.2.1 ++ prs r := by simp [prs]
    rw [e] at h
    unfold prt at hp
    split at hp
    · cases hp
    · rename_i c
      rcases List.mem_append.mp h with h | h
      · obtain ⟨i, hi, rfl⟩ := mem_prs1.mp h
        have := hw j List.mem_cons_self
        dsimp only
        omega
      · exact prt_none r k hp (fun j hj => hw j (List.mem_cons_of_mem _ hj)) t h
theorem prt_some : ∀ (js : List Jo) (k m : Nat), prt js k = some m → (∀ j ∈ js, j.2.1 ≤ j.1 ∧ 0 < j.1) → ∃ t ∈ prs js, (t.2.1 = k ∧ t.2.2 = m) ∨ (t.2.2 = k ∧ t.2.1 = m)
  | [], _, _, h, _ => by cases h
  | j :: r, k, m, hp, hw => by
    have e : prs (j :: r) = prs1 j j.2.1 ++ prs r := by simp [prs]
    have hj := hw j List.mem_cons_self
    unfold prt at hp
    split at hp
    · rename_i c
      have em := Option.some.inj hp
      by_cases c2 : k < j.1
      · refine ⟨(j.2.2, j.1 - 1 - (j.1 - 1 - k), j.1 + (j.1 - 1 - k)), by rw [e]; exact List.mem_append_left _ (mem_prs1.mpr ⟨j.1 - 1 - k, by omega, rfl⟩), .inl ⟨?_, ?_⟩⟩
        · dsimp only; omega
        · dsimp only; omega
      · refine ⟨(j.2.2, j.1 - 1 - (k - j.1), j.1 + (k - j.1)), by rw [e]; exact List.mem_append_left _ (mem_prs1.mpr ⟨k - j.1, by omega, rfl⟩), .inr ⟨?_, ?_⟩⟩
        · dsimp only; omega
        · dsimp only; omega
    · obtain ⟨t, ht, q⟩ := prt_some r k m hp fun j hj => hw j (List.mem_cons_of_mem _ hj)
      exact ⟨t, by rw [e]; exact List.mem_append_right _ ht, q⟩
theorem rm_all {n : Nat} : ∀ (js : List Jo) (b wb : Nat), Rm n b wb js → ∀ j ∈ js, j.2.1 ≤ j.1 ∧ 0 < j.1
  | [], _, _, _, j, h => absurd h List.not_mem_nil
  | k :: r, b, wb, ⟨a1, a2, a3, a4, a5, a6, a7, a8⟩, j, h => by
    rcases List.mem_cons.mp h with rfl | h
    · omega
    · exact rm_all r k.1 k.2.1 a8 j h
theorem turn_none {f : Int → Int → Int → Int × Int} {n k : Nat} {xs : List Int} {js : List Jo} (h : Rm n 0 0 js) (hp : prt js k = none) : (turnL f xs js)[k]? = xs[k]? :=
  get_out _ _ _ (prt_none js k hp fun j hj => (rm_all js 0 0 h j hj).1)
/-- the joint before the i-th one -/
def bef (b wb : Nat) : List Jo → Nat → Nat × Nat
  | _, 0 => (b, wb)
  | [], _ + 1 => (0, 0)
  | j :: r, i + 1 => bef j.1 j.2.1 r i
theorem rm_at {n : Nat} : ∀ (js : List Jo) (b wb : Nat), Rm n b wb js → ∀ (i : Nat) (j : Jo), js[i]? = some j → (bef b wb js i).1 < j.1 ∧ j.1 < n ∧ (bef b wb js i).1 + (bef b wb js i).2 + j.2.1 ≤ j.1 ∧ j.1 + j.2.1 ≤ n ∧ j.2.1 ≤ 8 ∧ j.2.2 ≤ 3 ∧ (j.2.1 = 0 → j.2.2 = 0)
  | [], _, _, _, i, j, h => by simp at h
  | k :: r, b, wb, ⟨a1, a2, a3, a4, a5, a6, a7, a8⟩, 0, j, h => by
    have e : k = j := Option.some.inj h
    subst e
    exact ⟨a1, a2, a3, a4, a5, a6, a7⟩
  | k :: r, b, wb, ⟨a1, a2, a3, a4, a5, a6, a7, a8⟩, i + 1, j, h => rm_at r k.1 k.2.1 a8 i j h
theorem bef_succ : ∀ (js : List Jo) (b wb i : Nat) (j : Jo), js[i]? = some j → bef b wb js (i + 1) = (j.1, j.2.1)
  | [], _, _, i, j, h => by simp at h
  | k :: r, b, wb, 0, j, h => by
    have e : k = j := Option.some.inj h
    subst e
    cases r <;> rfl
  | k :: r, b, wb, i + 1, j, h => bef_succ r k.1 k.2.1 i j h
def JsAt (H : Hp) (vs : List V) (js : List Jo) : Prop := vs.length = js.length ∧ ∀ (i : Nat) (v : V), vs[i]? = some v → ∃ (j : Jo) (a q : Addr), js[i]? = some j ∧ v = .ref a ∧ H a = some (.tup [.int (j.1 : Nat), .ref q]) ∧ H q = some (.tup [.int (j.2.1 : Nat), .int (j.2.2 : Nat)])
theorem JsAt.kp {p : Addr} {H H' : Hp} {vs : List V} {js : List Jo} (k : Kp p H H') (hp : ∃ xs, H p = some (.lst xs)) (h : JsAt H vs js) : JsAt H' vs js := ⟨h.1, fun i v e => by
  obtain ⟨j, a, q, e1, e2, e3, e4⟩ := h.2 i v e
  obtain ⟨xs, hp⟩ := hp
  exact ⟨j, a, q, e1, e2, k _ _ (fun z => by rw [z, hp] at e3; cases e3) e3, k _ _ (fun z => by rw [z, hp] at e4; cases e4) e4⟩⟩
theorem JsAt.same {H H' : Hp} {vs : List V} {js : List Jo} (k : Same H H') (h : JsAt H vs js) : JsAt H' vs js := ⟨h.1, fun i v e => by
  obtain ⟨j, a, q, e1, e2, e3, e4⟩ := h.2 i v e
  exact ⟨j, a, q, e1, e2, k _ _ e3, k _ _ e4⟩⟩
theorem jt_ok {j : Jo} (h1 : j.2.1 ≤ 8) (h2 : j.2.2 ≤ 3) (h3 : j.2.1 = 0 → j.2.2 = 0) : jt (.int (j.2.1 : Nat)) (.int (j.2.2 : Nat)) = true := by
  show (decide _ && (decide _ && (decide _ || decide _))) = true
  rw [decide_eq_true (by omega), decide_eq_true (by omega)]
  by_cases h : j.2.1 = 0
  · rw [h3 h, h]; rfl
  · rw [decide_eq_true (show (0 : Int) < (j.2.1 : Nat) by omega)]; rfl
def spSound : Sp := fun vs H Q _ => ∃ (a : Addr) (ns : List Int), vs = [.ref a] ∧ H a = some (.lst (ns.map V.int)) ∧ ∀ H', Same H H' → Q .non H'
theorem use_sound {a : Addr} {ns : List Int} {H : Hp} {Q : VK} {E : XK} (h : H a = some (.lst (ns.map V.int))) (q : ∀ H', Same H H' → Q .non H') : spSound ([.ref a] ++ []) H Q E := ⟨a, ns, rfl, h, q⟩
def spPlaced : Sp := fun vs H Q _ => ∃ (a q : Addr) (j : Jo), vs = [.ref a] ∧ H a = some (.tup [.int (j.1 : Nat), .ref q]) ∧ H q = some (.tup [.int (j.2.1 : Nat), .int (j.2.2 : Nat)]) ∧ j.2.1 ≤ 8 ∧ j.2.2 ≤ 3 ∧ (j.2.1 = 0 → j.2.2 = 0) ∧ Q (.bl true) H
def spRoom : Sp := fun vs H Q _ => ∃ (a q : Addr) (j : Jo) (b wb n : Nat), vs = [.ref a, .int (b : Nat), .int (wb : Nat), .int (n : Nat)] ∧ H a = some (.tup [.int (j.1 : Nat), .ref q]) ∧ H q = some (.tup [.int (j.2.1 : Nat), .int (j.2.2 : Nat)]) ∧ b < j.1 ∧ j.1 < n ∧ b + wb + j.2.1 ≤ j.1 ∧ j.1 + j.2.1 ≤ n ∧ Q (.bl true) H
def spJoints : Sp := fun vs H Q _ => ∃ (a : Addr) (refs : List V) (js : List Jo) (n : Nat), vs = [.ref a, .int (n : Nat)] ∧ H a = some (.lst refs) ∧ JsAt H refs js ∧ Rm n 0 0 js ∧ ∀ H', Same H H' → Q .non H'
theorem use_joints {a : Addr} {refs : List V} {js : List Jo} {n : Nat} {H : Hp} {Q : VK} {E : XK} (h1 : H a = some (.lst refs)) (h2 : JsAt H refs js) (h3 : Rm n 0 0 js) (q : ∀ H', Same H H' → Q .non H') : spJoints ([.ref a, .int (n : Nat)] ++ []) H Q E := ⟨a, refs, js, n, rfl, h1, h2, h3, q⟩
def spTurned (f : Int → Int → Int → Int × Int) (g : Addr) : Sp := fun vs H Q _ => ∃ (a b : Addr) (xs : List Int) (refs : List V) (js : List Jo), vs = [.ref a, .ref b, .ref g] ∧ H a = some (.lst (xs.map V.int)) ∧ H b = some (.lst refs) ∧ JsAt H refs js ∧ Rm xs.length 0 0 js ∧ xs.length ≤ 10000 ∧
  ∀ p H', H p = none → Same H H' → H' p = some (.lst ((turnL f xs js).map V.int)) → Q (.ref p) H'
def spFolds (f : Int → Int → Int → Int × Int) : Sp := fun vs H Q _ => ∃ (a b : Addr) (xs : List Int) (refs : List V) (js : List Jo), vs = [.ref a, .ref b] ∧ H a = some (.lst (xs.map V.int)) ∧ H b = some (.lst refs) ∧ JsAt H refs js ∧ Rm xs.length 0 0 js ∧ xs.length ≤ 10000 ∧
  ∀ p H', H p = none → Same H H' → H' p = some (.lst ((turnL f xs js).map V.int)) → Q (.ref p) H'
theorem use_folds {f : Int → Int → Int → Int × Int} {a b : Addr} {xs : List Int} {refs : List V} {js : List Jo} {H : Hp} {Q : VK} {E : XK} (h1 : H a = some (.lst (xs.map V.int))) (h2 : H b = some (.lst refs)) (h3 : JsAt H refs js) (h4 : Rm xs.length 0 0 js) (h5 : xs.length ≤ 10000)
    (q : ∀ p H', H p = none → Same H H' → H' p = some (.lst ((turnL f xs js).map V.int)) → Q (.ref p) H') : spFolds f ([.ref a, .ref b] ++ []) H Q E := ⟨a, b, xs, refs, js, rfl, h1, h2, h3, h4, h5, q⟩
theorem rd_callL {σ : L2.St} {H : Hp} {Q : VK} {i : Nat} {f : Addr} {sp : Sp} {dvs : List V} {E : XK} {t : TA} (e : σ[i]? = some (some (.ref f))) (h : t σ H fun vs H1 => sp (vs ++ dvs) H1 Q E) : tCallL i f sp dvs E t σ H Q := ⟨e, h⟩
theorem map_stp {f : Int → Int → Int → Int × Int} {ys : List Int} {t : Nat × Nat × Nat} : ((ys.map V.int).set t.2.1 (.int (f t.1 (ys.getD t.2.1 0) (ys.getD t.2.2 0)).1)).set t.2.2 (.int (f t.1 (ys.getD t.2.1 0) (ys.getD t.2.2 0)).2) = (stp f ys t).map V.int := by
  unfold stp
  rw [List.map_set, List.map_set]
theorem at_getD {ys : List Int} {l : Nat} {z : Int} (h : l < ys.length) (e : z = (l : Int)) : atI (ys.map V.int) z = some (.int (ys.getD l 0)) := by
  rw [e]
  refine at_ints ?_
  rw [List.getD_eq_getElem?_getD, List.getElem?_eq_getElem h]
  rfl
theorem ix_of {n l : Nat} {z : Int} (h : l < n) (e : z = (l : Int)) : ixN n z = some l := by
  rw [e]
  exact ixN_nat h
section
variable {K : PySem.W.Frag} {H : Hp} {Q : VK}
theorem isiT_lst {a t : Addr} {xs : List V} (h : H a = some (.lst xs)) (ht : H t = some (.tup [.ty "list", .ty "tuple"])) (q : Q (.bl true) H) : rIsiT K [.ref a, .ref t] H Q :=
  ⟨.ref a, t, _, .type "list", [.type "list", .type "tuple"], true, rfl, ht, .cons (.ty "list") (.cons (.ty "tuple") .nil), .base (.lst h), rfl, q⟩
end
theorem rd_appG {a : Addr} {xs : List V} {v : V} {H : Hp} {Q : VK} (h : H a = some (.lst xs)) (n : xs.length ≤ 1000) (q : Q .non (upd H a (.lst (xs ++ [v])))) : rAppend (.ref a) [v] H Q := ⟨a, _, _, rfl, rfl, h, small1000 n, q⟩
theorem JsAt.snoc {H : Hp} {vs : List V} {js : List Jo} {j : Jo} {a q : Addr} (h : JsAt H vs js) (e1 : H a = some (.tup [.int (j.1 : Nat), .ref q])) (e2 : H q = some (.tup [.int (j.2.1 : Nat), .int (j.2.2 : Nat)])) : JsAt H (vs ++ [.ref a]) (js ++ [j]) := by
  refine ⟨by simp [h.1], fun i v hv => ?_⟩
  by_cases c : i < vs.length
  · rw [List.getElem?_append_left c] at hv
    obtain ⟨j', a', q', f1, f2, f3, f4⟩ := h.2 i v hv
    exact ⟨j', a', q', by rw [List.getElem?_append_left (by rw [← h.1]; exact c)]; exact f1, f2, f3, f4⟩
  · have hi : i = vs.length := by
      have := (List.getElem?_eq_some_iff.mp hv).1
      simp at this
      omega
    subst hi
    rw [List.getElem?_append_right (Nat.le_refl _), Nat.sub_self] at hv
    have ev : V.ref a = v := Option.some.inj hv
    subst ev
    refine ⟨j, a, q, ?_, rfl, e1, e2⟩
    rw [h.1, List.getElem?_append_right (Nat.le_refl _), Nat.sub_self]
    rfl
def KpL (l : List Addr) (H H' : Hp) : Prop := ∀ a o, a ∉ l → H a = some o → H' a = some o
section
variable {l : List Addr} {p q : Addr} {H H' H1 H2 : Hp} {o : HO}
theorem KpL.refl : KpL l H H := fun _ _ _ h => h
theorem KpL.trans (a : KpL l H H1) (b : KpL l H1 H2) : KpL l H H2 := fun c o n h => b c o n (a c o n h)
theorem KpL.ofS (s : Same H H') : KpL l H H' := fun a o _ h => s a o h
theorem KpL.ofK (m : p ∈ l) (k : Kp p H H') : KpL l H H' := fun a o n h => k a o (fun z => n (by rw [z]; exact m)) h
theorem KpL.new (n : H q = none) : KpL l H (upd H q o) := .ofS (same_new n)
theorem KpL.at (m : q ∈ l) : KpL l H (upd H q o) := fun a x n h => by
  have ne : a ≠ q := fun z => n (by rw [z]; exact m)
  rw [upd_ne ne]
  exact h
theorem KpL.mono {m : List Addr} (h : ∀ a ∈ l, a ∈ m) (k : KpL l H H') : KpL m H H' := fun a o n e => k a o (fun z => n (h a z)) e
theorem KpL.free (k : KpL l H H') (n : H' q = none) (m : q ∉ l) : H q = none := by
  cases e : H q with
  | none => rfl
  | some o => rw [k _ _ m e] at n; cases n
end
end Z
namespace Z
open PySem PySem.Spec PyProof.Rows L2
def LT (H : Hp) (a : Addr) (xs : List V) : Prop := H a = some (.lst xs) ∨ H a = some (.tup xs)
section
variable {K : PySem.W.Frag} {σ : L2.St} {H H' : Hp} {Q : VK} {g : TG} {tb : TS} {D : Ends} {a : Addr} {xs : List V}
theorem LT.same (s : Same H H') (h : LT H a xs) : LT H' a xs := h.imp (s _ _) (s _ _)
theorem LT.l (h : H a = some (.lst xs)) : LT H a xs := .inl h
theorem LT.ne {q : Addr} (h : LT H a xs) (n : H q = none) : a ≠ q := by
  rcases h with h | h
  · exact ne_of_none h n
  · exact ne_of_none h n
theorem rd_cut {t u : TS} (M : L2.St → Hp → Prop) (h1 : t { D with nx := M } σ H) (h2 : ∀ σ' H', M σ' H' → u D σ' H') : C8.tCut t u D σ H := ⟨M, h1, h2⟩
end
theorem getD_some {xs : List Int} {k : Nat} {z : Int} (h : xs[k]? = some z) : xs.getD k 0 = z := by rw [List.getD_eq_getElem?_getD, h]; rfl
theorem get_getD {xs : List Int} {k : Nat} (h : k < xs.length) : xs[k]? = some (xs.getD k 0) := by
  rw [List.getD_eq_getElem?_getD, List.getElem?_eq_getElem h]
  rfl
theorem JsAt.tail {H : Hp} {v : V} {vs : List V} {j : Jo} {js : List Jo} (h : JsAt H (v :: vs) (j :: js)) : JsAt H vs js := ⟨Nat.succ.inj h.1, fun i w e => h.2 (i + 1) w e⟩
def rToTup (K : PySem.W.Frag) : List V → Hp → VK → Prop := fun xs H Q => ∃ p ys, xs = [.ref p] ∧ ((SqL K H p ys ∧ ∀ l, H l = none → Q (.ref l) (upd H l (.tup ys))) ∨ (SqT K H p ys ∧ Q (.ref p) H))
theorem cTuple {X : Cx} : CallR X (.type "tuple") (rToTup X.K) := call_tuple_of
theorem rd_tupL {K : PySem.W.Frag} {H : Hp} {Q : VK} {p : Addr} {xs : List V} (h : SqL K H p xs) (q : ∀ l, H l = none → Q (.ref l) (upd H l (.tup xs))) : rToTup K [.ref p] H Q := ⟨p, xs, rfl, .inl ⟨h, q⟩⟩
end Z
namespace Z
open PySem PySem.Spec PyProof.Rows L2
/-- the last k binary digits of u, as signs -/
def lowB (u : Nat) : Nat → List Nat
  | 0 => []
  | k + 1 => lowB (u / 2) k ++ [48 + u % 2]
/-- the number of signs -/
def valB (l : List Nat) : Nat := l.foldl (fun a c => 2 * a + (c - 48)) 0
theorem lowB_length (u : Nat) : ∀ k, (lowB u k).length = k
  | 0 => rfl
  | k + 1 => by
    show (lowB (u / 2) k ++ [48 + u % 2]).length = k + 1
    rw [List.length_append, lowB_length (u / 2) k]
    rfl
theorem lowB_bin : ∀ (k u : Nat), ∀ c ∈ lowB u k, c = 48 ∨ c = 49
  | 0, _, c, h => absurd h List.not_mem_nil
  | k + 1, u, c, h => by
    rcases List.mem_append.mp h with h | h
    · exact lowB_bin k (u / 2) c h
    · rw [List.mem_singleton.mp h]
      omega
theorem valB_snoc (l : List Nat) (c : Nat) : valB (l ++ [c]) = 2 * valB l + (c - 48) := by
  unfold valB
  rw [List.foldl_append]
  rfl
theorem valB_lowB : ∀ k u : Nat, valB (lowB u k) = u % 2 ^ k
  | 0, u => by
    show 0 = u % 1
    omega
  | k + 1, u => by
    show valB (lowB (u / 2) k ++ [48 + u % 2]) = _
    rw [valB_snoc, valB_lowB k (u / 2), Nat.pow_succ, Nat.mul_comm (2 ^ k) 2, Nat.mod_mul]
    omega
/-- how many binary digits -/
def nb (u : Nat) : Nat := if u = 0 then 1 else Nat.log2 u + 1
theorem nb_half {u : Nat} (h : 2 ≤ u) : nb u = nb (u / 2) + 1 := by
  unfold nb
  rw [if_neg (by omega), if_neg (by omega), Nat.log2_def, if_pos h]
theorem nb_lt (u : Nat) : u < 2 ^ nb u := by
  unfold nb
  split
  · omega
  · exact Nat.lt_log2_self
theorem nb_le {u : Nat} (h : u ≠ 0) : 2 ^ (nb u - 1) ≤ u := by
  unfold nb
  rw [if_neg h]
  exact Nat.log2_self_le h
/-- the binary digits, as Python writes them -/
def binB (u : Nat) : List Nat := lowB u (nb u)
theorem toD_two : ∀ u : Nat, (Nat.toDigits 2 u).map Char.toNat = binB u := by
  intro u
  induction u using Nat.strongRecOn with
  | _ u ih =>
    by_cases h : u < 2
    · rcases (show u = 0 ∨ u = 1 by omega) with rfl | rfl
      · decide
      · decide
    · have e : Nat.toDigits 2 u = Nat.toDigits 2 (u / 2) ++ [Nat.digitChar (u % 2)] := by
        have := Nat.toDigits_append_toDigits (b := 2) (n := u / 2) (d := u % 2) (by omega) (by omega) (by omega)
        rw [Nat.div_add_mod] at this
        rw [← this]
        congr 1
        exact Nat.toDigits_of_lt_base (by omega)
      rw [e, List.map_append, ih (u / 2) (by omega)]
      unfold binB
      rw [nb_half (u := u) (by omega)]
      show _ = lowB (u / 2) (nb (u / 2)) ++ [48 + u % 2]
      congr 1
      rcases (show u % 2 = 0 ∨ u % 2 = 1 by omega) with e | e
      · rw [e]; rfl
      · rw [e]; rfl
theorem lowB_drop (a : Nat) : ∀ (k u : Nat), (lowB u (a + k)).drop a = lowB u k
  | 0, u => List.drop_eq_nil_of_le (by rw [lowB_length]; exact Nat.le_refl _)
  | k + 1, u => by
    show (lowB (u / 2) (a + k) ++ [48 + u % 2]).drop a = lowB (u / 2) k ++ [48 + u % 2]
    rw [List.drop_append_of_le_length (by rw [lowB_length]; omega), lowB_drop a k (u / 2)]
theorem lowB_zero : ∀ a : Nat, lowB 0 a = List.replicate a 48
  | 0 => rfl
  | a + 1 => by
    show lowB 0 a ++ [48] = _
    rw [lowB_zero a, List.replicate_succ']
theorem lowB_big (a : Nat) : ∀ (j u : Nat), u < 2 ^ j → lowB u (a + j) = List.replicate a 48 ++ lowB u j
  | 0, u, h => by
    have e : u = 0 := by have : (2 : Nat) ^ 0 = 1 := rfl; omega
    subst e
    rw [lowB_zero]
    exact (List.append_nil _).symm
  | j + 1, u, h => by
    show lowB (u / 2) (a + j) ++ [48 + u % 2] = List.replicate a 48 ++ (lowB (u / 2) j ++ [48 + u % 2])
    rw [lowB_big a j (u / 2) (by rw [Nat.pow_succ] at h; omega), List.append_assoc]
theorem lowB_front : ∀ (k u : Nat), lowB u (k + 1) = (48 + u / 2 ^ k % 2) :: lowB u k
  | 0, u => by
    show [] ++ [48 + u % 2] = [48 + u / 1 % 2]
    rw [Nat.div_one]
    rfl
  | k + 1, u => by
    show lowB (u / 2) (k + 1) ++ [48 + u % 2] = (48 + u / 2 ^ (k + 1) % 2) :: (lowB (u / 2) k ++ [48 + u % 2])
    rw [lowB_front k (u / 2), Nat.div_div_eq_div_mul, Nat.pow_succ, Nat.mul_comm 2 (2 ^ k)]
    rfl
theorem nb_min {u j : Nat} (h : u < 2 ^ j) (hj : 1 ≤ j) : nb u ≤ j := by
  by_cases e : u = 0
  · unfold nb
    rw [if_pos e]
    exact hj
  · have h1 := nb_le e
    have h2 : 2 ^ (nb u - 1) < 2 ^ j := Nat.lt_of_le_of_lt h1 h
    have h3 := (Nat.pow_lt_pow_iff_right (by decide : 1 < 2)).mp h2
    omega
theorem nb_pos (u : Nat) : 1 ≤ nb u := by
  unfold nb
  split <;> omega
theorem binB_length (u : Nat) : (binB u).length = nb u := lowB_length _ _
/-- the last k signs of the digits, filled up with zeros -/
theorem low_fill (u k : Nat) : ((if k ≤ nb u then binB u else List.replicate (k - nb u) 48 ++ binB u).drop ((if k ≤ nb u then binB u else List.replicate (k - nb u) 48 ++ binB u).length - k)) = lowB u k := by
  by_cases h : k ≤ nb u
  · rw [if_pos h, binB_length]
    have e := lowB_drop (nb u - k) k u
    rw [Nat.sub_add_cancel h] at e
    exact e
  · rw [if_neg h, List.length_append, List.length_replicate, binB_length, show k - nb u + nb u - k = 0 by omega, List.drop_zero]
    have e := lowB_big (k - nb u) (nb u) u (nb_lt u)
    rw [show k - nb u + nb u = k by omega] at e
    exact e.symm
/-- the bits of a code number -/
def encB (u k : Nat) : List Nat := if u / 2 ^ k < 20 then List.replicate (u / 2 ^ k) 49 ++ [48] ++ lowB u k else List.replicate (19 + nb u) 49 ++ [48] ++ binB u
theorem encB_len (u k : Nat) : (encB u k).length ≤ 21 + k + 2 * nb u := by
  unfold encB
  split
  · rw [List.length_append, List.length_append, List.length_replicate, lowB_length]
    show _ + 1 + k ≤ _
    omega
  · rw [List.length_append, List.length_append, List.length_replicate, binB_length]
    show _ + 1 + _ ≤ _
    omega
theorem encB_bin (u k : Nat) : ∀ c ∈ encB u k, c = 48 ∨ c = 49 := by
  intro c h
  unfold encB at h
  split at h
  · rcases List.mem_append.mp h with h | h
    · rcases List.mem_append.mp h with h | h
      · exact .inr (List.eq_of_mem_replicate h)
      · exact .inl (List.mem_singleton.mp h)
    · exact lowB_bin _ _ c h
  · rcases List.mem_append.mp h with h | h
    · rcases List.mem_append.mp h with h | h
      · exact .inr (List.eq_of_mem_replicate h)
      · exact .inl (List.mem_singleton.mp h)
    · exact lowB_bin _ _ c h
abbrev Tb := Int × Int
def tbB (t : Tb) (u : Nat) : Tb := if t.2 + 1 > 15 then ((t.1 + (u : Int)) / 2, 8) else (t.1 + (u : Int), t.2 + 1)
def uOf (n : Int) : Nat := (codeU n).toNat
theorem uOf_eq (n : Int) : ((uOf n : Nat) : Int) = codeU n := by
  unfold uOf codeU
  split <;> omega
def wst (ns : List Int) (first : Nat) (T : Tb × Tb) : Nat → List (List Nat) × (Tb × Tb)
  | 0 => ([], T)
  | i + 1 =>
    let s := wst ns first T i
    let u := uOf (ns.getD i 0)
    if i < first then (s.1 ++ [encB u (par s.2.1.1 s.2.1.2)], (tbB s.2.1 u, s.2.2)) else (s.1 ++ [encB u (par s.2.2.1 s.2.2.2)], (s.2.1, tbB s.2.2 u))
/-- a table in its limits, its total at most m -/
def TbOk (m : Int) (t : Tb) : Prop := 0 ≤ t.1 ∧ t.1 ≤ m ∧ 1 ≤ t.2 ∧ t.2 ≤ 15
theorem tbB_ok {m : Int} {t : Tb} {u : Nat} (h : TbOk m t) (hu : (u : Int) ≤ 10 ^ 56) : TbOk (m + 10 ^ 56) (tbB t u) := by
  obtain ⟨h1, h2, h3, h4⟩ := h
  unfold tbB
  split
  · refine ⟨?_, ?_, by show (1 : Int) ≤ 8; decide, by show (8 : Int) ≤ 15; decide⟩
    · show 0 ≤ (t.1 + (u : Int)) / 2
      omega
    · show (t.1 + (u : Int)) / 2 ≤ m + 10 ^ 56
      omega
  · exact ⟨by show 0 ≤ t.1 + (u : Int); omega, by show t.1 + (u : Int) ≤ m + 10 ^ 56; omega, by show 1 ≤ t.2 + 1; omega, by show t.2 + 1 ≤ 15; omega⟩
theorem TbOk.mono {m n : Int} {t : Tb} (h : TbOk m t) (e : m ≤ n) : TbOk n t := ⟨h.1, Int.le_trans h.2.1 e, h.2.2⟩
theorem uOf_le {n : Int} (h : n.natAbs < 10 ^ 55) : ((uOf n : Nat) : Int) ≤ 10 ^ 56 := by
  rw [uOf_eq]
  unfold codeU
  split <;> omega
theorem wst_ok {ns : List Int} {first : Nat} {T : Tb × Tb} (hn : ∀ z ∈ ns, z.natAbs < 10 ^ 55) (h0 : TbOk (10 ^ 58) T.1) (h1 : TbOk (10 ^ 58) T.2) : ∀ i : Nat, i ≤ 64 → TbOk (10 ^ 58 + (i : Int) * 10 ^ 56) (wst ns first T i).2.1 ∧ TbOk (10 ^ 58 + (i : Int) * 10 ^ 56) (wst ns first T i).2.2
  | 0, _ => ⟨h0.mono (by omega), h1.mono (by omega)⟩
  | i + 1, hi => by
    obtain ⟨a, b⟩ := wst_ok (first := first) hn h0 h1 i (by omega)
    have hu : ((uOf (ns.getD i 0) : Nat) : Int) ≤ 10 ^ 56 := uOf_le (by
      rw [List.getD_eq_getElem?_getD]
      cases e : ns[i]? with
      | none => decide
      | some z => exact hn z (List.mem_of_getElem? e))
    show TbOk _ (if i < first then _ else _ : List (List Nat) × (Tb × Tb)).2.1 ∧ TbOk _ (if i < first then _ else _ : List (List Nat) × (Tb × Tb)).2.2
    by_cases c : i < first
    · rw [if_pos c]
      exact ⟨(tbB_ok a hu).mono (by push_cast; omega), b.mono (by push_cast; omega)⟩
    · rw [if_neg c]
      exact ⟨a.mono (by push_cast; omega), (tbB_ok b hu).mono (by push_cast; omega)⟩
theorem wst_len (ns : List Int) (first : Nat) (T : Tb × Tb) : ∀ i, (wst ns first T i).1.length = i
  | 0 => rfl
  | i + 1 => by
    show (if i < first then _ else _ : List (List Nat) × (Tb × Tb)).1.length = i + 1
    split
    · rw [List.length_append, wst_len ns first T i]; rfl
    · rw [List.length_append, wst_len ns first T i]; rfl
end Z
namespace Z
open PySem PySem.Spec PyProof.Rows L2
open SX (S S_len S_cat S_inj)
section
open PySem.Builtin PySem.Builtin.Str PySem.Builtin.Int PySem.Builtin.Float
def binD (n : Nat) : List Nat := (Nat.toDigits 2 n).map Char.toNat
theorem eb : Str.ofString "b" = S [98] := by rfl
theorem pad_no (D : List Nat) (h : D ≠ []) : (⟨(List.replicate (((-1 : Int) - 0 - ((if D.isEmpty then [] else List.replicate ((0 : Int).toNat - D.length) 48 ++ D : List Nat).length : Nat)).toNat) 32 ++ [] ++ [] ++ List.replicate 0 32 ++ (if D.isEmpty then [] else List.replicate ((0 : Int).toNat - D.length) 48 ++ D) ++ [] ++ List.replicate 0 32).toArray⟩ : Str) = S D := by
  have e : (if D.isEmpty then [] else List.replicate ((0 : Int).toNat - D.length) 48 ++ D : List Nat) = D := by
    cases D with
    | nil => exact absurd rfl h
    | cons c r =>
      show List.replicate (0 - _) 48 ++ c :: r = c :: r
      rw [Nat.zero_sub]
      rfl
  rw [e, show ((-1 : Int) - 0 - (D.length : Nat)).toNat = 0 by omega]
  simp
theorem binD_ne (n : Nat) : binD n ≠ [] := by
  unfold binD
  intro h
  have := List.map_eq_nil_iff.mp h
  exact absurd this Nat.toDigits_ne_nil
set_option maxHeartbeats 1000000 in
theorem fmtb_eq (n : Nat) (t u : Tok) : ∃ X, Builtin.«int.__format__» ⟨[.int (n : Int) t, .str (S [98]) u], []⟩ = retStr X ∧ X = S (binD n) := by
  refine ⟨_, rfl, ?_⟩
  exact pad_no _ (binD_ne n)
theorem gives_fmtb (n : Nat) (t u : Tok) : Gives (Builtin.«int.__format__» ⟨[.int (n : Int) t, .str (S [98]) u], []⟩) (.str (S (binD n))) := by
  obtain ⟨X, e, rfl⟩ := fmtb_eq n t u
  rw [e]
  exact .of_eq rfl
end
end Z
namespace Z
open PySem PySem.Spec PyProof.Rows L2
open SX (S S_len S_cat S_inj)
theorem S_add (a b : List Nat) : S a ++ S b = S (a ++ b) := S_cat a b
def rAddT : R2 := fun x y H Q => ∃ a b : List Nat, x = .str (S a) ∧ y = .str (S b) ∧ a.length + b.length ≤ 16777216 ∧ Q (.str (S (a ++ b))) H
theorem op_addT {X : Cx} : OpR X (binaryOp .Add) rAddT := by
  intro pins s σ H x y v u Q I rx ry h
  obtain ⟨a, b, rfl, rfl, hl, q⟩ := h
  exact op_add_str pins s σ H _ _ v u Q I rx ry ⟨S a, S b, rfl, rfl, by rw [S_len, S_len]; exact hl, by rw [S_add]; exact q⟩
theorem fold_app : ∀ (n : Nat) (a acc : Array Nat), (List.replicate n a).foldl (· ++ ·) acc = acc ++ ((List.replicate n a.toList).flatten).toArray
  | 0, a, acc => by simp
  | n + 1, a, acc => by
    rw [List.replicate_succ, List.foldl_cons, fold_app n a, List.replicate_succ, List.flatten_cons]
    refine Array.toList_inj.mp ?_
    rw [Array.toList_append, Array.toList_append, Array.toList_append, List.append_assoc]
/-- a text, so many times -/
def repL (l : List Nat) (n : Nat) : List Nat := (List.replicate n l).flatten
theorem repL_one (c n : Nat) : repL [c] n = List.replicate n c := by
  induction n with
  | zero => rfl
  | succ n ih =>
    unfold repL at ih ⊢
    rw [List.replicate_succ, List.flatten_cons, ih]
    rfl
theorem repL_length (l : List Nat) : ∀ n, (repL l n).length = n * l.length
  | 0 => by simp [repL]
  | n + 1 => by
    have ih := repL_length l n
    unfold repL at ih ⊢
    rw [List.replicate_succ, List.flatten_cons, List.length_append, ih, Nat.succ_mul, Nat.add_comm]
theorem repL_nil : ∀ n, repL [] n = []
  | 0 => rfl
  | n + 1 => by
    have ih := repL_nil n
    unfold repL at ih ⊢
    rw [List.replicate_succ, List.flatten_cons, ih]
    rfl
def rMulT : R2 := fun x y H Q => ∃ (a : List Nat) (k : Int), x = .str (S a) ∧ y = .int k ∧ -1000000 ≤ k ∧ k ≤ 1000000 ∧ a.length * k.toNat ≤ 1000000 ∧ Q (.str (S (repL a k.toNat))) H
theorem tooLong_no {n : Nat} (h : n ≤ 1000000) : Builtin.Str.tooLong n = false := by
  have z : 1000000 < sizeLine := by decide
  unfold Builtin.Str.tooLong
  first
    | exact decide_eq_false (by omega)
    | (simp; omega)
theorem op_mulT {X : Cx} : OpR X (binaryOp .Mult) rMulT := by
  intro pins s σ H x y v u Q I rx ry h
  obtain ⟨a, k, rfl, rfl, h1, h2, hl, q⟩ := h
  obtain ⟨t, rfl⟩ := rx
  obtain ⟨t', rfl⟩ := ry
  refine P.mul_str (by rw [decide_eq_false (by omega), decide_eq_false (by omega)]; rfl) (fun c _ z => ?_) (fun _ _ => tooLong_no (by rw [S_len]; exact hl)) ?_
  · have hk : (1 : Int) ≤ k := by omega
    rw [S_len] at z
    have hl2 : (a.length : Int) * k ≤ 1000000 := by
      obtain ⟨m, rfl⟩ : ∃ m : Nat, k = (m : Int) := ⟨k.toNat, by omega⟩
      rw [Int.toNat_natCast] at hl
      have z0 := Int.ofNat_le.mpr hl
      rw [Int.natCast_mul] at z0
      exact z0
    have z2 : (a.length : Int) ≤ (a.length : Int) * k := by
      have := Int.mul_le_mul_of_nonneg_left hk (show (0 : Int) ≤ a.length by omega)
      rw [Int.mul_one] at this
      exact this
    have z3 : (1000000 : Int) ≤ (2 ^ 63 - 1) / k := (Int.le_ediv_iff_mul_le (by omega)).mpr (Int.le_trans (Int.mul_le_mul_of_nonneg_left h2 (show (0 : Int) ≤ 1000000 by decide)) (by decide))
    omega
  · by_cases c : k < 1
    · rw [if_pos c]
      have e : k.toNat = 0 := by omega
      rw [e] at q
      exact ⟨by decide, ⟨.str Str.empty, H, I.tok _, ⟨_, rfl⟩, q⟩⟩
    · rw [if_neg c]
      cases d : (k == 1 || (S a).length == 0) with
      | true =>
        rw [if_pos rfl]
        have e : repL a k.toNat = a := by
          rw [Bool.or_eq_true, beq_iff_eq, beq_iff_eq, S_len] at d
          rcases d with d | d
          · rw [d]
            exact List.append_nil a
          · rw [List.length_eq_zero_iff] at d
            rw [d]
            exact repL_nil _
        rw [e] at q
        exact ⟨.str (S a), H, I, ⟨t, rfl⟩, q⟩
      | false =>
        rw [if_neg Bool.false_ne_true]
        have e : (⟨(List.replicate k.toNat (S a).cps).foldl (· ++ ·) #[]⟩ : Str) = S (repL a k.toNat) := by
          rw [fold_app]
          exact TL.ext_tl (by
            show (#[] ++ _ : Array Nat).toList = _
            rw [Array.toList_append]
            rfl)
        rw [e]
        exact ⟨by rw [S_len, repL_length, Nat.mul_comm]; exact Nat.le_trans hl (by decide), ⟨.str _, H, I.tok _, ⟨_, rfl⟩, q⟩⟩
theorem e_empty : Str.ofString "" = S [] := by rfl
theorem e_0 : Str.ofString "0" = S [48] := by rfl
theorem e_1 : Str.ofString "1" = S [49] := by rfl
theorem e_01 : Str.ofString "01" = S [48, 49] := by rfl
section
variable {X : Cx}
def tFmtB (te ts : TE) : TE := fun σ H Q => te σ H fun x H1 => ts σ H1 fun y H2 => ∃ n : Nat, x = .int (n : Int) ∧ y = .str (S [98]) ∧ nb n ≤ 16777216 ∧ Q (.str (S (binB n))) H2
theorem pe_fmtb {e spec : Expr} {te ts : TE} {pos : Pos} (he : PE X e te) (hs : PE X spec ts) : PE X (.FormattedValue e (-1) (some spec) pos) (tFmtB te ts) := by
  constructor
  intro pins s σ H Q I h
  refine wpAny_FormattedValue_spec (thn (he.run pins s σ H _ I h) fun v s1 hv => ?_)
  obtain ⟨x, H1, I1, r1, q⟩ := hv
  refine thn (hs.run pins s1 σ H1 _ I1 q) fun r s2 hr2 => ?_
  obtain ⟨y, H2, I2, r2, n, rfl, rfl, hl, q2⟩ := hr2
  obtain ⟨t, rfl⟩ := r1
  obtain ⟨t2, rfl⟩ := r2
  have hb : binD n = binB n := toD_two n
  refine ⟨S [98], t2, rfl, wpAny_formatField_spec (T := "int") rfl (fun s' => typeIs_int s' _ t) F.slot_int_format F.entry_int_format (F.args_int_format_2) (fun u => gives_fmtb n t u) ?_ (by rw [S_len]; decide) (by rw [S_len, hb, binB_length]; exact hl)⟩
  rw [hb]
  exact ⟨.str (S (binB n)), H2, I2.tok _, ⟨_, rfl⟩, q2⟩
def rZf : V → List V → Hp → VK → Prop := fun x xs H Q => ∃ (l : List Nat) (k : Nat), x = .str (S l) ∧ xs = [.int (k : Int)] ∧ k ≤ 100000 ∧ (∀ c ∈ l, c = 48 ∨ c = 49) ∧ Q (.str (S (if k ≤ l.length then l else List.replicate (k - l.length) 48 ++ l))) H
theorem zf_S {l : List Nat} {k : Nat} (h : ∀ c ∈ l, c = 48 ∨ c = 49) : Txt.zfill (S l) (k : Int) = S (if k ≤ l.length then l else List.replicate (k - l.length) 48 ++ l) := by
  unfold Txt.zfill
  by_cases c : k ≤ l.length
  · rw [if_pos c, if_pos (by rw [S_len]; omega)]
  · rw [if_neg c, if_neg (by rw [S_len]; omega), S_len, Int.toNat_natCast]
    have e : ∀ m, Builtin.Str.padded (S l) m 0 48 = S (List.replicate m 48 ++ l) := fun m => TL.ext_tl (by
      show (Array.replicate m 48 ++ l.toArray ++ Array.replicate 0 48).toList = _
      simp)
    unfold zfilled
    split
    · rename_i g
      exfalso
      cases l with
      | nil => simp [S] at g
      | cons d r =>
        have g2 : some d = some 43 := by simpa [S] using g
        have := h d List.mem_cons_self
        have := Option.some.inj g2
        omega
    · rename_i g
      exfalso
      cases l with
      | nil => simp [S] at g
      | cons d r =>
        have g2 : some d = some 45 := by simpa [S] using g
        have := h d List.mem_cons_self
        have := Option.some.inj g2
        omega
    · exact e _
theorem pad_ok {k : Nat} (h : k ≤ 100000) : PadOk (k : Int) = true := by
  unfold PadOk
  have z : (100000 : Nat) ≤ 1000000 := by decide
  rw [Int.toNat_natCast, tooLong_no (Nat.le_trans h z)]
  have e : fitsSsize (k : Int) = true := by
    unfold fitsSsize
    first
      | exact Bool.and_eq_true_iff.mpr ⟨decide_eq_true (by omega), decide_eq_true (by omega)⟩
      | (simp; omega)
  rw [e]
  rfl
theorem mt_zf : MtR X "str.zfill" rZf := by
  intro pins s σ H x xs v us Q I rx rs h
  obtain ⟨l, k, rfl, rfl, hk, hb, q⟩ := h
  exact mt_zfill pins s σ H _ _ v us Q I rx rs ⟨S l, (k : Int), rfl, rfl, pad_ok hk, by rw [zf_S hb]; exact q⟩
end
theorem joinL_flat : ∀ ys : List (List Nat), TL.joinL [] ys = ys.flatten
  | [] => rfl
  | [p] => (List.append_nil p).symm
  | p :: q :: r => by
    show p ++ ([] ++ TL.joinL [] (q :: r)) = p ++ (q :: r).flatten
    rw [joinL_flat (q :: r)]
    rfl
def rJoin (K : PySem.W.Frag) : V → List V → Hp → VK → Prop := fun x xs H Q => ∃ a p, ∃ ys : List Str, x = .str a ∧ xs = [.ref p] ∧ (SqL K H p (ys.map V.str) ∨ SqT K H p (ys.map V.str)) ∧
    (ys.map (·.length)).sum + ys.length * a.length ≤ 16777216 ∧ Q (.str (Txt.join a ys)) H
theorem mt_joinK {X : Cx} : MtR X "str.join" (rJoin X.K) := mt_join
section
variable {K : PySem.W.Frag} {σ : L2.St} {H : Hp} {Q : VK}
theorem rd_addT {a b : List Nat} {x y : Str} (e1 : x = S a) (e2 : y = S b) (hl : a.length + b.length ≤ 16777216) (h : Q (.str (S (a ++ b))) H) : rAddT (.str x) (.str y) H Q := ⟨a, b, congrArg V.str e1, congrArg V.str e2, hl, h⟩
theorem rd_mulT {c : Nat} {x : Str} {k : Nat} (e1 : x = S [c]) (hl : k ≤ 1000000) (h : Q (.str (S (List.replicate k c))) H) : rMulT (.str x) (.int (k : Int)) H Q :=
  ⟨[c], (k : Int), congrArg V.str e1, rfl, by omega, by omega, by rw [Int.toNat_natCast]; show 1 * k ≤ _; omega, by rw [Int.toNat_natCast, repL_one]; exact h⟩
theorem rd_lenS {l : List Nat} (hl : l.length ≤ 16777216) (h : Q (.int (l.length : Nat)) H) : rLen K [.str (S l)] H Q := ⟨.str (S l), l.length, rfl, ⟨by rw [S_len]; exact hl, (S_len l).symm⟩, h⟩
theorem rd_zf {l : List Nat} {k : Nat} (hk : k ≤ 100000) (hb : ∀ c ∈ l, c = 48 ∨ c = 49) (h : Q (.str (S (if k ≤ l.length then l else List.replicate (k - l.length) 48 ++ l))) H) : rZf (.str (S l)) [.int (k : Int)] H Q := ⟨l, k, rfl, rfl, hk, hb, h⟩
theorem rd_slSF {l : List Nat} {k : Nat} (hl : l.length ≤ 16777216) (h : Q (.str (S (l.drop k))) H) : C8.rSlX (.str (S l)) (some (k : Int)) none H Q := ⟨S l, rfl, by rw [S_len]; exact hl, by rw [SX.slice_from (by omega), Int.toNat_natCast]; exact h⟩
theorem rd_slST {l : List Nat} {k : Nat} (hl : l.length ≤ 16777216) (h : Q (.str (S (l.take k))) H) : C8.rSlX (.str (S l)) none (some (k : Int)) H Q := ⟨S l, rfl, by rw [S_len]; exact hl, by rw [SX.slice_to (by omega), Int.toNat_natCast]; exact h⟩
theorem rd_joinS {p : Addr} {ls : List (List Nat)} {x : Str} (e : x = S []) (hp : SqL K H p (ls.map fun l => V.str (S l))) (hl : ls.flatten.length ≤ 16777216) (h : Q (.str (S ls.flatten)) H) : rJoin K (.str x) [.ref p] H Q := by
  refine ⟨S [], p, ls.map S, congrArg V.str e, rfl, .inl ?_, ?_, ?_⟩
  · rw [List.map_map]
    exact hp
  · rw [SX.lens]
    show _ + _ * 0 ≤ _
    rw [Nat.mul_zero, Nat.add_zero, ← List.length_flatten]
    exact hl
  · rw [SX.join_S, joinL_flat]
    exact h
theorem rd_fmtb {te ts : TE} (h : te σ H fun x H1 => ts σ H1 fun y H2 => ∃ n : Nat, x = .int (n : Int) ∧ y = .str (S [98]) ∧ nb n ≤ 16777216 ∧ Q (.str (S (binB n))) H2) : tFmtB te ts σ H Q := h
theorem rd_fmtn {n : Nat} {x : Str} {P : Nat → Prop} (e : x = S [98]) (hl : nb n ≤ 16777216) (h : P n) : ∃ m : Nat, V.int (n : Int) = .int (m : Int) ∧ V.str x = .str (S [98]) ∧ nb m ≤ 16777216 ∧ P m := ⟨n, rfl, congrArg V.str e, hl, h⟩
theorem rd_ixS {l : List Nat} {x : Str} {i c : Nat} (e : x = S l) (hl : l.length ≤ 16777216) (a : l[i]? = some c) (h : Q (.str (S [c])) H) : rIxS (.str x) (.int (i : Int)) H Q := ⟨S l, (i : Int), c, congrArg V.str e, rfl, by rw [S_len]; exact hl, atI_nat a, h⟩
theorem rd_bmS {m : V → List V → Hp → VK → Prop} {to : TE} {ts : TA} (h : to σ H fun x H1 => tyV K "str" x H1 ∧ ts σ H1 fun xs H2 => m x xs H2 Q) : tBM K "str" m to ts σ H Q := h
theorem rd_tyS {x : Str} {P : Prop} (q : P) : tyV K "str" (.str x) H ∧ P := ⟨rfl, q⟩
end
end Z
namespace Z
open PySem PySem.Spec PyProof.Rows L2
open SX (S S_len S_cat S_inj)
def WlN (Pv : Nat → L2.St → Hp → Prop) (N i : Nat) (tb : TS) (D : Ends) (σ : L2.St) (H1 : Hp) : Prop :=
  ∃ Nx : L2.St → Hp → Prop, (∀ σ' H', Nx σ' H' → ∃ m', m' < N - i ∧ ∃ j, m' = N - j ∧ j ≤ N ∧ Pv j σ' H') ∧ tb { D with nx := Nx, ct := Nx, bk := D.nx } σ H1
section
variable {c : TT} {tb : TS} {D : Ends} {σ : L2.St} {H : Hp}
theorem while_n (Pv : Nat → L2.St → Hp → Prop) (N : Nat) (h0 : Pv 0 σ H) (hs : ∀ i σ H, i ≤ N → Pv i σ H → c σ H fun b H1 => if b = true then WlN Pv N i tb D σ H1 else D.nx σ H1) : tWhile c tb D σ H := by
  refine ⟨fun m σ H => ∃ j, m = N - j ∧ j ≤ N ∧ Pv j σ H, ⟨N, 0, rfl, Nat.zero_le _, h0⟩, ?_⟩
  rintro m σ H ⟨j, rfl, hj, p⟩
  exact hs j σ H hj p
theorem while_in {Pv : Nat → L2.St → Hp → Prop} {N i : Nat} (hi : i < N) (h : tb { D with nx := Pv (i + 1), ct := Pv (i + 1), bk := D.nx } σ H) : WlN Pv N i tb D σ H :=
  ⟨Pv (i + 1), fun σ' H' p => ⟨N - (i + 1), by omega, i + 1, rfl, hi, p⟩, h⟩
end
def LK (H H' : Hp) : Prop := ∀ b o, H b = some o → (∀ xs, o ≠ .lst xs) → H' b = some o
section
variable {K : PySem.W.Frag} {H H' H1 : Hp} {a q : Addr} {xs : List V} {o : HO}
theorem LK.refl : LK H H := fun _ _ h _ => h
theorem LK.trans (h : LK H H') (k : LK H' H1) : LK H H1 := fun b o e n => k b o (h b o e n) n
theorem LK.of (s : Same H H') : LK H H' := fun b o e _ => s b o e
theorem LK.new (n : H q = none) : LK H (upd H q o) := .of (same_new n)
theorem LK.at {ys : List V} (n : H q = some (.lst ys)) : LK H (upd H q o) := fun b x e nl => by
  have nb : b ≠ q := fun z => by
    rw [z, n] at e
    exact nl ys (Option.some.inj e).symm
  rw [upd_ne nb]
  exact e
theorem LK.pool {p : Addr} (h : Pool H p) (k : Kp p H H') : LK H H' := fun b x e nl => k b x (fun z => by
  obtain ⟨y1, y2, e2, _⟩ := h
  rw [z, e2] at e
  exact nl _ (Option.some.inj e).symm) e
theorem LK.seqT (s : LK H H') (h : SqT K H a xs) : SqT K H' a xs := by
  rcases h with (h | ⟨o, h⟩) | h
  · exact .inl (.inl (s _ _ h fun _ z => nomatch z))
  · exact .inl (.inr ⟨o, s _ _ h fun _ z => nomatch z⟩)
  · exact .inr h
theorem LK.tyo {t : Value} (ht : t = .type "tuple") (s : LK H H') (h : TyOf K H (.ref a) t) : TyOf K H' (.ref a) t := by
  cases h with
  | lst e => exact absurd ht (by decide)
  | frz e => exact .frz (s _ _ e fun _ z => nomatch z)
  | tup e => exact .tup (s _ _ e fun _ z => nomatch z)
  | dK e => exact .dK (s _ _ e fun _ z => nomatch z)
  | dT e => exact .dT (s _ _ e fun _ z => nomatch z)
  | ins e cl ha hn htk hm => exact .ins (s _ _ e fun _ z => nomatch z) cl ha hn htk hm
theorem LK.tyx (s : LK H H') (h : TyX K H (.ref a) (.type "tuple")) : TyX K H' (.ref a) (.type "tuple") := by
  generalize ht : (Value.type "tuple") = t at h ⊢
  cases h with
  | base b => exact .base (s.tyo ht.symm b)
  | set e => exact .set (s _ _ e fun _ z => nomatch z)
  | kList e c => exact .kList e c
  | kTuple e c => exact .kTuple e c
  | kDict e c => exact .kDict e c
  | fTuple e => exact .fTuple (s _ _ e fun _ z => nomatch z)
  | fDict e => exact .fDict (s _ _ e fun _ z => nomatch z)
theorem TupV.lk (s : LK H H') (h : TupV K H a xs) : TupV K H' a xs := ⟨s.seqT h.1, s.tyx h.2⟩
end
def TbV (K : PySem.W.Frag) (H : Hp) (r : Addr) (t : Tb) : Prop := TupV K H r [.int t.1, .int t.2]
def TbsV (K : PySem.W.Frag) (H : Hp) (a : Addr) (T : Tb × Tb) : Prop := ∃ r0 r1, TupV K H a [.ref r0, .ref r1] ∧ TbV K H r0 T.1 ∧ TbV K H r1 T.2
section
variable {K : PySem.W.Frag} {H H' : Hp} {a p : Addr} {t : Tb} {T : Tb × Tb}
theorem TbV.lk (s : LK H H') (h : TbV K H a t) : TbV K H' a t := TupV.lk s h
theorem TbsV.lk (s : LK H H') (h : TbsV K H a T) : TbsV K H' a T := let ⟨r0, r1, h0, h1, h2⟩ := h; ⟨r0, r1, h0.lk s, h1.lk s, h2.lk s⟩
theorem TbV.of (h : H a = some (.tup [.int t.1, .int t.2])) : TbV K H a t := TupV.of h
def spTblG (K : PySem.W.Frag) : Sp := fun vs H Q _ => ∃ (a : Addr) (t : Tb) (m : Int), vs = [.ref a] ∧ TbV K H a t ∧ TbOk m t ∧ Q (.bl true) H
def spTblsG (K : PySem.W.Frag) : Sp := fun vs H Q _ => ∃ (a : Addr) (T : Tb × Tb) (m : Int), vs = [.ref a] ∧ TbsV K H a T ∧ TbOk m T.1 ∧ TbOk m T.2 ∧ Q (.bl true) H
def spParG (K : PySem.W.Frag) : Sp := fun vs H Q _ => ∃ (a : Addr) (t : Tb) (m : Int), vs = [.ref a] ∧ TbV K H a t ∧ TbOk m t ∧ Q (.int (par t.1 t.2 : Nat)) H
def spBehind (K : PySem.W.Frag) : Sp := fun vs H Q _ => ∃ (a : Addr) (t : Tb) (m : Int) (u : Nat), vs = [.ref a, .int (u : Int)] ∧ TbV K H a t ∧ TbOk m t ∧ ∀ p, H p = none → Q (.ref p) (upd H p (.tup [.int (tbB t u).1, .int (tbB t u).2]))
def spBits : Sp := fun vs H Q _ => ∃ u k : Nat, vs = [.int (u : Int), .int (k : Int)] ∧ k ≤ 1000 ∧ nb u ≤ 100000 ∧ Q (.str (S (encB u k))) H
def spCoding (K : PySem.W.Frag) : Sp := fun vs H Q _ => ∃ (n first : Nat) (a : Addr) (T : Tb × Tb) (m : Int), vs = [.int (n : Int), .int (first : Int), .ref a] ∧ first ≤ n ∧ TbsV K H a T ∧ TbOk m T.1 ∧ TbOk m T.2 ∧ Q .non H
def spWr (K : PySem.W.Frag) : Sp := fun vs H Q _ => ∃ (a : Addr) (ns : List Int) (first : Nat) (b : Addr) (T : Tb × Tb), vs = [.ref a, .int (first : Int), .ref b] ∧ H a = some (.lst (ns.map V.int)) ∧ ns.length ≤ 64 ∧ first ≤ ns.length ∧ (∀ z ∈ ns, z.natAbs < 10 ^ 55) ∧ TbsV K H b T ∧ TbOk (10 ^ 58) T.1 ∧ TbOk (10 ^ 58) T.2 ∧
  ∀ p q H', Same H H' → H p = none → H' p = some (.tup [.str (S (wst ns first T ns.length).1.flatten), .ref q]) → TbsV K H' q (wst ns first T ns.length).2 → Q (.ref p) H'
def spStart (K : PySem.W.Frag) : Sp := fun vs H Q _ => ∃ p, vs = [.ref p] ∧ Pool H p ∧ ∀ a T H', H a = none → TbsV K H' a T → TbOk (10 ^ 56) T.1 → TbOk (10 ^ 56) T.2 → Pool H' p → Kp p H H' → Q (.ref a) H'
end
theorem use_tblG {K : PySem.W.Frag} {H : Hp} {a : Addr} {t : Tb} {m : Int} {Q : VK} {E : XK} (h : TbV K H a t) (ok : TbOk m t) (q : Q (.bl true) H) : spTblG K ([.ref a] ++ []) H Q E := ⟨a, t, m, rfl, h, ok, q⟩
theorem use_tblsG {K : PySem.W.Frag} {H : Hp} {a : Addr} {T : Tb × Tb} {m : Int} {Q : VK} {E : XK} (h : TbsV K H a T) (o1 : TbOk m T.1) (o2 : TbOk m T.2) (q : Q (.bl true) H) : spTblsG K ([.ref a] ++ []) H Q E := ⟨a, T, m, rfl, h, o1, o2, q⟩
theorem use_parG {K : PySem.W.Frag} {H : Hp} {a : Addr} {t : Tb} {m : Int} {Q : VK} {E : XK} (h : TbV K H a t) (ok : TbOk m t) (q : Q (.int (par t.1 t.2 : Nat)) H) : spParG K ([.ref a] ++ []) H Q E := ⟨a, t, m, rfl, h, ok, q⟩
theorem use_behind {K : PySem.W.Frag} {H : Hp} {a : Addr} {t : Tb} {m : Int} {u : Nat} {Q : VK} {E : XK} (h : TbV K H a t) (ok : TbOk m t) (q : ∀ p, H p = none → Q (.ref p) (upd H p (.tup [.int (tbB t u).1, .int (tbB t u).2]))) : spBehind K ([.ref a, .int (u : Int)] ++ []) H Q E := ⟨a, t, m, u, rfl, h, ok, q⟩
theorem use_bits {u k : Nat} {H : Hp} {Q : VK} {E : XK} (hk : k ≤ 1000) (hu : nb u ≤ 100000) (q : Q (.str (S (encB u k))) H) : spBits ([.int (u : Int), .int (k : Int)] ++ []) H Q E := ⟨u, k, rfl, hk, hu, q⟩
theorem use_coding {K : PySem.W.Frag} {n first : Nat} {a : Addr} {T : Tb × Tb} {m : Int} {H : Hp} {Q : VK} {E : XK} (h1 : first ≤ n) (h2 : TbsV K H a T) (o1 : TbOk m T.1) (o2 : TbOk m T.2) (q : Q .non H) : spCoding K ([.int (n : Int), .int (first : Int), .ref a] ++ []) H Q E := ⟨n, first, a, T, m, rfl, h1, h2, o1, o2, q⟩
theorem use_wr {K : PySem.W.Frag} {a b : Addr} {ns : List Int} {first : Nat} {T : Tb × Tb} {H : Hp} {Q : VK} {E : XK} (h1 : H a = some (.lst (ns.map V.int))) (h2 : ns.length ≤ 64) (h3 : first ≤ ns.length) (h4 : ∀ z ∈ ns, z.natAbs < 10 ^ 55) (h5 : TbsV K H b T) (h6 : TbOk (10 ^ 58) T.1) (h7 : TbOk (10 ^ 58) T.2)
    (q : ∀ p q H', Same H H' → H p = none → H' p = some (.tup [.str (S (wst ns first T ns.length).1.flatten), .ref q]) → TbsV K H' q (wst ns first T ns.length).2 → Q (.ref p) H') : spWr K ([.ref a, .int (first : Int), .ref b] ++ []) H Q E := ⟨a, ns, first, b, T, rfl, h1, h2, h3, h4, h5, h6, h7, q⟩
theorem use_start {K : PySem.W.Frag} {p : Addr} {H : Hp} {Q : VK} {E : XK} (h : Pool H p) (q : ∀ a T H', H a = none → TbsV K H' a T → TbOk (10 ^ 56) T.1 → TbOk (10 ^ 56) T.2 → Pool H' p → Kp p H H' → Q (.ref a) H') : spStart K ([.ref p] ++ []) H Q E := ⟨p, rfl, h, q⟩
theorem par_leG {m : Int} {t : Tb} (h : TbOk m t) (hm : m < 10 ^ 60) : par t.1 t.2 ≤ 300 := par_le h.1 h.2.2.1 (Int.lt_of_le_of_lt h.2.1 hm) h.2.2.2
theorem nb_small {u : Nat} (h : (u : Int) ≤ 10 ^ 56) : nb u ≤ 200 := by
  refine nb_min (j := 200) ?_ (by decide)
  have e : (10 : Nat) ^ 56 < 2 ^ 200 := by decide
  have h2 : u ≤ 10 ^ 56 := by
    have z : ((10 ^ 56 : Nat) : Int) = 10 ^ 56 := by norm_cast
    omega
  exact Nat.lt_of_le_of_lt h2 e
theorem shr_nat (u k : Nat) : ((u : Int) / 2 ^ ((k : Int)).toNat) = ((u / 2 ^ k : Nat) : Int) := by
  rw [Int.toNat_natCast]
  norm_cast
theorem rd_shr {u k : Nat} {H : Hp} {Q : VK} (h : Q (.int ((u / 2 ^ k : Nat) : Int)) H) : rI (fun _ j => 0 ≤ j) (fun i j => V.int (i / 2 ^ j.toNat)) (.int (u : Int)) (.int (k : Int)) H Q := ⟨(u : Int), (k : Int), rfl, rfl, by omega, by show Q (V.int ((u : Int) / 2 ^ ((k : Int)).toNat)) H; rw [shr_nat]; exact h⟩
theorem rd_bit {m : Nat} {H : Hp} {Q : VK} (h : Q (.str (S [48 + m % 2])) H) : rIxS (.str (Str.ofString "01")) (.int ((m : Int) % 2)) H Q := by
  rcases (show m % 2 = 0 ∨ m % 2 = 1 by omega) with e | e
  · rw [e] at h
    have e2 : (m : Int) % 2 = ((0 : Nat) : Int) := by omega
    rw [e2]
    exact rd_ixS e_01 (by decide) rfl h
  · rw [e] at h
    have e2 : (m : Int) % 2 = ((1 : Nat) : Int) := by omega
    rw [e2]
    exact rd_ixS e_01 (by decide) rfl h
theorem rd_listQ {K : PySem.W.Frag} {H : Hp} {Q : VK} {a : Addr} {xs : List V} (h : SqT K H a xs) (q : ∀ l, H l = none → Q (.ref l) (upd H l (.lst xs))) : rToList K [.ref a] H Q := ⟨a, xs, rfl, .inr h, q⟩
theorem half_nat (u : Nat) : ((u : Int) / 2) = ((u / 2 : Nat) : Int) := by omega
theorem wst_lo {ns : List Int} {first : Nat} {T : Tb × Tb} {i : Nat} (h : i < first) : wst ns first T (i + 1) = ((wst ns first T i).1 ++ [encB (uOf (ns.getD i 0)) (par (wst ns first T i).2.1.1 (wst ns first T i).2.1.2)], (tbB (wst ns first T i).2.1 (uOf (ns.getD i 0)), (wst ns first T i).2.2)) := if_pos h
theorem wst_hi {ns : List Int} {first : Nat} {T : Tb × Tb} {i : Nat} (h : ¬ i < first) : wst ns first T (i + 1) = ((wst ns first T i).1 ++ [encB (uOf (ns.getD i 0)) (par (wst ns first T i).2.2.1 (wst ns first T i).2.2.2)], ((wst ns first T i).2.1, tbB (wst ns first T i).2.2 (uOf (ns.getD i 0)))) := if_neg h
theorem uOf_getD {ns : List Int} (hn : ∀ z ∈ ns, z.natAbs < 10 ^ 55) (i : Nat) : ((uOf (ns.getD i 0) : Nat) : Int) ≤ 10 ^ 56 := uOf_le (by
  rw [List.getD_eq_getElem?_getD]
  cases e : ns[i]? with
  | none => decide
  | some z => exact hn z (List.mem_of_getElem? e))
theorem wst_flat {ns : List Int} {first : Nat} {T : Tb × Tb} (hn : ∀ z ∈ ns, z.natAbs < 10 ^ 55) (h0 : TbOk (10 ^ 58) T.1) (h1 : TbOk (10 ^ 58) T.2) : ∀ i : Nat, i ≤ 64 → (wst ns first T i).1.flatten.length ≤ 1000 * i
  | 0, _ => Nat.zero_le _
  | i + 1, hi => by
    have ih := wst_flat (first := first) hn h0 h1 i (by omega)
    obtain ⟨a, b⟩ := wst_ok (first := first) hn h0 h1 i (by omega)
    have hu := nb_small (uOf_getD hn i)
    have bnd : (10 ^ 58 + (i : Int) * 10 ^ 56) < 10 ^ 60 := by omega
    have pa := par_leG a bnd
    have pb := par_leG b bnd
    by_cases c : i < first
    · rw [wst_lo c]
      have e := encB_len (uOf (ns.getD i 0)) (par (wst ns first T i).2.1.1 (wst ns first T i).2.1.2)
      rw [List.flatten_append, List.length_append, List.flatten_cons, List.flatten_nil, List.append_nil]
      omega
    · rw [wst_hi c]
      have e := encB_len (uOf (ns.getD i 0)) (par (wst ns first T i).2.2.1 (wst ns first T i).2.2.2)
      rw [List.flatten_append, List.length_append, List.flatten_cons, List.flatten_nil, List.append_nil]
      omega
end Z
namespace Z
open PySem PySem.Spec PyProof.Rows L2
open SX (S S_len S_cat S_inj)
section
open PySem.NumText PySem.Calls Hx
def IsB (c : Nat) : Prop := c = 48 ∨ c = 49
theorem IsB.hex {c : Nat} (h : IsB c) : IsHex c := by
  unfold IsB at h
  unfold IsHex
  omega
theorem hv_b {c : Nat} (h : IsB c) : hv c = c - 48 := by
  unfold IsB at h
  unfold hv
  rw [if_pos (by omega)]
theorem step_b {ds : Array Nat} {b : Bool} {c : Nat} (h : IsB c) : PySem.NumText.step 2 (ds, b) c = some (ds.push (c - 48), true) := by
  have hr := hex_rng h.hex
  unfold PySem.NumText.step
  rw [if_neg (by rw [beq_iff_eq]; exact hr.2.2), digit_hex h.hex, hv_b h]
  exact if_pos (by unfold IsB at h; omega)
theorem foldl_b : ∀ (cs : List Nat) (ds : Array Nat), (∀ c ∈ cs, IsB c) → cs.foldlM (PySem.NumText.step 2) (ds, true) = some (cs.foldl (fun acc c => acc.push (c - 48)) ds, true)
  | [], _, _ => rfl
  | c :: cs, ds, h => by
    rw [List.foldlM_cons, step_b (h c (List.mem_cons_self ..))]
    show cs.foldlM (PySem.NumText.step 2) (ds.push (c - 48), true) = _
    exact foldl_b cs (ds.push (c - 48)) fun d hd => h d (List.mem_cons_of_mem _ hd)
theorem digits_b {cs : List Nat} (h : ∀ c ∈ cs, IsB c) (hne : cs ≠ []) : digits? 2 cs = some (cs.foldl (fun acc c => acc.push (c - 48)) #[]) := by
  cases cs with
  | nil => exact absurd rfl hne
  | cons c cs =>
    unfold digits?
    rw [List.foldlM_cons, step_b (h c (List.mem_cons_self ..))]
    show (cs.foldlM (PySem.NumText.step 2) ((#[] : Array Nat).push (c - 48), true)).bind _ = _
    rw [foldl_b cs _ fun d hd => h d (List.mem_cons_of_mem _ hd)]
    rfl
theorem push_b : ∀ (cs : List Nat) (ds : Array Nat), (cs.foldl (fun acc c => acc.push (c - 48)) ds).foldl (fun acc d => acc * 2 + d) 0 = cs.foldl (fun a c => a * 2 + (c - 48)) (ds.foldl (fun acc d => acc * 2 + d) 0)
  | [], _ => rfl
  | c :: cs, ds => by
    rw [List.foldl_cons, push_b cs (ds.push (c - 48)), List.foldl_cons]
    congr 1
    simp
theorem based_b : ∀ {cs : List Nat}, (∀ c ∈ cs, IsB c) → based 2 cs = (2, false, cs)
  | [], _ => rfl
  | [a], h => by
    rcases h a List.mem_cons_self with rfl | rfl <;> rfl
  | a :: c :: r, h => by
    rcases h a List.mem_cons_self with rfl | rfl <;> rcases h c (List.mem_cons_of_mem _ List.mem_cons_self) with rfl | rfl <;> rfl
theorem valB_two (l : List Nat) : l.foldl (fun a c => a * 2 + (c - 48)) 0 = valB l := by
  unfold valB
  congr 1
  funext a c
  rw [Nat.mul_comm]
theorem read_b {cs : List Nat} (h : ∀ c ∈ cs, IsB c) (hne : cs ≠ []) : (int_private% "readNumeral") 0 2 cs = (int_private% "Numeral.value") ((valB cs : Nat) : Int) := by
  have hr : ∀ c ∈ cs.reverse, IsB c := fun c hc => h c (List.mem_reverse.mp hc)
  refine (readNumeral_eq 0 2 cs).trans ?_
  rw [dropB (fun c hc => (h c hc).hex), signH (fun c hc => (h c hc).hex)]
  show judge 0 false (based 2 cs).1 (based 2 cs).2.1 (digits? (based 2 cs).1 (((based 2 cs).2.2.reverse.dropWhile blank).reverse)) = _
  rw [based_b h]
  show judge 0 false 2 false (digits? 2 ((cs.reverse.dropWhile blank).reverse)) = _
  rw [dropB (fun c hc => (hr c hc).hex), List.reverse_reverse, digits_b h hne]
  show (int_private% "Numeral.value") (((cs.foldl (fun acc c => acc.push (c - 48)) (#[] : Array Nat)).foldl (fun acc d => acc * 2 + d) 0 : Nat) : Int) = _
  have z : (#[] : Array Nat).foldl (fun acc d => acc * 2 + d) 0 = 0 := by first | rfl | simp
  rw [push_b, z, valB_two]
set_option maxHeartbeats 4000000 in
theorem gives_b {x : PySem.Str} {u t : Tok} (hl : x.length ≤ 640) (h : ∀ c ∈ x.cps.toList, IsB c) (hne : x.cps.toList ≠ []) :
    Gives (Builtin.«int.__new__» ⟨[.type "int", .str x u, .int 2 t], []⟩) (.int ((valB x.cps.toList : Nat) : Int)) :=
  .of_wp fun M A E s Q hQ => by
    obtain ⟨hp, g, d, tk, os⟩ := s
    have f1 := F.conv_sub_int
    have f2 := F.madeHere_int
    have f6 : typeOf (.str x u) = pure (.type "str") := rfl
    obtain ⟨e1, e2⟩ := seen_hex (fun c hc => (h c hc).hex)
    have hs : (numSeenOf x).length ≤ 640 := by
      rw [e2, Array.length_toList]
      exact hl
    have hr : (int_private% "readNumeral") 0 2 (numSeenOf x) = (int_private% "Numeral.value") ((valB x.cps.toList : Nat) : Int) := by
      rw [e2]
      exact read_b h hne
    have ha : ((numSeenOf x).length == (numTextOf x).length) = true := by
      rw [e1, e2]
      exact beq_self_eq_true _
    have hk := Hid.mk (And.intro hs (And.intro hr ha))
    clear hs hr ha e1 e2 hl hne h
    repeat (any_goals (first
      | assumption
      | ((with_reducible show wpAny _ _ ((int_private% "intFromText") _ _ _) _ _ _); refine wp_textB hk.out.1 hk.out.2.1 hk.out.2.2 ?_)
      | wp_step))
    all_goals first | exact ⟨_, rfl, hQ⟩ | skip
theorem call_b {prog : Program} {w : World} {A : Around} {E : Value → Shared → Prop} {s : Shared} {Q : Value → Shared → Prop} {x : PySem.Str} {u t : Tok} (hl : x.length ≤ 640) (h : ∀ c ∈ x.cps.toList, IsB c) (hne : x.cps.toList ≠ [])
    (hQ : Q (.int ((valB x.cps.toList : Nat) : Int) s.toks) { s with toks := s.toks + 1 }) : wpAny (model prog w) A (call (.type "int") [.str x u, .int 2 t]) Q E s :=
  callType_new F.called_int F.newNe_int (typeCall_int_2 _ _) (newCall_int_2 _ _) (fun obj => F.initArgs_range_2 obj _ _) F.entry_int_new (gives_b hl h hne).meets (show (Made.int ((valB x.cps.toList : Nat) : Int)).post _ s from ⟨rfl, hQ⟩)
end
def rIntB : List V → Hp → VK → Prop := fun xs H Q => ∃ l : List Nat, xs = [.str (S l), .int 2] ∧ l ≠ [] ∧ l.length ≤ 640 ∧ (∀ c ∈ l, IsB c) ∧ Q (.int ((valB l : Nat) : Int)) H
theorem call_intB {X : Cx} : CallR X (.type "int") rIntB := by
  intro pins s σ H xs us Q I r h
  obtain ⟨l, rfl, hne, hl, hx, q⟩ := h
  obtain ⟨u, w', rfl, r1, r2⟩ := vals2 r
  obtain ⟨t1, rfl⟩ := r1
  obtain ⟨t2, rfl⟩ := r2
  exact call_b (x := S l) (by rw [S_len]; exact hl) hx hne ⟨.int ((valB l : Nat) : Int), H, I.tok _, ⟨_, rfl⟩, q⟩
def onesL : List Nat → Nat
  | [] => 0
  | c :: r => if c = 48 then 0 else onesL r + 1
theorem onesL_le : ∀ m : List Nat, onesL m ≤ m.length
  | [] => Nat.le_refl _
  | c :: r => by
    unfold onesL
    split
    · exact Nat.zero_le _
    · exact Nat.succ_le_succ (onesL_le r)
theorem onesL_lt : ∀ (m : List Nat) (i : Nat), i < onesL m → m[i]? ≠ some 48
  | [], i, h => absurd h (Nat.not_lt_zero _)
  | c :: r, i, h => by
    unfold onesL at h
    split at h
    · exact absurd h (Nat.not_lt_zero _)
    · rename_i e
      rcases i with _ | i
      · intro z
        exact e (Option.some.inj z)
      · exact onesL_lt r i (by omega)
theorem onesL_at : ∀ m : List Nat, onesL m < m.length → m[onesL m]? = some 48
  | [], h => absurd h (Nat.not_lt_zero _)
  | c :: r, h => by
    by_cases e : c = 48
    · have z : onesL (c :: r) = 0 := if_pos e
      rw [z, e]
      rfl
    · have z : onesL (c :: r) = onesL r + 1 := if_neg e
      rw [z] at h ⊢
      exact onesL_at r (by simpa using h)
theorem onesL_rep (n : Nat) (r : List Nat) : onesL (List.replicate n 49 ++ 48 :: r) = n := by
  induction n with
  | zero => rfl
  | succ n ih =>
    show (if (49 : Nat) = 48 then 0 else onesL (List.replicate n 49 ++ 48 :: r) + 1) = n + 1
    rw [if_neg (by decide), ih]
def fzI (l : List Nat) (pl : Nat) : Int := if pl + onesL (l.drop pl) < l.length then ((pl + onesL (l.drop pl) : Nat) : Int) else -1
theorem S_get (l : List Nat) (v : Nat) (hv : v < l.length) : (S l).cps.getD v 0 = 48 ↔ l[v]? = some 48 :=
  ⟨fun h => PySem.StrLaws.getElem?_of_getD (x := S l) (by rw [S_len]; exact hv) h, fun h => PySem.StrLaws.getD_of_getElem? (x := S l) h⟩
theorem find_S (l : List Nat) (pl : Nat) (hpl : pl ≤ l.length) : Txt.find3 (S l) (S [48]) (pl : Int) = fzI l pl := by
  have fi : fromIndex (S l).length (pl : Int) = pl := by
    unfold fromIndex
    omega
  have hd : ∀ v, pl ≤ v → l[v]? = (l.drop pl)[v - pl]? := fun v hv => by rw [List.getElem?_drop]; congr 1; omega
  have hol := onesL_le (l.drop pl)
  rw [List.length_drop] at hol
  rcases PySem.StrLaws.find3_spec (S l) 48 (pl : Int) with ⟨e, hn⟩ | ⟨k, e, h1, h2, h3, h4⟩
  · rw [fi] at hn
    have hlt : ¬ pl + onesL (l.drop pl) < l.length := fun hlt => by
      have a := onesL_at (l.drop pl) (by rw [List.length_drop]; omega)
      refine hn (pl + onesL (l.drop pl)) (by omega) (by rw [S_len]; exact hlt) ((S_get l _ hlt).mpr ?_)
      rw [hd _ (by omega), show pl + onesL (l.drop pl) - pl = onesL (l.drop pl) by omega]
      exact a
    unfold fzI
    rw [if_neg hlt]
    exact e
  · rw [fi] at h1 h4
    rw [S_len] at h2
    have hk := (S_get l k h2).mp h3
    rw [hd k h1] at hk
    have a1 : ¬ k - pl < onesL (l.drop pl) := fun z => onesL_lt _ _ z hk
    have a2 : ¬ onesL (l.drop pl) < k - pl := fun z => by
      have a := onesL_at (l.drop pl) (by rw [List.length_drop]; omega)
      refine h4 (pl + onesL (l.drop pl)) (by omega) (by omega) ((S_get l _ (by omega)).mpr ?_)
      rw [hd _ (by omega), show pl + onesL (l.drop pl) - pl = onesL (l.drop pl) by omega]
      exact a
    have e2 : k = pl + onesL (l.drop pl) := by omega
    unfold fzI
    rw [if_pos (by omega), ← e2]
    exact e
def rdC (l : List Nat) (pl k : Nat) : Option (Nat × Nat) :=
  if pl + onesL (l.drop pl) < l.length then
    if l.length < pl + onesL (l.drop pl) + 1 + (if onesL (l.drop pl) < 20 then k else onesL (l.drop pl) - 19) then none
    else if onesL (l.drop pl) < 20 then some (onesL (l.drop pl) * 2 ^ k + valB ((l.drop (pl + onesL (l.drop pl) + 1)).take k), pl + onesL (l.drop pl) + 1 + k)
    else if (l.drop (pl + onesL (l.drop pl) + 1))[0]? = some 48 ∨ valB ((l.drop (pl + onesL (l.drop pl) + 1)).take (onesL (l.drop pl) - 19)) / 2 ^ k < 20 then none
    else some (valB ((l.drop (pl + onesL (l.drop pl) + 1)).take (onesL (l.drop pl) - 19)), pl + onesL (l.drop pl) + 1 + (onesL (l.drop pl) - 19))
  else none
theorem binB_head {u : Nat} (h : u ≠ 0) : (binB u)[0]? = some 49 := by
  unfold binB
  obtain ⟨m, hm⟩ : ∃ m, nb u = m + 1 := ⟨nb u - 1, by have := nb_pos u; omega⟩
  have h1 := nb_le h
  have h2 := nb_lt u
  rw [hm] at h1 h2 ⊢
  rw [lowB_front]
  have e : u / 2 ^ m = 1 := by
    have h3 : 2 ^ m ≤ u := h1
    rw [Nat.pow_succ] at h2
    have a := (Nat.le_div_iff_mul_le (Nat.two_pow_pos m)).mpr (show 1 * 2 ^ m ≤ u by omega)
    have b := (Nat.div_lt_iff_lt_mul (Nat.two_pow_pos m)).mpr (show u < 2 * 2 ^ m by omega)
    omega
  rw [e]
  rfl
theorem rdC_good (pre post : List Nat) (u k : Nat) : rdC (pre ++ (encB u k ++ post)) pre.length k = some (u, pre.length + (encB u k).length) := by
  have hd : (pre ++ (encB u k ++ post)).drop pre.length = encB u k ++ post := List.drop_left
  have hd2 : ∀ n, (pre ++ (encB u k ++ post)).drop (pre.length + n) = (encB u k ++ post).drop n := fun n => by rw [← List.drop_drop, hd]
  have hl : (pre ++ (encB u k ++ post)).length = pre.length + ((encB u k).length + post.length) := by rw [List.length_append, List.length_append]
  by_cases c : u / 2 ^ k < 20
  · have e : encB u k = List.replicate (u / 2 ^ k) 49 ++ 48 :: lowB u k := by
      unfold encB
      rw [if_pos c, List.append_assoc]
      rfl
    have el : (encB u k).length = u / 2 ^ k + 1 + k := by
      rw [e, List.length_append, List.length_replicate, List.length_cons, lowB_length]
      omega
    have o : onesL (encB u k ++ post) = u / 2 ^ k := by
      rw [e, List.append_assoc]
      exact onesL_rep _ _
    have dd : ((pre ++ (encB u k ++ post)).drop (pre.length + u / 2 ^ k + 1)).take k = lowB u k := by
      rw [Nat.add_assoc, hd2, e, List.append_assoc, List.cons_append]
      rw [show u / 2 ^ k + 1 = (List.replicate (u / 2 ^ k) 49).length + 1 by rw [List.length_replicate]]
      rw [← List.drop_drop, List.drop_left]
      show (lowB u k ++ post).take k = lowB u k
      exact List.take_left' (lowB_length u k)
    unfold rdC
    rw [hd, o, if_pos (by rw [hl, el]; omega), if_pos c, if_neg (by rw [hl, el]; omega), if_pos c, dd, valB_lowB, el]
    rw [Nat.mul_comm, Nat.div_add_mod]
    congr 2
    omega
  · have hu : u ≠ 0 := fun z => c (by rw [z, Nat.zero_div]; decide)
    have hnb := nb_pos u
    have e : encB u k = List.replicate (19 + nb u) 49 ++ 48 :: binB u := by
      unfold encB
      rw [if_neg c, List.append_assoc]
      rfl
    have el : (encB u k).length = 19 + nb u + 1 + nb u := by
      rw [e, List.length_append, List.length_replicate, List.length_cons, binB_length]
      omega
    have o : onesL (encB u k ++ post) = 19 + nb u := by
      rw [e, List.append_assoc]
      exact onesL_rep _ _
    have dd : (pre ++ (encB u k ++ post)).drop (pre.length + (19 + nb u) + 1) = binB u ++ post := by
      rw [Nat.add_assoc, hd2, e, List.append_assoc, List.cons_append]
      rw [show 19 + nb u + 1 = (List.replicate (19 + nb u) 49).length + 1 by rw [List.length_replicate]]
      rw [← List.drop_drop, List.drop_left]
      rfl
    have tk : (binB u ++ post).take (nb u) = binB u := List.take_left' (binB_length u)
    have vb : valB (binB u) = u := by
      unfold binB
      rw [valB_lowB, Nat.mod_eq_of_lt (nb_lt u)]
    have hh : (binB u ++ post)[0]? = some 49 := by
      rw [List.getElem?_append_left (by rw [binB_length]; omega)]
      exact binB_head hu
    unfold rdC
    rw [hd, o, if_pos (by rw [hl, el]; omega), if_neg (show ¬ 19 + nb u < 20 by omega), show 19 + nb u - 19 = nb u by omega, if_neg (by rw [hl, el]; omega), if_neg (show ¬ 19 + nb u < 20 by omega), dd, tk, vb, hh, if_neg, el]
    · congr 2
      omega
    · intro z
      rcases z with z | z
      · cases z
      · exact c z
def unU (u : Nat) : Int := if u % 2 = 0 then ((u / 2 : Nat) : Int) else -((u / 2 : Nat) : Int) - 1
theorem unU_uOf (n : Int) : unU (uOf n) = n := by
  have e := uOf_eq n
  unfold unU
  unfold codeU at e
  split at e <;> split <;> omega
theorem tw_all (p : Nat → Bool) : ∀ l : List Nat, (∀ c ∈ l, p c = true) → l.takeWhile p = l
  | [], _ => rfl
  | c :: r, h => by
    rw [List.takeWhile_cons, if_pos (h c List.mem_cons_self), tw_all p r fun d hd => h d (List.mem_cons_of_mem _ hd)]
theorem strip_B {l : List Nat} (h : ∀ c ∈ l, IsB c) : Txt.stripChars (S l) (S [48, 49]) = S [] := by
  have hc : ∀ c ∈ l, (S [48, 49]).cps.contains c = true := fun c hc => by
    rcases h c hc with e | e
    · rw [e]; decide +kernel
    · rw [e]; decide +kernel
  have tw : l.takeWhile (S [48, 49]).cps.contains = l := tw_all _ l hc
  have lo : stripLo (S [48, 49]).cps.contains true (S l) = l.length := by
    unfold stripLo
    rw [if_pos rfl]
    show (l.takeWhile _).length = _
    rw [tw]
  have hi : stripHi (S [48, 49]).cps.contains true (S l) l.length = l.length := by
    unfold stripHi
    rw [if_pos rfl]
    show (S l).length - ((l.drop l.length).reverse.takeWhile _).length = _
    rw [List.drop_length, S_len]
    rfl
  unfold Txt.stripChars Txt.stripBy
  cases hs : stripSame (S [48, 49]).cps.contains true true (S l) with
  | true =>
    rw [if_pos rfl]
    unfold stripSame at hs
    rw [lo, Bool.and_eq_true, beq_iff_eq] at hs
    rw [List.length_eq_zero_iff.mp hs.1]
  | false =>
    rw [if_neg Bool.false_ne_true]
    unfold stripped
    rw [lo, hi]
    refine TL.ext_tl ?_
    rw [TL.tl_strSub]
    simp
def rFind3 : V → List V → Hp → VK → Prop := fun x xs H Q => ∃ (a b : Str) (i : Int), x = .str a ∧ xs = [.str b, .int i] ∧ Q (.int (Txt.find3 a b i)) H
theorem mt_find3K {X : Cx} : MtR X "str.find" rFind3 := mt_find3
def rStripC : V → List V → Hp → VK → Prop := fun x xs H Q => ∃ a b, x = .str a ∧ xs = [.str b] ∧ a.length ≤ sizeLine ∧ Q (.str (Txt.stripChars a b)) H
theorem mt_stripK {X : Cx} : MtR X "str.strip" rStripC := mt_stripChars
section
variable {H : Hp} {Q : VK}
theorem rd_find {l : List Nat} {x : Str} {pl : Nat} (e : x = S [48]) (hpl : pl ≤ l.length) (h : Q (.int (fzI l pl)) H) : rFind3 (.str (S l)) [.str x, .int (pl : Int)] H Q := ⟨S l, x, (pl : Int), rfl, rfl, by rw [e, find_S l pl hpl]; exact h⟩
theorem rd_strip {l : List Nat} {x : Str} (e : x = S [48, 49]) (hl : l.length ≤ 16777216) (hb : ∀ c ∈ l, IsB c) (h : Q (.str (S [])) H) : rStripC (.str (S l)) [.str x] H Q := ⟨S l, x, rfl, rfl, by rw [S_len]; exact hl, by rw [e, strip_B hb]; exact h⟩
theorem rd_intB {l : List Nat} (hne : l ≠ []) (hl : l.length ≤ 640) (hb : ∀ c ∈ l, IsB c) (h : Q (.int ((valB l : Nat) : Int)) H) : rIntB [.str (S l), .int 2] H Q := ⟨l, rfl, hne, hl, hb, h⟩
theorem rd_slSM {l : List Nat} {a b : Nat} (ha : a ≤ l.length) (hb : b ≤ l.length) (hl : l.length ≤ 16777216) (h : Q (.str (S ((l.drop a).take (b - a)))) H) : C8.rSlX (.str (S l)) (some (a : Int)) (some (b : Int)) H Q := by
  refine ⟨S l, rfl, by rw [S_len]; exact hl, ?_⟩
  rw [← C8.cutS_slice]
  unfold cutS
  rw [S_len, HT.sIx_nat, HT.sIx_nat, Nat.min_eq_left ha, Nat.min_eq_left hb]
  exact h
end
theorem valB_zero (l : List Nat) : valB (48 :: l) = valB l := rfl
def spRdC : Sp := fun vs H Q _ => ∃ (l : List Nat) (pl k : Nat), vs = [.str (S l), .int (pl : Int), .int (k : Int)] ∧ (∀ c ∈ l, IsB c) ∧ l.length ≤ 1000000 ∧ pl ≤ l.length ∧ k ≤ 600 ∧ onesL (l.drop pl) ≤ 600 ∧ (rdC l pl k = none → Q .non H) ∧
  ∀ u e, rdC l pl k = some (u, e) → ∀ p, H p = none → Q (.ref p) (upd H p (.tup [.int ((u : Nat) : Int), .int ((e : Nat) : Int)]))
theorem use_rdC {l : List Nat} {pl k u e : Nat} {H : Hp} {Q : VK} {E : XK} (h1 : ∀ c ∈ l, IsB c) (h2 : l.length ≤ 1000000) (h3 : pl ≤ l.length) (h4 : k ≤ 600) (h5 : onesL (l.drop pl) ≤ 600) (h6 : rdC l pl k = some (u, e))
    (q : ∀ p, H p = none → Q (.ref p) (upd H p (.tup [.int ((u : Nat) : Int), .int ((e : Nat) : Int)]))) : spRdC ([.str (S l), .int (pl : Int), .int (k : Int)] ++ []) H Q E :=
  ⟨l, pl, k, rfl, h1, h2, h3, h4, h5, fun z => (by rw [h6] at z; cases z), fun u' e' z => (by rw [h6] at z; cases z; exact q)⟩
def spNumW : Sp := fun vs H Q _ => ∃ u : Nat, vs = [.int (u : Int)] ∧ Q (.int (unU u)) H
theorem use_numW {u : Nat} {H : Hp} {Q : VK} {E : XK} (q : Q (.int (unU u)) H) : spNumW ([.int (u : Int)] ++ []) H Q E := ⟨u, rfl, q⟩
/-- reading what was written -/
def spRd (K : PySem.W.Frag) : Sp := fun vs H Q _ => ∃ (ns : List Int) (first : Nat) (b : Addr) (T : Tb × Tb), vs = [.str (S (wst ns first T ns.length).1.flatten), .int (ns.length : Nat), .int (first : Int), .ref b] ∧ ns.length ≤ 64 ∧ first ≤ ns.length ∧ (∀ z ∈ ns, z.natAbs < 10 ^ 55) ∧ TbsV K H b T ∧ TbOk (10 ^ 58) T.1 ∧ TbOk (10 ^ 58) T.2 ∧
  ∀ p m q H', Same H H' → H p = none → H' p = some (.tup [.ref m, .ref q]) → H' m = some (.lst (ns.map V.int)) → TbsV K H' q (wst ns first T ns.length).2 → Q (.ref p) H'
theorem wst_bin (ns : List Int) (first : Nat) (T : Tb × Tb) : ∀ i, ∀ c ∈ (wst ns first T i).1.flatten, IsB c
  | 0, c, h => absurd h List.not_mem_nil
  | i + 1, c, h => by
    by_cases d : i < first
    · rw [wst_lo d, List.flatten_append] at h
      rcases List.mem_append.mp h with h | h
      · exact wst_bin ns first T i c h
      · rw [List.flatten_cons, List.flatten_nil, List.append_nil] at h
        exact encB_bin _ _ c h
    · rw [wst_hi d, List.flatten_append] at h
      rcases List.mem_append.mp h with h | h
      · exact wst_bin ns first T i c h
      · rw [List.flatten_cons, List.flatten_nil, List.append_nil] at h
        exact encB_bin _ _ c h
/-- what stands behind the i-th word -/
theorem wst_split (ns : List Int) (first : Nat) (T : Tb × Tb) (i : Nat) : ∀ n, i ≤ n → ∃ post, (wst ns first T n).1.flatten = (wst ns first T i).1.flatten ++ post
  | 0, h => by
    obtain rfl : i = 0 := by omega
    exact ⟨[], (List.append_nil _).symm⟩
  | n + 1, h => by
    by_cases e : i = n + 1
    · subst e
      exact ⟨[], (List.append_nil _).symm⟩
    · obtain ⟨post, hp⟩ := wst_split ns first T i n (by omega)
      by_cases d : n < first
      · rw [wst_lo d, List.flatten_append, hp, List.append_assoc]
        exact ⟨_, rfl⟩
      · rw [wst_hi d, List.flatten_append, hp, List.append_assoc]
        exact ⟨_, rfl⟩
theorem ones_enc (u k : Nat) (post : List Nat) (h : nb u ≤ 200) : onesL (encB u k ++ post) ≤ 600 := by
  unfold encB
  split
  · rw [List.append_assoc, List.append_assoc]
    show onesL (List.replicate (u / 2 ^ k) 49 ++ 48 :: _) ≤ 600
    rw [onesL_rep]
    omega
  · rw [List.append_assoc, List.append_assoc]
    show onesL (List.replicate (19 + nb u) 49 ++ 48 :: _) ≤ 600
    rw [onesL_rep]
    omega
theorem use_rd {K : PySem.W.Frag} {ns : List Int} {first n : Nat} {b : Addr} {T : Tb × Tb} {l : List Nat} {H : Hp} {Q : VK} {E : XK} (e : l = (wst ns first T ns.length).1.flatten) (en : n = ns.length) (h1 : ns.length ≤ 64) (h2 : first ≤ ns.length) (h3 : ∀ z ∈ ns, z.natAbs < 10 ^ 55) (h4 : TbsV K H b T) (o1 : TbOk (10 ^ 58) T.1) (o2 : TbOk (10 ^ 58) T.2)
    (q : ∀ p m q H', Same H H' → H p = none → H' p = some (.tup [.ref m, .ref q]) → H' m = some (.lst (ns.map V.int)) → TbsV K H' q (wst ns first T ns.length).2 → Q (.ref p) H') : spRd K ([.str (S l), .int (n : Nat), .int (first : Int), .ref b] ++ []) H Q E := by
  subst e en
  exact ⟨ns, first, b, T, rfl, h1, h2, h3, h4, o1, o2, q⟩
theorem rd_notBl {a : Bool} {H : Hp} {Q : VK} (h : Q (.bl (!decide (a = true))) H) : rNotB (.bl a) (.bl true) H Q := by
  first
    | exact ⟨a, true, rfl, rfl, h⟩
    | (refine ⟨_, _, rfl, rfl, ?_⟩; cases a <;> exact h)
end Z
namespace Z
open PySem PySem.Spec PyProof.Rows L2
open SX (S S_len S_cat S_inj)
def bitsOf (z : Str) : Bool := decide (V.str (Txt.stripChars z (S [48, 49])) = V.str (Str.ofString ""))
inductive BitR (H : Hp) : V → Bool → Prop where
  | str {z : Str} (h : z.length ≤ 1000) : BitR H (.str z) (bitsOf z)
  | non : BitR H .non false
  | int {i : Int} : BitR H (.int i) false
  | lst {a : Addr} {xs : List V} (h : H a = some (.lst xs)) : BitR H (.ref a) false
def layB (ln : V) (b : Bool) (lv st : V) : Bool := (inI ln 1 64 && b) && (inI lv 0 5 && inI st 1 64)
def frB (v0 ln : V) (b : Bool) (lv st mk : V) (c : Bool) : Bool := decide (v0 = V.str (Str.ofString "frame")) && (layB ln b lv st && (inI mk 0 9972 && c))
inductive RecR (H : Hp) : V → Bool → Prop where
  | flat {x : V} (h : scalarV x = true) : RecR H x false
  | lst {a : Addr} {xs : List V} (h : H a = some (.lst xs)) : RecR H (.ref a) false
  | tupn {a : Addr} {xs : List V} (h : H a = some (.tup xs)) (n : xs.length ≠ 2) (m : xs.length ≠ 7) : RecR H (.ref a) false
  | st {a : Addr} {s : Str} {v : V} {b : Bool} (h : H a = some (.tup [.str s, v])) (hv : TSR H v b) : RecR H (.ref a) (decide (V.str s = V.str (Str.ofString "state")) && b)
  | fr {a : Addr} {v0 ln jt lv st mk bt : V} {b c : Bool} (h : H a = some (.tup [v0, ln, jt, lv, st, mk, bt])) (h0 : scalarV v0 = true) (hl : TyV H ln) (hj : JR H jt b) (h3 : TyV H lv) (h4 : TyV H st) (h5 : TyV H mk) (hb : BitR H bt c) : RecR H (.ref a) (frB v0 ln b lv st mk c)
section
variable {H H' : Hp} {x : V} {b : Bool}
theorem tyv_same (s : Same H H') (h : TyV H x) : TyV H' x := by
  cases x with
  | ref a =>
    rcases h with ⟨xs, h⟩ | ⟨xs, h⟩
    · exact .inl ⟨xs, s _ _ h⟩
    · exact .inr ⟨xs, s _ _ h⟩
  | _ => exact h
theorem JR.same (s : Same H H') (h : JR H x b) : JR H' x b := by
  cases h with
  | flat h => exact .flat h
  | lst h => exact .lst (s _ _ h)
  | tupn h n => exact .tupn (s _ _ h) n
  | tup2 h hu hv => exact .tup2 (s _ _ h) (tyv_same s hu) (tyv_same s hv)
theorem TR.same (s : Same H H') (h : TR H x b) : TR H' x b := by
  cases h with
  | flat h => exact .flat h
  | lst h => exact .lst (s _ _ h)
  | tupn h n => exact .tupn (s _ _ h) n
  | tup2 h hu hv => exact .tup2 (s _ _ h) (tyv_same s hu) (tyv_same s hv)
theorem TSR.same (s : Same H H') (h : TSR H x b) : TSR H' x b := by
  cases h with
  | flat h => exact .flat h
  | lst h => exact .lst (s _ _ h)
  | tupn h n => exact .tupn (s _ _ h) n
  | tup2 h hu hv => exact .tup2 (s _ _ h) (hu.same s) (hv.same s)
theorem BitR.same (s : Same H H') (h : BitR H x b) : BitR H' x b := by
  cases h with
  | str h => exact .str h
  | non => exact .non
  | int => exact .int
  | lst h => exact .lst (s _ _ h)
theorem RecR.same (s : Same H H') (h : RecR H x b) : RecR H' x b := by
  cases h with
  | flat h => exact .flat h
  | lst h => exact .lst (s _ _ h)
  | tupn h n m => exact .tupn (s _ _ h) n m
  | st h hv => exact .st (s _ _ h) (hv.same s)
  | fr h h0 hl hj h3 h4 h5 hb => exact .fr (s _ _ h) h0 (tyv_same s hl) (hj.same s) (tyv_same s h3) (tyv_same s h4) (tyv_same s h5) (hb.same s)
end
theorem rd_slTp {K : PySem.W.Frag} {H : Hp} {Q : VK} {a : Addr} {xs : List V} {lo hi : Option Int} {ys : List V} (h : SqT K H a xs) (e : cutV xs lo hi = ys) (n : ¬ (HT.sIx xs.length 0 lo = 0 ∧ HT.sIx xs.length xs.length hi = xs.length)) (q : ∀ p, H p = none → Q (.ref p) (upd H p (.tup ys))) : rSlT K (.ref a) lo hi H Q := ⟨a, xs, rfl, h, n, fun p hp => by rw [e]; exact q p hp⟩
inductive GR (H : Hp) (a : Addr) : Nat → Prop where
  | st {v : V} (h : H a = some (.tup [.str (Str.ofString "state"), v])) (hv : TSR H v true) : GR H a 80
  | fr {ln lv st mk : Int} {jt : V} {l : List Nat} (h : H a = some (.tup [.str (Str.ofString "frame"), .int ln, jt, .int lv, .int st, .int mk, .str (S l)])) (hj : JR H jt true) (h1 : inI (.int ln) 1 64 = true) (h2 : inI (.int lv) 0 5 = true) (h3 : inI (.int st) 1 64 = true) (h4 : inI (.int mk) 0 9972 = true) (hl : l.length ≤ 1000) (hb : ∀ c ∈ l, IsB c) : GR H a (40 + l.length)
theorem GR.same {H H' : Hp} {a : Addr} {n : Nat} (s : Same H H') (h : GR H a n) : GR H' a n := by
  cases h with
  | st h hv => exact .st (s _ _ h) (hv.same s)
  | fr h hj h1 h2 h3 h4 hl hb => exact .fr (s _ _ h) (hj.same s) h1 h2 h3 h4 hl hb
theorem GR.tup {H : Hp} {a : Addr} {n : Nat} (h : GR H a n) : ∃ xs, H a = some (.tup xs) := by
  cases h with
  | st h _ => exact ⟨_, h⟩
  | fr h _ _ _ _ _ _ _ => exact ⟨_, h⟩
theorem st_ne_fr : ¬ V.str (Str.ofString "frame") = V.str (Str.ofString "state") := by decide
/-- what spoils a frame at a place -/
def Bad (H : Hp) : Nat → V → Prop
  | 0, v => scalarV v = true ∧ v ≠ V.str (Str.ofString "frame")
  | 1, v => TyV H v ∧ inI v 1 64 = false
  | 2, v => JR H v false
  | 3, v => TyV H v ∧ inI v 0 5 = false
  | 4, v => TyV H v ∧ inI v 1 64 = false
  | 5, v => TyV H v ∧ inI v 0 9972 = false
  | 6, v => BitR H v false
  | _, _ => False
theorem Bad.same {H H' : Hp} (s : Same H H') : ∀ {n : Nat} {v : V}, Bad H n v → Bad H' n v
  | 0, _, h => h
  | 1, _, h => ⟨tyv_same s h.1, h.2⟩
  | 2, _, h => JR.same s h
  | 3, _, h => ⟨tyv_same s h.1, h.2⟩
  | 4, _, h => ⟨tyv_same s h.1, h.2⟩
  | 5, _, h => ⟨tyv_same s h.1, h.2⟩
  | 6, _, h => BitR.same s h
  | _ + 7, _, h => h
def frL (j : Addr) : List V := [.str (Str.ofString "frame"), .int 4, .ref j, .int 2, .int 1, .int 7, .str (Str.ofString "010")]
theorem cutV_to (xs : List V) (k : Nat) : cutV xs none (some (k : Int)) = xs.take k := by
  unfold cutV
  rw [HT.sIx_none, show HT.sIx xs.length xs.length (some (k : Int)) = min k xs.length from HT.sIx_nat _ _ k, List.drop_zero, Nat.sub_zero, ← List.take_take, List.take_length]
theorem rd_slGT {K : PySem.W.Frag} {H : Hp} {Q : VK} {a : Addr} {xs : List V} {k : Nat} (h : SqL K H a xs) (q : ∀ p, H p = none → Q (.ref p) (upd H p (.lst (xs.take k)))) : rSlL K (.ref a) none (some (k : Int)) H Q := ⟨a, xs, rfl, h, fun p hp => by rw [cutV_to]; exact q p hp⟩
theorem tr_ok {H : Hp} {r : Addr} {t c : Int} (h : H r = some (.tup [.int t, .int c])) (h0 : 0 ≤ t) (h1 : 1 ≤ c) (h2 : c ≤ 15) : TR H (.ref r) true := by
  have z := TR.tup2 h trivial trivial
  rw [show tt (.int t) (.int c) = true by rw [tt_int, decide_eq_true h0]; simp [inI, h1, h2]] at z
  exact z
def msk (p : Addr) (H : Hp) : Hp := fun a => if a = p then none else H a
section
variable {p a : Addr} {H H' : Hp} {o : HO}
theorem msk_same (s : Same H H') : Same (msk p H) (msk p H') := fun b x e => by
  unfold msk at e ⊢
  split at e
  · cases e
  · rename_i n
    rw [if_neg n]
    exact s _ _ e
end
/-- the tables and the frame of the law's bad records -/
def OS (p tl fr j : Addr) (xs : List V) (G : Hp) : Prop := msk p G tl = some (.lst xs) ∧ xs.length ≤ 20 ∧ (∀ v ∈ xs, TSR (msk p G) v false) ∧ msk p G fr = some (.lst (frL j)) ∧ msk p G j = some (.tup [.int 1, .int 2])
theorem OS.same {p tl fr j : Addr} {xs : List V} {G G' : Hp} (s : Same G G') (h : OS p tl fr j xs G) : OS p tl fr j xs G' := ⟨msk_same s _ _ h.1, h.2.1, fun v hv => (h.2.2.1 v hv).same (msk_same s), msk_same s _ _ h.2.2.2.1, msk_same s _ _ h.2.2.2.2⟩
def Fld (G : Hp) (i : Nat) (v : V) : Prop := ∃ a xs, v = .ref a ∧ G a = some (.lst xs) ∧ xs.length ≤ 10 ∧ ∀ x ∈ xs, Bad G i x
theorem Fld.same {G G' : Hp} (s : Same G G') {i : Nat} {v : V} (h : Fld G i v) : Fld G' i v := let ⟨a, xs, e, e1, n, b⟩ := h; ⟨a, xs, e, s _ _ e1, n, fun x hx => (b x hx).same s⟩
def FldL (G : Hp) (fs : List V) : Prop := ∀ (i : Nat) v, fs[i]? = some v → Fld G i v
theorem FldL.same {G G' : Hp} (s : Same G G') {fs : List V} (h : FldL G fs) : FldL G' fs := fun i v e => (h i v e).same s
theorem FldL.app {G : Hp} {fs ys : List V} (h : FldL G fs) (k : ∀ (i : Nat) v, ys[i]? = some v → Fld G (fs.length + i) v) : FldL G (fs ++ ys) := fun i v e => by
  by_cases c : i < fs.length
  · rw [List.getElem?_append_left c] at e
    exact h i v e
  · rw [List.getElem?_append_right (by omega)] at e
    have z := k _ v e
    rw [show fs.length + (i - fs.length) = i by omega] at z
    exact z
theorem FldL.nil {G : Hp} : FldL G [] := fun i v e => by simp at e
theorem mm_nat2 (n c : Nat) (hc : 1 ≤ c) : (if (if (n : Int) < (c : Int) then (n : Int) else (c : Int)) > 1 then (if (n : Int) < (c : Int) then (n : Int) else (c : Int)) else 1).toNat ≤ c := by
  split
  · split <;> omega
  · omega
end Z
namespace Z
open PySem PySem.Spec PyProof.Rows L2
/-- the ends of a suite whose name goes behind it -/
def goEnds (i : Nat) (D : Ends) : Ends := ⟨fun σ H => D.nx (σ.set i none) H, D.rt, fun σ H => D.bk (σ.set i none) H, fun σ H => D.ct (σ.set i none) H⟩
def wNamed (K : PySem.W.Frag) (Wo : WX) (D : Ends) : List (Value × Nat × (Addr → Value → Option Addr → TS)) → WX
  | [] => Wo
  | e :: r => fun k d σ H => ∃ b, PySem.W.exmOne K k e.1 = some b ∧ (b = true → ∀ a, H a = none → e.2.2 a k d (goEnds e.2.1 D) (σ.set e.2.1 (some (.ref a))) H) ∧ (b = false → wNamed K Wo D r k d σ H)
inductive NamedOk (X : Cx) : List ExceptHandler → List (Value × Nat × (Addr → Value → Option Addr → TS)) → Prop
  | nil : NamedOk X [] []
  | cons {x n : Str} {c : Value} {i : Nat} {ts : Addr → Value → Option Addr → TS} {b : Stmt} {bs : List Stmt} {p q : Pos} {r : List ExceptHandler} {l : List (Value × Nat × (Addr → Value → Option Addr → TS))}
      (hi : X.N[i]? = some n) (hn : X.env.kindOf n = some .local) (hc : Names X x c) (su : ∀ (a : Addr) (oe : Obj) (k : Value) (d : Option Addr) (pn : List (Addr × Obj)), Zc k d oe → (∃ vs, oe.data = .fields vs) → PSs (X.suite a ((a, oe) :: pn)) (b :: bs) (ts a k d))
      (m : NamedOk X r l) : NamedOk X (.ExceptHandler (some (.Name x p)) (some n) (b :: bs) q :: r) ((c, i, ts) :: l)
theorem ps_try_named {X : Cx} {body : List Stmt} {h0 : ExceptHandler} {hds : List ExceptHandler} {l : List (Value × Nat × (Addr → Value → Option Addr → TS))} {pos : Pos} {tb : WX → TS} {Wo : WX}
    (e1 : X.stack = X.env :: X.outer) (e2 : X.env.frame = some X.env.locals) (nd : X.N.Nodup) (tk : Takes X Wo)
    (hb : ∀ (W : WX) (pn : List (Addr × Obj)) (xe : Value → Shared → Prop), Takes (X.tr pn xe) W → PassesOwn (model X.prog X.w) X.A X.env xe → PSs (X.tr pn xe) body (tb W))
    (hh : NamedOk X (h0 :: hds) l) : PS X (.Try body (h0 :: hds) [] [] pos) (fun D σ H => tb (wNamed X.K Wo D l) D σ H) := by
  constructor
  intro pins s σ H D I h
  have ok := I.ok
  have fr : X.A.frames = some (X.env :: X.outer) := ok.frames.trans (congrArg some e1)
  apply wpAny_Try_except
  have run := (hb (wNamed X.K Wo D l) (X.pn ++ pins) (fun e z => wpAny (model X.prog X.w) X.A (noteFrame e X.env) (fun _ z => wpAny (model X.prog X.w) X.A (setFlight e none) (fun _ z => wpAny (model X.prog X.w) X.A (handleBy e X.env (h0 :: hds)) (SP X pins D) X.xe z) X.xe z) X.xe z)
    ?caught PassesOwn.looking).run [] s σ H D (I.toTry _) h
  case caught =>
    rintro u z ⟨a, B, sI, pn2, τ, G, k, d, rfl, J0, nb, up, sky, na, os, ag, w⟩
    have J : Inv X pins τ G sI := J0.ofTry ok
    have sk : Sky B (X.env :: X.outer) a (Zc k d) X.env.locals z.heap := e1 ▸ sky
    show wpAny _ X.A (noteFrame (.ref a) X.env) _ _ _
    refine Sky.land Zc.steady fr e2 sk fun g3 f3 u3 => ?_
    have J3 : Inv X pins τ G { z with heap := g3 } := J.landed nb f3.1 (up.trans u3) os ag
    obtain ⟨o3, vs3, q1, q2, q3⟩ := f3.there
    have off : a ∉ frs (X.env :: X.outer) := fun hm => by
      obtain ⟨_, o', z1, z2⟩ := f3.2.2.1.mem hm
      have z3 := Option.some.inj (q1.symm.trans z1)
      subst z3
      exact z2 _ q3
    have offL : a ≠ X.env.locals := fun y => off (List.mem_filterMap.mpr ⟨_, .head _, by rw [e2, y]⟩)
    have offF : a ∉ X.fs := fun hm => let ⟨e, y1, y2⟩ := List.mem_filterMap.mp hm; off (List.mem_filterMap.mpr ⟨e, .tail _ y1, y2⟩)
    have S3 := J3.suite q1 q3 na offL offF
    suffices go : ∀ {hs2 : List ExceptHandler} {l2 : List (Value × Nat × (Addr → Value → Option Addr → TS))}, NamedOk X hs2 l2 → wNamed X.K Wo D l2 k d τ G → wpAny (model X.prog X.w) X.A (handleBy (.ref a) X.env hs2) (SP X pins D) X.xe { z with heap := g3 } from go hh w
    intro hs2 l2 hk
    induction hk with
    | nil =>
      intro w
      apply wpAny_handleBy_nil
      obtain ⟨_, _, _, oe, vs, T, oT, tS, y1, y2, y3, y4, y5⟩ := id f3
      unfold PySem.passOn
      refine wpAny_bind (wpAny_field y1 y3 y4 ?_)
      rw [if_neg (by simp : ¬ ((Value.ref T == Value.none) = true))]
      have last : wpAny (model X.prog X.w) X.A (setFlight (.ref a) X.env.frame) (fun _ y => wpAny (model X.prog X.w) X.A (throw (.ref a) : Sem Flow) (SP X pins D) X.xe y) X.xe { z with heap := g3 } :=
        e2 ▸ HandSPX.setFlight_upZ f3 fun g4 f4 u4 => wpAny_throw (tk _ _ ⟨a, B, sI, pins, τ, G, k, d, rfl, J, nb, (up.trans u3).trans u4, .inr (.inr (e1 ▸ f4)), na, os, ag, w⟩)
      first
        | exact wpAny_bind last
        | exact wpAny_bind (wpAny_pure (wpAny_bind last))
    | @cons x n c i ts b bs p q r l3 hi hn hc su m ih =>
      rintro ⟨t, t1, t2, t3⟩
      refine wpAny_handleBy_cons (codeAny_handlers_test ?_) (fun q => nomatch q)
      have look : PySem.W.Looks (model X.prog X.w) g3 (typeOf (.ref a)) k := fun A Q E s y v => wpAny_typeOf_ref (y _ _ q1) (q2.1.symm ▸ v)
      have name : ∀ {Q E : Value → Shared → Prop}, Q c { z with heap := g3 } → wpAny (model X.prog X.w) (X.A.mark (some (.ref a))) (eval (.Name x p) X.env) Q E { z with heap := g3 } := by
        intro Q E v
        obtain ⟨y1, y2, y3⟩ := hc
        cases y3 with
        | inl y3 => exact ld_glob (X := X.suite a ((a, o3) :: (X.pn ++ pins))) S3 y1 y3 v y2
        | inr y3 => exact ld_blt (X := X.suite a ((a, o3) :: (X.pn ++ pins))) S3 y1 y3.1 y3.2.1 v y3.2.2 y2
      refine name ((PySem.W.exm_one (M := model X.prog X.w) J3.kIn look t1).here ?_)
      cases t with
      | false => exact ih (t3 rfl)
      | true =>
        apply codeAny_handlers_suite_as
        refine HandSPX.lands_againZ f3 fun g4 f4 u4 => ?_
        have J4 : Inv X pins τ G { z with heap := g4 } := J.landed nb f4.1 ((up.trans u3).trans u4) os ag
        obtain ⟨o4, vs4, r1, r2, r3⟩ := f4.there
        refine store_ok (X := X.suite a ((a, o4) :: (X.pn ++ pins))) (v := .ref a) (J4.suite r1 r3 na offL offF) nd hi (.inl hn) rfl (fun s5 S5 => ?_) (.inr hn)
        refine wpAny_mono ((su a o4 k d _ r2 ⟨_, r3⟩).run [] s5 _ G _ S5 (t2 rfl a na)) (fun f s6 hp => ?_) (fun _ _ v => v.elim)
        have close : ∀ {τ' : L2.St} {G' : Hp} {Q : Shared → Prop}, Inv (X.suite a ((a, o4) :: (X.pn ++ pins))) [] τ' G' s6 → (∀ y, Inv X pins (τ'.set i none) G' y → Q y) →
            wpAny (model X.prog X.w) X.A (do bindName X.env n .none; unbindBehindTheSuite X.env n q) (fun _ y => Q y) X.xe s6 := fun S6 hq => gone_ok (S6.unsuite ok) nd hi hn hq
        cases f with
        | ret v =>
          obtain ⟨v', τ', G', S6, y1, y2⟩ := hp
          exact close S6 fun y Jy => ⟨v', _, G', Jy, y1, y2⟩
        | next => exact let ⟨τ', G', S6, y⟩ := hp; close S6 fun _ Jy => ⟨_, G', Jy, y⟩
        | brk => exact let ⟨τ', G', S6, y⟩ := hp; close S6 fun _ Jy => ⟨_, G', Jy, y⟩
        | cont => exact let ⟨τ', G', S6, y⟩ := hp; close S6 fun _ Jy => ⟨_, G', Jy, y⟩
  refine wpAny_mono run (fun f y hp => ?_) (fun _ _ v => v)
  cases f with
  | next => exact let ⟨τ', G', J, v⟩ := hp; wpAny_execs_nil ⟨τ', G', J.ofTry ok, v⟩
  | brk => exact let ⟨τ', G', J, v⟩ := hp; ⟨τ', G', J.ofTry ok, v⟩
  | cont => exact let ⟨τ', G', J, v⟩ := hp; ⟨τ', G', J.ofTry ok, v⟩
  | ret u => exact let ⟨v, τ', G', J, r, y⟩ := hp; ⟨v, τ', G', J.ofTry ok, r, y⟩
end Z
namespace Z
open PySem PySem.Spec PyProof.Rows L2
/-- told: what the errors of a call become, and what its end becomes -/
def ErM (L : List (Addr × Str × (V → List V))) (Q : VK) : XK := fun cls d H' => ∃ e ∈ L, ErL e.1 e.2.1 e.2.2 Q cls d H'
def TTm (L : List (Addr × Str × (V → List V))) (Fin : V → Hp → VK → Prop) : (XK → Hp → VK → Prop) → Hp → VK → Prop := fun tl H Q => ∀ Qn : VK, (∀ v H', Fin v H' Q → Qn v H') → tl (ErM L Q) H Qn
theorem rd_toldM {L : List (Addr × Str × (V → List V))} {Fin : V → Hp → VK → Prop} {tl : XK → Hp → VK → Prop} {H : Hp} {Q : VK} (h : ∀ Qn : VK, (∀ v H', Fin v H' Q → Qn v H') → tl (ErM L Q) H Qn) : TTm L Fin tl H Q := h
/-- the first item that is no integer -/
inductive IT (H : Hp) (xs : List V) : Option Nat → Prop where
  | bad {i : Nat} {v : V} (b : ∀ j, j < i → ∃ z, xs[j]? = some (.int z)) (e : xs[i]? = some v) (n : isI v = false) (t : ∀ x ∈ xs, TyV H x) : IT H xs (some i)
  | good {ns : List Int} (e : xs = ns.map V.int) : IT H xs none
theorem tyvS {H H' : Hp} {v : V} (s : Same H H') (h : TyV H v) : TyV H' v := by
  cases v with
  | ref a => exact h.elim (fun ⟨xs, e⟩ => .inl ⟨xs, s _ _ e⟩) fun ⟨xs, e⟩ => .inr ⟨xs, s _ _ e⟩
  | _ => exact h
theorem IT.same {H H' : Hp} {xs : List V} {o : Option Nat} (s : Same H H') (h : IT H xs o) : IT H' xs o := by
  cases h with
  | bad b e n t => exact .bad b e n fun x hx => tyvS s (t x hx)
  | good e => exact .good e
theorem IT.at {H : Hp} {xs : List V} {o : Option Nat} {i : Nat} {v : V} (h : IT H xs o) (e : xs[i]? = some v) (hi : ∀ k, o = some k → i ≤ k) : (o = some i ∧ isI v = false ∧ TyV H v) ∨ (∃ z, v = .int z) ∧ ∀ k, o = some k → i + 1 ≤ k := by
  cases h with
  | @bad k u b eu n t =>
    have hk := hi k rfl
    by_cases hik : i = k
    · subst hik
      rw [e] at eu
      cases eu
      exact .inl ⟨rfl, n, t v (List.mem_of_getElem? e)⟩
    · obtain ⟨z, hz⟩ := b i (by omega)
      rw [e] at hz
      cases hz
      exact .inr ⟨⟨z, rfl⟩, fun k' e' => by cases e'; omega⟩
  | @good ns eu =>
    subst eu
    rw [List.getElem?_map] at e
    cases g : ns[i]? with
    | none => rw [g] at e; cases e
    | some z => rw [g] at e; cases e; exact .inr ⟨⟨z, rfl⟩, fun k' e' => nomatch e'⟩
theorem IT.len {H : Hp} {xs : List V} {o : Option Nat} (h : IT H xs o) (hi : ∀ k, o = some k → xs.length ≤ k) : o = none := by
  cases h with
  | bad b e n t => exact absurd (hi _ rfl) (Nat.not_le.mpr (List.getElem?_eq_some_iff.mp e).1)
  | good e => rfl
/-- what a block check says of a value -/
inductive BR (H : Hp) : V → Option V → Prop where
  | flat {x : V} (h : scalarV x = true) : BR H x (some .non)
  | tup {a : Addr} {xs : List V} (h : H a = some (.tup xs)) : BR H (.ref a) (some .non)
  | size {a : Addr} {xs : List V} (h : H a = some (.lst xs)) (n : ¬ (1 ≤ xs.length ∧ xs.length ≤ 64)) (m : xs.length ≤ 1000) : BR H (.ref a) (some .non)
  | item {a : Addr} {xs : List V} {o : Option Nat} (h : H a = some (.lst xs)) (n1 : 1 ≤ xs.length) (n2 : xs.length ≤ 64) (t : IT H xs o) : BR H (.ref a) (o.map fun i => .int (i : Nat))
theorem BR.same {H H' : Hp} {x : V} {o : Option V} (s : Same H H') (h : BR H x o) : BR H' x o := by
  cases h with
  | flat h => exact .flat h
  | tup h => exact .tup (s _ _ h)
  | size h n m => exact .size (s _ _ h) n m
  | item h n1 n2 t => exact .item (s _ _ h) n1 n2 (t.same s)
theorem BR.fine {H : Hp} {x : V} (h : BR H x none) : ∃ (a : Addr) (ns : List Int), x = .ref a ∧ H a = some (.lst (ns.map V.int)) ∧ 1 ≤ ns.length ∧ ns.length ≤ 64 := by
  obtain ⟨o, ho, h⟩ : ∃ o : Option V, o = none ∧ BR H x o := ⟨_, rfl, h⟩
  cases h with
  | flat _ => cases ho
  | tup _ => cases ho
  | size _ _ _ => cases ho
  | @item a xs o h n1 n2 t =>
    cases t with
    | bad _ _ _ _ => cases ho
    | @good ns e =>
      subst e
      rw [List.length_map] at n1 n2
      exact ⟨a, ns, rfl, h, n1, n2⟩
theorem BR.ty {H : Hp} {x : V} {o : Option V} (h : BR H x o) : TyV H x := by
  cases h with
  | flat h => cases x <;> first | exact True.intro | exact Bool.noConfusion h
  | tup h => exact .inr ⟨_, h⟩
  | size h _ _ => exact .inl ⟨_, h⟩
  | item h _ _ _ => exact .inl ⟨_, h⟩
def scOk : V → Bool
  | .non => true
  | .bl _ => true
  | .int _ => true
  | .str s => PyData.strOk s
  | _ => false
theorem scOk.sc {v : V} (h : scOk v = true) : scalarV v = true := by cases v <;> first | rfl | exact Bool.noConfusion h
def EV (l : List Addr) (H : Hp) (v : V) : Prop := scOk v = true ∨ ∃ a xs, v = .ref a ∧ a ∉ l ∧ (H a = some (.lst xs) ∨ H a = some (.tup xs)) ∧ ∀ x ∈ xs, scOk x = true
def KpLN (l : List Addr) (H H' : Hp) : Prop := ∀ a o, a ∉ l → H a = some o → (∀ ps, o ≠ .tbl ps) → H' a = some o
section
variable {l : List Addr} {p q : Addr} {H H' H1 H2 : Hp} {o : HO} {v : V} {K : PySem.W.Frag}
theorem nm_cons {a b : Addr} {m : List Addr} (h : a ≠ b) (k : a ∉ m) : a ∉ b :: m := fun z => (List.mem_cons.mp z).elim h k
theorem ne_new {a b : Addr} {u : HO} (h : H a = none) (k : H b = some u) : a ≠ b := fun z => by rw [z, k] at h; cases h
theorem KpLN.refl : KpLN l H H := fun _ _ _ h _ => h
theorem KpLN.trans (a : KpLN l H H1) (b : KpLN l H1 H2) : KpLN l H H2 := fun c o n h t => b c o n (a c o n h t) t
theorem KpLN.ofL (k : KpL l H H') : KpLN l H H' := fun a o n h _ => k a o n h
theorem KpLN.of (s : Same H H') : KpLN l H H' := fun a o _ h _ => s a o h
theorem KpLN.ofN (s : LamX.ExtN H H') : KpLN l H H' := fun a o _ h t => s a o h t
theorem KpLN.ofK (m : p ∈ l) (k : Kp p H H') : KpLN l H H' := .ofL (KpL.ofK m k)
theorem KpLN.new (n : H q = none) : KpLN l H (upd H q o) := .of (same_new n)
theorem KpLN.at (m : q ∈ l) : KpLN l H (upd H q o) := .ofL (KpL.at m)
theorem EV.kp (k : KpLN l H H') (h : EV l H v) : EV l H' v := by
  rcases h with h | ⟨a, xs, e, n, h | h, s⟩
  · exact .inl h
  · exact .inr ⟨a, xs, e, n, .inl (k _ _ n h lst_ntbl), s⟩
  · exact .inr ⟨a, xs, e, n, .inr (k _ _ n h tup_ntbl), s⟩
theorem EV.set {xs : List V} {j : Nat} {S : Addr} {u : HO} (h : ∀ x ∈ xs, EV l H x) (hv : EV l H v) (m : S ∈ l) : ∀ x ∈ xs.set j v, EV l (upd H S u) x := fun x hx => by
  have k : KpLN l H (upd H S u) := .at m
  rcases List.mem_or_eq_of_mem_set hx with hx | rfl
  · exact (h x hx).kp k
  · exact hv.kp k
theorem EV.ty (h : EV l H v) : TyV H v := by
  rcases h with h | ⟨a, xs, rfl, _, h | h, _⟩
  · cases v <;> first | exact True.intro | exact Bool.noConfusion h
  · exact .inl ⟨xs, h⟩
  · exact .inr ⟨xs, h⟩
theorem EV.sm (h : EV l H v) : SmV K H 1 v v := by
  rcases h with h | ⟨a, xs, rfl, _, h | h, s⟩
  · exact .inl ⟨rfl, scOk.sc h⟩
  · exact .inr (.inl ⟨a, a, xs, xs, rfl, rfl, .of h, .of h, rfl, fun i x y e1 e2 => by
      rw [e1] at e2
      exact ⟨Option.some.inj e2, scOk.sc (s x (List.mem_of_getElem? e1))⟩⟩)
  · exact .inr (.inr ⟨a, a, xs, xs, rfl, rfl, .of h, .of h, rfl, fun i x y e1 e2 => by
      rw [e1] at e2
      exact ⟨Option.some.inj e2, scOk.sc (s x (List.mem_of_getElem? e1))⟩⟩)
theorem EV.sc (h : scOk v = true) : EV l H v := .inl h
theorem EV.lst {a : Addr} {xs : List V} (n : a ∉ l) (h : H a = some (.lst xs)) (s : ∀ x ∈ xs, scOk x = true) : EV l H (.ref a) := .inr ⟨a, xs, rfl, n, .inl h, s⟩
theorem EV.tup {a : Addr} {xs : List V} (n : a ∉ l) (h : H a = some (.tup xs)) (s : ∀ x ∈ xs, scOk x = true) : EV l H (.ref a) := .inr ⟨a, xs, rfl, n, .inr h, s⟩
def spOddE : Sp := fun vs H Q _ => ∃ (p : Addr), vs = [.ref p] ∧ Pool H p ∧ ∀ v H', EV [p] H' v → Pool H' p → Kp p H H' → Q v H'
theorem use_oddE {Q : VK} {E : XK} (h : Pool H p) (q : ∀ v H', EV [p] H' v → Pool H' p → Kp p H H' → Q v H') : spOddE ([.ref p] ++ []) H Q E := ⟨p, rfl, h, q⟩
end
def GV (p : Addr) (H : Hp) (xs : List V) (x : V) : Prop := (∃ a, x = .ref a ∧ a ≠ p ∧ H a = some (.lst xs)) ∨ scalarV x = true ∨ ∃ a ys, x = .ref a ∧ a ≠ p ∧ H a = some (.tup ys)
section
variable {p S : Addr} {H H' H1 H2 H3 : Hp} {xs ys : List V} {x : V} {o : Option V} {T : List (Addr × Str)}
theorem GV.kp (k : KpLN [p] H H') (h : GV p H xs x) : GV p H' xs x := by
  rcases h with ⟨a, e, n, h⟩ | h | ⟨a, ys, e, n, h⟩
  · exact .inl ⟨a, e, n, k _ _ (nm_cons n List.not_mem_nil) h lst_ntbl⟩
  · exact .inr (.inl h)
  · exact .inr (.inr ⟨a, ys, e, n, k _ _ (nm_cons n List.not_mem_nil) h tup_ntbl⟩)
theorem tyvE (s : LamX.ExtN H H') (h : TyV H x) : TyV H' x := by
  cases x with
  | ref a => exact h.elim (fun ⟨xs, e⟩ => .inl ⟨xs, s _ _ e lst_ntbl⟩) fun ⟨xs, e⟩ => .inr ⟨xs, s _ _ e tup_ntbl⟩
  | _ => exact h
theorem BR.ext (s : LamX.ExtN H H') (h : BR H x o) : BR H' x o := by
  cases h with
  | flat h => exact .flat h
  | tup h => exact .tup (s _ _ h tup_ntbl)
  | size h n m => exact .size (s _ _ h lst_ntbl) n m
  | item h n1 n2 t =>
    refine .item (s _ _ h lst_ntbl) n1 n2 ?_
    cases t with
    | bad b e n t => exact .bad b e n fun x hx => tyvE s (t x hx)
    | good e => exact .good e
theorem KpLN.drop {l : List Addr} (k : KpLN (S :: l) H H') (n : H S = none) : KpLN l H H' := fun a o m h t => k a o (nm_cons (fun z => by rw [z, n] at h; cases h) m) h t
theorem extN_same (s : Same H H') : LamX.ExtN H H' := .of fun b o e => s b o e
end
end Z
namespace Z
open PySem PySem.Spec PyProof.Rows L2
def PV (l : List Addr) (H : Hp) : Nat → V → Prop
  | 0, v => scOk v = true
  | n + 1, v => scOk v = true ∨ ∃ a xs, v = .ref a ∧ a ∉ l ∧ LT H a xs ∧ ∀ x ∈ xs, PV l H n x
section
variable {l : List Addr} {p q S : Addr} {H H' : Hp} {v : V} {K : PySem.W.Frag}
theorem LT.kpln {a : Addr} {xs : List V} (k : KpLN l H H') (n : a ∉ l) (h : LT H a xs) : LT H' a xs := h.imp (fun e => k _ _ n e lst_ntbl) fun e => k _ _ n e tup_ntbl
theorem PV.kp (k : KpLN l H H') : ∀ {n : Nat} {v : V}, PV l H n v → PV l H' n v
  | 0, _, h => h
  | n + 1, v, h => by
    rcases h with h | ⟨a, xs, e, m, h, s⟩
    · exact .inl h
    · exact .inr ⟨a, xs, e, m, h.kpln k m, fun x hx => PV.kp k (s x hx)⟩
theorem PV.sc (h : scOk v = true) : ∀ {n : Nat}, PV l H n v
  | 0 => h
  | _ + 1 => .inl h
theorem PV.up : ∀ {n : Nat} {v : V}, PV l H n v → PV l H (n + 1) v
  | 0, _, h => .inl h
  | n + 1, v, h => by
    rcases h with h | ⟨a, xs, e, k, h, t⟩
    · exact .inl h
    · exact .inr ⟨a, xs, e, k, h, fun x hx => (t x hx).up⟩
theorem PV.tup {n : Nat} {a : Addr} {xs : List V} (m : a ∉ l) (h : H a = some (.tup xs)) (s : ∀ x ∈ xs, PV l H n x) : PV l H (n + 1) (.ref a) := .inr ⟨a, xs, rfl, m, .inr h, s⟩
theorem PV.lst {n : Nat} {a : Addr} {xs : List V} (m : a ∉ l) (h : H a = some (.lst xs)) (s : ∀ x ∈ xs, PV l H n x) : PV l H (n + 1) (.ref a) := .inr ⟨a, xs, rfl, m, .inl h, s⟩
theorem PV.ty : ∀ {n : Nat} {v : V}, PV l H n v → TyV H v
  | 0, v, h => by cases v <;> first | exact True.intro | exact Bool.noConfusion h
  | n + 1, v, h => by
    rcases h with h | ⟨a, xs, rfl, m, h | h, s⟩
    · cases v <;> first | exact True.intro | exact Bool.noConfusion h
    · exact .inl ⟨xs, h⟩
    · exact .inr ⟨xs, h⟩
theorem PV.set {n : Nat} {xs : List V} {j : Nat} {u : HO} (h : ∀ x ∈ xs, PV l H n x) (hv : PV l H n v) (m : S ∈ l) : ∀ x ∈ xs.set j v, PV l (upd H S u) n x := fun x hx => by
  have k : KpLN l H (upd H S u) := .at m
  rcases List.mem_or_eq_of_mem_set hx with hx | rfl
  · exact (h x hx).kp k
  · exact hv.kp k
theorem PV.app {n : Nat} {xs : List V} {u : HO} (h : ∀ x ∈ xs, PV l H n x) (hv : PV l H n v) (m : S ∈ l) : ∀ x ∈ xs ++ [v], PV l (upd H S u) n x := fun x hx => by
  have k : KpLN l H (upd H S u) := .at m
  rcases List.mem_append.mp hx with hx | hx
  · exact (h x hx).kp k
  · rw [List.mem_singleton.mp hx]; exact hv.kp k
end
inductive SR (H : Hp) (n : Nat) : V → Option V → Prop where
  | flat {x : V} (h : scalarV x = true) : SR H n x (some .non)
  | seq {a : Addr} {xs : List V} {o : Option Nat} (h : LT H a xs) (e : xs.length = n) (m : n ≤ 1000) (t : IT H xs o) : SR H n (.ref a) (o.map fun i => .int (i : Nat))
inductive PJ (H : Hp) : V → Option (Int × Int × Int) → Prop where
  | flat {x : V} (h : scalarV x = true) : PJ H x none
  | lst {a : Addr} {xs : List V} (h : H a = some (.lst xs)) : PJ H (.ref a) none
  | tupn {a : Addr} {xs : List V} (h : H a = some (.tup xs)) (n : xs.length ≠ 2) : PJ H (.ref a) none
  | noi {a : Addr} {u v : V} (h : H a = some (.tup [u, v])) (t : TyV H u) (n : isI u = false) : PJ H (.ref a) none
  | noj {a : Addr} {i : Int} {v : V} (h : H a = some (.tup [.int i, v])) (t : JR H v false) : PJ H (.ref a) none
  | good {a b : Addr} {i w s : Int} (h : H a = some (.tup [.int i, .ref b])) (g : H b = some (.tup [.int w, .int s])) (t : jt (.int w) (.int s) = true) : PJ H (.ref a) (some (i, w, s))
inductive All2 {α β : Type} (R : α → β → Prop) : List α → List β → Prop where
  | nil : All2 R [] []
  | cons {a : α} {b : β} {as : List α} {bs : List β} (h : R a b) (t : All2 R as bs) : All2 R (a :: as) (b :: bs)
theorem All2.imp {α β : Type} {R S : α → β → Prop} (f : ∀ a b, R a b → S a b) {as : List α} {bs : List β} (h : All2 R as bs) : All2 S as bs := by
  induction h with
  | nil => exact .nil
  | cons h _ ih => exact .cons (f _ _ h) ih
theorem All2.get {α β : Type} {R : α → β → Prop} {as : List α} {bs : List β} (h : All2 R as bs) : ∀ (i : Nat) (a : α), as[i]? = some a → ∃ b r, R a b ∧ bs.drop i = b :: r ∧ bs.drop (i + 1) = r := by
  induction h with
  | nil => intro i a e; simp at e
  | @cons a b as bs h t ih =>
    intro i x e
    cases i with
    | zero => cases e; exact ⟨b, bs, h, rfl, rfl⟩
    | succ i => exact ih i x e
theorem All2.len {α β : Type} {R : α → β → Prop} {as : List α} {bs : List β} (h : All2 R as bs) : as.length = bs.length := by
  induction h with
  | nil => rfl
  | cons _ _ ih => exact congrArg (· + 1) ih
def rmB (n : Nat) (l b : Int) (i w : Int) : Bool := decide (l < i ∧ i < n ∧ l + b + w ≤ i ∧ i + w ≤ n)
/-- the first item that can not stand -/
def jb (n : Nat) : Nat → Int → Int → List (Option (Int × Int × Int)) → Option Nat
  | _, _, _, [] => none
  | k, _, _, none :: _ => some k
  | k, l, b, some (i, w, s) :: r => if rmB n l b i w then jb n (k + 1) i w r else some k
inductive JP (H : Hp) (n : Nat) : V → Option V → Prop where
  | flat {x : V} (h : scalarV x = true) : JP H n x (some .non)
  | seq {a : Addr} {xs : List V} {ps : List (Option (Int × Int × Int))} (h : LT H a xs) (m : xs.length ≤ 1000) (t : All2 (PJ H) xs ps) : JP H n (.ref a) ((jb n 0 0 0 ps).map fun i => .int (i : Nat))
section
variable {H H' : Hp} {n : Nat} {x : V} {o : Option V}
theorem jr_ext (s : LamX.ExtN H H') {b : Bool} (h : JR H x b) : JR H' x b := by
  cases h with
  | flat h => exact .flat h
  | lst h => exact .lst (s _ _ h lst_ntbl)
  | tupn h n => exact .tupn (s _ _ h tup_ntbl) n
  | tup2 h u v => exact .tup2 (s _ _ h tup_ntbl) (tyvE s u) (tyvE s v)
theorem pj_ext (s : LamX.ExtN H H') {j : Option (Int × Int × Int)} (h : PJ H x j) : PJ H' x j := by
  cases h with
  | flat h => exact .flat h
  | lst h => exact .lst (s _ _ h lst_ntbl)
  | tupn h n => exact .tupn (s _ _ h tup_ntbl) n
  | noi h t n => exact .noi (s _ _ h tup_ntbl) (tyvE s t) n
  | noj h t => exact .noj (s _ _ h tup_ntbl) (jr_ext s t)
  | good h g t => exact .good (s _ _ h tup_ntbl) (s _ _ g tup_ntbl) t
theorem lt_ext {a : Addr} {xs : List V} (s : LamX.ExtN H H') (h : LT H a xs) : LT H' a xs := h.imp (fun e => s _ _ e lst_ntbl) fun e => s _ _ e tup_ntbl
theorem it_ext {xs : List V} {o : Option Nat} (s : LamX.ExtN H H') (h : IT H xs o) : IT H' xs o := by
  cases h with
  | bad b e n t => exact .bad b e n fun x hx => tyvE s (t x hx)
  | good e => exact .good e
theorem SR.ext (s : LamX.ExtN H H') (h : SR H n x o) : SR H' n x o := by
  cases h with
  | flat h => exact .flat h
  | seq h e m t => exact .seq (lt_ext s h) e m (it_ext s t)
theorem JP.ext (s : LamX.ExtN H H') (h : JP H n x o) : JP H' n x o := by
  cases h with
  | flat h => exact .flat h
  | seq h m t => exact .seq (lt_ext s h) m (t.imp fun _ _ => pj_ext s)
theorem SR.same (s : Same H H') (h : SR H n x o) : SR H' n x o := h.ext (extN_same s)
theorem JP.same (s : Same H H') (h : JP H n x o) : JP H' n x o := h.ext (extN_same s)
theorem jt_nat {w s : Int} (h : jt (.int w) (.int s) = true) : ∃ a b : Nat, w = (a : Int) ∧ s = (b : Int) ∧ a ≤ 8 ∧ b ≤ 3 ∧ (a = 0 → b = 0) := by
  unfold jt at h
  simp only [Bool.and_eq_true, jx, Bool.or_eq_true, decide_eq_true_eq, inI] at h
  obtain ⟨h1, h2, h3⟩ := h
  exact ⟨w.toNat, s.toNat, by omega, by omega, by omega, by omega, by omega⟩
/-- no item is refused: they are joints with room -/
theorem jb_none : ∀ (ps : List (Option (Int × Int × Int))) (xs : List V) (k l b : Nat), All2 (PJ H) xs ps → jb n k (l : Int) (b : Int) ps = none → ∃ js : List Jo, JsAt H xs js ∧ Rm n l b js
  | _, _, k, l, b, .nil, _ => ⟨[], ⟨rfl, fun i v e => by simp at e⟩, True.intro⟩
  | none :: _, _, k, l, b, .cons _ _, h => by cases h
  | some (i, w, s) :: r, x :: xs, k, l, b, .cons hp t, h => by
    have h' : (if rmB n l b i w then jb n (k + 1) i w r else some k) = none := h
    by_cases c : rmB n l b i w = true
    · rw [if_pos c] at h'
      have c := of_decide_eq_true c
      cases hp with
      | @good a q _ _ _ e1 e2 ht =>
        obtain ⟨w', s', rfl, rfl, w8, s3, w0⟩ := jt_nat ht
        obtain ⟨i', rfl⟩ : ∃ i' : Nat, i = (i' : Int) := ⟨i.toNat, by omega⟩
        obtain ⟨js, hj, hr⟩ := jb_none r xs (k + 1) i' w' t h'
        refine ⟨(i', w', s') :: js, ⟨congrArg (· + 1) hj.1, fun m v e => ?_⟩, ?_⟩
        · cases m with
          | zero => cases e; exact ⟨(i', w', s'), a, q, rfl, rfl, e1, e2⟩
          | succ m => exact hj.2 m v e
        · exact ⟨by dsimp only; omega, by dsimp only; omega, by dsimp only; omega, by dsimp only; omega, w8, s3, w0, hr⟩
    · rw [if_neg c] at h'
      cases h'
end
theorem SR.fine {H : Hp} {n : Nat} {x : V} (h : SR H n x none) : ∃ (a : Addr) (ns : List Int), x = .ref a ∧ LT H a (ns.map V.int) ∧ ns.length = n ∧ n ≤ 1000 := by
  obtain ⟨o, ho, h⟩ : ∃ o : Option V, o = none ∧ SR H n x o := ⟨_, rfl, h⟩
  cases h with
  | flat _ => cases ho
  | @seq a xs o h e m t =>
    cases t with
    | bad _ _ _ _ => cases ho
    | @good ns e2 =>
      subst e2
      exact ⟨a, ns, rfl, h, by rw [← e, List.length_map], m⟩
theorem JP.fine {H : Hp} {n : Nat} {x : V} (h : JP H n x none) : ∃ (a : Addr) (refs : List V) (js : List Jo), x = .ref a ∧ LT H a refs ∧ JsAt H refs js ∧ Rm n 0 0 js := by
  obtain ⟨o, ho, h⟩ : ∃ o : Option V, o = none ∧ JP H n x o := ⟨_, rfl, h⟩
  cases h with
  | flat _ => cases ho
  | @seq a xs ps hL m t =>
    cases g : jb n 0 0 0 ps with
    | some k => rw [g] at ho; cases ho
    | none =>
      obtain ⟨js, h1, h2⟩ := jb_none ps xs 0 0 0 t g
      exact ⟨a, xs, js, rfl, hL, h1, h2⟩
def Al (l : List Addr) (H : Hp) : Prop := ∀ a ∈ l, ∃ o, H a = some o
theorem nm_al {l : List Addr} {p q : Addr} {H H1 : Hp} (hl : Al l H) (k : Kp p H H1) (hp : Pool H1 p) (n : H1 q = none) : q ∉ l := fun z => by
  obtain ⟨o, e⟩ := hl _ z
  by_cases c : q = p
  · obtain ⟨x, y, e2, _⟩ := hp
    rw [c, e2] at n
    cases n
  · rw [k _ _ c e] at n
    cases n
def GQ (p : Addr) (H : Hp) (xs : List V) (x : V) : Prop := (∃ a, x = .ref a ∧ a ≠ p ∧ LT H a xs) ∨ scalarV x = true
section
variable {p : Addr} {H H' : Hp} {xs : List V} {x : V} {m : Nat}
theorem GQ.kp (k : KpLN [p] H H') (h : GQ p H xs x) : GQ p H' xs x := h.imp (fun ⟨a, e, n, h⟩ => ⟨a, e, n, h.kpln k (nm_cons n List.not_mem_nil)⟩) id
end
end Z
namespace Z
open PySem PySem.Spec PyProof.Rows L2
open SX (S S_len S_cat S_inj)
inductive BZ (H : Hp) (n : Nat) : V → Option V → Prop where
  | flat {x : V} (h : scalarV x = true) : BZ H n x (some .non)
  | tup {a : Addr} {xs : List V} (h : H a = some (.tup xs)) : BZ H n (.ref a) (some .non)
  | size {a : Addr} {xs : List V} (h : H a = some (.lst xs)) (e : xs.length = n) (c : 64 < n) (m : n ≤ 1000) : BZ H n (.ref a) (some .non)
  | item {a : Addr} {xs : List V} {o : Option Nat} (h : H a = some (.lst xs)) (e : xs.length = n) (c : n ≤ 64) (t : IT H xs o) : BZ H n (.ref a) (o.map fun i => .int (i : Nat))
section
variable {H H' : Hp} {n : Nat} {x v : V} {o : Option V} {b : Bool} {p : Addr}
theorem BZ.ext (s : LamX.ExtN H H') (h : BZ H n x o) : BZ H' n x o := by
  cases h with
  | flat h => exact .flat h
  | tup h => exact .tup (s _ _ h tup_ntbl)
  | size h e c m => exact .size (s _ _ h lst_ntbl) e c m
  | item h e c t => exact .item (s _ _ h lst_ntbl) e c (it_ext s t)
theorem it_move {xs : List V} {o : Option Nat} (t : ∀ y ∈ xs, TyV H' y) (h : IT H xs o) : IT H' xs o := by
  cases h with
  | bad b e n _ => exact .bad b e n t
  | good e => exact .good e
/-- the pool may be drawn from -/
theorem BZ.kp (k : KpLN [p] H H') (q : ∀ a, x = .ref a → a ≠ p) (t : ∀ a xs, x = .ref a → H a = some (.lst xs) → ∀ y ∈ xs, PV [p] H 1 y) (h : BZ H n x o) : BZ H' n x o := by
  cases h with
  | flat h => exact .flat h
  | @tup a xs h => exact .tup (k _ _ (nm_cons (q a rfl) List.not_mem_nil) h tup_ntbl)
  | @size a xs h e c m => exact .size (k _ _ (nm_cons (q a rfl) List.not_mem_nil) h lst_ntbl) e c m
  | @item a xs o h e c i => exact .item (k _ _ (nm_cons (q a rfl) List.not_mem_nil) h lst_ntbl) e c (it_move (fun y hy => ((t a xs rfl h y hy).kp k).ty) i)
theorem BZ.fine (h : BZ H n x none) : ∃ (a : Addr) (ns : List Int), x = .ref a ∧ H a = some (.lst (ns.map V.int)) ∧ ns.length = n ∧ n ≤ 64 := by
  obtain ⟨o, ho, h⟩ : ∃ o : Option V, o = none ∧ BZ H n x o := ⟨_, rfl, h⟩
  cases h with
  | flat _ => cases ho
  | tup _ => cases ho
  | size _ _ _ _ => cases ho
  | @item a xs o hL e c t =>
    cases t with
    | bad _ _ _ _ => cases ho
    | @good ns e2 =>
      subst e2
      exact ⟨a, ns, rfl, hL, by rw [← e, List.length_map], c⟩
def TbsH (H : Hp) (a : Addr) (T : Tb × Tb) : Prop := ∃ r0 r1, H a = some (.tup [.ref r0, .ref r1]) ∧ H r0 = some (.tup [.int T.1.1, .int T.1.2]) ∧ H r1 = some (.tup [.int T.2.1, .int T.2.2])
def StQ (H : Hp) (v : V) (b : Bool) : Prop := TSR H v b ∧ (b = true → ∃ a T, v = .ref a ∧ TbsH H a T ∧ TbOk (10 ^ 56) T.1 ∧ TbOk (10 ^ 56) T.2)
theorem tr_ext (s : LamX.ExtN H H') (h : TR H v b) : TR H' v b := by
  cases h with
  | flat h => exact .flat h
  | lst h => exact .lst (s _ _ h lst_ntbl)
  | tupn h n => exact .tupn (s _ _ h tup_ntbl) n
  | tup2 h hu hv => exact .tup2 (s _ _ h tup_ntbl) (tyvE s hu) (tyvE s hv)
theorem tsr_ext (s : LamX.ExtN H H') (h : TSR H v b) : TSR H' v b := by
  cases h with
  | flat h => exact .flat h
  | lst h => exact .lst (s _ _ h lst_ntbl)
  | tupn h n => exact .tupn (s _ _ h tup_ntbl) n
  | tup2 h hu hv => exact .tup2 (s _ _ h tup_ntbl) (tr_ext s hu) (tr_ext s hv)
theorem StQ.ext (s : LamX.ExtN H H') (h : StQ H v b) : StQ H' v b := ⟨tsr_ext s h.1, fun z => by
  obtain ⟨a, T, e, ⟨r0, r1, h0, h1, h2⟩, o1, o2⟩ := h.2 z
  exact ⟨a, T, e, ⟨r0, r1, s _ _ h0 tup_ntbl, s _ _ h1 tup_ntbl, s _ _ h2 tup_ntbl⟩, o1, o2⟩⟩
theorem PV.mem {m : Nat} {a : Addr} {xs : List V} (h : PV [p] H (m + 1) (.ref a)) (e : H a = some (.tup xs)) : a ≠ p ∧ ∀ x ∈ xs, PV [p] H m x := by
  rcases h with h | ⟨c, ys, e1, n, h, s⟩
  · exact Bool.noConfusion h
  · cases e1
    rcases h with h | h
    · rw [h] at e; cases e
    · rw [h] at e; cases e; exact ⟨fun z => n (by rw [z]; exact List.mem_singleton.mpr rfl), s⟩
theorem PV.memL {m : Nat} {a : Addr} (h : PV [p] H (m + 1) (.ref a)) : a ≠ p := by
  rcases h with h | ⟨c, ys, e1, n, h, s⟩
  · exact Bool.noConfusion h
  · cases e1
    exact fun z => n (by rw [z]; exact List.mem_singleton.mpr rfl)
theorem tr_kp (k : KpLN [p] H H') (g : PV [p] H 1 v) (h : TR H v b) : TR H' v b := by
  cases h with
  | flat h => exact .flat h
  | lst h => exact .lst (k _ _ (nm_cons g.memL List.not_mem_nil) h lst_ntbl)
  | tupn h n => exact .tupn (k _ _ (nm_cons g.memL List.not_mem_nil) h tup_ntbl) n
  | @tup2 a u v h hu hv =>
    obtain ⟨n, s⟩ := g.mem h
    exact .tup2 (k _ _ (nm_cons n List.not_mem_nil) h tup_ntbl) ((s u (by simp)).kp k).ty ((s v (by simp)).kp k).ty
theorem StQ.kp (k : KpLN [p] H H') (g : PV [p] H 2 v) (h : StQ H v b) : StQ H' v b := by
  obtain ⟨h, q⟩ := h
  refine ⟨?_, fun z => ?_⟩
  · cases h with
    | flat h => exact .flat h
    | lst h => exact .lst (k _ _ (nm_cons g.memL List.not_mem_nil) h lst_ntbl)
    | tupn h n => exact .tupn (k _ _ (nm_cons g.memL List.not_mem_nil) h tup_ntbl) n
    | @tup2 a u v _ _ h hu hv =>
      obtain ⟨n, s⟩ := g.mem h
      exact .tup2 (k _ _ (nm_cons n List.not_mem_nil) h tup_ntbl) (tr_kp k (s u (by simp)) hu) (tr_kp k (s v (by simp)) hv)
  · obtain ⟨a, T, rfl, ⟨r0, r1, h0, h1, h2⟩, o1, o2⟩ := q z
    obtain ⟨n, s⟩ := g.mem h0
    have n0 := (s _ (by simp : V.ref r0 ∈ [V.ref r0, V.ref r1])).mem h1
    have n1 := (s _ (by simp : V.ref r1 ∈ [V.ref r0, V.ref r1])).mem h2
    exact ⟨a, T, rfl, ⟨r0, r1, k _ _ (nm_cons n List.not_mem_nil) h0 tup_ntbl, k _ _ (nm_cons n0.1 List.not_mem_nil) h1 tup_ntbl, k _ _ (nm_cons n1.1 List.not_mem_nil) h2 tup_ntbl⟩, o1, o2⟩
theorem PV.sm {K : PySem.W.Frag} {l : List Addr} : ∀ {n : Nat} {v : V}, PV l H n v → SmV K H n v v
  | 0, _, h => ⟨rfl, scOk.sc h⟩
  | n + 1, v, h => by
    rcases h with h | ⟨a, xs, rfl, m, h | h, s⟩
    · exact .inl ⟨rfl, scOk.sc h⟩
    · exact .inr (.inl ⟨a, a, xs, xs, rfl, rfl, .of h, .of h, rfl, fun i x y e1 e2 => by
        rw [e1] at e2
        cases e2
        exact (s x (List.mem_of_getElem? e1)).sm⟩)
    · exact .inr (.inr ⟨a, a, xs, xs, rfl, rfl, .of h, .of h, rfl, fun i x y e1 e2 => by
        rw [e1] at e2
        cases e2
        exact (s x (List.mem_of_getElem? e1)).sm⟩)
end
def TxR (v : V) : Prop := scalarV v = true ∧ ∀ s, v = .str s → ∃ l : List Nat, s = S l ∧ (∀ c ∈ l, IsB c) ∧ l.length ≤ 100
theorem TbOk.up {m m' : Int} {t : Tb} (h : TbOk m t) (l : m ≤ m') : TbOk m' t := ⟨h.1, by have := h.2.1; omega, h.2.2⟩
def SmallL (H : Hp) (x : V) : Prop := ∀ (a : Addr) (ns : List Int), x = .ref a → H a = some (.lst (ns.map V.int)) → ∀ z ∈ ns, z.natAbs < 10 ^ 55
theorem tsr_ii {H : Hp} {a : Addr} {u v : Int} (h : H a = some (.tup [.int u, .int v])) : TSR H (.ref a) false := show TSR H (.ref a) (false && false) from .tup2 h (.flat rfl) (.flat rfl)
def spStartX : Sp := fun vs H Q _ => ∃ p, vs = [.ref p] ∧ Pool H p ∧ ∀ v b H', PV [p] H' 2 v → StQ H' v b → Pool H' p → Kp p H H' → Q v H'
theorem use_startX {p : Addr} {H : Hp} {Q : VK} {E : XK} (h : Pool H p) (q : ∀ v b H', PV [p] H' 2 v → StQ H' v b → Pool H' p → Kp p H H' → Q v H') : spStartX ([.ref p] ++ []) H Q E := ⟨p, rfl, h, q⟩
def LV (p : Addr) (H : Hp) (v : V) : Prop := scalarV v = true ∨ ∃ a xs, v = .ref a ∧ a ≠ p ∧ LT H a xs ∧ xs.length ≤ 66 ∧ (∀ x ∈ xs, PV [p] H 1 x) ∧ ∀ z : Int, V.int z ∈ xs → z.natAbs < 10 ^ 55
def spListV : Sp := fun vs H Q _ => ∃ p, vs = [.ref p] ∧ Pool H p ∧ ∀ v H', LV p H' v → Pool H' p → Kp p H H' → Q v H'
theorem use_listV {p : Addr} {H : Hp} {Q : VK} {E : XK} (h : Pool H p) (q : ∀ v H', LV p H' v → Pool H' p → Kp p H H' → Q v H') : spListV ([.ref p] ++ []) H Q E := ⟨p, rfl, h, q⟩
section
variable {p : Addr} {H H' : Hp} {v : V}
theorem LV.kp (k : KpLN [p] H H') (h : LV p H v) : LV p H' v := by
  rcases h with h | ⟨a, xs, e, n, h, l, s, z⟩
  · exact .inl h
  · exact .inr ⟨a, xs, e, n, h.kpln k (nm_cons n List.not_mem_nil), l, fun x hx => (s x hx).kp k, z⟩
theorem LV.ne (h : LV p H v) : ∀ a, v = .ref a → a ≠ p := fun a e => by
  rcases h with h | ⟨c, xs, e2, n, _⟩
  · rw [e] at h; exact Bool.noConfusion h
  · rw [e] at e2; cases e2; exact n
theorem LV.small (h : LV p H v) : SmallL H v := fun a ns e e2 z hz => by
  rcases h with h | ⟨c, ys, e3, n, h, l, s, q⟩
  · rw [e] at h; exact Bool.noConfusion h
  · rw [e] at e3; cases e3
    rcases h with h | h
    · rw [h] at e2; cases e2; exact q z (List.mem_map.mpr ⟨z, hz, rfl⟩)
    · rw [h] at e2; cases e2
end
theorem SmallL.ext {H H' : Hp} {x : V} (o : Option V) {n : Nat} (s : LamX.ExtN H H') (b : BZ H n x o) (h : SmallL H x) : SmallL H' x := fun a ns e e2 => by
  refine h a ns e ?_
  cases b with
  | flat f => rw [e] at f; exact Bool.noConfusion f
  | tup f => cases e; rw [s _ _ f tup_ntbl] at e2; cases e2
  | size f _ _ _ => cases e; rw [s _ _ f lst_ntbl] at e2; rw [f]; exact e2
  | item f _ _ _ => cases e; rw [s _ _ f lst_ntbl] at e2; rw [f]; exact e2
section
variable {o : Option V} {m n : Nat} {s f t e : V} {b : Bool} {H : Hp} {x : V}
theorem BZ.le (h : BZ H n x o) (ho : o = none) : n ≤ 64 := by
  subst ho
  obtain ⟨_, _, _, _, _, l⟩ := h.fine
  exact l
theorem TxR.of {v : V} (h : v = .non ∨ (∃ i, v = .int i) ∨ ∃ l : List Nat, v = .str (S l) ∧ (∀ c ∈ l, IsB c) ∧ l.length ≤ 100) : TxR v := by
  rcases h with rfl | ⟨i, rfl⟩ | ⟨l, rfl, h1, h2⟩
  · exact ⟨rfl, fun s e => nomatch e⟩
  · exact ⟨rfl, fun s e => nomatch e⟩
  · exact ⟨rfl, fun s e => ⟨l, (V.str.inj e).symm, h1, h2⟩⟩
end
end Z
namespace Z
open PySem PySem.Spec PyProof.Rows L2
open SX (S S_len S_cat S_inj)
def spTabsX : Sp := fun vs H Q _ => ∃ p, vs = [.ref p] ∧ Pool H p ∧ ∀ t T H', TbsH H' t T → TbOk 100 T.1 → TbOk 100 T.2 → Pool H' p → Kp p H H' → Q (.ref t) H'
theorem use_tabsX {p : Addr} {H : Hp} {Q : VK} {E : XK} (h : Pool H p) (q : ∀ t T H', TbsH H' t T → TbOk 100 T.1 → TbOk 100 T.2 → Pool H' p → Kp p H H' → Q (.ref t) H') : spTabsX ([.ref p] ++ []) H Q E := ⟨p, rfl, h, q⟩
def spSomeX : Sp := fun vs H Q _ => ∃ (p : Addr) (n : Nat), vs = [.ref p, .int (n : Nat)] ∧ Pool H p ∧ n ≤ 64 ∧ ∀ D (ns : List Int) H', H D = none → H' D = some (.lst (ns.map V.int)) → ns.length = n → (∀ z ∈ ns, z.natAbs ≤ 30000) → Pool H' p → Kp p H H' → Q (.ref D) H'
theorem use_someX {p : Addr} {n : Nat} {H : Hp} {Q : VK} {E : XK} (h : Pool H p) (hn : n ≤ 64) (q : ∀ D (ns : List Int) H', H D = none → H' D = some (.lst (ns.map V.int)) → ns.length = n → (∀ z ∈ ns, z.natAbs ≤ 30000) → Pool H' p → Kp p H H' → Q (.ref D) H') : spSomeX ([.ref p, .int (n : Nat)] ++ []) H Q E := ⟨p, n, rfl, h, hn, q⟩
/-- length, width, shape, levels, step -/
abbrev Hd := Nat × Nat × Nat × Nat × Nat
def HdAt (H : Hp) (h : Addr) (j : Addr) (d : Hd) : Prop := H h = some (.tup [.int (d.1 : Nat), .ref j, .int (d.2.2.2.1 : Nat), .int (d.2.2.2.2 : Nat)]) ∧ H j = some (.tup [.int (d.2.1 : Nat), .int (d.2.2.1 : Nat)])
def HdOk (d : Hd) : Prop := 1 ≤ d.1 ∧ d.1 ≤ 64 ∧ d.2.1 ≤ 8 ∧ d.2.2.1 ≤ 3 ∧ (d.2.1 = 0 → d.2.2.1 = 0) ∧ d.2.2.2.1 ≤ 5 ∧ 1 ≤ d.2.2.2.2 ∧ d.2.2.2.2 ≤ 64
/-- the bits of a frame -/
def bitsF (d : Hd) (ns : List Int) (T : Tb × Tb) : List Nat := (wst ns (cc d.1 d.2.2.2.1) T ns.length).1.flatten
def nextF (d : Hd) (ns : List Int) (T : Tb × Tb) : Tb × Tb := (wst ns (cc d.1 d.2.2.2.1) T ns.length).2
def FrAt (H : Hp) (r : Addr) (j : Addr) (d : Hd) (ns : List Int) (T : Tb × Tb) : Prop := H r = some (.tup [.str (Str.ofString "frame"), .int (d.1 : Nat), .ref j, .int (d.2.2.2.1 : Nat), .int (d.2.2.2.2 : Nat), .int (markF ns), .str (S (bitsF d ns T))])
theorem rd_min3 {a b c : Int} {H : Hp} {Q : VK} (h : Q (.int (if c < (if b < a then b else a) then c else (if b < a then b else a))) H) : rNuC3 nuMin3 [.int a, .int b, .int c] H Q := by
  refine ⟨_, _, _, .int (if c < (if b < a then b else a) then c else (if b < a then b else a)), rfl, ?_, h⟩
  have m2 : ∀ x y : Int, nuMin2 (.int x) (.int y) = some (.int (if y < x then y else x)) := fun x y => by
    show (some (decide (y < x))).map (fun c => if c = true then V.int y else V.int x) = _
    by_cases c : y < x
    · rw [if_pos c]; simp [c]
    · rw [if_neg c]; simp [c]
  unfold nuMin3
  rw [m2]
  exact m2 _ _
/-- frames that follow each other: the width at the left end of the first, at the right end of the last -/
def Ch : Nat → List Hd → Nat → Prop
  | l, [], e => l = e
  | l, d :: r, e => HdOk d ∧ l + d.2.1 ≤ d.1 ∧ Ch d.2.1 r e
theorem Ch.snoc {d : Hd} (hd : HdOk d) : ∀ {hs : List Hd} {l e : Nat}, Ch l hs e → e + d.2.1 ≤ d.1 → Ch l (hs ++ [d]) d.2.1
  | [], l, e, h, k => by
    have h : l = e := h
    subst h
    exact ⟨hd, k, rfl⟩
  | c :: r, l, e, ⟨h1, h2, h3⟩, k => ⟨h1, h2, Ch.snoc hd h3 k⟩
def HdsAt (H : Hp) (refs : List V) (hs : List Hd) : Prop := All2 (fun v d => ∃ h j, v = .ref h ∧ HdAt H h j d) refs hs
theorem HdAt.lk {H H' : Hp} {h j : Addr} {d : Hd} (s : LK H H') (k : HdAt H h j d) : HdAt H' h j d := ⟨s _ _ k.1 (fun _ z => nomatch z), s _ _ k.2 (fun _ z => nomatch z)⟩
theorem HdsAt.lk {H H' : Hp} {refs : List V} {hs : List Hd} (s : LK H H') (k : HdsAt H refs hs) : HdsAt H' refs hs := k.imp fun _ _ ⟨h, j, e, q⟩ => ⟨h, j, e, q.lk s⟩
theorem All2.app {α β : Type} {R : α → β → Prop} {as : List α} {bs : List β} {a : α} {b : β} (h : All2 R as bs) (k : R a b) : All2 R (as ++ [a]) (bs ++ [b]) := by
  induction h with
  | nil => exact .cons k .nil
  | cons h _ ih => exact .cons h ih
def spHeads : Sp := fun vs H Q _ => ∃ (p : Addr) (m : Nat), vs = [.ref p, .int (m : Nat)] ∧ Pool H p ∧ m ≤ 20 ∧ ∀ D refs hs H', H D = none → H' D = some (.lst refs) → HdsAt H' refs hs → Ch 0 hs 0 → hs.length = m → Pool H' p → Kp p H H' → Q (.ref D) H'
theorem use_heads {p : Addr} {m : Nat} {H : Hp} {Q : VK} {E : XK} (h : Pool H p) (hm : m ≤ 20) (q : ∀ D refs hs H', H D = none → H' D = some (.lst refs) → HdsAt H' refs hs → Ch 0 hs 0 → hs.length = m → Pool H' p → Kp p H H' → Q (.ref D) H') : spHeads ([.ref p, .int (m : Nat)] ++ []) H Q E := ⟨p, m, rfl, h, hm, q⟩
theorem none_of {p D : Addr} {H G : Hp} (k : Kp p H G) (n : D ≠ p) (h : G D = none) : H D = none := by
  cases z : H D with
  | none => rfl
  | some u => rw [k _ _ n z] at h; cases h
inductive Rc where
  | st (T : Tb × Tb)
  | fr (d : Hd) (ns : List Int) (T : Tb × Tb)
def TkOk (T : Tb × Tb) : Prop := TbOk (10 ^ 50) T.1 ∧ TbOk (10 ^ 50) T.2
def RcAt (K : PySem.W.Frag) (H : Hp) (v : V) : Rc → Prop
  | .st T => ∃ a t, v = .ref a ∧ H a = some (.tup [.str (Str.ofString "state"), .ref t]) ∧ TbsV K H t T
  | .fr d ns T => ∃ a j, v = .ref a ∧ FrAt H a j d ns T ∧ H j = some (.tup [.int (d.2.1 : Nat), .int (d.2.2.1 : Nat)])
theorem RcAt.lk {K : PySem.W.Frag} {H H' : Hp} {v : V} (s : LK H H') : ∀ {r : Rc}, RcAt K H v r → RcAt K H' v r
  | .st T, ⟨a, t, e, h, q⟩ => ⟨a, t, e, s _ _ h (fun _ z => nomatch z), q.lk s⟩
  | .fr d ns T, ⟨a, j, e, h, q⟩ => ⟨a, j, e, s _ _ h (fun _ z => nomatch z), s _ _ q (fun _ z => nomatch z)⟩
def RcsAt (K : PySem.W.Frag) (H : Hp) (vs : List V) (rs : List Rc) : Prop := All2 (RcAt K H) vs rs
theorem RcsAt.lk {K : PySem.W.Frag} {H H' : Hp} {vs : List V} {rs : List Rc} (s : LK H H') (h : RcsAt K H vs rs) : RcsAt K H' vs rs := h.imp fun _ _ q => q.lk s
/-- a row of the index: record, place, frame, left joint, origin -/
abbrev Rw := Nat × Nat × Hd × (Nat × Nat) × Nat
structure Run where
  i : Nat
  pl : Nat
  lj : Nat × Nat
  o : Nat
  rows : List Rw
def stpR (s : Run) : Rc → Run
  | .st _ => ⟨s.i + 1, s.pl, s.lj, s.i, s.rows⟩
  | .fr d _ _ => ⟨s.i + 1, s.pl + d.1, (d.2.1, d.2.2.1), s.o, s.rows ++ [(s.i, s.pl, d, s.lj, s.o)]⟩
def runR (rs : List Rc) : Run := rs.foldl stpR ⟨0, 0, (0, 0), 0, []⟩
def JtAt (H : Hp) (j : Addr) (x : Nat × Nat) : Prop := H j = some (.tup [.int (x.1 : Nat), .int (x.2 : Nat)])
def RwAt (H : Hp) (v : V) (r : Rw) : Prop := ∃ a jl j, v = .ref a ∧ H a = some (.tup [.int (r.1 : Nat), .int (r.2.1 : Nat), .int (r.2.2.1.1 : Nat), .ref jl, .ref j, .int (r.2.2.1.2.2.2.1 : Nat), .int (r.2.2.1.2.2.2.2 : Nat), .int (r.2.2.2.2 : Nat)]) ∧ JtAt H jl r.2.2.2.1 ∧ JtAt H j (r.2.2.1.2.1, r.2.2.1.2.2.1)
theorem RwAt.lk {H H' : Hp} {v : V} {r : Rw} (s : LK H H') (h : RwAt H v r) : RwAt H' v r := by
  obtain ⟨a, jl, j, e, h1, h2, h3⟩ := h
  exact ⟨a, jl, j, e, s _ _ h1 (fun _ z => nomatch z), s _ _ h2 (fun _ z => nomatch z), s _ _ h3 (fun _ z => nomatch z)⟩
def RwsAt (H : Hp) (vs : List V) (rs : List Rw) : Prop := All2 (RwAt H) vs rs
theorem RwsAt.lk {H H' : Hp} {vs : List V} {rs : List Rw} (s : LK H H') (h : RwsAt H vs rs) : RwsAt H' vs rs := h.imp fun _ _ q => q.lk s
/-- what is kept of the frames -/
def blkF (kf : Hd → List Int → List Int) : List Rc → List (List Int)
  | [] => []
  | .st _ :: r => blkF kf r
  | .fr d ns _ :: r => kf d ns :: blkF kf r
abbrev kfB : Hd → List Int → List Int := fun d ns => joinL (ns.map (· * (d.2.2.2.2 : Int))) d.2.2.2.1
def BksAt (l : List Addr) (H : Hp) (vs : List V) (bs : List (List Int)) : Prop := All2 (fun v b => ∃ a, v = .ref a ∧ a ∉ l ∧ H a = some (.lst (b.map V.int))) vs bs
theorem BksAt.kp {l : List Addr} {H H' : Hp} {vs : List V} {bs : List (List Int)} (k : KpL l H H') (h : BksAt l H vs bs) : BksAt l H' vs bs := h.imp fun _ _ ⟨a, e, n, q⟩ => ⟨a, e, n, k _ _ n q⟩
/-- records that can be read one after the other: from tables and a width at the left, to tables and a width -/
def Vd : Tb × Tb → Nat → List Rc → Tb × Tb → Nat → Prop
  | T, l, [], T2, l2 => T = T2 ∧ l = l2
  | _, l, .st T' :: r, T2, l2 => TkOk T' ∧ Vd T' l r T2 l2
  | T, l, .fr d ns T0 :: r, T2, l2 => T0 = T ∧ HdOk d ∧ l + d.2.1 ≤ d.1 ∧ ns.length = d.1 ∧ (∀ z ∈ ns, z.natAbs ≤ 10 ^ 45) ∧ TkOk T ∧ Vd (nextF d ns T) d.2.1 r T2 l2
def T0 : Tb × Tb := ((2, 1), (2, 1))
/-- what the writing of a stream keeps -/
structure SI (kf : Hd → List Int → List Int) (K : PySem.W.Frag) (p R W B : Addr) (H : Hp) (refs rws bks : List V) (rs : List Rc) (T : Tb × Tb) (jl : Addr) (lj : Nat × Nat) (o pl n : Nat) : Prop where
  eR : H R = some (.lst refs)
  eW : H W = some (.lst rws)
  eB : H B = some (.lst bks)
  rc : RcsAt K H refs rs
  rw : RwsAt H rws (runR rs).rows
  bk : BksAt [p, R, W, B] H bks (blkF kf rs)
  vd : Vd T0 0 rs T lj.1
  jt : JtAt H jl lj
  r1 : (runR rs).lj = lj
  r2 : (runR rs).pl = pl
  r3 : (runR rs).o = o
  ln : refs.length = rs.length
  le : rs.length ≤ n
  po : Pool H p
  nRp : R ≠ p
  nWp : W ≠ p
  nBp : B ≠ p
  nRW : R ≠ W
  nRB : R ≠ B
  nWB : W ≠ B
section
variable {kf : Hd → List Int → List Int} {K : PySem.W.Frag} {p R W B jl : Addr} {H H' : Hp} {refs rws bks : List V} {rs : List Rc} {T : Tb × Tb} {lj : Nat × Nat} {o pl n : Nat}
theorem JtAt.lk {j : Addr} {x : Nat × Nat} (s : LK H H') (h : JtAt H j x) : JtAt H' j x := s _ _ h fun _ z => nomatch z
theorem SI.kp (h : SI kf K p R W B H refs rws bks rs T jl lj o pl n) (k : Kp p H H') (hP : Pool H' p) : SI kf K p R W B H' refs rws bks rs T jl lj o pl n :=
  have lk := LK.pool h.po k
  { h with eR := k _ _ h.nRp h.eR, eW := k _ _ h.nWp h.eW, eB := k _ _ h.nBp h.eB, rc := h.rc.lk lk, rw := h.rw.lk lk, bk := h.bk.kp (KpL.ofK List.mem_cons_self k), jt := h.jt.lk lk, po := hP }
theorem SI.new {q : Addr} {u : HO} (h : SI kf K p R W B H refs rws bks rs T jl lj o pl n) (nq : H q = none) : SI kf K p R W B (upd H q u) refs rws bks rs T jl lj o pl n := h.kp (Kp.new nq) (h.po.new nq)
theorem SI.same (h : SI kf K p R W B H refs rws bks rs T jl lj o pl n) (s : Same H H') : SI kf K p R W B H' refs rws bks rs T jl lj o pl n := h.kp (fun a x _ e => s a x e) (h.po.same s)
theorem pool_upd {a : Addr} {u : HO} (ne : a ≠ p) (h : Pool H p) : Pool (upd H a u) p := by
  obtain ⟨x, y, e, r⟩ := h
  exact ⟨x, y, by rw [upd_ne ne.symm]; exact e, r⟩
end
theorem SI.up {kf : Hd → List Int → List Int} {K : PySem.W.Frag} {p R W B jl : Addr} {H : Hp} {refs rws bks : List V} {rs : List Rc} {T : Tb × Tb} {lj : Nat × Nat} {o pl n m : Nat} (h : SI kf K p R W B H refs rws bks rs T jl lj o pl n) (k : n ≤ m) : SI kf K p R W B H refs rws bks rs T jl lj o pl m := { h with le := Nat.le_trans h.le k }
theorem lc_mapM {K : PySem.W.Frag} {σ : L2.St} {Q : VK} {vs : List Nat} {k : Nat} {a D : Addr} {xs : List Int} {H1 : Hp} {te : TE} (f : Int → Int) (hS : SqL K H1 a (xs.map V.int)) (hn : xs.length ≤ 1000) (hw : ∀ v, wipe ((wipe σ vs).set k (some v)) vs = wipe σ vs) (hD : H1 D = none)
    (turn : ∀ z ∈ xs, ∀ (H : Hp) (Q' : VK), Same H1 H → Q' (.int (f z)) H → te ((wipe σ vs).set k (some (.int z))) H Q')
    (q : ∀ H', Same H1 H' → H' D = some (.lst ((xs.map f).map V.int)) → Q (.ref D) H') : LcW (Itl K a) (gName k) tYes te vs Q σ H1 D := by
  refine lc_list (xs := xs.map V.int) (Pv := fun j H => Same H1 H ∧ H D = some (.lst (((xs.map f).take j).map V.int))) ⟨same_new hD, upd_same⟩ (fun j H _ hI => hI.1.seq hS) (fun j v H hv hI => ?_) (fun H hI => ?_)
  · obtain ⟨hs, hd⟩ := hI
    obtain ⟨z, rfl, hz⟩ : ∃ z, v = .int z ∧ xs[j]? = some z := by
      rw [List.getElem?_map] at hv
      cases g : xs[j]? with
      | none => rw [g] at hv; cases hv
      | some z => rw [g] at hv; exact ⟨z, (Option.some.inj hv).symm, rfl⟩
    have hj := (List.getElem?_eq_some_iff.mp hz).1
    refine ⟨hw _, rd_yes ?_⟩
    refine turn z (List.mem_of_getElem? hz) H _ hs ⟨_, hd, small1000 (by rw [List.length_map, List.length_take, List.length_map]; omega), ?_, ?_⟩
    · exact fun b o e => by rw [upd_ne (ne_of_none e hD)]; exact hs _ _ e
    · have hz2 : (xs.map f)[j]? = some (f z) := by rw [List.getElem?_map, hz]; rfl
      rw [upd_same, List.take_add_one, hz2, List.map_append]
      rfl
  · obtain ⟨hs, hd⟩ := hI
    rw [List.take_of_length_le (by rw [List.length_map, List.length_map]; exact Nat.le_refl _)] at hd
    exact q H hs hd
end Z
namespace Z
open PySem PySem.Spec PyProof.Rows L2
open SX (S S_len S_cat S_inj)
structure Mn (K : PySem.W.Frag) (C : Addr) (x q : Str) (st : Stmt) (ps : List Str) (f : Addr) (fd : FuncData) : Prop where
  F : Fun K x q st f fd
  m : Meth K C x f
  b : Binds K fd ps []
structure Pn (K : PySem.W.Frag) (C : Addr) (x q : Str) (st : Stmt) (ps : List Str) (p f : Addr) (fd : FuncData) : Prop where
  F : Fun K x q st f fd
  p : PropOf K C x p f
  b : Binds K fd ps []
structure StmC (K : PySem.W.Frag) (mg : Str → Option Value) (C : Addr) : Prop where
  cl : Cls K C
  g : mg "Stream" = some (.ref C)
  mks : PySem.W.makesIn K C = true
  kc : PySem.W.keepIn K (.ref C) = true
  nh : NoAttr K C "held"
  nr : NoAttr K C "read"
theorem rd_decT {p : Prop} [Decidable p] {H : Hp} {Q : VK} (h : p) (q : Q (.bl true) H) : Q (.bl (decide p)) H := by rw [decide_eq_true h]; exact q
def spIsB : Sp := fun vs H Q _ => ∃ l : List Nat, vs = [.str (S l)] ∧ (∀ c ∈ l, IsB c) ∧ l.length ≤ 1000000 ∧ Q (.bl true) H
theorem use_isb {l : List Nat} {H : Hp} {Q : VK} {E : XK} (h1 : ∀ c ∈ l, IsB c) (h2 : l.length ≤ 1000000) (q : Q (.bl true) H) : spIsB ([.str (S l)] ++ []) H Q E := ⟨l, rfl, h1, h2, q⟩
def spIsLay : Sp := fun vs H Q _ => ∃ (a j : Addr) (d : Hd), vs = [.ref a] ∧ HdAt H a j d ∧ HdOk d ∧ Q (.bl true) H
theorem use_islay {a j : Addr} {d : Hd} {H : Hp} {Q : VK} {E : XK} (h : HdAt H a j d) (ok : HdOk d) (q : Q (.bl true) H) : spIsLay ([.ref a] ++ []) H Q E := ⟨a, j, d, rfl, h, ok, q⟩
/-- a record that is valid -/
def RcOk : Rc → Prop
  | .st T => TkOk T
  | .fr d ns T => HdOk d ∧ ns.length = d.1 ∧ (∀ z ∈ ns, z.natAbs ≤ 10 ^ 45) ∧ TkOk T
def isSt : Rc → Bool
  | .st _ => true
  | .fr _ _ _ => false
def spIsSt (K : PySem.W.Frag) : Sp := fun vs H Q _ => ∃ v r, vs = [v] ∧ RcAt K H v r ∧ RcOk r ∧ Q (.bl (isSt r)) H
theorem use_isst {K : PySem.W.Frag} {v : V} {r : Rc} {H : Hp} {Q : VK} {E : XK} (h : RcAt K H v r) (ok : RcOk r) (q : Q (.bl (isSt r)) H) : spIsSt K ([v] ++ []) H Q E := ⟨v, r, rfl, h, ok, q⟩
def spIsFr (K : PySem.W.Frag) : Sp := fun vs H Q _ => ∃ v d ns T, vs = [v] ∧ RcAt K H v (.fr d ns T) ∧ RcOk (.fr d ns T) ∧ ∀ H', Same H H' → Q (.bl true) H'
theorem use_isfr {K : PySem.W.Frag} {v : V} {d : Hd} {ns : List Int} {T : Tb × Tb} {H : Hp} {Q : VK} {E : XK} (h : RcAt K H v (.fr d ns T)) (ok : RcOk (.fr d ns T)) (q : ∀ H', Same H H' → Q (.bl true) H') : spIsFr K ([v] ++ []) H Q E := ⟨v, d, ns, T, rfl, h, ok, q⟩
def spIsRc (K : PySem.W.Frag) : Sp := fun vs H Q _ => ∃ v r, vs = [v] ∧ RcAt K H v r ∧ RcOk r ∧ ∀ H', Same H H' → Q (.bl true) H'
theorem use_isrc {K : PySem.W.Frag} {v : V} {r : Rc} {H : Hp} {Q : VK} {E : XK} (h : RcAt K H v r) (ok : RcOk r) (q : ∀ H', Same H H' → Q (.bl true) H') : spIsRc K ([v] ++ []) H Q E := ⟨v, r, rfl, h, ok, q⟩
def spCkRc (K : PySem.W.Frag) : Sp := fun vs H Q _ => ∃ a refs rs, vs = [.ref a] ∧ H a = some (.lst refs) ∧ RcsAt K H refs rs ∧ (∀ r ∈ rs, RcOk r) ∧ ∀ H', Same H H' → Q .non H'
theorem use_ckrc {K : PySem.W.Frag} {a : Addr} {refs : List V} {rs : List Rc} {H : Hp} {Q : VK} {E : XK} (h : H a = some (.lst refs)) (k : RcsAt K H refs rs) (ok : ∀ r ∈ rs, RcOk r) (q : ∀ H', Same H H' → Q .non H') : spCkRc K ([.ref a] ++ []) H Q E := ⟨a, refs, rs, rfl, h, k, ok, q⟩
theorem bitsF_len {d : Hd} {ns : List Int} {T : Tb × Tb} (ok : RcOk (.fr d ns T)) : (bitsF d ns T).length ≤ 1000000 ∧ ∀ c ∈ bitsF d ns T, IsB c := by
  obtain ⟨h1, h2, h3, h4, h5⟩ := ok
  refine ⟨?_, wst_bin _ _ _ _⟩
  have z := wst_flat (first := cc d.1 d.2.2.2.1) (fun z hz => Nat.lt_of_le_of_lt (h3 z hz) (by decide)) (h4.up (by decide : (10:Int) ^ 50 ≤ 10 ^ 58)) (h5.up (by decide : (10:Int) ^ 50 ≤ 10 ^ 58)) ns.length (by have := h1.2.1; omega)
  have := h1.2.1
  unfold bitsF
  omega
def spRf (K : PySem.W.Frag) : Sp := fun vs H Q _ => ∃ v d ns T t, vs = [v, .ref t] ∧ RcAt K H v (.fr d ns T) ∧ RcOk (.fr d ns T) ∧ TbsV K H t T ∧
  ∀ p m q H', Same H H' → H p = none → H' p = some (.tup [.ref m, .ref q]) → H' m = some (.lst (ns.map V.int)) → TbsV K H' q (nextF d ns T) → Q (.ref p) H'
theorem use_rf {K : PySem.W.Frag} {v : V} {d : Hd} {ns : List Int} {T : Tb × Tb} {t : Addr} {H : Hp} {Q : VK} {E : XK} (h : RcAt K H v (.fr d ns T)) (ok : RcOk (.fr d ns T)) (hT : TbsV K H t T)
    (q : ∀ p m q H', Same H H' → H p = none → H' p = some (.tup [.ref m, .ref q]) → H' m = some (.lst (ns.map V.int)) → TbsV K H' q (nextF d ns T) → Q (.ref p) H') : spRf K ([v, .ref t] ++ []) H Q E := ⟨v, d, ns, T, t, rfl, h, ok, hT, q⟩
/-- index, place, head, left joint, numbers, tables -/
abbrev Fm := Nat × Nat × Hd × (Nat × Nat) × List Int × (Tb × Tb)
def frR : Nat → Nat → (Nat × Nat) → List Rc → List Fm
  | _, _, _, [] => []
  | i, pl, lj, .st _ :: r => frR (i + 1) pl lj r
  | i, pl, lj, .fr d ns T :: r => (i, pl, d, lj, ns, T) :: frR (i + 1) (pl + d.1) (d.2.1, d.2.2.1) r
def JtV (K : PySem.W.Frag) (H : Hp) (j : Addr) (x : Nat × Nat) : Prop := TupV K H j [.int (x.1 : Nat), .int (x.2 : Nat)]
theorem JtAt.v {K : PySem.W.Frag} {H : Hp} {j : Addr} {x : Nat × Nat} (h : JtAt H j x) : JtV K H j x := TupV.of h
theorem JtV.lk {K : PySem.W.Frag} {H H' : Hp} {j : Addr} {x : Nat × Nat} (s : LK H H') (h : JtV K H j x) : JtV K H' j x := TupV.lk s h
def FmAt (K : PySem.W.Frag) (l : List Addr) (H : Hp) (v : V) (f : Fm) : Prop := ∃ a b jl j m t q, v = .ref a ∧ H a = some (.tup [.ref b, .ref m, .ref t, .ref q]) ∧ H b = some (.tup [.int (f.1 : Nat), .int (f.2.1 : Nat), .int (f.2.2.1.1 : Nat), .ref jl, .ref j]) ∧ JtV K H jl f.2.2.2.1 ∧ JtAt H j (f.2.2.1.2.1, f.2.2.1.2.2.1) ∧
  m ∉ l ∧ H m = some (.lst (f.2.2.2.2.1.map V.int)) ∧ TbsV K H t f.2.2.2.2.2 ∧ TbsV K H q (nextF f.2.2.1 f.2.2.2.2.1 f.2.2.2.2.2)
theorem FmAt.kp {K : PySem.W.Frag} {l : List Addr} {H H' : Hp} {v : V} {f : Fm} (s : LK H H') (k : KpL l H H') (h : FmAt K l H v f) : FmAt K l H' v f := by
  obtain ⟨a, b, jl, j, m, t, q, e, h1, h2, h3, h4, h5, h6, h7, h8⟩ := h
  exact ⟨a, b, jl, j, m, t, q, e, s _ _ h1 (fun _ z => nomatch z), s _ _ h2 (fun _ z => nomatch z), h3.lk s, h4.lk s, h5, k _ _ h5 h6, h7.lk s, h8.lk s⟩
theorem FmAt.same {K : PySem.W.Frag} {l : List Addr} {H H' : Hp} {v : V} {f : Fm} (s : Same H H') (h : FmAt K l H v f) : FmAt K l H' v f := h.kp (.of s) (.ofS s)
theorem FmAt.out {K : PySem.W.Frag} {l : List Addr} {H : Hp} {v : V} {f : Fm} (h : FmAt K l H v f) : FmAt K [] H v f := by
  obtain ⟨a, b, jl, j, m, t, q, e, h1, h2, h3, h4, h5, h⟩ := h
  exact ⟨a, b, jl, j, m, t, q, e, h1, h2, h3, h4, List.not_mem_nil, h⟩
def FmsAt (K : PySem.W.Frag) (l : List Addr) (H : Hp) (vs : List V) (fs : List Fm) : Prop := All2 (FmAt K l H) vs fs
def spFrs (K : PySem.W.Frag) : Sp := fun vs H Q _ => ∃ a refs rs T, vs = [.ref a] ∧ H a = some (.lst refs) ∧ refs.length ≤ 400 ∧ RcsAt K H refs rs ∧ Vd T0 0 rs T 0 ∧ ∀ F fms H', H F = none → H' F = some (.lst fms) → FmsAt K [] H' fms (frR 0 0 (0, 0) rs) → Same H H' → Q (.ref F) H'
theorem use_frs {K : PySem.W.Frag} {a : Addr} {refs : List V} {rs : List Rc} {T : Tb × Tb} {H : Hp} {Q : VK} {E : XK} (h : H a = some (.lst refs)) (hl : refs.length ≤ 400) (hR : RcsAt K H refs rs) (hV : Vd T0 0 rs T 0) (q : ∀ F fms H', H F = none → H' F = some (.lst fms) → FmsAt K [] H' fms (frR 0 0 (0, 0) rs) → Same H H' → Q (.ref F) H') : spFrs K ([.ref a] ++ []) H Q E := ⟨a, refs, rs, T, rfl, h, hl, hR, hV, q⟩
theorem Vd.ok : ∀ {rs : List Rc} {T : Tb × Tb} {l : Nat} {T2 : Tb × Tb} {l2 : Nat}, Vd T l rs T2 l2 → ∀ r ∈ rs, RcOk r
  | [], _, _, _, _, _, r, h => absurd h List.not_mem_nil
  | .st T' :: rs, _, _, _, _, ⟨h, q⟩, r, hm => by
    rcases List.mem_cons.mp hm with rfl | hm
    · exact h
    · exact Vd.ok q r hm
  | .fr d ns T' :: rs, _, _, _, _, ⟨e, h2, h3, h4, h5, h6, q⟩, r, hm => by
    rcases List.mem_cons.mp hm with rfl | hm
    · subst e; exact ⟨h2, h4, h5, h6⟩
    · exact Vd.ok q r hm
theorem All2.drop_head {α β : Type} {R : α → β → Prop} {as : List α} {bs : List β} (h : All2 R as bs) {i : Nat} {a : α} (e : as[i]? = some a) : ∃ b r, R a b ∧ bs.drop i = b :: r ∧ bs.drop (i + 1) = r ∧ b ∈ bs := by
  obtain ⟨b, r, h1, h2, h3⟩ := h.get _ _ e
  exact ⟨b, r, h1, h2, h3, List.mem_of_mem_drop (i := i) (by rw [h2]; exact List.mem_cons_self)⟩
structure FI (K : PySem.W.Frag) (F : Addr) (H0 H : Hp) (rs : List Rc) (Te : Tb × Tb) (i : Nat) (fms : List V) (dn : List Fm) (t : Addr) (T : Tb × Tb) (pl : Nat) (jl : Addr) (lj : Nat × Nat) : Prop where
  eF : H F = some (.lst fms)
  nF : H0 F = none
  fm : FmsAt K [F] H fms dn
  sp : frR 0 0 (0, 0) rs = dn ++ frR i pl lj (rs.drop i)
  vd : Vd T lj.1 (rs.drop i) Te 0
  jt : JtV K H jl lj
  j0 : lj.1 = 0 → lj.2 = 0
  tb : TbsV K H t T
  sm : Same H0 H
  le : dn.length ≤ i
section
variable {K : PySem.W.Frag} {F t jl : Addr} {H0 H H' : Hp} {rs : List Rc} {Te T : Tb × Tb} {i pl : Nat} {fms : List V} {dn : List Fm} {lj : Nat × Nat}
theorem FI.same (h : FI K F H0 H rs Te i fms dn t T pl jl lj) (s : Same H H') : FI K F H0 H' rs Te i fms dn t T pl jl lj :=
  { h with eF := s _ _ h.eF, fm := h.fm.imp fun _ _ q => q.same s, jt := h.jt.lk (.of s), tb := h.tb.lk (.of s), sm := h.sm.trans s }
theorem FI.len (h : FI K F H0 H rs Te i fms dn t T pl jl lj) : fms.length ≤ i := by rw [h.fm.len]; exact h.le
theorem FI.st (h : FI K F H0 H rs Te i fms dn t T pl jl lj) {T' : Tb × Tb} {r : List Rc} (e : rs.drop i = .st T' :: r) (e' : rs.drop (i + 1) = r) {t' : Addr} (ht : TbsV K H t' T') : FI K F H0 H rs Te (i + 1) fms dn t' T' pl jl lj := by
  have sp := h.sp
  have vd := h.vd
  rw [e] at sp vd
  exact { h with sp := by rw [e']; exact sp, vd := by rw [e']; exact vd.2, tb := ht, le := Nat.le_succ_of_le h.le }
theorem FI.fr (h : FI K F H0 H rs Te i fms dn t T pl jl lj) {d : Hd} {ns : List Int} {T0 : Tb × Tb} {r : List Rc} (e : rs.drop i = .fr d ns T0 :: r) (e' : rs.drop (i + 1) = r) {v : V} {q j : Addr} (hv : FmAt K [F] H v (i, pl, d, lj, ns, T)) (hj : JtAt H j (d.2.1, d.2.2.1)) (hq : TbsV K H q (nextF d ns T)) :
    FI K F H0 (upd H F (.lst (fms ++ [v]))) rs Te (i + 1) (fms ++ [v]) (dn ++ [(i, pl, d, lj, ns, T)]) q (nextF d ns T) (pl + d.1) j (d.2.1, d.2.2.1) := by
  have sp := h.sp
  have vd := h.vd
  rw [e] at sp vd
  obtain ⟨rfl, v2, v3, v4, v5, v6, v7⟩ := vd
  have lk : LK H (upd H F (.lst (fms ++ [v]))) := LK.at h.eF
  have kp : KpL [F] H (upd H F (.lst (fms ++ [v]))) := KpL.at (by simp)
  exact { eF := upd_same, nF := h.nF, fm := (h.fm.imp fun _ _ q => q.kp lk kp).app (hv.kp lk kp)
          sp := by rw [e', sp, List.append_assoc]; rfl
          vd := by rw [e']; exact v7
          jt := (hj.lk lk).v, j0 := v2.2.2.2.2.1, tb := hq.lk lk
          sm := fun b o eb => by rw [upd_ne (ne_of_none eb h.nF)]; exact h.sm _ _ eb
          le := by rw [List.length_append]; exact Nat.succ_le_succ h.le }
end
/-- a list of numbers is not the list of frames -/
theorem ne_fms {F m : Addr} {H : Hp} {fms : List V} {ns : List Int} (hF : H F = some (.lst fms)) (hm : H m = some (.lst (ns.map V.int))) (h1 : 1 ≤ ns.length) (hr : ∀ v ∈ fms, ∃ a, v = .ref a) : m ≠ F := fun z => by
  rw [z, hF] at hm
  cases ns with
  | nil => simp at h1
  | cons n ns =>
    have e := HO.lst.inj (Option.some.inj hm)
    obtain ⟨a, ha⟩ := hr _ (by rw [e]; exact List.mem_cons_self)
    cases ha
theorem fms_ref {K : PySem.W.Frag} {l : List Addr} {H : Hp} {vs : List V} {fs : List Fm} (h : FmsAt K l H vs fs) : ∀ v ∈ vs, ∃ a, v = .ref a := by
  induction h with
  | nil => exact fun v h => absurd h List.not_mem_nil
  | cons h _ ih =>
    intro v hv
    rcases List.mem_cons.mp hv with rfl | hv
    · obtain ⟨a, b, jl, j, m, t, q, e, _⟩ := h
      exact ⟨a, e⟩
    · exact ih v hv
def LKI (H H' : Hp) : Prop := ∀ b o, H b = some o → (∀ xs, o ≠ .lst xs) → (∀ C dx fs, o ≠ .ins C dx fs) → H' b = some o
theorem LK.i {H H' : Hp} (s : LK H H') : LKI H H' := fun b o e n _ => s b o e n
theorem LKI.ofK {x C dx : Addr} {fs : List (Str × V)} {H H' : Hp} (hx : H x = some (.ins C dx fs)) (k : Kp x H H') : LKI H H' := fun b o e _ n => k b o (fun z => by
  rw [z, hx] at e
  exact n _ _ _ (Option.some.inj e).symm) e
theorem TupV.lki {K : PySem.W.Frag} {H H' : Hp} {a : Addr} {xs : List V} (s : LKI H H') (h : TupV K H a xs) : TupV K H' a xs := by
  obtain ⟨h1, h2⟩ := h
  refine ⟨?_, ?_⟩
  · rcases h1 with (h | ⟨o, h⟩) | h
    · exact .inl (.inl (s _ _ h (fun _ z => nomatch z) (fun _ _ _ z => nomatch z)))
    · exact .inl (.inr ⟨o, s _ _ h (fun _ z => nomatch z) (fun _ _ _ z => nomatch z)⟩)
    · exact .inr h
  · generalize ht : (Value.type "tuple") = t at h2 ⊢
    cases h2 with
    | base b =>
      cases b with
      | lst e => exact absurd ht (by decide)
      | frz e => exact absurd ht (by decide)
      | tup e => exact .base (.tup (s _ _ e (fun _ z => nomatch z) (fun _ _ _ z => nomatch z)))
      | dK e => exact absurd ht (by decide)
      | dT e => exact absurd ht (by decide)
      | ins e => cases ht
    | set e => exact absurd ht (by decide)
    | kList e c => exact .kList e c
    | kTuple e c => exact .kTuple e c
    | kDict e c => exact .kDict e c
    | fTuple e => exact .fTuple (s _ _ e (fun _ z => nomatch z) (fun _ _ _ z => nomatch z))
    | fDict e => exact absurd ht (by decide)
section
variable {K : PySem.W.Frag} {H H' : Hp}
theorem TbsV.lki {a : Addr} {T : Tb × Tb} (s : LKI H H') (h : TbsV K H a T) : TbsV K H' a T := let ⟨r0, r1, h0, h1, h2⟩ := h; ⟨r0, r1, h0.lki s, TupV.lki s h1, TupV.lki s h2⟩
theorem JtV.lki {j : Addr} {x : Nat × Nat} (s : LKI H H') (h : JtV K H j x) : JtV K H' j x := TupV.lki s h
theorem JtAt.lki {j : Addr} {x : Nat × Nat} (s : LKI H H') (h : JtAt H j x) : JtAt H' j x := s _ _ h (fun _ z => nomatch z) (fun _ _ _ z => nomatch z)
theorem RcAt.lki {v : V} (s : LKI H H') : ∀ {r : Rc}, RcAt K H v r → RcAt K H' v r
  | .st T, ⟨a, t, e, h, q⟩ => ⟨a, t, e, s _ _ h (fun _ z => nomatch z) (fun _ _ _ z => nomatch z), q.lki s⟩
  | .fr d ns T, ⟨a, j, e, h, q⟩ => ⟨a, j, e, s _ _ h (fun _ z => nomatch z) (fun _ _ _ z => nomatch z), s _ _ q (fun _ z => nomatch z) (fun _ _ _ z => nomatch z)⟩
theorem RcsAt.lki {vs : List V} {rs : List Rc} (s : LKI H H') (h : RcsAt K H vs rs) : RcsAt K H' vs rs := h.imp fun _ _ q => q.lki s
theorem FmAt.lki {l : List Addr} {v : V} {f : Fm} (s : LKI H H') (k : ∀ m ns, H m = some (.lst ns) → H' m = some (.lst ns)) (h : FmAt K l H v f) : FmAt K l H' v f := by
  obtain ⟨a, b, jl, j, m, t, q, e, h1, h2, h3, h4, h5, h6, h7, h8⟩ := h
  exact ⟨a, b, jl, j, m, t, q, e, s _ _ h1 (fun _ z => nomatch z) (fun _ _ _ z => nomatch z), s _ _ h2 (fun _ z => nomatch z) (fun _ _ _ z => nomatch z), h3.lki s, h4.lki s, h5, k _ _ h6, h7.lki s, h8.lki s⟩
theorem lst_kp {x C dx : Addr} {fs : List (Str × V)} (hx : H x = some (.ins C dx fs)) (k : Kp x H H') : ∀ m ns, H m = some (.lst ns) → H' m = some (.lst ns) := fun m ns e => k m _ (fun z => by rw [z, hx] at e; cases e) e
theorem FmsAt.fld {l : List Addr} {x C dx : Addr} {fs : List (Str × V)} {vs : List V} {fms : List Fm} (hx : H x = some (.ins C dx fs)) (k : Kp x H H') (h : FmsAt K l H vs fms) : FmsAt K l H' vs fms := h.imp fun _ _ q => q.lki (.ofK hx k) (lst_kp hx k)
end
theorem held_ (L : Addr) : (putF "held" (.ref L) []).lookup ("held" : Str) = some (V.ref L) := by
  rw [lookup_putF, if_pos rfl]
theorem hr_ : ¬ (("held" : Str) = "read") := by decide +kernel
def sf (L F : Addr) : List (Str × V) := putF "read" (.ref F) (putF "held" (.ref L) [])
theorem sf_held (L F : Addr) : (sf L F).lookup ("held" : Str) = some (.ref L) := by
  unfold sf
  rw [lookup_putF, if_neg hr_, lookup_putF, if_pos rfl]
theorem sf_no (L F : Addr) {m : Str} (h1 : ¬ m = "read") (h2 : ¬ m = "held") : (sf L F).lookup m = none := by
  unfold sf
  rw [lookup_putF, if_neg h1, lookup_putF, if_neg h2]
  all_goals rfl
def StmAt (K : PySem.W.Frag) (C : Addr) (H : Hp) (x : Addr) (refs : List V) (rs : List Rc) : Prop := ∃ dx L F fms Te, H x = some (.ins C dx (sf L F)) ∧ H L = some (.lst refs) ∧ refs.length ≤ 400 ∧ RcsAt K H refs rs ∧ Vd T0 0 rs Te 0 ∧ H F = some (.lst fms) ∧ FmsAt K [] H fms (frR 0 0 (0, 0) rs)
theorem StmAt.same {K : PySem.W.Frag} {C x : Addr} {H H' : Hp} {refs : List V} {rs : List Rc} (s : Same H H') (h : StmAt K C H x refs rs) : StmAt K C H' x refs rs := by
  obtain ⟨dx, L, F, fms, Te, h1, h2, h3, h4, h5, h6, h7⟩ := h
  exact ⟨dx, L, F, fms, Te, s _ _ h1, s _ _ h2, h3, h4.lk (.of s), h5, s _ _ h6, h7.imp fun _ _ q => q.same s⟩
def spInitS (K : PySem.W.Frag) (C : Addr) : Sp := fun vs H Q _ => ∃ (x a dx : Addr) (refs : List V) (rs : List Rc) (Te : Tb × Tb), vs = [.ref x, .ref a] ∧ H x = some (.ins C dx []) ∧ H a = some (.lst refs) ∧ refs.length ≤ 400 ∧ RcsAt K H refs rs ∧ Vd T0 0 rs Te 0 ∧ ∀ H', StmAt K C H' x refs rs → Kp x H H' → Q .non H'
theorem use_init {K : PySem.W.Frag} {C x a dx : Addr} {refs : List V} {rs : List Rc} {Te : Tb × Tb} {H : Hp} {Q : VK} {E : XK} (hx : H x = some (.ins C dx [])) (h : H a = some (.lst refs)) (hl : refs.length ≤ 400) (hR : RcsAt K H refs rs) (hV : Vd T0 0 rs Te 0) (q : ∀ H', StmAt K C H' x refs rs → Kp x H H' → Q .non H') : spInitS K C (.ref x :: ([.ref a] ++ [])) H Q E := ⟨x, a, dx, refs, rs, Te, rfl, hx, h, hl, hR, hV, q⟩
def spRecs (K : PySem.W.Frag) (C : Addr) : Sp := fun vs H Q _ => ∃ (x : Addr) (refs : List V) (rs : List Rc), vs = [.ref x] ∧ StmAt K C H x refs rs ∧ ∀ p, H p = none → Q (.ref p) (upd H p (.lst refs))
def BlAt (K : PySem.W.Frag) (H : Hp) (b : Addr) (f : Fm) : Prop := ∃ jl j, H b = some (.tup [.int (f.1 : Nat), .int (f.2.1 : Nat), .int (f.2.2.1.1 : Nat), .ref jl, .ref j]) ∧ JtV K H jl f.2.2.2.1 ∧ JtAt H j (f.2.2.1.2.1, f.2.2.1.2.2.1)
section
variable {K : PySem.W.Frag} {mg : Str → Option Value} {σ : L2.St} {H : Hp} {Q : VK} {C x L F dx : Addr} {ta : TE}
theorem rd_heldV {i : Nat} (T : StmC K mg C) (e : H x = some (.ins C dx (sf L F))) (ei : σ[i]? = some (some (.ref x))) (q : Q (.ref L) H) : tFld K (tVar i) "held" σ H Q := ⟨.ref x, ei, x, C, dx, _, _, rfl, e, T.cl, T.nh, sf_held L F, q⟩
theorem rd_setF {n : L2.St → Hp → Prop} {r : VK} {b c : L2.St → Hp → Prop} {tv : TE} {f : Str} {i : Nat} (h : tv σ H fun y H1 => ∃ x C dx fs, σ[i]? = some (some (.ref x)) ∧ H1 x = some (.ins C dx fs) ∧ Cls K C ∧ NoAttr K C f ∧ fs.length < 1000 ∧ n σ (upd H1 x (.ins C dx (putF f y fs)))) : sFld K (tVar i) tv f ⟨n, r, b, c⟩ σ H := by
  show tv σ H fun y H1 => ∃ v, σ[i]? = some (some v) ∧ ∃ a C dx fs, v = .ref a ∧ H1 a = some (.ins C dx fs) ∧ Cls K C ∧ NoAttr K C f ∧ fs.length < 1000 ∧ n σ (upd H1 a (.ins C dx (putF f y fs)))
  have e : (fun y H1 => ∃ x C dx fs, σ[i]? = some (some (V.ref x)) ∧ H1 x = some (.ins C dx fs) ∧ Cls K C ∧ NoAttr K C f ∧ fs.length < 1000 ∧ n σ (upd H1 x (.ins C dx (putF f y fs)))) = (fun (y : V) (H1 : Hp) => ∃ v, σ[i]? = some (some v) ∧ ∃ a C dx fs, v = V.ref a ∧ H1 a = some (.ins C dx fs) ∧ Cls K C ∧ NoAttr K C f ∧ fs.length < 1000 ∧ n σ (upd H1 a (.ins C dx (putF f y fs)))) := by
    funext y H1
    refine propext ⟨?_, ?_⟩
    · rintro ⟨x, C, dx, fs, e, h⟩
      exact ⟨_, e, x, C, dx, fs, rfl, h⟩
    · rintro ⟨v, e, x, C, dx, fs, rfl, h⟩
      exact ⟨x, C, dx, fs, e, h⟩
  rw [← e]
  exact h
theorem rd_methS {i : Nat} {m : Str} {sp : Sp} {dvs : List V} {E : XK} {t : TA} {refs : List V} {rs : List Rc} (hS : StmAt K C H x refs rs) (ei : σ[i]? = some (some (.ref x))) (h1 : ¬ m = "read") (h2 : ¬ m = "held") (h : t σ H fun vs H2 => sp (.ref x :: (vs ++ dvs)) H2 Q E) : tMeth C m sp dvs E (tVar i) t σ H Q := by
  obtain ⟨dx, L, F, fms, Te, e, _⟩ := hS
  exact ⟨.ref x, ei, x, dx, _, rfl, e, sf_no L F h1 h2, h⟩
end
def rowsF : Nat → Nat → (Nat × Nat) → Nat → List Rc → List Rw
  | _, _, _, _, [] => []
  | i, pl, lj, _, .st _ :: r => rowsF (i + 1) pl lj i r
  | i, pl, lj, o, .fr d _ _ :: r => (i, pl, d, lj, o) :: rowsF (i + 1) (pl + d.1) (d.2.1, d.2.2.1) o r
def RwV (K : PySem.W.Frag) (H : Hp) (v : V) (r : Rw) : Prop := ∃ a jl j, v = .ref a ∧ H a = some (.tup [.int (r.1 : Nat), .int (r.2.1 : Nat), .int (r.2.2.1.1 : Nat), .ref jl, .ref j, .int (r.2.2.1.2.2.2.1 : Nat), .int (r.2.2.1.2.2.2.2 : Nat), .int (r.2.2.2.2 : Nat)]) ∧ JtV K H jl r.2.2.2.1 ∧ JtAt H j (r.2.2.1.2.1, r.2.2.1.2.2.1)
theorem RwV.lk {K : PySem.W.Frag} {H H' : Hp} {v : V} {r : Rw} (s : LK H H') (h : RwV K H v r) : RwV K H' v r := by
  obtain ⟨a, jl, j, e, h1, h2, h3⟩ := h
  exact ⟨a, jl, j, e, s _ _ h1 (fun _ z => nomatch z), h2.lk s, h3.lk s⟩
theorem RwAt.v {K : PySem.W.Frag} {H : Hp} {v : V} {r : Rw} (h : RwAt H v r) : RwV K H v r := by
  obtain ⟨a, jl, j, e, h1, h2, h3⟩ := h
  exact ⟨a, jl, j, e, h1, h2.v, h3⟩
def RwsV (K : PySem.W.Frag) (H : Hp) (vs : List V) (rs : List Rw) : Prop := All2 (RwV K H) vs rs
structure II (K : PySem.W.Frag) (D : Addr) (H0 H : Hp) (rs : List Rc) (i : Nat) (idx : List V) (dn : List Rw) (fd : List Fm) (pl : Nat) (lj : Nat × Nat) (o : Nat) : Prop where
  eD : H D = some (.lst idx)
  nD : H0 D = none
  ix : RwsV K H idx dn
  s1 : rowsF 0 0 (0, 0) 0 rs = dn ++ rowsF i pl lj o (rs.drop i)
  s2 : frR 0 0 (0, 0) rs = fd ++ frR i pl lj (rs.drop i)
  ln : dn.length = fd.length
  sm : Same H0 H
  le : dn.length ≤ i
section
variable {K : PySem.W.Frag} {D : Addr} {H0 H H' : Hp} {rs : List Rc} {i pl o : Nat} {idx : List V} {dn : List Rw} {fd : List Fm} {lj : Nat × Nat}
theorem II.same (h : II K D H0 H rs i idx dn fd pl lj o) (s : Same H H') : II K D H0 H' rs i idx dn fd pl lj o :=
  { h with eD := s _ _ h.eD, ix := h.ix.imp fun _ _ q => q.lk (.of s), sm := h.sm.trans s }
theorem II.len (h : II K D H0 H rs i idx dn fd pl lj o) : idx.length ≤ i := by rw [h.ix.len]; exact h.le
theorem II.st (h : II K D H0 H rs i idx dn fd pl lj o) {T' : Tb × Tb} {r : List Rc} (e : rs.drop i = .st T' :: r) (e' : rs.drop (i + 1) = r) : II K D H0 H rs (i + 1) idx dn fd pl lj i := by
  have s1 := h.s1
  have s2 := h.s2
  rw [e] at s1 s2
  exact { h with s1 := by rw [e']; exact s1, s2 := by rw [e']; exact s2, le := Nat.le_succ_of_le h.le }
theorem II.at (h : II K D H0 H rs i idx dn fd pl lj o) {d : Hd} {ns : List Int} {T : Tb × Tb} {r : List Rc} (e : rs.drop i = .fr d ns T :: r) : (frR 0 0 (0, 0) rs)[idx.length]? = some (i, pl, d, lj, ns, T) := by
  have s2 := h.s2
  rw [e] at s2
  rw [s2, h.ix.len, h.ln, List.getElem?_append_right (Nat.le_refl _), Nat.sub_self]
  rfl
theorem II.fr (h : II K D H0 H rs i idx dn fd pl lj o) {d : Hd} {ns : List Int} {T : Tb × Tb} {r : List Rc} (e : rs.drop i = .fr d ns T :: r) (e' : rs.drop (i + 1) = r) {v : V} (hv : RwV K H v (i, pl, d, lj, o)) :
    II K D H0 (upd H D (.lst (idx ++ [v]))) rs (i + 1) (idx ++ [v]) (dn ++ [(i, pl, d, lj, o)]) (fd ++ [(i, pl, d, lj, ns, T)]) (pl + d.1) (d.2.1, d.2.2.1) o := by
  have s1 := h.s1
  have s2 := h.s2
  rw [e] at s1 s2
  have lk : LK H (upd H D (.lst (idx ++ [v]))) := LK.at h.eD
  exact { eD := upd_same, nD := h.nD, ix := (h.ix.imp fun _ _ q => q.lk lk).app (hv.lk lk)
          s1 := by rw [e', s1, List.append_assoc]; rfl
          s2 := by rw [e', s2, List.append_assoc]; rfl
          ln := by rw [List.length_append, List.length_append, h.ln]; rfl
          sm := fun b x eb => by rw [upd_ne (ne_of_none eb h.nD)]; exact h.sm _ _ eb
          le := by rw [List.length_append]; exact Nat.succ_le_succ h.le }
end
theorem strOk_S {l : List Nat} (h : ∀ c ∈ l, IsB c) : PyData.strOk (S l) = true := by
  show (l.toArray).all (· < 0x110000) = true
  rw [List.all_toArray, List.all_eq_true]
  intro c hc
  rcases h c hc with rfl | rfl <;> rfl
theorem dp_tbs {K : PySem.W.Frag} {H : Hp} {a : Addr} {T : Tb × Tb} (h : TbsV K H a T) : Dp K H (.ref a) (.tuple [.tuple [.int T.1.1, .int T.1.2], .tuple [.int T.2.1, .int T.2.2]]) := by
  obtain ⟨r0, r1, h0, h1, h2⟩ := h
  exact .tup h0.1 (.cons (.tup h1.1 (.cons (.int _) (.cons (.int _) .nil))) (.cons (.tup h2.1 (.cons (.int _) (.cons (.int _) .nil))) .nil))
theorem RwsAt.v {K : PySem.W.Frag} {H : Hp} {vs : List V} {rs : List Rw} (h : RwsAt H vs rs) : RwsV K H vs rs := h.imp fun _ _ q => q.v
theorem RwsV.lk {K : PySem.W.Frag} {H H' : Hp} {vs : List V} {rs : List Rw} (s : LK H H') (h : RwsV K H vs rs) : RwsV K H' vs rs := h.imp fun _ _ q => q.lk s
theorem rd_mk {σ : L2.St} {H : Hp} {Q : VK} {C : Addr} {sp : Sp} {dvs : List V} {E : XK} {t : TA} (h : t σ H fun vs H1 => ∀ (x dx : Addr), H1 x = none → H1 dx = none → dx ≠ x → sp (.ref x :: (vs ++ dvs)) (upd (upd H1 dx (.own x)) x (.ins C dx [])) (fun v H2 => v = .non ∧ Q (.ref x) H2) E) : tMake C sp dvs E t σ H Q := h
end Z
namespace Z
open PySem PySem.Spec PyProof.Rows L2
section
variable {σ : L2.St} {H : Hp} {n : L2.St → Hp → Prop} {r : VK} {b c : L2.St → Hp → Prop} {te : TE}
theorem rd_aug {i : Nat} {ti : TIp} {x : V} (e : σ[i]? = some (some x)) (h : te σ H fun y H1 => ti x y H1 fun z H2 => n (σ.set i (some z)) H2) : tAug i te ti ⟨n, r, b, c⟩ σ H := ⟨x, e, h⟩
theorem rd_ipI {f : Int → Int → Int} {i j : Int} {Q : VK} (h : Q (.int (f i j)) H) : ipI f (.int i) (.int j) H Q := ⟨i, j, rfl, rfl, h⟩
end
def spTakeB : Sp := fun vs H Q _ => ∃ (p : Addr) (m : Int), vs = [.ref p, .int m] ∧ Pool H p ∧ 0 < m ∧ m < 18446744073709551616 ∧ ∀ r H', 0 ≤ r → r < m → Pool H' p → Kp p H H' → Q (.int r) H'
theorem use_takeB {p : Addr} {m : Int} {H : Hp} {Q : VK} {E : XK} (h1 : Pool H p) (h2 : 0 < m) (h3 : m < 18446744073709551616) (q : ∀ r H', 0 ≤ r → r < m → Pool H' p → Kp p H H' → Q (.int r) H') : spTakeB ([.ref p, .int m] ++ []) H Q E := ⟨p, m, rfl, h1, h2, h3, q⟩
abbrev Sz := Int × Int
def SzAt (H : Hp) (v : V) (s : Sz) : Prop := ∃ a, v = .ref a ∧ H a = some (.tup [.int s.1, .int s.2])
def SzsAt (H : Hp) (vs : List V) (ss : List Sz) : Prop := All2 (SzAt H) vs ss
def LKT (H H' : Hp) : Prop := ∀ b o, H b = some o → (∀ xs, o ≠ .lst xs) → H' b = some o
theorem SzsAt.lk {H H' : Hp} {vs : List V} {ss : List Sz} (s : LKT H H') (h : SzsAt H vs ss) : SzsAt H' vs ss := h.imp fun _ _ ⟨a, e, q⟩ => ⟨a, e, s _ _ q (fun _ z => nomatch z)⟩
theorem LKT.of {H H' : Hp} (s : Same H H') : LKT H H' := fun b o e _ => s b o e
theorem LKT.new {H : Hp} {q : Addr} {o : HO} (n : H q = none) : LKT H (upd H q o) := .of (same_new n)
theorem LKT.trans {H H1 H2 : Hp} (a : LKT H H1) (b : LKT H1 H2) : LKT H H2 := fun x o e n => b x o (a x o e n) n
theorem LKT.at {H : Hp} {q : Addr} {o : HO} {ys : List V} (n : H q = some (.lst ys)) : LKT H (upd H q o) := fun b x e nl => by
  rw [upd_ne (fun z => by rw [z, n] at e; cases e; exact nl _ rfl)]
  exact e
theorem SzsAt.same {H H' : Hp} {vs : List V} {ss : List Sz} (s : Same H H') (h : SzsAt H vs ss) : SzsAt H' vs ss := h.lk (.of s)
theorem All2.at_ {α β : Type} {R : α → β → Prop} {as : List α} {bs : List β} (h : All2 R as bs) : ∀ (i : Nat) (a : α), as[i]? = some a → ∃ b, bs[i]? = some b ∧ R a b ∧ bs.drop i = b :: bs.drop (i + 1) := by
  induction h with
  | nil => intro i a e; simp at e
  | @cons a b as bs h t ih =>
    intro i x e
    cases i with
    | zero => cases e; exact ⟨b, rfl, h, rfl⟩
    | succ i => exact ih i x e
end Z
namespace Z
open PySem PySem.Spec PyProof.Rows L2
def rsz : Rc → Int
  | .st _ => 80
  | .fr d ns T => 40 + ((bitsF d ns T).length : Nat)
def totR (rs : List Rc) : Int := (rs.map rsz).sum
def spRsz (K : PySem.W.Frag) : Sp := fun vs H Q _ => ∃ (v : V) (r : Rc), vs = [v] ∧ RcAt K H v r ∧ RcOk r ∧ Q (.int (rsz r)) H
theorem use_rsz {K : PySem.W.Frag} {v : V} {r : Rc} {H : Hp} {Q : VK} {E : XK} (h : RcAt K H v r) (ok : RcOk r) (q : Q (.int (rsz r)) H) : spRsz K ([v] ++ []) H Q E := ⟨v, r, rfl, h, ok, q⟩
def spSizeM (K : PySem.W.Frag) (C : Addr) : Sp := fun vs H Q _ => ∃ (x : Addr) (refs : List V) (rs : List Rc), vs = [.ref x] ∧ StmAt K C H x refs rs ∧ ∀ H', Same H H' → Q (.int (totR rs)) H'
theorem rd_sum {K : PySem.W.Frag} {H : Hp} {Q : VK} {a : Addr} {ns : List Int} (e : SqL K H a (ns.map V.int)) (q : Q (.int ns.sum) H) : rSum K [.ref a] H Q := ⟨a, ns, rfl, e, q⟩
/-- a list made of ints, one of each item -/
theorem lc_toI {K : PySem.W.Frag} {σ : L2.St} {Q : VK} {vs : List Nat} {k : Nat} {a D : Addr} {xs : List V} {H1 : Hp} {te : TE} {α : Type} (R : Hp → V → α → Prop) (f : α → Int) {as : List α} (hR : ∀ H, Same H1 H → All2 (R H) xs as) (hS : SqL K H1 a xs) (hn : xs.length ≤ 1000) (hw : ∀ v, wipe ((wipe σ vs).set k (some v)) vs = wipe σ vs) (hD : H1 D = none)
    (turn : ∀ z y, y ∈ as → ∀ (H : Hp) (Q' : VK), Same H1 H → R H z y → (∀ H', Same H H' → Q' (.int (f y)) H') → te ((wipe σ vs).set k (some z)) H Q')
    (q : ∀ H', Same H1 H' → H' D = some (.lst ((as.map f).map V.int)) → Q (.ref D) H') : LcW (Itl K a) (gName k) tYes te vs Q σ H1 D := by
  have len := (hR H1 (Same.refl _)).len
  refine lc_list (xs := xs) (Pv := fun j H => Same H1 H ∧ H D = some (.lst (((as.map f).map V.int).take j))) ⟨same_new hD, upd_same⟩ (fun j H _ hI => hI.1.seq hS) (fun j v H hv hI => ?_) (fun H hI => ?_)
  · obtain ⟨hs, hd⟩ := hI
    have hj := (List.getElem?_eq_some_iff.mp hv).1
    obtain ⟨y, ey, hy, _⟩ := (hR H hs).at_ j v hv
    refine ⟨hw _, rd_yes ?_⟩
    refine turn v y (List.mem_of_getElem? ey) H _ hs hy fun H' hs' => ⟨_, hs' _ _ hd, small1000 (by rw [List.length_take, List.length_map, List.length_map]; omega), ?_, ?_⟩
    · exact fun b o e => by rw [upd_ne (ne_of_none e hD)]; exact hs' _ _ (hs _ _ e)
    · have hz2 : ((as.map f).map V.int)[j]? = some (.int (f y)) := by rw [List.getElem?_map, List.getElem?_map, ey]; rfl
      rw [upd_same, List.take_add_one, hz2]
      rfl
  · obtain ⟨hs, hd⟩ := hI
    rw [List.take_of_length_le (by rw [List.length_map, List.length_map]; omega)] at hd
    exact q H hs hd
end Z
namespace Z
open PySem PySem.Spec PyProof.Rows L2
/-- length, width, shape of frames that follow each other -/
abbrev Fw := Nat × Nat × Nat
def Chn : Nat → List Fw → Prop
  | _, [] => True
  | wb, f :: r => 1 ≤ f.1 ∧ wb + f.2.1 ≤ f.1 ∧ f.2.1 ≤ 8 ∧ f.2.2 ≤ 3 ∧ (f.2.1 = 0 → f.2.2 = 0) ∧ Chn f.2.1 r
def plJ : Nat → List Fw → List Jo
  | _, [] => []
  | p, f :: r => (p + f.1, f.2.1, f.2.2) :: plJ (p + f.1) r
def totW (fs : List Fw) : Nat := (fs.map (·.1)).sum
theorem totW_cons (f : Fw) (r : List Fw) : totW (f :: r) = f.1 + totW r := by unfold totW; rw [List.map_cons, List.sum_cons]
theorem totW_snoc (fs : List Fw) (f : Fw) : totW (fs ++ [f]) = totW fs + f.1 := by unfold totW; rw [List.map_append, List.sum_append, List.map_singleton, List.sum_singleton]
theorem plJ_snoc : ∀ (fs : List Fw) (p : Nat) (f : Fw), plJ p (fs ++ [f]) = plJ p fs ++ [(p + totW fs + f.1, f.2.1, f.2.2)]
  | [], p, f => rfl
  | g :: r, p, f => by
    show (p + g.1, g.2.1, g.2.2) :: plJ (p + g.1) (r ++ [f]) = _
    rw [plJ_snoc r (p + g.1) f, totW_cons, show p + g.1 + totW r = p + (g.1 + totW r) by omega]
    rfl
theorem plJ_rm : ∀ (fs : List Fw) (p wb n : Nat), Chn wb fs → n = p + totW fs → Rm n p wb (plJ p fs).dropLast
  | [], _, _, _, _, _ => trivial
  | [f], _, _, _, _, _ => trivial
  | f :: g :: r, p, wb, n, ⟨h1, h2, h3, h4, h5, h6⟩, hn => by
    have ih := plJ_rm (g :: r) (p + f.1) f.2.1 n h6 (by rw [hn, totW_cons]; omega)
    obtain ⟨g1, g2, _⟩ := h6
    rw [totW_cons, totW_cons] at hn
    exact ⟨by show p < p + f.1; omega, by show p + f.1 < n; omega, by show p + wb + f.2.1 ≤ p + f.1; omega, by show p + f.1 + f.2.1 ≤ n; omega, h3, h4, h5, ih⟩
def fwR : List Rc → List Fw
  | [] => []
  | .st _ :: r => fwR r
  | .fr d _ _ :: r => (d.1, d.2.1, d.2.2.1) :: fwR r
theorem Vd.chn : ∀ {rs : List Rc} {T : Tb × Tb} {l : Nat} {T2 : Tb × Tb} {l2 : Nat}, Vd T l rs T2 l2 → Chn l (fwR rs)
  | [], _, _, _, _, _ => trivial
  | .st _ :: rs, _, _, _, _, ⟨_, q⟩ => Vd.chn (rs := rs) q
  | .fr d ns T' :: rs, _, _, _, _, ⟨_, hd, h3, _, _, _, q⟩ => ⟨hd.1, h3, hd.2.2.1, hd.2.2.2.1, hd.2.2.2.2.1, Vd.chn (rs := rs) q⟩
def bkF (f : Fm) : List Int := kfB f.2.2.1 f.2.2.2.2.1
theorem pi_listK {X : Cx} {K : PySem.W.Frag} {tg l : Expr} {tl : TE} (hl : PE X l tl) (h : X.K = K := by rfl) : PI X tg l (iList K tl) := by
  subst h
  exact pi_list hl
def BsAt (H : Hp) (vs : List V) (bs : List (List Int)) : Prop := All2 (fun v b => ∃ q, v = .ref q ∧ H q = some (.lst (b.map V.int))) vs bs
theorem BsAt.same {H H' : Hp} {vs : List V} {bs : List (List Int)} (s : Same H H') (h : BsAt H vs bs) : BsAt H' vs bs := h.imp fun _ _ ⟨q, e, h⟩ => ⟨q, e, s _ _ h⟩
def JfAt (H : Hp) (vs : List V) (fs : List Fw) : Prop := All2 (fun v f => ∃ j, v = .ref j ∧ JtAt H j (f.2.1, f.2.2)) vs fs
theorem JfAt.same {H H' : Hp} {vs : List V} {fs : List Fw} (s : Same H H') (h : JfAt H vs fs) : JfAt H' vs fs := h.imp fun _ _ ⟨q, e, h⟩ => ⟨q, e, s _ _ h⟩
theorem All2.at2 {α β : Type} {R : α → β → Prop} {as : List α} {bs : List β} (h : All2 R as bs) {i : Nat} {a : α} (e : as[i]? = some a) : ∃ b, bs[i]? = some b ∧ R a b := by
  obtain ⟨b, r, h1, h2, h3⟩ := h.get _ _ e
  refine ⟨b, ?_, h1⟩
  have := congrArg (fun l => l[0]?) h2
  simpa using this
theorem lc_ofG {K : PySem.W.Frag} {σ : L2.St} {Q : VK} {vs : List Nat} {g : TG} {te : TE} {a D : Addr} {xs : List V} {α : Type} {as : List α} {H1 : Hp} (R : V → α → Prop) (gv : α → V) (hR : All2 R xs as) (hS : SqL K H1 a xs) (hn : xs.length ≤ 10000) (hD : H1 D = none)
    (turn : ∀ v y (H : Hp) (Q' : VK), y ∈ as → R v y → Same H1 H → (∀ H', Same H H' → Q' (gv y) H') → g v (wipe σ vs) H fun σ2 H2 => wipe σ2 vs = wipe σ vs ∧ te σ2 H2 Q')
    (q : ∀ H', Same H1 H' → H' D = some (.lst (as.map gv)) → Q (.ref D) H') : LcW (Itl K a) g tYes te vs Q σ H1 D := by
  have hln := hR.len
  refine ⟨fun i m H => m = xs.length - i ∧ i ≤ xs.length ∧ Same H1 H ∧ H D = some (.lst ((as.take i).map gv)), ⟨_, rfl, Nat.zero_le _, same_new hD, upd_same⟩, ?_⟩
  rintro i m H ⟨rfl, hi, hs, hd⟩
  have eL : SqL K H a xs := hs.seq hS
  by_cases hlt : i < xs.length
  · refine .inr ⟨⟨xs, xs[i], eL, List.getElem?_eq_getElem hlt⟩, fun H' => Same H1 H' ∧ H' D = some (.lst ((as.take (i + 1)).map gv)), fun H' p => ⟨xs.length - (i + 1), by omega, rfl, hlt, p⟩, fun x H' y => ?_⟩
    obtain ⟨rfl, y⟩ := y
    obtain ⟨b, eb, hb⟩ := hR.at2 (y xs eL)
    have key := turn x b H' (fun v H4 => ∃ acc, H4 D = some (.lst acc) ∧ acc.length < sizeLine ∧ Same H1 (upd H4 D (.lst (acc ++ [v]))) ∧ (upd H4 D (.lst (acc ++ [v]))) D = some (.lst ((as.take (i + 1)).map gv))) (List.mem_of_getElem? eb) hb hs fun H4 s4 => ⟨_, s4 _ _ hd, Nat.lt_of_le_of_lt (show _ ≤ 10000 by rw [List.length_map, List.length_take]; omega) (by unfold sizeLine; decide), fun c o e => by rw [upd_ne (ne_of_none e hD)]; exact s4 _ _ (hs _ _ e), by
        rw [upd_same, List.take_add_one, eb, List.map_append]
        rfl⟩
    exact key
  · refine .inl ⟨⟨xs, eL, by omega⟩, q H hs ?_⟩
    rw [hd, List.take_of_length_le (by omega)]
theorem cut_drop (xs : List V) : cutV xs none (some (-1)) = xs.dropLast := by
  unfold cutV
  rw [HT.sIx_none, List.drop_zero, Nat.sub_zero, List.dropLast_eq_take]
  congr 1
  show (if (-1 : Int) < 0 then ((-1 : Int) + (xs.length : Int)).toNat else min (-1 : Int).toNat xs.length) = xs.length - 1
  rw [if_pos (by decide)]
  omega
theorem rd_slD {K : PySem.W.Frag} {H : Hp} {Q : VK} {a : Addr} {xs : List V} (h : SqL K H a xs) (q : ∀ p, H p = none → Q (.ref p) (upd H p (.lst xs.dropLast))) : rSlL K (.ref a) none (some (-1)) H Q := ⟨a, xs, rfl, h, fun p hp => by rw [cut_drop]; exact q p hp⟩
theorem JsAt.drop {H : Hp} {vs : List V} {js : List Jo} (h : JsAt H vs js) : JsAt H vs.dropLast js.dropLast := ⟨by rw [List.length_dropLast, List.length_dropLast, h.1], fun i v e => by
  have hl : i < vs.length - 1 := by
    have := (List.getElem?_eq_some_iff.mp e).1
    rw [List.length_dropLast] at this
    exact this
  rw [List.dropLast_eq_take, List.getElem?_take_of_lt (by omega)] at e
  obtain ⟨j, a, q, e1, e2, e3, e4⟩ := h.2 i v e
  refine ⟨j, a, q, ?_, e2, e3, e4⟩
  rw [List.dropLast_eq_take, List.getElem?_take_of_lt (by rw [← h.1]; omega)]
  exact e1⟩
def spPlcd : Sp := fun vs H Q _ => ∃ (a b : Addr) (fs : List Fw) (js : List V), vs = [.ref a, .ref b] ∧ H a = some (.lst (fs.map fun f => .int (f.1 : Nat))) ∧ H b = some (.lst js) ∧ JfAt H js fs ∧ fs.length ≤ 400 ∧ ∀ D ps H', H D = none → Same H H' → H' D = some (.lst ps) → JsAt H' ps (plJ 0 fs).dropLast → Q (.ref D) H'
theorem use_plcd {a b : Addr} {fs : List Fw} {js : List V} {H : Hp} {Q : VK} {E : XK} (h : H a = some (.lst (fs.map fun f => .int (f.1 : Nat)))) (h1 : H b = some (.lst js)) (h2 : JfAt H js fs) (h3 : fs.length ≤ 400) (q : ∀ D ps H', H D = none → Same H H' → H' D = some (.lst ps) → JsAt H' ps (plJ 0 fs).dropLast → Q (.ref D) H') : spPlcd ([.ref a, .ref b] ++ []) H Q E := ⟨a, b, fs, js, rfl, h, h1, h2, h3, q⟩
end Z
namespace Z
open PySem PySem.Spec PyProof.Rows L2
def qL (st : Nat) (vs : List Int) : List Int := vs.map fun v => (2 * v + (st : Int)) / (2 * (st : Int))
/-- the numbers of a frame -/
def nsQ (d : Hd) (vs : List Int) : List Int := qL d.2.2.2.2 (splitL vs d.2.2.2.1)
theorem nsQ_len (d : Hd) (vs : List Int) : (nsQ d vs).length = vs.length := by unfold nsQ qL; rw [List.length_map, splitL_length]
def stB (g i : Nat) : Bool := decide (0 < g) && (decide (0 < i) && decide (i % g = 0))
def encR (g : Nat) : Nat → Tb × Tb → List Hd → List Int → List Rc
  | _, _, [], _ => []
  | i, T, d :: hs, vs => (if stB g i = true then [Rc.st T] else []) ++ .fr d (nsQ d (vs.take d.1)) T :: encR g (i + 1) (nextF d (nsQ d (vs.take d.1)) T) hs (vs.drop d.1)
def hdW (d : Hd) : Fw := (d.1, d.2.1, d.2.2.1)
def totH (hs : List Hd) : Nat := totW (hs.map hdW)
theorem totH_cons (d : Hd) (r : List Hd) : totH (d :: r) = d.1 + totH r := by unfold totH; rw [List.map_cons, totW_cons]; rfl
def plH (hs : List Hd) : List Jo := (plJ 0 (hs.map hdW)).dropLast
def encA (g : Nat) (hs : List Hd) (xs : List Int) : List Rc := encR g 0 T0 hs (turnL foldP xs (plH hs))
theorem Ch.chn : ∀ {hs : List Hd} {l e : Nat}, Ch l hs e → Chn l (hs.map hdW)
  | [], _, _, _ => trivial
  | d :: r, l, e, ⟨h1, h2, h3⟩ => ⟨h1.1, h2, h1.2.2.1, h1.2.2.2.1, h1.2.2.2.2.1, h3.chn⟩
theorem encR_len (g : Nat) : ∀ (hs : List Hd) (i : Nat) (T : Tb × Tb) (vs : List Int), (encR g i T hs vs).length ≤ 2 * hs.length
  | [], _, _, _ => Nat.le_refl _
  | d :: hs, i, T, vs => by
    have ih := encR_len g hs (i + 1) (nextF d (nsQ d (vs.take d.1)) T) (vs.drop d.1)
    unfold encR
    rw [List.length_append, List.length_cons, List.length_cons]
    split
    · simp only [List.length_cons, List.length_nil]
      omega
    · simp only [List.length_nil]
      omega
theorem plH_rm {hs : List Hd} {e : Nat} {n : Nat} (h : Ch 0 hs e) (hn : n = totH hs) : Rm n 0 0 (plH hs) := plJ_rm _ 0 0 n h.chn (by rw [Nat.zero_add]; exact hn)
theorem lvS_bd {B : Int} : ∀ (xs : List Int), (∀ x ∈ xs, -B ≤ x ∧ x ≤ B) → (∀ x ∈ spS xs, -B ≤ x ∧ x ≤ B) ∧ ∀ x ∈ spD xs, -(2 * B) ≤ x ∧ x ≤ 2 * B
  | [], _ => ⟨fun x h => (List.not_mem_nil h).elim, fun x h => (List.not_mem_nil h).elim⟩
  | [y], h => ⟨h, fun x h => (List.not_mem_nil h).elim⟩
  | a :: b :: r, h => by
    obtain ⟨i1, i2⟩ := lvS_bd r fun x hx => h x (List.mem_cons_of_mem _ (List.mem_cons_of_mem _ hx))
    have ha := h a List.mem_cons_self
    have hb := h b (List.mem_cons_of_mem _ List.mem_cons_self)
    refine ⟨fun x hx => ?_, fun x hx => ?_⟩
    · rcases List.mem_cons.mp hx with rfl | hx
      · omega
      · exact i1 x hx
    · rcases List.mem_cons.mp hx with rfl | hx
      · omega
      · exact i2 x hx
theorem split_bd {B : Int} {xs : List Int} (h : ∀ x ∈ xs, -B ≤ x ∧ x ≤ B) : ∀ k, (∀ x ∈ lvS xs k, -B ≤ x ∧ x ≤ B) ∧ ∀ x ∈ lvR xs k, -(2 * B) ≤ x ∧ x ≤ 2 * B
  | 0 => ⟨h, fun x h => (List.not_mem_nil h).elim⟩
  | k + 1 => by
    obtain ⟨i1, i2⟩ := split_bd h k
    obtain ⟨j1, j2⟩ := lvS_bd _ i1
    refine ⟨j1, fun x hx => ?_⟩
    rcases List.mem_append.mp hx with hx | hx
    · exact j2 x hx
    · exact i2 x hx
theorem quant_bd {v s B : Int} (hs : 1 ≤ s) (h : -B ≤ v ∧ v ≤ B) (hB : 0 ≤ B) : -(B + 1) ≤ (2 * v + s) / (2 * s) ∧ (2 * v + s) / (2 * s) ≤ B + 1 := by
  constructor
  · refine (Int.le_ediv_iff_mul_le (by omega)).mpr ?_
    have : (B + 1) * 1 ≤ (B + 1) * s := Int.mul_le_mul_of_nonneg_left hs (by omega)
    have e : -(B + 1) * (2 * s) = -2 * ((B + 1) * s) := by rw [Int.neg_mul, Int.mul_left_comm, ← Int.neg_mul]
    have h2 : (B + 1) * s = B * s + s := by rw [Int.add_mul, Int.one_mul]
    have h3 : B * 1 ≤ B * s := Int.mul_le_mul_of_nonneg_left hs hB
    omega
  · refine Int.le_of_lt_add_one ((Int.ediv_lt_iff_lt_mul (by omega)).mpr ?_)
    have h2 : (B + 1 + 1) * (2 * s) = 2 * (B * s) + 4 * s := by
      rw [show B + 1 + 1 = B + 2 by omega, Int.add_mul, Int.mul_left_comm]
      omega
    have h3 : B * 1 ≤ B * s := Int.mul_le_mul_of_nonneg_left hs hB
    omega
theorem nsQ_bd {d : Hd} {vs : List Int} {B : Int} (hd : HdOk d) (hB : 0 ≤ B) (h : ∀ x ∈ vs, -B ≤ x ∧ x ≤ B) : ∀ z ∈ nsQ d vs, -(2 * B + 1) ≤ z ∧ z ≤ 2 * B + 1 := by
  intro z hz
  obtain ⟨v, hv, rfl⟩ := List.mem_map.mp hz
  obtain ⟨i1, i2⟩ := split_bd h d.2.2.2.1
  refine quant_bd (B := 2 * B) (by have := hd.2.2.2.2.2.2.1; omega) ?_ (by omega)
  rcases List.mem_append.mp hv with hv | hv
  · have := i1 v hv; omega
  · exact i2 v hv
theorem fold_bd {s a b B : Int} (h0 : 0 ≤ s) (h1 : s < 4) (hB : 0 ≤ B) (ha : -B ≤ a ∧ a ≤ B) (hb : -B ≤ b ∧ b ≤ B) : (-(10 * B + 10) ≤ (foldP s a b).1 ∧ (foldP s a b).1 ≤ 10 * B + 10) ∧ -(10 * B + 10) ≤ (foldP s a b).2 ∧ (foldP s a b).2 ≤ 10 * B + 10 := by
  unfold foldP
  dsimp only
  rcases four h0 h1 with rfl | rfl | rfl | rfl
  · rw [show cC 0 = -1 from rfl, show cD 0 = 2 from rfl]
    generalize e1 : (-1 * b + 2) / 4 = u
    generalize e2 : (2 * (a + u) + 2) / 4 = v
    generalize e3 : (-1 * (b + v) + 2) / 4 = w
    omega
  · rw [show cC 1 = -2 from rfl, show cD 1 = 3 from rfl]
    generalize e1 : (-2 * b + 2) / 4 = u
    generalize e2 : (3 * (a + u) + 2) / 4 = v
    generalize e3 : (-2 * (b + v) + 2) / 4 = w
    omega
  · rw [show cC 2 = 1 from rfl, show cD 2 = -2 from rfl]
    generalize e1 : (1 * b + 2) / 4 = u
    generalize e2 : (-2 * (a + u) + 2) / 4 = v
    generalize e3 : (1 * (b + v) + 2) / 4 = w
    omega
  · rw [show cC 3 = 2 from rfl, show cD 3 = -3 from rfl]
    generalize e1 : (2 * b + 2) / 4 = u
    generalize e2 : (-3 * (a + u) + 2) / 4 = v
    generalize e3 : (2 * (b + v) + 2) / 4 = w
    omega
theorem rm_shape {n : Nat} : ∀ (js : List Jo) (b wb : Nat), Rm n b wb js → ∀ t ∈ prs js, t.1 ≤ 3
  | [], _, _, _, t, h => absurd h List.not_mem_nil
  | j :: r, b, wb, ⟨a1, a2, a3, a4, a5, a6, a7, a8⟩, t, h => by
    have e : prs (j :: r) = prs1 j j.2.1 ++ prs r := by simp [prs]
    rw [e] at h
    rcases List.mem_append.mp h with h | h
    · obtain ⟨k, hk, rfl⟩ := mem_prs1.mp h
      exact a6
    · exact rm_shape r j.1 j.2.1 a8 t h
theorem turn_bd {n : Nat} {xs : List Int} {js : List Jo} {B : Int} (hn : xs.length = n) (h : Rm n 0 0 js) (hB : 0 ≤ B) (hx : ∀ x ∈ xs, -B ≤ x ∧ x ≤ B) : ∀ x ∈ turnL foldP xs js, -(10 * B + 10) ≤ x ∧ x ≤ 10 * B + 10 := by
  intro x hm
  obtain ⟨k, hk, rfl⟩ := List.mem_iff_getElem.mp hm
  have hkn : k < xs.length := by rw [turnL_length] at hk; exact hk
  have gx : ∀ i, i < xs.length → -B ≤ xs.getD i 0 ∧ xs.getD i 0 ≤ B := fun i hi => by
    rw [List.getD_eq_getElem?_getD, List.getElem?_eq_getElem hi]
    exact hx _ (List.getElem_mem hi)
  have ek := List.getElem?_eq_getElem hk
  cases e : prt js k with
  | none =>
    rw [turn_none h e, get_getD hkn] at ek
    have := gx k hkn
    rw [← Option.some.inj ek]
    omega
  | some m =>
    obtain ⟨t, ht, q⟩ := prt_some js k m e (rm_all js 0 0 h)
    have g1 := get_in (f := foldP) (prs js) xs hn (rm_ap js 0 0 h) t ht
    have b := (rm_ap js 0 0 h).1 t ht
    have hs := rm_shape js 0 0 h t ht
    have f := fold_bd (s := (t.1 : Nat)) (by omega) (by omega) hB (gx t.2.1 (by omega)) (gx t.2.2 (by omega))
    rcases q with ⟨q1, _⟩ | ⟨q1, _⟩
    · subst q1
      have g : (turnL foldP xs js)[t.2.1]? = some _ := g1.1
      rw [ek] at g
      rw [Option.some.inj g]
      exact f.1
    · subst q1
      have g : (turnL foldP xs js)[t.2.2]? = some _ := g1.2
      rw [ek] at g
      rw [Option.some.inj g]
      exact f.2
theorem wst_grow {ns : List Int} {first : Nat} {T : Tb × Tb} {m B : Int} (hB : 0 ≤ B) (hn : ∀ z ∈ ns, -B ≤ z ∧ z ≤ B) (h1 : TbOk m T.1) (h2 : TbOk m T.2) : ∀ i, i ≤ ns.length → TbOk (m + (i : Int) * (2 * B + 1)) (wst ns first T i).2.1 ∧ TbOk (m + (i : Int) * (2 * B + 1)) (wst ns first T i).2.2
  | 0, _ => ⟨h1.up (by omega), h2.up (by omega)⟩
  | i + 1, hi => by
    obtain ⟨a1, a2⟩ := wst_grow (first := first) hB hn h1 h2 i (by omega)
    have hu : (uOf (ns.getD i 0) : Int) ≤ 2 * B + 1 := by
      have hz := hn _ (List.getElem_mem (show i < ns.length by omega))
      rw [getD_some (List.getElem?_eq_getElem (show i < ns.length by omega))]
      unfold uOf codeU
      split <;> omega
    have em : ((i + 1 : Nat) : Int) * (2 * B + 1) = (i : Int) * (2 * B + 1) + (2 * B + 1) := by push_cast; rw [Int.add_mul, Int.one_mul]
    have step : ∀ t : Tb, TbOk (m + (i : Int) * (2 * B + 1)) t → TbOk (m + ((i + 1 : Nat) : Int) * (2 * B + 1)) (tbB t (uOf (ns.getD i 0))) := fun t ⟨b1, b2, b3, b4⟩ => by
      rw [em]
      generalize (i : Int) * (2 * B + 1) = w at b2 ⊢
      unfold tbB
      split
      · exact ⟨by dsimp only; omega, by dsimp only; omega, by dsimp only; omega, by dsimp only; omega⟩
      · exact ⟨by dsimp only; omega, by dsimp only; omega, by dsimp only; omega, by dsimp only; omega⟩
    by_cases c : i < first
    · rw [wst_lo c]
      exact ⟨step _ a1, a2.up (by rw [em]; omega)⟩
    · rw [wst_hi c]
      exact ⟨a1.up (by rw [em]; omega), step _ a2⟩
theorem encR_vd {g : Nat} {B : Int} (hB : 0 ≤ B) : ∀ (hs : List Hd) (i : Nat) (T : Tb × Tb) (vs : List Int) (l e : Nat) (m : Int), Ch l hs e → vs.length = totH hs → (∀ v ∈ vs, -B ≤ v ∧ v ≤ B) → 2 * B + 1 ≤ 10 ^ 45 → TbOk m T.1 → TbOk m T.2 → m + (totH hs : Int) * (4 * B + 3) ≤ 10 ^ 50 → ∃ T2, Vd T l (encR g i T hs vs) T2 e
  | [], _, T, _, l, e, m, h, _, _, _, _, _, _ => ⟨T, rfl, h⟩
  | d :: hs, i, T, vs, l, e, m, ⟨hd, hw, hc⟩, hl, hb, hB2, t1, t2, hm => by
    rw [totH_cons] at hl hm
    have lt : (vs.take d.1).length = d.1 := by rw [List.length_take]; omega
    have nb := nsQ_bd (vs := vs.take d.1) hd hB fun x hx => hb x (List.mem_of_mem_take hx)
    have nl : (nsQ d (vs.take d.1)).length = d.1 := by rw [nsQ_len, lt]
    have em : ((d.1 + totH hs : Nat) : Int) * (4 * B + 3) = (d.1 : Int) * (4 * B + 3) + (totH hs : Int) * (4 * B + 3) := by push_cast; rw [Int.add_mul]
    rw [em] at hm
    have p1 : 0 ≤ (d.1 : Int) * (4 * B + 3) := Int.mul_nonneg (by omega) (by omega)
    have p2 : 0 ≤ (totH hs : Int) * (4 * B + 3) := Int.mul_nonneg (by omega) (by omega)
    have gr := wst_grow (first := cc d.1 d.2.2.2.1) (B := 2 * B + 1) (by omega) nb t1 t2 (nsQ d (vs.take d.1)).length (Nat.le_refl _)
    rw [nl, show 2 * (2 * B + 1) + 1 = 4 * B + 3 by omega] at gr
    have nx : TbOk (m + (d.1 : Int) * (4 * B + 3)) (nextF d (nsQ d (vs.take d.1)) T).1 ∧ TbOk (m + (d.1 : Int) * (4 * B + 3)) (nextF d (nsQ d (vs.take d.1)) T).2 := by
      unfold nextF
      rw [nl]
      exact gr
    obtain ⟨T2, ih⟩ := encR_vd hB hs (i + 1) (nextF d (nsQ d (vs.take d.1)) T) (vs.drop d.1) d.2.1 e (m + (d.1 : Int) * (4 * B + 3)) hc (by rw [List.length_drop]; omega) (fun v hv => hb v (List.mem_of_mem_drop hv)) hB2 nx.1 nx.2 (by omega)
    have tk : TkOk T := ⟨t1.up (by omega), t2.up (by omega)⟩
    have core : Vd T l (.fr d (nsQ d (vs.take d.1)) T :: encR g (i + 1) (nextF d (nsQ d (vs.take d.1)) T) hs (vs.drop d.1)) T2 e := ⟨rfl, hd, hw, nl, fun z hz => by have := nb z hz; omega, tk, ih⟩
    refine ⟨T2, ?_⟩
    unfold encR
    split
    · exact ⟨tk, core⟩
    · exact core
theorem enc_vd {g : Nat} {hs : List Hd} {xs : List Int} (h : Ch 0 hs 0) (hl : xs.length = totH hs) (ht : totH hs ≤ 10000) (hx : ∀ x ∈ xs, -(10 ^ 30) ≤ x ∧ x ≤ 10 ^ 30) : ∃ T2, Vd T0 0 (encA g hs xs) T2 0 := by
  have hb := turn_bd (B := 10 ^ 30) hl (plH_rm (hs := hs) h rfl) (by decide) hx
  refine encR_vd (B := 10 * 10 ^ 30 + 10) (by decide) hs 0 T0 _ 0 0 2 h (by rw [turnL_length, hl]) hb (by decide) ⟨by decide, by decide, by decide, by decide⟩ ⟨by decide, by decide, by decide, by decide⟩ ?_
  have h1 : (totH hs : Int) * (4 * (10 * 10 ^ 30 + 10) + 3) ≤ 10000 * (4 * (10 * 10 ^ 30 + 10) + 3) := Int.mul_le_mul_of_nonneg_right (by omega) (by decide)
  have h2 : (2 : Int) + 10000 * (4 * (10 * 10 ^ 30 + 10) + 3) ≤ 10 ^ 50 := by decide
  omega
theorem hds_js {H : Hp} {vs : List V} {hs : List Hd} (h : HdsAt H vs hs) : ∃ js, All2 (fun v u => ∃ a j l x y, v = .ref a ∧ H a = some (.tup [l, .ref j, x, y]) ∧ u = V.ref j) vs js ∧ JfAt H js (hs.map hdW) := by
  induction h with
  | nil => exact ⟨[], .nil, .nil⟩
  | cons h _ ih =>
    obtain ⟨js, h1, h2⟩ := ih
    obtain ⟨a, j, e, k1, k2⟩ := h
    exact ⟨.ref j :: js, .cons ⟨a, j, _, _, _, e, k1, rfl⟩ h1, .cons ⟨j, rfl, k2⟩ h2⟩
theorem totH_snoc (hs : List Hd) (d : Hd) : totH (hs ++ [d]) = totH hs + d.1 := by
  unfold totH
  rw [List.map_append, List.map_singleton, totW_snoc]
  rfl
theorem totH_take {hs : List Hd} {i : Nat} {d : Hd} (h : hs[i]? = some d) : totH (hs.take (i + 1)) = totH (hs.take i) + d.1 := by
  rw [List.take_add_one, h]
  exact totH_snoc _ d
theorem totH_le (hs : List Hd) (i : Nat) : totH (hs.take i) ≤ totH hs := by
  have e : totH hs = totH (hs.take i) + totH (hs.drop i) := by
    unfold totH totW
    rw [← List.sum_append, ← List.map_append, ← List.map_append, List.take_append_drop]
  omega
/-- what the encoding keeps -/
structure EI (K : PySem.W.Frag) (R : Addr) (H0 H : Hp) (g : Nat) (hs : List Hd) (xs : List Int) (Te : Tb × Tb) (i : Nat) (ws : List V) (dn : List Rc) (t : Addr) (T : Tb × Tb) : Prop where
  eR : H R = some (.lst ws)
  rc : RcsAt K H ws dn
  tb : TbsV K H t T
  le : ws.length ≤ 2 * i
  sp : encA g hs xs = dn ++ encR g i T (hs.drop i) ((turnL foldP xs (plH hs)).drop (totH (hs.take i)))
  vd : ∃ l, Vd T l (encR g i T (hs.drop i) ((turnL foldP xs (plH hs)).drop (totH (hs.take i)))) Te 0
  sm : Same H0 H
theorem EI.same {K : PySem.W.Frag} {R : Addr} {H0 H H' : Hp} {g : Nat} {hs : List Hd} {xs : List Int} {Te : Tb × Tb} {i : Nat} {ws : List V} {dn : List Rc} {t : Addr} {T : Tb × Tb} (h : EI K R H0 H g hs xs Te i ws dn t T) (s : Same H H') : EI K R H0 H' g hs xs Te i ws dn t T :=
  { h with eR := s _ _ h.eR, rc := h.rc.lk (.of s), tb := h.tb.lk (.of s), sm := h.sm.trans s }
theorem stB_yes {g i : Nat} (h1 : 0 < g) (h2 : 0 < i) (h3 : (i : Int) % (g : Int) = 0) : stB g i = true := by
  have h4 : i % g = 0 := by exact_mod_cast h3
  unfold stB
  rw [decide_eq_true h1, decide_eq_true h2, decide_eq_true h4]
  rfl
theorem stB_no {g i : Nat} (h : ¬ (0 < g ∧ 0 < i ∧ (i : Int) % (g : Int) = 0)) : stB g i = false := by
  cases e : stB g i with
  | false => rfl
  | true =>
    unfold stB at e
    rw [Bool.and_eq_true, Bool.and_eq_true, decide_eq_true_eq, decide_eq_true_eq, decide_eq_true_eq] at e
    exact (h ⟨e.1, e.2.1, by exact_mod_cast e.2.2⟩).elim
def spCkPl (K : PySem.W.Frag) : Sp := fun vs H Q _ => ∃ (a : Addr) (refs : List V) (hs : List Hd) (n : Nat), vs = [.ref a, .int (n : Nat)] ∧ H a = some (.lst refs) ∧ HdsAt H refs hs ∧ Ch 0 hs 0 ∧ totH hs = n ∧ ∀ H', Same H H' → Q .non H'
theorem use_ckpl {K : PySem.W.Frag} {a : Addr} {refs : List V} {hs : List Hd} {n : Nat} {H : Hp} {Q : VK} {E : XK} (h : H a = some (.lst refs)) (h1 : HdsAt H refs hs) (h2 : Ch 0 hs 0) (h3 : totH hs = n) (q : ∀ H', Same H H' → Q .non H') : spCkPl K ([.ref a, .int (n : Nat)] ++ []) H Q E := ⟨a, refs, hs, n, rfl, h, h1, h2, h3, q⟩
def spCdF (K : PySem.W.Frag) : Sp := fun vs H Q _ => ∃ (a h j b : Addr) (xs : List Int) (d : Hd) (T : Tb × Tb), vs = [.ref a, .ref h, .ref b] ∧ H a = some (.lst (xs.map V.int)) ∧ HdAt H h j d ∧ HdOk d ∧ xs.length = d.1 ∧ (∀ z ∈ nsQ d xs, z.natAbs ≤ 10 ^ 45) ∧ TbsV K H b T ∧ TkOk T ∧
  ∀ p r q H', Same H H' → H p = none → H' p = some (.tup [.ref r, .ref q]) → FrAt H' r j d (nsQ d xs) T → TbsV K H' q (nextF d (nsQ d xs) T) → Q (.ref p) H'
theorem use_cdF {K : PySem.W.Frag} {a h j b : Addr} {xs : List Int} {d : Hd} {T : Tb × Tb} {H : Hp} {Q : VK} {E : XK} (e : H a = some (.lst (xs.map V.int))) (h1 : HdAt H h j d) (h2 : HdOk d) (h3 : xs.length = d.1) (h4 : ∀ z ∈ nsQ d xs, z.natAbs ≤ 10 ^ 45) (h5 : TbsV K H b T) (h6 : TkOk T)
  (q : ∀ p r q H', Same H H' → H p = none → H' p = some (.tup [.ref r, .ref q]) → FrAt H' r j d (nsQ d xs) T → TbsV K H' q (nextF d (nsQ d xs) T) → Q (.ref p) H') : spCdF K ([.ref a, .ref h, .ref b] ++ []) H Q E := ⟨a, h, j, b, xs, d, T, rfl, e, h1, h2, h3, h4, h5, h6, q⟩
def spCdR (K : PySem.W.Frag) : Sp := fun vs H Q _ => ∃ (a b : Addr) (xs : List Int) (refs : List V) (hs : List Hd) (g : Nat) (Te : Tb × Tb), vs = [.ref a, .ref b, .int (g : Nat)] ∧ H a = some (.lst (xs.map V.int)) ∧ H b = some (.lst refs) ∧ HdsAt H refs hs ∧ Ch 0 hs 0 ∧ xs.length = totH hs ∧ totH hs ≤ 10000 ∧ refs.length ≤ 200 ∧ Vd T0 0 (encA g hs xs) Te 0 ∧
  ∀ D ws H', H D = none → Same H H' → H' D = some (.lst ws) → RcsAt K H' ws (encA g hs xs) → Q (.ref D) H'
theorem use_cdR {K : PySem.W.Frag} {a b : Addr} {xs : List Int} {refs : List V} {hs : List Hd} {g : Nat} {Te : Tb × Tb} {H : Hp} {Q : VK} {E : XK} (e : H a = some (.lst (xs.map V.int))) (h : H b = some (.lst refs)) (h1 : HdsAt H refs hs) (h2 : Ch 0 hs 0) (h3 : xs.length = totH hs) (h4 : totH hs ≤ 10000) (h5 : refs.length ≤ 200) (h6 : Vd T0 0 (encA g hs xs) Te 0)
  (q : ∀ D ws H', H D = none → Same H H' → H' D = some (.lst ws) → RcsAt K H' ws (encA g hs xs) → Q (.ref D) H') : spCdR K ([.ref a, .ref b, .int (g : Nat)] ++ []) H Q E := ⟨a, b, xs, refs, hs, g, Te, rfl, e, h, h1, h2, h3, h4, h5, h6, q⟩
def spEnc (K : PySem.W.Frag) (C : Addr) : Sp := fun vs H Q _ => ∃ (a b : Addr) (xs : List Int) (refs : List V) (hs : List Hd) (g : Nat) (Te : Tb × Tb), vs = [.ref a, .ref b, .int (g : Nat)] ∧ H a = some (.lst (xs.map V.int)) ∧ H b = some (.lst refs) ∧ HdsAt H refs hs ∧ Ch 0 hs 0 ∧ xs.length = totH hs ∧ totH hs ≤ 10000 ∧ refs.length ≤ 200 ∧ g ≤ 1000 ∧ Vd T0 0 (encA g hs xs) Te 0 ∧
  ∀ x ws H', H x = none → Same H H' → StmAt K C H' x ws (encA g hs xs) → Q (.ref x) H'
theorem use_enc {K : PySem.W.Frag} {C a b : Addr} {xs : List Int} {refs : List V} {hs : List Hd} {g : Nat} {Te : Tb × Tb} {z : Int} {H : Hp} {Q : VK} {E : XK} (ez : z = (g : Int)) (e : H a = some (.lst (xs.map V.int))) (h : H b = some (.lst refs)) (h1 : HdsAt H refs hs) (h2 : Ch 0 hs 0) (h3 : xs.length = totH hs) (h4 : totH hs ≤ 10000) (h5 : refs.length ≤ 200) (h7 : g ≤ 1000) (h6 : Vd T0 0 (encA g hs xs) Te 0)
  (q : ∀ x ws H', H x = none → Same H H' → StmAt K C H' x ws (encA g hs xs) → Q (.ref x) H') : spEnc K C [.ref a, .ref b, .int z] H Q E := by
  subst ez
  exact ⟨a, b, xs, refs, hs, g, Te, rfl, e, h, h1, h2, h3, h4, h5, h7, h6, q⟩
/-- a def with keyword-only parameters that have defaults -/
structure Kn (K : PySem.W.Frag) (mg : Str → Option Value) (x : Str) (st : Stmt) (ps : List Str) (n : Nat) (ks : List Str) (ms : List V) (f : Addr) (fd : FuncData) : Prop where
  F : Fun K x x st f fd
  g : mg x = some (.ref f)
  b : ∃ ds, Vals ms ds ∧ Binds K fd ps ds
  kb : KBn K fd ps n ks (fun us ws => us ++ ws) (fun us ws => us ++ ws)
/-- streams that say the same -/
def SEq (K : PySem.W.Frag) (C : Addr) (a b : Addr) (H : Hp) : Prop := ∃ v w rs, StmAt K C H a v rs ∧ StmAt K C H b w rs
def tbD (T : Tb × Tb) : PyData := .tuple [.tuple [.int T.1.1, .int T.1.2], .tuple [.int T.2.1, .int T.2.2]]
def rcD : Rc → PyData
  | .st T => .tuple [.str (Str.ofString "state"), tbD T]
  | .fr d ns T => .tuple [.str (Str.ofString "frame"), .int (d.1 : Nat), .tuple [.int (d.2.1 : Nat), .int (d.2.2.1 : Nat)], .int (d.2.2.2.1 : Nat), .int (d.2.2.2.2 : Nat), .int (markF ns), .str (SX.S (bitsF d ns T))]
theorem dp_rcD {K : PySem.W.Frag} {H : Hp} {v : V} {r : Rc} (h : RcAt K H v r) : Dp K H v (rcD r) := by
  cases r with
  | st T =>
    obtain ⟨a, t, rfl, h, hT⟩ := h
    exact .tup (SqT.of h) (.cons (.str _) (.cons (dp_tbs hT) .nil))
  | fr d ns T =>
    obtain ⟨a, j, rfl, h, hj⟩ := h
    unfold FrAt at h
    exact .tup (SqT.of h) (.cons (.str _) (.cons (.int _) (.cons (.tup (SqT.of hj) (.cons (.int _) (.cons (.int _) .nil))) (.cons (.int _) (.cons (.int _) (.cons (.int _) (.cons (.str _) .nil)))))))
theorem rcD_ok {r : Rc} (ok : RcOk r) : PyData.canLay0 (rcD r) = true ∧ PyData.depth (rcD r) ≤ 3 := by
  cases r with
  | st T =>
    refine ⟨?_, Nat.le_of_ble_eq_true rfl⟩
    show (PyData.strOk (Str.ofString "state") && _) = true
    rw [show PyData.strOk (Str.ofString "state") = true by decide +kernel]
    rfl
  | fr d ns T =>
    obtain ⟨bl, bb⟩ := bitsF_len ok
    refine ⟨?_, Nat.le_of_ble_eq_true rfl⟩
    show (PyData.strOk (Str.ofString "frame") && (true && (true && (true && (true && (true && (PyData.strOk (SX.S (bitsF d ns T)) && true))))))) = true
    rw [show PyData.strOk (Str.ofString "frame") = true by decide +kernel, strOk_S bb]
    rfl
theorem dp_rcs {K : PySem.W.Frag} {H : Hp} {vs : List V} {rs : List Rc} (h : RcsAt K H vs rs) : DpAll K H vs (rs.map rcD) := by
  induction h with
  | nil => exact .nil
  | cons h _ ih => exact .cons (dp_rcD h) ih
theorem rcs_shaped : ∀ {rs : List Rc}, (∀ r ∈ rs, RcOk r) → PyData.canLayAll0 (rs.map rcD) = true ∧ PyData.depthAll (rs.map rcD) ≤ 3
  | [], _ => ⟨rfl, Nat.zero_le _⟩
  | r :: rs, h => by
    obtain ⟨a, b⟩ := rcD_ok (h r List.mem_cons_self)
    obtain ⟨c, d⟩ := rcs_shaped (rs := rs) fun r' hr => h r' (List.mem_cons_of_mem _ hr)
    refine ⟨?_, ?_⟩
    · show (PyData.canLay0 (rcD r) && PyData.canLayAll0 (rs.map rcD)) = true
      rw [a, c]
      rfl
    · show max (PyData.depth (rcD r)) (PyData.depthAll (rs.map rcD)) ≤ 3
      exact Nat.max_le.mpr ⟨b, d⟩
theorem rd_eqRcs {K : PySem.W.Frag} {H : Hp} {Q : VK} {p q : Addr} {vs ws : List V} {rs : List Rc} (hp : SqL K H p vs) (hq : SqL K H q ws) (h1 : RcsAt K H vs rs) (h2 : RcsAt K H ws rs) (ok : ∀ r ∈ rs, RcOk r) (h : Q (.bl true) H) : rEqD K (.ref p) (.ref q) H Q := by
  obtain ⟨a, b⟩ := rcs_shaped ok
  have sh : SeqAt.shaped (.list (rs.map rcD)) = true := by
    show (PyData.canLayAll0 (rs.map rcD) && decide (PyData.depthAll (rs.map rcD) + 1 ≤ 64)) = true
    rw [a, decide_eq_true (by omega)]
    rfl
  exact ⟨.list (rs.map rcD), .list (rs.map rcD), .lst hp (dp_rcs h1), .lst hq (dp_rcs h2), sh, sh, by rw [SeqAt.eqv_refl _ (SeqAt.canLay_of_shaped sh)]; exact h⟩
def spTakeV : Sp := fun vs H Q _ => ∃ (p : Addr) (m : Int), vs = [.ref p, .int m] ∧ Pool H p ∧ 0 < m ∧ m < 10 ^ 40 ∧ ∀ r H', 0 ≤ r → r < m → Pool H' p → Kp p H H' → Q (.int r) H'
theorem use_takeV {p : Addr} {m : Int} {H : Hp} {Q : VK} {E : XK} (h1 : Pool H p) (h2 : 0 < m) (h3 : m < 10 ^ 40) (q : ∀ r H', 0 ≤ r → r < m → Pool H' p → Kp p H H' → Q (.int r) H') : spTakeV ([.ref p, .int m] ++ []) H Q E := ⟨p, m, rfl, h1, h2, h3, q⟩
def spSoundL : Sp := fun vs H Q _ => ∃ (p : Addr) (m : Nat) (z : Int), vs = [.ref p, .int (m : Nat), .int z] ∧ Pool H p ∧ 0 ≤ (m : Int) ∧ m ≤ 500 ∧ 0 ≤ z ∧ z ≤ 10 ^ 30 ∧ ∀ D (xs : List Int) H', H D = none → H' D = some (.lst (xs.map V.int)) → xs.length ≤ m → (∀ x ∈ xs, -z ≤ x ∧ x ≤ z) → Pool H' p → Kp p H H' → Q (.ref D) H'
theorem use_soundL {p : Addr} {m : Nat} {z : Int} {H : Hp} {Q : VK} {E : XK} (h : Pool H p) (h1 : m ≤ 500) (h2 : 0 ≤ z) (h3 : z ≤ 10 ^ 30) (q : ∀ D (xs : List Int) H', H D = none → H' D = some (.lst (xs.map V.int)) → xs.length ≤ m → (∀ x ∈ xs, -z ≤ x ∧ x ≤ z) → Pool H' p → Kp p H H' → Q (.ref D) H') : spSoundL ([.ref p, .int (m : Nat), .int z] ++ []) H Q E := ⟨p, m, z, rfl, h, by omega, h1, h2, h3, q⟩
def spPlanL : Sp := fun vs H Q _ => ∃ (p : Addr) (n m s : Nat), vs = [.ref p, .int (n : Nat), .int (m : Nat), .int (s : Nat)] ∧ Pool H p ∧ n ≤ 200 ∧ 1 ≤ m ∧ m ≤ 55 ∧ 1 ≤ s ∧ s ≤ 64 ∧ ∀ D refs hs H', H D = none → H' D = some (.lst refs) → HdsAt H' refs hs → Ch 0 hs 0 → totH hs = n → refs.length ≤ 200 → Pool H' p → Kp p H H' → Q (.ref D) H'
theorem use_planL {p : Addr} {n m s : Nat} {H : Hp} {Q : VK} {E : XK} (h : Pool H p) (h1 : n ≤ 200) (h2 : 1 ≤ m) (h3 : m ≤ 55) (h4 : 1 ≤ s) (h5 : s ≤ 64) (q : ∀ D refs hs H', H D = none → H' D = some (.lst refs) → HdsAt H' refs hs → Ch 0 hs 0 → totH hs = n → refs.length ≤ 200 → Pool H' p → Kp p H H' → Q (.ref D) H') : spPlanL ([.ref p, .int (n : Nat), .int (m : Nat), .int (s : Nat)] ++ []) H Q E := ⟨p, n, m, s, rfl, h, h1, h2, h3, h4, h5, q⟩
theorem lc_draw {σ : L2.St} {Q : VK} {vs : List Nat} {k : Nat} {p D : Addr} {n : Nat} {lo : Int} {H1 : Hp} {te : TE} (Pm : Int → Prop) (hw : ∀ v, wipe ((wipe σ vs).set k (some v)) vs = wipe σ vs) (hP : Pool H1 p) (hD : H1 D = none) (hn : n ≤ 1000)
    (turn : ∀ (i : Nat) (H : Hp) (Q' : VK), Pool H p → (∀ z H', Pm z → Pool H' p → Kp p H H' → Q' (.int z) H') → te ((wipe σ vs).set k (some (.int (lo + (i : Nat))))) H Q')
    (q : ∀ (ns : List Int) H', ns.length = n → (∀ z ∈ ns, Pm z) → Pool H' p → Kp p H1 H' → H' D = some (.lst (ns.map V.int)) → Q (.ref D) H') : LcW (Itr lo n) (gName k) tYes te vs Q σ H1 D := by
  have hDp : D ≠ p := hP.ne hD
  refine lc_range (Pv := fun j H => ∃ ns : List Int, ns.length = j ∧ (∀ z ∈ ns, Pm z) ∧ Pool H p ∧ Kp p H1 H ∧ H D = some (.lst (ns.map V.int))) ⟨[], rfl, fun z h => (List.not_mem_nil h).elim, hP.new hD, Kp.new hD, upd_same⟩ (fun j H hj hI => ?_) (fun H hI => ?_)
  · obtain ⟨ns, hl, hb, hP', hK, hd⟩ := hI
    refine ⟨hw _, rd_yes ?_⟩
    refine turn j H _ hP' fun z H' hz hP2 hK2 => ?_
    refine ⟨_, hK2 _ _ hDp hd, by rw [List.length_map]; exact small1000 (by omega), ns ++ [z], by rw [List.length_append, hl]; rfl, fun w hw2 => ?_, pool_upd hDp hP2, kp_app hD hK hK2, ?_⟩
    · rcases List.mem_append.mp hw2 with hw2 | hw2
      · exact hb w hw2
      · rw [List.mem_singleton.mp hw2]
        exact hz
    · rw [upd_same, List.map_append]
      rfl
  · obtain ⟨ns, hl, hb, hP', hK, hd⟩ := hI
    exact q ns H hl hb hP' hK hd
end Z
namespace Z
open PySem PySem.Spec PyProof.Rows L2
theorem Ch.all : ∀ {hs : List Hd} {l e : Nat}, Ch l hs e → ∀ d ∈ hs, HdOk d
  | [], _, _, _, d, hd => absurd hd List.not_mem_nil
  | c :: r, l, e, ⟨h1, h2, h3⟩, d, hd => by
    rcases List.mem_cons.mp hd with rfl | hd
    · exact h1
    · exact h3.all d hd
theorem eqS {K : PySem.W.Frag} {C a b : Addr} {H : Hp} {Q : VK} {v w : List V} {rs : List Rc} (hA : StmAt K C H a v rs) (hB : StmAt K C H b w rs) (q : ∀ H', Same H H' → Q (.bl true) H') : rEqG (DIns C (SEq K C)) (.ref a) (.ref b) H Q := by
  obtain ⟨dx, L, F, fms, Te, e, _⟩ := id hA
  obtain ⟨dy, L', F', fms', Te', e', _⟩ := id hB
  exact ⟨⟨a, b, dx, dy, _, _, rfl, rfl, e, e', v, w, rs, hA, hB⟩, fun H' hE => q H' hE⟩
end Z
namespace Z
open PySem PySem.Spec PyProof.Rows L2
open SX (S S_len S_cat S_inj)
def ef (n : Nat) : Nat → Nat
  | 0 => 0
  | k + 1 => if cc n k > 1 then k + 1 else ef n k
def ljE : (Nat × Nat) → List Rc → Nat × Nat
  | lj, [] => lj
  | lj, .st _ :: r => ljE lj r
  | _, .fr d _ _ :: r => ljE (d.2.1, d.2.2.1) r
/-- what the law tells of a frame: its block, numbers, values, the tables before and behind it -/
def TlAt (K : PySem.W.Frag) (l : List Addr) (H : Hp) (v : V) (f : Fm) : Prop := ∃ a b m q t t2 jl j, v = .ref a ∧ a ∉ l ∧ m ∉ l ∧ q ∉ l ∧ H a = some (.lst [.ref b, .ref m, .ref q, .ref t, .ref t2]) ∧
  H b = some (.tup [.int (f.1 : Nat), .int (f.2.1 : Nat), .int (f.2.2.1.1 : Nat), .ref jl, .ref j]) ∧ JtAt H jl f.2.2.2.1 ∧ JtAt H j (f.2.2.1.2.1, f.2.2.1.2.2.1) ∧ H m = some (.lst (f.2.2.2.2.1.map V.int)) ∧ H q = some (.lst ((bkF f).map V.int)) ∧
  TbsV K H t f.2.2.2.2.2 ∧ TbsV K H t2 (nextF f.2.2.1 f.2.2.2.2.1 f.2.2.2.2.2)
theorem TlAt.kp {K : PySem.W.Frag} {l : List Addr} {H H' : Hp} {v : V} {f : Fm} (k : KpL l H H') (lk : LK H H') (h : TlAt K l H v f) : TlAt K l H' v f := by
  obtain ⟨a, b, m, q, t, t2, jl, j, e, n1, n2, n3, h1, h2, h3, h4, h5, h6, h7, h8⟩ := h
  exact ⟨a, b, m, q, t, t2, jl, j, e, n1, n2, n3, k _ _ n1 h1, lk _ _ h2 (fun _ z => nomatch z), lk _ _ h3 (fun _ z => nomatch z), lk _ _ h4 (fun _ z => nomatch z), k _ _ n2 h5, k _ _ n3 h6, h7.lk lk, h8.lk lk⟩
end Z
namespace Z
open PySem PySem.Spec PyProof.Rows L2
structure BI (K : PySem.W.Frag) (p R W S : Addr) (H0 H : Hp) (hrefs : List V) (hs : List Hd) (i m : Nat) (refs tls : List V) (rs : List Rc) (t : Addr) (T : Tb × Tb) (jl : Addr) : Prop where
  eR : H R = some (.lst refs)
  eW : H W = some (.lst tls)
  eS : H S = some (.lst hrefs)
  rc : RcsAt K H refs rs
  vd : Vd T0 0 rs T (ljE (0, 0) rs).1
  tl : All2 (TlAt K [p, R, W] H) tls (frR 0 0 (0, 0) rs)
  tb : TbsV K H t T
  t1 : TbOk (2 * 10 ^ 14 * (i : Int) + 100) T.1
  t2 : TbOk (2 * 10 ^ 14 * (i : Int) + 100) T.2
  jt : JtAt H jl (ljE (0, 0) rs)
  le : refs.length ≤ m
  fw : fwR rs = (hs.take i).map hdW
  po : Pool H p
  hh : HdsAt H hrefs hs
  kp : Kp p H0 H
  nRp : R ≠ p
  nWp : W ≠ p
  nSp : S ≠ p
  nRW : R ≠ W
  nSR : S ≠ R
  nSW : S ≠ W
  nR0 : H0 R = none
  nW0 : H0 W = none
  ch : Ch (ljE (0, 0) rs).1 (hs.drop i) 0
section
variable {K : PySem.W.Frag} {p R W S t jl : Addr} {H0 H H' : Hp} {hrefs refs tls : List V} {hs : List Hd} {i m : Nat} {rs : List Rc} {T : Tb × Tb}
theorem BI.move (h : BI K p R W S H0 H hrefs hs i m refs tls rs t T jl) (k : Kp p H H') (hP : Pool H' p) : BI K p R W S H0 H' hrefs hs i m refs tls rs t T jl :=
  have lk := LK.pool h.po k
  { h with eR := k _ _ h.nRp h.eR, eW := k _ _ h.nWp h.eW, eS := k _ _ h.nSp h.eS, rc := h.rc.lk lk, tl := h.tl.imp fun _ _ z => z.kp (KpL.ofK List.mem_cons_self k) lk
           tb := h.tb.lk lk, jt := lk _ _ h.jt (fun _ z => nomatch z), po := hP, hh := h.hh.lk lk, kp := h.kp.trans k }
theorem BI.same (h : BI K p R W S H0 H hrefs hs i m refs tls rs t T jl) (s : Same H H') : BI K p R W S H0 H' hrefs hs i m refs tls rs t T jl := h.move (fun a x _ e => s a x e) (h.po.same s)
end
end Z
namespace Z
open PySem PySem.Spec PyProof.Rows L2
open SX (S S_len S_cat S_inj)
theorem rd_neDp {K : PySem.W.Frag} {H : Hp} {Q : VK} {p q : Addr} {vs ws : List V} {ds : List PyData} (hp : SqL K H p vs) (hq : SqL K H q ws) (h1 : DpAll K H vs ds) (h2 : DpAll K H ws ds) (c : PyData.canLayAll0 ds = true) (d : PyData.depthAll ds ≤ 60) (h : Q (.bl false) H) : rNeD K (.ref p) (.ref q) H Q := by
  have sh : SeqAt.shaped (.list ds) = true := by
    show (PyData.canLayAll0 ds && decide (PyData.depthAll ds + 1 ≤ 64)) = true
    rw [c, decide_eq_true (by omega)]
    rfl
  exact ⟨.list ds, .list ds, .lst hp h1, .lst hq h2, sh, sh, by rw [SeqAt.eqv_refl _ (SeqAt.canLay_of_shaped sh)]; exact h⟩
theorem BlAt.same {K : PySem.W.Frag} {H H' : Hp} {b : Addr} {f : Fm} (s : Same H H') (h : BlAt K H b f) : BlAt K H' b f := by
  obtain ⟨jl, j, h1, h2, h3⟩ := h
  exact ⟨jl, j, s _ _ h1, h2.lk (.of s), s _ _ h3⟩
theorem TlAt.same {K : PySem.W.Frag} {l : List Addr} {H H' : Hp} {v : V} {f : Fm} (s : Same H H') (h : TlAt K l H v f) : TlAt K l H' v f := h.kp (KpL.ofS s) (LK.of s)
end Z
namespace Z
open PySem PySem.Spec PyProof.Rows L2
theorem passes_callL {X : Cx} {W : WX} {E : XK} (tk : Takes X W) (hW : ∀ cls d σ H, σ.length = X.N.length → E cls d H → W cls d σ H) : ∀ (pins : List (Addr × Obj)) (σ : L2.St) (H : Hp) (s : Shared) (e : Value) (s' : Shared), Inv X pins σ H s → L2.CX X.prog X.w X.stack H s E e s' → X.xe e s' :=
  fun _ σ _ _ e s' I c => tk e s' (XE.of_call I (fun cls d H' h => hW cls d σ H' I.len h) c)
def repV : V → Str
  | .non => "None"
  | .bl b => if b then "True" else "False"
  | .int i => toString i
  | .str x => reprText x
  | _ => ""
def okR : V → Prop
  | .non => True
  | .bl _ => True
  | .int i => i.natAbs.log2 < 1920
  | .str x => (reprText x).length ≤ sizeLine
  | _ => False
def rReprS : List V → Hp → VK → Prop := fun xs H Q => ∃ v, xs = [v] ∧ okR v ∧ Q (.str (repV v)) H
theorem call_reprS {X : Cx} : CallR X (.builtin "repr") rReprS := by
  intro pins s σ H xs us Q I r h
  obtain ⟨v, rfl, ok, q⟩ := h
  obtain ⟨u, rfl, ru⟩ := vals1 r
  cases v with
  | non =>
    cases ru
    exact PySem.P.repr_of_none ⟨.str _, H, I.tok _, ⟨_, rfl⟩, q⟩
  | bl b =>
    cases ru
    refine PySem.P.repr_of_bool ⟨.str _, H, I.tok _, ⟨_, by cases b <;> rfl⟩, q⟩
  | int i =>
    obtain ⟨t, rfl⟩ := ru
    exact PySem.P.repr_of_int ok ⟨.str _, H, I.tok _, ⟨_, rfl⟩, q⟩
  | str x =>
    obtain ⟨t, rfl⟩ := ru
    exact PySem.P.repr_of_str ⟨.str _, H, I.tok _, ⟨_, rfl⟩, q⟩ ok
  | ref a => exact ok.elim
  | byt b => exact ok.elim
  | flt x => exact ok.elim
  | ty x => exact ok.elim
theorem rd_reprS {v : V} {H : Hp} {Q : VK} (ok : okR v) (q : Q (.str (repV v)) H) : rReprS ([v] ++ []) H Q := ⟨v, rfl, ok, q⟩
theorem len6 {α : Type} {l : List α} (h : l.length = 6) : ∃ a b c d e f, l = [a, b, c, d, e, f] := match l, h with | [a, b, c, d, e, f], _ => ⟨a, b, c, d, e, f, rfl⟩
abbrev EvR := Nat × Nat × Nat
def szE (L b i : Nat) : Nat := min b (L - i * b)
def nE (L b : Nat) : Nat := (L + b - 1) / b
def evJ (w s l here behind : Nat) : Nat × Nat := if w ≤ behind ∧ l + w ≤ here then (w, s) else (0, 0)
def evP (L b w s : Nat) : Nat → List EvR × Nat
  | 0 => ([], 0)
  | i + 1 => ((evP L b w s i).1 ++ [(szE L b i, evJ w s (evP L b w s i).2 (szE L b i) (szE L b (i + 1)))], (evJ w s (evP L b w s i).2 (szE L b i) (szE L b (i + 1))).1)
theorem evP_len (L b w s : Nat) : ∀ i, (evP L b w s i).1.length = i
  | 0 => rfl
  | i + 1 => by
    show ((evP L b w s i).1 ++ [_]).length = _
    rw [List.length_append, evP_len L b w s i]
    rfl
theorem szE_next (L b i : Nat) : min b (L - i * b - szE L b i) = szE L b (i + 1) := by
  unfold szE
  rw [Nat.add_mul, Nat.one_mul]
  omega
def PlAt (K : PySem.W.Frag) (H : Hp) (lv st : Nat) (v : V) (r : EvR) : Prop := ∃ h j, v = .ref h ∧ H h = some (.tup [.int (r.1 : Nat), .ref j, .int (lv : Nat), .int (st : Nat)]) ∧ JtV K H j r.2
theorem PlAt.lk {K : PySem.W.Frag} {H H' : Hp} {lv st : Nat} {v : V} {r : EvR} (s : LK H H') (h : PlAt K H lv st v r) : PlAt K H' lv st v r := by
  obtain ⟨a, j, e, h1, h2⟩ := h
  exact ⟨a, j, e, s _ _ h1 (fun _ z => nomatch z), h2.lk s⟩
def evD (lv st : Nat) (r : EvR) : PyData := .tuple [.int (r.1 : Nat), .tuple [.int (r.2.1 : Nat), .int (r.2.2 : Nat)], .int (lv : Nat), .int (st : Nat)]
theorem dp_pl {K : PySem.W.Frag} {H : Hp} {lv st : Nat} {vs : List V} {rs : List EvR} (h : All2 (PlAt K H lv st) vs rs) : DpAll K H vs (rs.map (evD lv st)) := by
  induction h with
  | nil => exact .nil
  | cons h _ ih =>
    obtain ⟨a, j, rfl, h1, h2⟩ := h
    exact .cons (.tup (SqT.of h1) (.cons (.int _) (.cons (.tup h2.1 (.cons (.int _) (.cons (.int _) .nil))) (.cons (.int _) (.cons (.int _) .nil))))) ih
theorem pl_lay {lv st : Nat} : ∀ rs : List EvR, PyData.canLayAll0 (rs.map (evD lv st)) = true ∧ PyData.depthAll (rs.map (evD lv st)) ≤ 60
  | [] => ⟨rfl, Nat.zero_le _⟩
  | r :: t => by
    obtain ⟨a, b⟩ := pl_lay t
    refine ⟨?_, ?_⟩
    · show (PyData.canLay0 (evD lv st r) && PyData.canLayAll0 (t.map (evD lv st))) = true
      rw [a]
      rfl
    · show max (PyData.depth (evD lv st r)) (PyData.depthAll (t.map (evD lv st))) ≤ 60
      exact Nat.max_le.mpr ⟨by show 2 ≤ 60; decide, b⟩
/-- which argument is refused: whether it is the joint, and its value -/
def evO (v0 v1 v2 v3 v4 : V) (b : Bool) : Option (Bool × V) := if inI v0 0 20000 = false then some (false, v0) else if inI v1 1 64 = false then some (false, v1) else if b = false then some (true, v2) else if inI v3 0 5 = false then some (false, v3) else if inI v4 1 64 = false then some (false, v4) else none
/-- what a good call makes -/
def EvQ (K : PySem.W.Frag) (v0 v1 v2 v3 v4 : V) (H : Hp) (Q : VK) : Prop := ∀ (L bk w s lv st : Nat) (j : Addr), v0 = .int (L : Nat) → v1 = .int (bk : Nat) → v2 = .ref j → H j = some (.tup [.int (w : Nat), .int (s : Nat)]) → v3 = .int (lv : Nat) → v4 = .int (st : Nat) → L ≤ 20000 → 1 ≤ bk → bk ≤ 64 → w ≤ 8 → s ≤ 3 → lv ≤ 5 → 1 ≤ st → st ≤ 64 →
  ∀ D refs H', H D = none → Same H H' → H' D = some (.lst refs) → All2 (PlAt K H' lv st) refs (evP L bk w s (nE L bk)).1 → Q (.ref D) H'
def spEvX (K : PySem.W.Frag) (CN CJ : Addr) : Sp := fun vs H Q E => ∃ (v0 v1 v2 v3 v4 : V) (b : Bool), vs = [v0, v1, v2, v3, v4] ∧ TyV H v0 ∧ TyV H v1 ∧ JR H v2 b ∧ TyV H v3 ∧ TyV H v4 ∧ (∀ v, evO v0 v1 v2 v3 v4 b = some (false, v) → Err CN "value" v H E) ∧ (∀ v, evO v0 v1 v2 v3 v4 b = some (true, v) → Err CJ "value" v H E) ∧ (evO v0 v1 v2 v3 v4 b = none → EvQ K v0 v1 v2 v3 v4 H Q)
theorem use_evx {K : PySem.W.Frag} {CN CJ : Addr} {v0 v1 v2 v3 v4 : V} {b : Bool} {H : Hp} {Q : VK} {E : XK} (t0 : TyV H v0) (t1 : TyV H v1) (t2 : JR H v2 b) (t3 : TyV H v3) (t4 : TyV H v4) (e1 : ∀ v, evO v0 v1 v2 v3 v4 b = some (false, v) → Err CN "value" v H E) (e2 : ∀ v, evO v0 v1 v2 v3 v4 b = some (true, v) → Err CJ "value" v H E) (q : evO v0 v1 v2 v3 v4 b = none → EvQ K v0 v1 v2 v3 v4 H Q) : spEvX K CN CJ [v0, v1, v2, v3, v4] H Q E := ⟨v0, v1, v2, v3, v4, b, rfl, t0, t1, t2, t3, t4, e1, e2, q⟩
theorem evO_1 {v0 v1 v2 v3 v4 : V} {b : Bool} (h : inI v0 0 20000 = false) : evO v0 v1 v2 v3 v4 b = some (false, v0) := if_pos h
theorem evO_2 {v0 v1 v2 v3 v4 : V} {b : Bool} (h0 : inI v0 0 20000 = true) (h : inI v1 1 64 = false) : evO v0 v1 v2 v3 v4 b = some (false, v1) := by unfold evO; rw [h0, if_neg (by decide), if_pos h]
theorem evO_3 {v0 v1 v2 v3 v4 : V} {b : Bool} (h0 : inI v0 0 20000 = true) (h1 : inI v1 1 64 = true) (h : b = false) : evO v0 v1 v2 v3 v4 b = some (true, v2) := by unfold evO; rw [h0, h1, if_neg (by decide), if_neg (by decide), if_pos h]
theorem evO_4 {v0 v1 v2 v3 v4 : V} {b : Bool} (h0 : inI v0 0 20000 = true) (h1 : inI v1 1 64 = true) (h2 : b = true) (h : inI v3 0 5 = false) : evO v0 v1 v2 v3 v4 b = some (false, v3) := by unfold evO; rw [h0, h1, h2, if_neg (by decide), if_neg (by decide), if_neg (by decide), if_pos h]
theorem evO_5 {v0 v1 v2 v3 v4 : V} {b : Bool} (h0 : inI v0 0 20000 = true) (h1 : inI v1 1 64 = true) (h2 : b = true) (h3 : inI v3 0 5 = true) (h : inI v4 1 64 = false) : evO v0 v1 v2 v3 v4 b = some (false, v4) := by unfold evO; rw [h0, h1, h2, h3, if_neg (by decide), if_neg (by decide), if_neg (by decide), if_neg (by decide), if_pos h]
theorem evO_no {v0 v1 v2 v3 v4 : V} {b : Bool} (h0 : inI v0 0 20000 = true) (h1 : inI v1 1 64 = true) (h2 : b = true) (h3 : inI v3 0 5 = true) (h4 : inI v4 1 64 = true) : evO v0 v1 v2 v3 v4 b = none := by unfold evO; rw [h0, h1, h2, h3, h4]; rfl
theorem rgE {L b : Nat} (hL : L ≤ 20000) (h1 : 1 ≤ b) (h2 : b ≤ 64) : RgC 0 (L : Int) (b : Int) (nE L b) := by
  have hs : Builtin.Range.rangeSize 0 (L : Int) (b : Int) = ((nE L b : Nat) : Int) := by
    rw [rangeSize_pos (by omega) (by omega)]
    unfold nE
    rw [show (L : Int) + (b : Int) - 1 = ((L + b - 1 : Nat) : Int) by omega]
    rfl
  have hb : nE L b * b ≤ L + b - 1 := Nat.div_mul_le_self _ _
  have hn : nE L b ≤ L + b - 1 := Nat.div_le_self _ _
  refine ⟨by omega, by omega, ?_, hs⟩
  unfold Builtin.Range.small
  rw [hs]
  have hbi : ((nE L b : Nat) : Int) * (b : Int) ≤ L + b - 1 := by
    have : ((nE L b * b : Nat) : Int) ≤ ((L + b - 1 : Nat) : Int) := by omega
    rw [Int.natCast_mul] at this
    omega
  have hb0 : (0 : Int) ≤ ((nE L b : Nat) : Int) * (b : Int) := Int.mul_nonneg (by omega) (by omega)
  generalize ((nE L b : Nat) : Int) * (b : Int) = z at *
  simp only [Builtin.Range.rangeFitsLong, Bool.and_eq_true, Bool.or_eq_true, decide_eq_true_eq, beq_iff_eq, show ((b : Int) > 0) by omega, if_true]
  omega
theorem jt_pair {u v : V} (h : jt u v = true) : ∃ w s : Nat, u = .int (w : Nat) ∧ v = .int (s : Nat) ∧ w ≤ 8 ∧ s ≤ 3 ∧ (w = 0 → s = 0) := by
  unfold jt at h
  rw [Bool.and_eq_true, Bool.and_eq_true] at h
  obtain ⟨h1, h2, h3⟩ := h
  obtain ⟨w, rfl, w0, w1⟩ := inI_yes h1
  obtain ⟨s, rfl, s0, s1⟩ := inI_yes h2
  have h3 : (decide (0 < w) || decide (s = 0)) = true := h3
  rw [Bool.or_eq_true, decide_eq_true_eq, decide_eq_true_eq] at h3
  exact ⟨w.toNat, s.toNat, by rw [Int.toNat_of_nonneg w0], by rw [Int.toNat_of_nonneg s0], by omega, by omega, by omega⟩
theorem jr_true {H : Hp} {v : V} (h : JR H v true) : ∃ (j : Addr) (w s : Nat), v = .ref j ∧ H j = some (.tup [.int (w : Nat), .int (s : Nat)]) ∧ w ≤ 8 ∧ s ≤ 3 ∧ (w = 0 → s = 0) := by
  have key : ∀ b, JR H v b → b = true → ∃ (j : Addr) (w s : Nat), v = .ref j ∧ H j = some (.tup [.int (w : Nat), .int (s : Nat)]) ∧ w ≤ 8 ∧ s ≤ 3 ∧ (w = 0 → s = 0) := by
    intro b h e
    cases h with
    | flat _ => cases e
    | lst _ => cases e
    | tupn _ _ => cases e
    | tup2 h _ _ =>
      obtain ⟨w, s, rfl, rfl, a, b, c⟩ := jt_pair e
      exact ⟨_, w, s, rfl, h, a, b, c⟩
  exact key _ h rfl
theorem nE_le {L b : Nat} (hL : L ≤ 20000) (h1 : 1 ≤ b) : nE L b ≤ 20000 := by
  unfold nE
  by_cases c : L = 0
  · subst c
    rw [Nat.div_eq_of_lt (by omega)]
    omega
  · have key : L + b - 1 ≤ b * L := by
      obtain ⟨c, rfl⟩ : ∃ c, b = c + 1 := ⟨b - 1, by omega⟩
      rw [Nat.add_mul, Nat.one_mul]
      have : c * 1 ≤ c * L := Nat.mul_le_mul_left _ (by omega)
      omega
    exact Nat.le_trans (Nat.div_le_of_le_mul key) hL
/-- the joint at the right end of the first i blocks -/
def evE (L b w s : Nat) : Nat → Nat × Nat
  | 0 => (0, 0)
  | i + 1 => evJ w s (evP L b w s i).2 (szE L b i) (szE L b (i + 1))
theorem evE_w (L b w s : Nat) : ∀ i, (evE L b w s i).1 = (evP L b w s i).2
  | 0 => rfl
  | _ + 1 => rfl
theorem evP_1 (L b w s i : Nat) : (evP L b w s (i + 1)).1 = (evP L b w s i).1 ++ [(szE L b i, evE L b w s (i + 1))] := rfl
theorem ev_in {L b i : Nat} (h : i < nE L b) (hb : 1 ≤ b) : i * b < L := by
  have h1 : (i + 1) * b ≤ nE L b * b := Nat.mul_le_mul_right _ h
  have h2 : nE L b * b ≤ L + b - 1 := Nat.div_mul_le_self _ _
  rw [Nat.add_mul, Nat.one_mul] at h1
  omega
theorem ev_here {L b i : Nat} (h : i < nE L b) (hb : 1 ≤ b) : (if (L : Int) - (0 + (i : Int) * (b : Int)) < (b : Int) then (L : Int) - (0 + (i : Int) * (b : Int)) else (b : Int)) = ((szE L b i : Nat) : Int) := by
  have := ev_in h hb
  rw [show (i : Int) * (b : Int) = ((i * b : Nat) : Int) from (Int.natCast_mul i b).symm]
  unfold szE
  generalize i * b = m at *
  split <;> omega
theorem ev_behind {L b i : Nat} (h : i < nE L b) (hb : 1 ≤ b) : (if (L : Int) - (0 + (i : Int) * (b : Int)) - ((szE L b i : Nat) : Int) < (b : Int) then (L : Int) - (0 + (i : Int) * (b : Int)) - ((szE L b i : Nat) : Int) else (b : Int)) = ((szE L b (i + 1) : Nat) : Int) := by
  have := ev_in h hb
  rw [← szE_next, show (i : Int) * (b : Int) = ((i * b : Nat) : Int) from (Int.natCast_mul i b).symm]
  unfold szE
  generalize i * b = m at *
  split <;> omega
theorem rd_appM {a : Addr} {xs : List V} {v : V} {H : Hp} {Q : VK} (h : H a = some (.lst xs)) (n : xs.length ≤ 100000) (q : Q .non (upd H a (.lst (xs ++ [v])))) : rAppend (.ref a) [v] H Q := ⟨a, _, _, rfl, rfl, h, Nat.lt_of_le_of_lt n (by unfold sizeLine; decide), q⟩
/-- what the law says of such a call: the plan, or which argument is refused -/
def spEvS (K : PySem.W.Frag) : Sp := fun vs H Q _ => ∃ (v0 v1 v2 v3 v4 : V) (b : Bool), vs = [v0, v1, v2, v3, v4] ∧ TyV H v0 ∧ TyV H v1 ∧ JR H v2 b ∧ TyV H v3 ∧ TyV H v4 ∧ (∀ k v, evO v0 v1 v2 v3 v4 b = some (k, v) → okR v ∧ ∀ D H', H D = none → Same H H' → H' D = some (.lst [.str (if k = true then "joint" else "number"), .str (repV v)]) → Q (.ref D) H') ∧ (evO v0 v1 v2 v3 v4 b = none → EvQ K v0 v1 v2 v3 v4 H Q)
theorem use_evs {K : PySem.W.Frag} {v0 v1 v2 v3 v4 : V} {b : Bool} {H : Hp} {Q : VK} {E : XK} (t0 : TyV H v0) (t1 : TyV H v1) (t2 : JR H v2 b) (t3 : TyV H v3) (t4 : TyV H v4) (e : ∀ k v, evO v0 v1 v2 v3 v4 b = some (k, v) → okR v ∧ ∀ D H', H D = none → Same H H' → H' D = some (.lst [.str (if k = true then "joint" else "number"), .str (repV v)]) → Q (.ref D) H') (q : evO v0 v1 v2 v3 v4 b = none → EvQ K v0 v1 v2 v3 v4 H Q) : spEvS K ([v0, v1, v2, v3, v4] ++ []) H Q E := ⟨v0, v1, v2, v3, v4, b, rfl, t0, t1, t2, t3, t4, e, q⟩
def spEvL (K : PySem.W.Frag) : Sp := fun vs H Q _ => ∃ (L bk w s lv st : Nat) (j : Addr), vs = [.int (L : Nat), .int (bk : Nat), .ref j, .int (lv : Nat), .int (st : Nat)] ∧ H j = some (.tup [.int (w : Nat), .int (s : Nat)]) ∧ L ≤ 500 ∧ 1 ≤ bk ∧ bk ≤ 64 ∧
  ∀ D refs H', H D = none → Same H H' → H' D = some (.lst refs) → All2 (PlAt K H' lv st) refs (evP L bk w s (nE L bk)).1 → Q (.ref D) H'
theorem use_evl {K : PySem.W.Frag} {L bk w s lv st : Nat} {j : Addr} {H : Hp} {Q : VK} {E : XK} (h : H j = some (.tup [.int (w : Nat), .int (s : Nat)])) (h1 : L ≤ 500) (h2 : 1 ≤ bk) (h3 : bk ≤ 64) (q : ∀ D refs H', H D = none → Same H H' → H' D = some (.lst refs) → All2 (PlAt K H' lv st) refs (evP L bk w s (nE L bk)).1 → Q (.ref D) H') : spEvL K ([.int (L : Nat), .int (bk : Nat), .ref j, .int (lv : Nat), .int (st : Nat)] ++ []) H Q E := ⟨L, bk, w, s, lv, st, j, rfl, h, h1, h2, h3, q⟩
def PlsAt (H : Hp) (vs : List V) (hss : List (List Hd)) : Prop := All2 (fun v hs => ∃ b refs, v = .ref b ∧ H b = some (.lst refs) ∧ HdsAt H refs hs ∧ refs.length ≤ 200) vs hss
theorem PlsAt.same {H H' : Hp} {vs : List V} {hss : List (List Hd)} (s : Same H H') (h : PlsAt H vs hss) : PlsAt H' vs hss := h.imp fun _ _ ⟨b, refs, e, h1, h2, h3⟩ => ⟨b, refs, e, s _ _ h1, h2.lk (.of s), h3⟩
def spCkPls : Sp := fun vs H Q _ => ∃ (a : Addr) (ps : List V) (hss : List (List Hd)) (n : Nat), vs = [.ref a, .int (n : Nat)] ∧ H a = some (.lst ps) ∧ PlsAt H ps hss ∧ ps ≠ [] ∧ (∀ hs ∈ hss, Ch 0 hs 0 ∧ totH hs = n) ∧ ∀ H', Same H H' → Q .non H'
theorem use_ckpls {a : Addr} {ps : List V} {hss : List (List Hd)} {n : Nat} {H : Hp} {Q : VK} {E : XK} (h : H a = some (.lst ps)) (h1 : PlsAt H ps hss) (h2 : ps ≠ []) (h3 : ∀ hs ∈ hss, Ch 0 hs 0 ∧ totH hs = n) (q : ∀ H', Same H H' → Q .non H') : spCkPls ([.ref a, .int (n : Nat)] ++ []) H Q E := ⟨a, ps, hss, n, rfl, h, h1, h2, h3, q⟩
/-- the first of the least of the first n numbers -/
def MinAt (zs : List Int) (n i : Nat) (z : Int) : Prop := zs[i]? = some z ∧ i < n ∧ ∀ k y, k < n → zs[k]? = some y → z ≤ y ∧ (k < i → z < y)
theorem MinAt.one {zs : List Int} {z : Int} (h : zs[0]? = some z) : MinAt zs 1 0 z := ⟨h, by omega, fun k y hk e => by
  obtain rfl : k = 0 := by omega
  rw [h] at e
  cases e
  exact ⟨Int.le_refl _, fun c => absurd c (Nat.lt_irrefl _)⟩⟩
theorem MinAt.keep {zs : List Int} {n i : Nat} {z y : Int} (h : MinAt zs n i z) (e : zs[n]? = some y) (c : ¬ y < z) : MinAt zs (n + 1) i z := ⟨h.1, Nat.lt_succ_of_lt h.2.1, fun k x hk ex => by
  by_cases ck : k < n
  · exact h.2.2 k x ck ex
  · obtain rfl : k = n := by omega
    rw [e] at ex
    cases ex
    exact ⟨by omega, fun c2 => by have := h.2.1; omega⟩⟩
theorem MinAt.new {zs : List Int} {n i : Nat} {z y : Int} (h : MinAt zs n i z) (e : zs[n]? = some y) (c : y < z) : MinAt zs (n + 1) n y := ⟨e, Nat.lt_succ_self _, fun k x hk ex => by
  by_cases ck : k < n
  · have := (h.2.2 k x ck ex).1
    exact ⟨by omega, fun _ => by omega⟩
  · obtain rfl : k = n := by omega
    rw [e] at ex
    cases ex
    exact ⟨Int.le_refl _, fun c2 => absurd c2 (Nat.lt_irrefl _)⟩⟩
def szP (xs : List Int) (hs : List Hd) : Int := totR (encA 0 hs xs)
def spSml (K : PySem.W.Frag) (C : Addr) : Sp := fun vs H Q _ => ∃ (a b : Addr) (xs : List Int) (ps : List V) (hss : List (List Hd)), vs = [.ref a, .ref b] ∧ H a = some (.lst (xs.map V.int)) ∧ H b = some (.lst ps) ∧ PlsAt H ps hss ∧ ps ≠ [] ∧ ps.length ≤ 100 ∧ (∀ hs ∈ hss, Ch 0 hs 0 ∧ totH hs = xs.length) ∧ xs.length ≤ 10000 ∧ (∀ x ∈ xs, -(10 ^ 30) ≤ x ∧ x ≤ 10 ^ 30) ∧
  ∀ t x ws H' i hs z, H t = none → Same H H' → H' t = some (.tup [.int (i : Nat), .ref x]) → StmAt K C H' x ws (encA 0 hs xs) → hss[i]? = some hs → MinAt (hss.map (szP xs)) hss.length i z → Q (.ref t) H'
theorem use_sml {K : PySem.W.Frag} {C a b : Addr} {xs : List Int} {ps : List V} {hss : List (List Hd)} {H : Hp} {Q : VK} {E : XK} (h : H a = some (.lst (xs.map V.int))) (h1 : H b = some (.lst ps)) (h2 : PlsAt H ps hss) (h3 : ps ≠ []) (h4 : ps.length ≤ 100) (h5 : ∀ hs ∈ hss, Ch 0 hs 0 ∧ totH hs = xs.length) (h6 : xs.length ≤ 10000) (h7 : ∀ x ∈ xs, -(10 ^ 30) ≤ x ∧ x ≤ 10 ^ 30)
  (q : ∀ t x ws H' i hs z, H t = none → Same H H' → H' t = some (.tup [.int (i : Nat), .ref x]) → StmAt K C H' x ws (encA 0 hs xs) → hss[i]? = some hs → MinAt (hss.map (szP xs)) hss.length i z → Q (.ref t) H') : spSml K C ([.ref a, .ref b] ++ []) H Q E := ⟨a, b, xs, ps, hss, rfl, h, h1, h2, h3, h4, h5, h6, h7, q⟩
theorem use_sizeM {K : PySem.W.Frag} {C x : Addr} {refs : List V} {rs : List Rc} {H : Hp} {Q : VK} {E : XK} (h : StmAt K C H x refs rs) (q : ∀ H', Same H H' → Q (.int (totR rs)) H') : spSizeM K C [.ref x] H Q E := ⟨x, refs, rs, rfl, h, q⟩
theorem repInt (n : Nat) (z : Int) : (List.replicate n [V.int z]).flatten = (List.replicate n z).map V.int := by
  induction n with
  | zero => rfl
  | succ n ih =>
    rw [List.replicate_succ, List.replicate_succ, List.flatten_cons, ih]
    rfl
def szI (L b : Nat) : List Int := List.replicate (L / b) (b : Int) ++ [((L - L / b * b : Nat) : Int)]
theorem szI_filter {L b : Nat} (hb : 1 ≤ b) : (szI L b).filter (fun z => decide (0 < z)) = (List.range (nE L b)).map fun i => ((szE L b i : Nat) : Int) := by
  have hdm : L / b * b + L % b = L := Nat.div_add_mod' L b
  have hm : L % b < b := Nat.mod_lt _ hb
  have e1 : (List.replicate (L / b) (b : Int)).filter (fun z => decide (0 < z)) = List.replicate (L / b) (b : Int) := by
    refine List.filter_eq_self.mpr fun z hz => ?_
    rw [List.eq_of_mem_replicate hz, decide_eq_true (by omega)]
  have e2 : List.replicate (L / b) (b : Int) = (List.range (L / b)).map fun i => ((szE L b i : Nat) : Int) := by
    refine List.ext_getElem (by rw [List.length_replicate, List.length_map, List.length_range]) fun i h1 h2 => ?_
    rw [List.length_replicate] at h1
    rw [List.getElem_replicate, List.getElem_map, List.getElem_range]
    have : (i + 1) * b ≤ L / b * b := Nat.mul_le_mul_right _ h1
    rw [Nat.add_mul, Nat.one_mul] at this
    unfold szE
    omega
  unfold szI
  rw [List.filter_append, e1, e2]
  have hn : nE L b = L / b + (if L % b = 0 then 0 else 1) := by
    unfold nE
    have e : L + b - 1 = (L / b) * b + (L % b + (b - 1)) := by omega
    rw [e, Nat.add_comm ((L / b) * b), Nat.add_mul_div_right _ _ hb]
    split
    · rename_i c
      rw [c, Nat.zero_add, Nat.div_eq_of_lt (by omega)]
      omega
    · rename_i c
      have e1 : (L % b + (b - 1)) / b = 1 := Nat.div_eq_of_lt_le (by omega) (by omega)
      rw [e1]
      omega
  rw [hn]
  by_cases c : L % b = 0
  · rw [if_pos c, Nat.add_zero, show L - L / b * b = 0 by omega]
    rw [show ([((0 : Nat) : Int)].filter fun z => decide (0 < z)) = [] from rfl, List.append_nil]
  · rw [if_neg c, List.range_succ, List.map_append]
    rw [show ([((L - L / b * b : Nat) : Int)].filter fun z => decide (0 < z)) = [((L - L / b * b : Nat) : Int)] from by
      rw [List.filter_cons_of_pos (by rw [decide_eq_true_eq]; omega)]
      rfl]
    congr 1
    show [((L - L / b * b : Nat) : Int)] = [((szE L b (L / b) : Nat) : Int)]
    have e3 : L - L / b * b = L % b := by omega
    congr 2
    unfold szE
    rw [e3]
    omega
def szN (L b : Nat) : List Int := (List.range (nE L b)).map fun i => ((szE L b i : Nat) : Int)
theorem szN_at {L b i : Nat} (h : i < nE L b) : (szN L b)[i]? = some ((szE L b i : Nat) : Int) := by
  unfold szN
  rw [List.getElem?_map, List.getElem?_range h]
  rfl
theorem szN_len (L b : Nat) : (szN L b).length = nE L b := by unfold szN; rw [List.length_map, List.length_range]
theorem szE_end {L b : Nat} (hb : 1 ≤ b) : szE L b (nE L b) = 0 := by
  have hm : (L + b - 1) % b < b := Nat.mod_lt _ hb
  have hd : (L + b - 1) / b * b + (L + b - 1) % b = L + b - 1 := Nat.div_add_mod' _ _
  unfold szE nE
  omega
theorem szN_next {L b i : Nat} (hb : 1 ≤ b) (h : i < nE L b) : (szN L b ++ [0])[i + 1]? = some ((szE L b (i + 1) : Nat) : Int) := by
  by_cases c : i + 1 < nE L b
  · rw [List.getElem?_append_left (by rw [szN_len]; exact c), szN_at c]
  · have e : i + 1 = nE L b := by omega
    rw [List.getElem?_append_right (by rw [szN_len]; omega), szN_len, e, Nat.sub_self, szE_end hb]
    rfl
theorem small10kE {n : Nat} (h : n ≤ 10000) : n < sizeLine := Nat.lt_of_le_of_lt h (by unfold sizeLine; decide)
theorem lc_filtE {K : PySem.W.Frag} {σ : L2.St} {Q : VK} {vs : List Nat} {k : Nat} {a D : Addr} {xs : List Int} {H1 : Hp} {tt : TT} {te : TE} (f : Int → Bool) (hS : SqL K H1 a (xs.map V.int)) (hn : xs.length ≤ 10000) (hw : ∀ v, wipe ((wipe σ vs).set k (some v)) vs = wipe σ vs) (hD : H1 D = none)
    (turn : ∀ (x : Int) (H : Hp) (q : Bool → Hp → Prop), Same H1 H → q (f x) H → tt ((wipe σ vs).set k (some (.int x))) H q)
    (el : ∀ (x : Int) (H : Hp) (Q' : VK), Q' (.int x) H → te ((wipe σ vs).set k (some (.int x))) H Q')
    (q : ∀ H', Same H1 H' → H' D = some (.lst ((xs.filter f).map V.int)) → Q (.ref D) H') : LcW (Itl K a) (gName k) tt te vs Q σ H1 D := by
  refine lc_list (xs := xs.map V.int) (Pv := fun j H => Same H1 H ∧ H D = some (.lst (((xs.take j).filter f).map V.int))) ⟨same_new hD, upd_same⟩ (fun j H _ hI => hI.1.seq hS) (fun j v H hv hI => ?_) (fun H hI => ?_)
  · obtain ⟨hs, hd⟩ := hI
    rw [List.getElem?_map] at hv
    cases ez : xs[j]? with
    | none => rw [ez] at hv; cases hv
    | some z =>
      rw [ez] at hv
      obtain rfl := (Option.some.inj hv).symm
      refine ⟨hw _, ?_⟩
      refine turn z _ _ hs ?_
      have et : xs.take (j + 1) = xs.take j ++ [z] := by rw [List.take_add_one, ez]; rfl
      rw [et, List.filter_append]
      cases e : f z with
      | true =>
        rw [if_pos rfl]
        refine el _ _ _ ⟨_, hd, ?_, fun b x e => ?_, ?_⟩
        · have h1 := List.length_filter_le f (xs.take j)
          rw [List.length_take] at h1
          rw [List.length_map]
          exact small10kE (by omega)
        · rw [upd_ne (ne_of_none e hD)]
          exact hs _ _ e
        · rw [upd_same, List.filter_cons_of_pos e, List.map_append]
          rfl
      | false =>
        rw [if_neg Bool.false_ne_true, List.filter_cons_of_neg (by rw [e]; exact Bool.false_ne_true), List.filter_nil, List.append_nil]
        exact ⟨hs, hd⟩
  · obtain ⟨hs, hd⟩ := hI
    rw [List.length_map, List.take_length] at hd
    exact q H hs hd
theorem rd_catM {a b : Addr} {xs ys : List Int} {H : Hp} {Q : VK} (h1 : H a = some (.lst (xs.map V.int))) (h2 : H b = some (.lst (ys.map V.int))) (n : xs.length + ys.length ≤ 100000) (q : ∀ p, H p = none → Q (.ref p) (upd H p (.lst ((xs ++ ys).map V.int)))) : rCat (.ref a) (.ref b) H Q :=
  ⟨a, b, _, _, rfl, rfl, h1, h2, by rw [List.length_map, List.length_map]; exact Nat.le_of_lt (Nat.lt_of_le_of_lt n (by unfold sizeLine; decide)), fun p hp => by rw [← List.map_append]; exact q p hp⟩
theorem jr_joint {H : Hp} {j : Addr} {w s : Nat} (h : H j = some (.tup [.int (w : Nat), .int (s : Nat)])) (hw : w ≤ 8) (hs : s ≤ 3) (h0 : w = 0 → s = 0) : JR H (.ref j) true := by
  have e := jt_ok (j := (0, w, s)) hw hs h0
  have t := JR.tup2 (H := H) h trivial trivial
  rw [e] at t
  exact t
theorem inI_nat {i lo hi : Int} (h1 : lo ≤ i) (h2 : i ≤ hi) : inI (.int i) lo hi = true := decide_eq_true ⟨h1, h2⟩
theorem evO_good {L bk lv st : Nat} {v2 : V} (h1 : L ≤ 20000) (h2 : 1 ≤ bk) (h3 : bk ≤ 64) (h4 : lv ≤ 5) (h5 : 1 ≤ st) (h6 : st ≤ 64) : evO (.int (L : Nat)) (.int (bk : Nat)) v2 (.int (lv : Nat)) (.int (st : Nat)) true = none :=
  evO_no (inI_nat (by omega) (by omega)) (inI_nat (by omega) (by omega)) rfl (inI_nat (by omega) (by omega)) (inI_nat (by omega) (by omega))
theorem use_evg {K : PySem.W.Frag} {CN CJ : Addr} {z0 z1 z3 z4 : Int} {L bk w s lv st : Nat} {j : Addr} {H : Hp} {Q : VK} {E : XK} (e0 : z0 = (L : Int)) (e1 : z1 = (bk : Int)) (e3 : z3 = (lv : Int)) (e4 : z4 = (st : Int)) (h : H j = some (.tup [.int (w : Nat), .int (s : Nat)])) (hw : w ≤ 8) (hs : s ≤ 3) (h0 : w = 0 → s = 0) (h1 : L ≤ 20000) (h2 : 1 ≤ bk) (h3 : bk ≤ 64) (h4 : lv ≤ 5) (h5 : 1 ≤ st) (h6 : st ≤ 64)
  (q : ∀ D refs H', H D = none → Same H H' → H' D = some (.lst refs) → All2 (PlAt K H' lv st) refs (evP L bk w s (nE L bk)).1 → Q (.ref D) H') : spEvX K CN CJ ([.int z0, .int z1, .ref j, .int z3, .int z4] ++ []) H Q E := by
  subst e0 e1 e3 e4
  have e := evO_good (v2 := .ref j) h1 h2 h3 h4 h5 h6
  refine use_evx (b := true) trivial trivial (jr_joint h hw hs h0) trivial trivial (fun v z => by rw [e] at z; cases z) (fun v z => by rw [e] at z; cases z) fun _ => ?_
  intro L' bk' w' s' lv' st' j' q0 q1 q2 q3 q4 q5 _ _ _ _ _ _ _ _ D refs H' hD sm eD hp
  obtain rfl : L = L' := by have := V.int.inj q0; omega
  obtain rfl : bk = bk' := by have := V.int.inj q1; omega
  obtain rfl : j = j' := by cases q2; rfl
  obtain rfl : lv = lv' := by have := V.int.inj q4; omega
  obtain rfl : st = st' := by have := V.int.inj q5; omega
  rw [h] at q3
  have q3 := Option.some.inj q3
  injection q3 with q3
  injection q3 with qa qb
  injection qb with qb _
  obtain rfl : w = w' := by have := V.int.inj qa; omega
  obtain rfl : s = s' := by have := V.int.inj qb; omega
  exact q D refs H' hD sm eD hp
theorem evP_0 (b w s : Nat) (hb : 1 ≤ b) : (evP 0 b w s (nE 0 b)).1 = [] := by
  have : nE 0 b = 0 := by
    unfold nE
    exact Nat.div_eq_of_lt (by omega)
  rw [this]
  rfl
theorem use_evsg {K : PySem.W.Frag} {z0 z1 z3 z4 : Int} {L bk w s lv st : Nat} {j : Addr} {H : Hp} {Q : VK} {E : XK} (e0 : z0 = (L : Int)) (e1 : z1 = (bk : Int)) (e3 : z3 = (lv : Int)) (e4 : z4 = (st : Int)) (h : H j = some (.tup [.int (w : Nat), .int (s : Nat)])) (hw : w ≤ 8) (hs : s ≤ 3) (h0 : w = 0 → s = 0) (h1 : L ≤ 20000) (h2 : 1 ≤ bk) (h3 : bk ≤ 64) (h4 : lv ≤ 5) (h5 : 1 ≤ st) (h6 : st ≤ 64)
  (q : ∀ D refs H', H D = none → Same H H' → H' D = some (.lst refs) → All2 (PlAt K H' lv st) refs (evP L bk w s (nE L bk)).1 → Q (.ref D) H') : spEvS K ([.int z0, .int z1, .ref j, .int z3, .int z4] ++ []) H Q E := by
  have e := use_evg (K := K) (CN := 0) (CJ := 0) (E := E) e0 e1 e3 e4 h hw hs h0 h1 h2 h3 h4 h5 h6 q
  subst e0 e1 e3 e4
  have eo := evO_good (v2 := .ref j) h1 h2 h3 h4 h5 h6
  refine use_evs (b := true) trivial trivial (jr_joint h hw hs h0) trivial trivial (fun k v z => by rw [eo] at z; cases z) fun _ => ?_
  intro L' bk' w' s' lv' st' j' q0 q1 q2 q3 q4 q5 _ _ _ _ _ _ _ _ D refs H' hD sm eD hp
  obtain rfl : L = L' := by have := V.int.inj q0; omega
  obtain rfl : bk = bk' := by have := V.int.inj q1; omega
  obtain rfl : j = j' := by cases q2; rfl
  obtain rfl : lv = lv' := by have := V.int.inj q4; omega
  obtain rfl : st = st' := by have := V.int.inj q5; omega
  rw [h] at q3
  have q3 := Option.some.inj q3
  injection q3 with q3
  injection q3 with qa qb
  injection qb with qb _
  obtain rfl : w = w' := by have := V.int.inj qa; omega
  obtain rfl : s = s' := by have := V.int.inj qb; omega
  exact q D refs H' hD sm eD hp
theorem use_evlz {K : PySem.W.Frag} {z0 z1 z3 z4 : Int} {L bk w s lv st : Nat} {j : Addr} {H : Hp} {Q : VK} {E : XK} (e0 : z0 = (L : Int)) (e1 : z1 = (bk : Int)) (e3 : z3 = (lv : Int)) (e4 : z4 = (st : Int)) (h : H j = some (.tup [.int (w : Nat), .int (s : Nat)])) (h1 : L ≤ 500) (h2 : 1 ≤ bk) (h3 : bk ≤ 64) (q : ∀ D refs H', H D = none → Same H H' → H' D = some (.lst refs) → All2 (PlAt K H' lv st) refs (evP L bk w s (nE L bk)).1 → Q (.ref D) H') : spEvL K ([.int z0, .int z1, .ref j, .int z3, .int z4] ++ []) H Q E := by
  subst e0 e1 e3 e4
  exact use_evl h h1 h2 h3 q
theorem rd_nePl {K : PySem.W.Frag} {lv st : Nat} {H : Hp} {Q : VK} {p q : Addr} {vs ws : List V} {rs : List EvR} (hp : H p = some (.lst vs)) (hq : H q = some (.lst ws)) (h1 : All2 (PlAt K H lv st) vs rs) (h2 : All2 (PlAt K H lv st) ws rs) (h : Q (.bl false) H) : rNeD K (.ref p) (.ref q) H Q :=
  rd_neDp (SqL.of hp) (SqL.of hq) (dp_pl h1) (dp_pl h2) (pl_lay rs).1 (pl_lay rs).2 h
def OddV (v : V) : Prop := inI v 0 20000 = false ∧ inI v 1 64 = false ∧ inI v 0 5 = false ∧ scalarV v = true ∧ okR v ∧ PyData.canLay0 (.str (repV v)) = true
def odds : List V := [.non, .bl true, .int (-1), .str "1", .int 20001]
theorem odds_ok : ∀ v ∈ odds, OddV v := by
  intro v hv
  simp only [odds, List.mem_cons, List.not_mem_nil, or_false] at hv
  rcases hv with rfl | rfl | rfl | rfl | rfl
  · exact ⟨rfl, rfl, rfl, rfl, trivial, by decide +kernel⟩
  · exact ⟨rfl, rfl, rfl, rfl, trivial, by decide +kernel⟩
  · exact ⟨by decide, by decide, by decide, rfl, by show Nat.log2 1 < 1920; decide, by decide +kernel⟩
  · exact ⟨rfl, rfl, rfl, rfl, by show (reprText "1").length ≤ sizeLine; unfold sizeLine; decide +kernel, by decide +kernel⟩
  · exact ⟨by decide, by decide, by decide, rfl, by show Nat.log2 20001 < 1920; decide +kernel, by decide +kernel⟩
def eR (o v : V) (i k : Nat) : V := if 5 ≤ i + k then o else v
def rowE (o v0 v1 v2 v3 v4 : V) (k : Nat) : List V := [eR o v0 0 k, eR o v1 1 k, eR o v2 2 k, eR o v3 3 k, eR o v4 4 k]
theorem rowE_set {o v0 v1 v2 v3 v4 : V} {k : Nat} (h : k < 5) : (rowE o v0 v1 v2 v3 v4 k).set (4 - k) o = rowE o v0 v1 v2 v3 v4 (k + 1) := by
  obtain rfl | rfl | rfl | rfl | rfl : k = 0 ∨ k = 1 ∨ k = 2 ∨ k = 3 ∨ k = 4 := by omega
  all_goals rfl
theorem evO_row {o v0 v1 v2 v3 v4 : V} {k : Nat} (h : k < 5) (ho : OddV o) (g0 : inI v0 0 20000 = true) (g1 : inI v1 1 64 = true) (g3 : inI v3 0 5 = true) (g4 : inI v4 1 64 = true) :
    evO (eR o v0 0 (k + 1)) (eR o v1 1 (k + 1)) (eR o v2 2 (k + 1)) (eR o v3 3 (k + 1)) (eR o v4 4 (k + 1)) (decide (k < 2)) = some (decide (k = 2), o) := by
  obtain ⟨o1, o2, o3, _⟩ := ho
  obtain rfl | rfl | rfl | rfl | rfl : k = 0 ∨ k = 1 ∨ k = 2 ∨ k = 3 ∨ k = 4 := by omega
  · exact evO_5 g0 g1 rfl g3 o2
  · exact evO_4 g0 g1 rfl o3
  · exact evO_3 g0 g1 rfl
  · exact evO_2 g0 o2
  · exact evO_1 o1
theorem eR_ty {H : Hp} {o v : V} {i k : Nat} (ho : scalarV o = true) (hv : TyV H v) : TyV H (eR o v i k) := by
  unfold eR
  split
  · exact flat_ty ho
  · exact hv
theorem eR_jr {H : Hp} {o v : V} {k : Nat} (h : k < 5) (ho : scalarV o = true) (hv : JR H v true) : JR H (eR o v 2 (k + 1)) (decide (k < 2)) := by
  unfold eR
  by_cases c : k < 2
  · rw [if_neg (by omega), decide_eq_true c]
    exact hv
  · rw [if_pos (by omega), decide_eq_false c]
    exact .flat ho
theorem rd_catGE {a b : Addr} {xs ys : List V} {H : Hp} {Q : VK} (zs : List V) (h1 : H a = some (.lst xs)) (h2 : H b = some (.lst ys)) (e : xs ++ ys = zs) (n : xs.length + ys.length ≤ 1000) (q : ∀ p, H p = none → Q (.ref p) (upd H p (.lst zs))) : rCat (.ref a) (.ref b) H Q := by
  subst e
  exact rd_catG h1 h2 n q
theorem lay_said {o : V} {b : Bool} (ho : OddV o) : PyData.canLayAll0 [.str (if b = true then "joint" else "number"), .str (repV o)] = true := by
  have h1 : PyData.canLay0 (.str (if b = true then "joint" else "number")) = true := by cases b <;> decide +kernel
  show (PyData.canLay0 (.str (if b = true then "joint" else "number")) && (PyData.canLay0 (.str (repV o)) && true)) = true
  rw [h1, ho.2.2.2.2.2]
  rfl
/-- plans that are drawn -/
theorem lc_plans {σ : L2.St} {Q : VK} {vs : List Nat} {k : Nat} {p D : Addr} {n m : Nat} {H1 : Hp} {te : TE} (hw : ∀ v, wipe ((wipe σ vs).set k (some v)) vs = wipe σ vs) (hP : Pool H1 p) (hD : H1 D = none) (hn : n ≤ 100) (l : List Addr) (hl : ∀ b ∈ l, ∃ o, H1 b = some o)
    (turn : ∀ (i : Nat) (H : Hp) (Q' : VK), Pool H p → Kp p H1 H → (∀ b refs hs H', H b = none → H' b = some (.lst refs) → HdsAt H' refs hs → Ch 0 hs 0 → totH hs = m → refs.length ≤ 200 → Pool H' p → Kp p H H' → Q' (.ref b) H') → te ((wipe σ vs).set k (some (.int (0 + (i : Nat))))) H Q')
    (q : ∀ (ps : List V) (hss : List (List Hd)) H', ps.length = n → H' D = some (.lst ps) → PlsAt H' ps hss → (∀ hs ∈ hss, Ch 0 hs 0 ∧ totH hs = m) → Pool H' p → Kp p H1 H' → Q (.ref D) H') : LcW (Itr 0 n) (gName k) tYes te vs Q σ H1 D := by
  have hDp : D ≠ p := hP.ne hD
  refine lc_range (Pv := fun j H => ∃ (ps : List V) (hss : List (List Hd)), ps.length = j ∧ H D = some (.lst ps) ∧ All2 (fun v hs => ∃ b refs, v = .ref b ∧ b ≠ D ∧ b ≠ p ∧ H b = some (.lst refs) ∧ HdsAt H refs hs ∧ refs.length ≤ 200) ps hss ∧ (∀ hs ∈ hss, Ch 0 hs 0 ∧ totH hs = m) ∧ Pool H p ∧ Kp p H1 H) ⟨[], [], rfl, upd_same, .nil, fun _ z => absurd z List.not_mem_nil, hP.new hD, Kp.new hD⟩ (fun j H hj hI => ?_) (fun H hI => ?_)
  · obtain ⟨ps, hss, hpl, eD, hp, hc, hP', hK⟩ := hI
    refine ⟨hw _, rd_yes ?_⟩
    refine turn j H _ hP' hK fun b refs hs H' hb eb hh c1 c2 c3 hP2 hK2 => ?_
    have hbD : b ≠ D := fun z => by rw [z, eD] at hb; cases hb
    have hbp : b ≠ p := hP'.ne hb
    have eD2 := hK2 _ _ hDp eD
    have lk2 : LK H H' := fun c o e n => hK2 c o (fun z => by
      obtain ⟨_, _, e2, _⟩ := hP'
      rw [z, e2] at e
      exact n _ (Option.some.inj e).symm) e
    have lkE := LK.at (o := .lst (ps ++ [.ref b])) eD2
    refine ⟨ps, eD2, small1000 (by omega), ps ++ [.ref b], hss ++ [hs], by rw [List.length_append, hpl]; rfl, upd_same, All2.app (hp.imp fun _ _ ⟨c, rf, e, n1, n2, z1, z2, z3⟩ => ⟨c, rf, e, n1, n2, by rw [upd_ne n1]; exact hK2 _ _ n2 z1, z2.lk (lk2.trans lkE), z3⟩) ⟨b, refs, rfl, hbD, hbp, by rw [upd_ne hbD]; exact eb, hh.lk lkE, c3⟩, fun x hx => ?_, pool_upd hDp hP2, fun c o n e => ?_⟩
    · rcases List.mem_append.mp hx with hx | hx
      · exact hc x hx
      · rw [List.mem_singleton.mp hx]
        exact ⟨c1, c2⟩
    · have nD : c ≠ D := fun z => by rw [z, hD] at e; cases e
      rw [upd_ne nD]
      exact hK2 _ _ n (hK _ _ n e)
  · obtain ⟨ps, hss, hpl, eD, hp, hc, hP', hK⟩ := hI
    exact q ps hss H hpl eD (hp.imp fun _ _ ⟨c, rf, e, n1, n2, z1, z2, z3⟩ => ⟨c, rf, e, z1, z2, z3⟩) hc hP' hK
theorem all2_take {α β : Type} {R : α → β → Prop} {as : List α} {bs : List β} (h : All2 R as bs) (n : Nat) : All2 R (as.take n) (bs.take n) := by
  induction h generalizing n with
  | nil =>
    rw [List.take_nil, List.take_nil]
    exact .nil
  | cons e _ ih =>
    cases n with
    | zero => exact .nil
    | succ n => exact .cons e (ih n)
theorem all2_app {α β : Type} {R : α → β → Prop} {as cs : List α} {bs ds : List β} (h : All2 R as bs) (k : All2 R cs ds) : All2 R (as ++ cs) (bs ++ ds) := by
  induction h with
  | nil => exact k
  | cons e _ ih => exact .cons e ih
theorem MinAt.eq {zs : List Int} {i : Nat} {z m : Int} (h : MinAt zs zs.length i z) (hm : m ∈ zs) (hle : ∀ y ∈ zs, m ≤ y) : m = z := by
  obtain ⟨k, hk, e⟩ := List.getElem_of_mem hm
  have h1 := (h.2.2 k m hk (by rw [List.getElem?_eq_getElem hk, e])).1
  have h2 := hle z (List.mem_of_getElem? h.1)
  omega
theorem rd_pclE {C : Addr} {sp : Sp} {dvs : List V} {E : XK} {ta : TE} {σ : L2.St} {H : Hp} {Q : VK} (h : ta σ H fun x H1 => ∃ a dx fs, x = .ref a ∧ H1 a = some (.ins C dx fs) ∧ sp (.ref a :: dvs) H1 Q E) : tProp C sp dvs E ta σ H Q := h
theorem rd_pSE {K : PySem.W.Frag} {C x : Addr} {sp : Sp} {dvs : List V} {E : XK} {H : Hp} {Q : VK} {refs : List V} {rs : List Rc} (hS : StmAt K C H x refs rs) (h : sp (.ref x :: dvs) H Q E) : ∃ a dx fs, V.ref x = .ref a ∧ H a = some (.ins C dx fs) ∧ sp (.ref a :: dvs) H Q E := by
  obtain ⟨dx, L, F, fms, Te, e, _⟩ := hS
  exact ⟨x, dx, _, rfl, e, h⟩
theorem stm_rc {K : PySem.W.Frag} {C x : Addr} {H : Hp} {refs : List V} {rs : List Rc} (h : StmAt K C H x refs rs) : RcsAt K H refs rs ∧ refs.length ≤ 400 := by
  obtain ⟨dx, L, F, fms, Te, h1, h2, h3, h4, h5, h6, h7⟩ := h
  exact ⟨h4, h3⟩
theorem flat_E (xs : List Int) : (xs.map V.int).all flatV = true := by
  rw [List.all_eq_true]
  intro v hv
  obtain ⟨n, _, rfl⟩ := List.mem_map.mp hv
  rfl
theorem rd_idxE {K : PySem.W.Frag} {Z : Addr} {zs : List Int} {i : Nat} {z : Int} {H : Hp} {Q : VK} (e : H Z = some (.lst (zs.map V.int))) (h : MinAt zs zs.length i z) (q : Q (.int (i : Nat)) H) : rIndex K (.ref Z) [.int z] H Q := by
  refine ⟨Z, zs.map V.int, .int z, i, .int z, rfl, rfl, SqL.of e, rfl, flat_E zs, by rw [List.getElem?_map, h.1]; rfl, by show (z == z) = true; exact beq_self_eq_true _, fun k z' hk ek => ?_, q⟩
  rw [List.getElem?_map] at ek
  cases g : zs[k]? with
  | none => rw [g] at ek; cases ek
  | some y =>
    rw [g] at ek
    cases ek
    have := (h.2.2 k y (Nat.lt_trans hk h.2.1) g).2 hk
    show (y == z) = false
    exact beq_eq_false_iff_ne.mpr (by omega)
theorem rd_minE {K : PySem.W.Frag} {Z : Addr} {zs : List Int} {i : Nat} {z : Int} {H : Hp} {Q : VK} (e : H Z = some (.lst (zs.map V.int))) (h : MinAt zs zs.length i z) (q : Q (.int z) H) : rMin K [.ref Z] H Q :=
  ⟨Z, zs, rfl, SqL.of e, Nat.lt_of_le_of_lt (Nat.zero_le _) h.2.1, fun m hm hle => by rw [h.eq hm hle]; exact q⟩
end Z
namespace Z
open PySem PySem.Spec PyProof.Rows L2
def topS (i : Nat) : Stmt := PySem.Challenge.pw_framejoins_k27_even_plans_and_choices.main.body.getD i (.Pass ⟨0, 0, 0, 0⟩)
local macro_rules | `(tactic| walk_at "hg") => `(tactic| first
  | assumption
  | (with_reducible exact upd_same)
  | ((with_reducible refine' look_new ?k1 ?k2); (case k1 => assumption); (case k2 => walk_at "hg"))
  | ((with_reducible refine' look_same ?k1 ?k2); (case k1 => assumption); (case k2 => walk_at "hg"))
  | ((with_reducible refine' look_kp ?k1 ?k2 ?k3); (case k1 => assumption); (case k2 => walk_at "ne"); (case k3 => walk_at "hg"))
  | ((with_reducible refine' look_upd ?k1 ?k2); (case k1 => assumption); (case k2 => walk_at "hg"))
  | fail)
local macro_rules | `(tactic| walk_at "ne") => `(tactic| first
  | assumption
  | ((with_reducible refine' Pool.ne' ?k1 ?k2); (case k1 => assumption); (case k2 => walk_at "pl"))
  | fail)
local macro_rules | `(tactic| walk_at "r1") => `(tactic| first
  | (with_reducible refine rd_seq ?_) | (with_reducible refine rd_asg ?_) | (with_reducible refine rd_gname ?_) | (with_reducible refine rd_ret ?_) | (with_reducible refine rd_ifs ?_)
  | ((with_reducible refine' rd_var ?k1 ?_); (case k1 => exact rfl))
  | ((with_reducible refine' rd_ixL ?k1 ?k2 ?_); (case k1 => walk_at "sq"); (case k2 => walk_at "at"))
  | ((with_reducible refine' rd_ixT ?k1 ?k2 ?_); (case k1 => walk_at "sqt"); (case k2 => walk_at "at"))
  | ((with_reducible refine' rd_setL ?k1 ?k2 ?_); (case k1 => walk_at "hg"); (case k2 => walk_at "ixn"))
  | ((with_reducible refine' rd_lenL ?k1 ?_); (case k1 => walk_at "sq"))
  | ((with_reducible refine' rd_listL ?k1 fun _ _ => ?_); (case k1 => walk_at "sq"))
  | ((with_reducible refine' rd_lenT ?k1 ?_); (case k1 => walk_at "sqt"))
  | ((with_reducible refine' rd_gtup ?k1 ?k2 ?_); (case k1 => walk_at "sqt"); (case k2 => exact rfl))
  | (with_reducible refine rd_gcons ?_) | (with_reducible refine rd_gnil ?_) | (with_reducible refine rd_forT ?_) | (with_reducible refine rd_forL ?_) | (with_reducible refine rd_for2 ?_)
  | ((with_reducible refine' rd_neT2 ?k1 ?k2 ?k3 ?k4 ?_); (case k1 => walk_at "sqt"); (case k2 => walk_at "sqt"); (case k3 => walk_at "f1"); (case k4 => walk_at "f2"))
  | ((with_reducible refine rd_n1 ?k1 ?k2 ?_); (case k1 => omega); (case k2 => omega))
  | ((with_reducible refine rd_n2 ?k1 ?_); (case k1 => exact ⟨by omega, by omega, by omega, by omega⟩))
  | (with_reducible refine rd_lcD fun _ _ => ?_)
  | ((with_reducible refine' lc_numbers ?k1 ?k2 ?k3 ?k4 ?k5 fun _ _ _ _ _ _ _ => ?_); (case k1 => exact fun _ => rfl); (case k2 => exact fun _ => rfl); (case k3 => walk_at "pl"); (case k4 => assumption); (case k5 => walk_at "sd"))
  | (with_reducible refine rd_for3 ?_) | (with_reducible refine rd_bm ?_)
  | ((with_reducible refine rd_n3 ?k1 ?_); (case k1 => walk_at "sd"))
  | ((with_reducible refine' rd_tyL ?k1 ?_); (case k1 => walk_at "hg"))
  | ((with_reducible refine' rd_catL ?k1 ?k2 ?k3 fun _ _ => ?_); (case k1 => walk_at "hg"); (case k2 => walk_at "hg"); (case k3 => walk_at "sd"))
  | ((with_reducible refine' rd_appI ?k1 ?k2 ?_); (case k1 => walk_at "hg"); (case k2 => walk_at "sd"))
  | ((with_reducible refine' use_once ?k1 ?k2 fun _ _ _ _ _ _ _ _ _ => ?_); (case k1 => walk_at "sq"); (case k2 => walk_at "sd"))
  | ((with_reducible refine' use_split ?k1 ?k2 ?k3 ?k4 ?k5 fun _ _ _ _ _ => ?_); (case k1 => walk_at "hg"); (case k2 => walk_at "sd"); (case k3 => walk_at "sd"); (case k4 => walk_at "sd"); (case k5 => walk_at "sd"))
  | ((with_reducible refine' use_splitK ?k1 ?k2 ?k3 ?k4 ?k5 fun _ _ _ _ _ => ?_); (case k1 => walk_at "hg"); (case k2 => walk_at "sd"); (case k3 => walk_at "sd"); (case k4 => walk_at "sd"); (case k5 => walk_at "sd"))
  | (with_reducible refine rd_sl ?_) | (with_reducible refine rd_part ?_) | (with_reducible refine rd_nopart ?_) | (with_reducible refine rd_oneI ?_)
  | (with_reducible refine rd_lcL ?_)
  | (with_reducible refine rd_forV ?_)
  | ((with_reducible refine rd_nV ?k1 ?k2 ?_); (case k1 => omega); (case k2 => omega))
  | ((with_reducible refine' use_join1 ?k1 ?k2 ?k3 ?k4 fun _ _ _ _ _ => ?_); (case k1 => walk_at "hg"); (case k2 => walk_at "hg"); (case k3 => walk_at "sd"); (case k4 => walk_at "sd"))
  | ((with_reducible refine' use_join ?k1 ?k2 ?k3 ?k4 ?k5 fun _ _ _ _ _ => ?_); (case k1 => walk_at "hg"); (case k2 => walk_at "sd"); (case k3 => walk_at "sd"); (case k4 => walk_at "sd"); (case k5 => walk_at "sd"))
  | ((with_reducible refine' use_joinK ?k1 ?k2 ?k3 ?k4 ?k5 fun _ _ _ _ _ => ?_); (case k1 => walk_at "hg"); (case k2 => walk_at "sd"); (case k3 => walk_at "sd"); (case k4 => walk_at "sd"); (case k5 => walk_at "sd"))
  | ((with_reducible refine' use_ints ?k1 ?k2 ?_); (case k1 => walk_at "hg"); (case k2 => walk_at "sd"))
  | (with_reducible refine rd_isN ?_) | (with_reducible refine rd_lc1 ?_) | (with_reducible refine rd_forE ?_) | (with_reducible refine rd_forZ ?_)
  | ((with_reducible refine' rd_neL ?k1 ?k2 ?_); (case k1 => walk_at "sq"); (case k2 => walk_at "sq"))
  | ((with_reducible refine' rd_eqL ?k1 ?k2 ?_); (case k1 => walk_at "sq"); (case k2 => walk_at "sq"))
  | ((with_reducible refine' rd_neN ?k1 ?k2 ?_); (case k1 => walk_at "sq"); (case k2 => walk_at "sq"))
  | (with_reducible refine rd_c ?_) | (with_reducible refine rd_op ?_) | (with_reducible refine rd_un ?_) | (with_reducible refine rd_i0 ?_)
  | ((with_reducible refine rd_i ?k1 ?_); (case k1 => walk_at "side"))
  | (with_reducible refine rd_u ?_)
  | (with_reducible refine rd_eq rfl ?_) | (with_reducible refine rd_ne rfl ?_) | (with_reducible refine rd_test ?_) | (with_reducible refine rd_b ?_) | (with_reducible refine rd_bl ?_)
  | (with_reducible refine rd_not ?_) | (with_reducible refine rd_and ?_) | (with_reducible refine rd_or ?_) | (with_reducible refine rd_andV ?_) | (with_reducible refine rd_orV ?_) | (with_reducible refine rd_notV ?_)
  | (with_reducible refine rd_if ?_) | (with_reducible refine rd_chain ?_) | (with_reducible refine rd_call ?_) | (with_reducible refine rd_callK ?_) | (with_reducible refine rd_cb ?_)
  | (with_reducible refine rd_cons ?_) | (with_reducible refine rd_nil ?_) | (with_reducible refine rd_next ?_) | (with_reducible refine rd_drop ?_) | (with_reducible refine rd_gsub ?_)
  | (with_reducible refine rd_int ?_) | (with_reducible refine rd_intb ?_) | (with_reducible refine rd_abs ?_) | (with_reducible refine rd_max ?_) | (with_reducible refine rd_min ?_)
  | (with_reducible refine rd_par ?_) | (with_reducible refine rd_par3 ?_) | (with_reducible refine rd_two ?_) | (with_reducible refine rd_three ?_)
  | (with_reducible refine rd_retn ?_) | (with_reducible refine rd_tup ?_) | (with_reducible refine rd_lst ?_) | (with_reducible refine rd_for1 ?_) | (with_reducible refine rd_one ?_)
  | ((with_reducible refine rd_all ?k1 fun _ _ => ?_); (case k1 => exact Nat.le_of_ble_eq_true rfl))
  | ((with_reducible refine use_take ?k1 ?k2 ?k3 fun _ _ _ _ _ _ => ?_); (case k1 => walk_at "pl"); (case k2 => walk_at "sd"); (case k3 => walk_at "sd"))
  | ((with_reducible refine use_number ?k1 fun _ _ _ _ _ => ?_); (case k1 => walk_at "pl"))
  | ((with_reducible refine' use_pool ?k1 ?k2 ?k3 ?k4 fun _ _ _ _ _ => ?_); (case k1 => walk_at "sq"); (case k2 => assumption); (case k3 => walk_at "sd"); (case k4 => walk_at "sd"))
  | ((with_reducible refine use_ckp ?k1 ?k2 ?_); (case k1 => walk_at "sd"); (case k2 => walk_at "sd"))
  | ((with_reducible refine use_pair ?k1 ?k2 fun _ _ => ?_); (case k1 => walk_at "sd"); (case k2 => walk_at "sd"))
  | ((with_reducible refine use_lfold ?k1 ?k2 fun _ _ _ _ => ?_); (case k1 => walk_at "sd"); (case k2 => walk_at "sd"))
  | ((with_reducible refine' use_ispair ?k1 ?_); (case k1 => walk_at "hg"))
  | ((with_reducible refine' use_items ?k1 fun _ _ => ?_); (case k1 => walk_at "sq"))
  | ((with_reducible refine' use_block ?k1 ?k2 ?k3 fun _ _ => ?_); (case k1 => walk_at "hg"); (case k2 => walk_at "sd"); (case k3 => walk_at "sd"))
  | ((with_reducible refine' use_mark ?k1 ?k2 fun _ _ => ?_); (case k1 => walk_at "hg"); (case k2 => walk_at "sd"))
  | (with_reducible refine use_code ?_)
  | ((with_reducible refine' use_same ?k1 fun _ _ => ?_); (case k1 => walk_at "smv"))
  | ((with_reducible refine use_quant ?k1 ?k2 ?_); (case k1 => walk_at "sd"); (case k2 => walk_at "sd"))
  | ((with_reducible refine use_quantK ?k1 ?k2 ?_); (case k1 => walk_at "sd"); (case k2 => walk_at "sd"))
  | (with_reducible refine use_isi_int ?_) | (with_reducible refine use_within_int ?_) | (with_reducible refine use_cki ?_)
  | ((with_reducible refine use_ckw ?k1 ?k2 ?_); (case k1 => walk_at "sd"); (case k2 => walk_at "sd"))
  | (with_reducible refine iteT ?_) | (with_reducible refine iteF ?_)
  | (with_reducible refine iteNT ?_) | (with_reducible refine iteNF ?_)
  | (walk_at "isi")
  | fail)
local macro_rules | `(tactic| walk_at "isi") => `(tactic| first
  | (with_reducible refine isi_int_int ?_)
  | (with_reducible refine isi_int_bool ?_)
  | (with_reducible refine isi_int_str ?_)
  | (with_reducible refine isi_int_list ?_)
  | (with_reducible refine isi_int_tuple ?_)
  | (with_reducible refine isi_bl_int ?_)
  | (with_reducible refine isi_bl_bool ?_)
  | (with_reducible refine isi_bl_str ?_)
  | (with_reducible refine isi_bl_list ?_)
  | (with_reducible refine isi_bl_tuple ?_)
  | (with_reducible refine isi_non_int ?_)
  | (with_reducible refine isi_non_bool ?_)
  | (with_reducible refine isi_non_str ?_)
  | (with_reducible refine isi_non_list ?_)
  | (with_reducible refine isi_non_tuple ?_)
  | (with_reducible refine isi_str_int ?_)
  | (with_reducible refine isi_str_bool ?_)
  | (with_reducible refine isi_str_str ?_)
  | (with_reducible refine isi_str_list ?_)
  | (with_reducible refine isi_str_tuple ?_)
  | ((with_reducible refine' isi_lst_int ?k1 ?_); (case k1 => walk_at "hg"))
  | ((with_reducible refine' isi_lst_bool ?k1 ?_); (case k1 => walk_at "hg"))
  | ((with_reducible refine' isi_lst_str ?k1 ?_); (case k1 => walk_at "hg"))
  | ((with_reducible refine' isi_lst_list ?k1 ?_); (case k1 => walk_at "hg"))
  | ((with_reducible refine' isi_lst_tuple ?k1 ?_); (case k1 => walk_at "hg"))
  | ((with_reducible refine' isi_tup_int ?k1 ?_); (case k1 => walk_at "hg"))
  | ((with_reducible refine' isi_tup_bool ?k1 ?_); (case k1 => walk_at "hg"))
  | ((with_reducible refine' isi_tup_str ?k1 ?_); (case k1 => walk_at "hg"))
  | ((with_reducible refine' isi_tup_list ?k1 ?_); (case k1 => walk_at "hg"))
  | ((with_reducible refine' isi_tup_tuple ?k1 ?_); (case k1 => walk_at "hg"))
  | fail)
local macro_rules | `(tactic| walk_at "side") => `(tactic| first
  | (show (0 : Int) < _; omega)
  | exact ⟨by omega, by omega⟩
  | exact .inl ⟨by omega, by omega⟩
  | exact .inr ⟨by omega, by omega⟩
  | exact .inr ⟨by decide, by decide⟩
  | exact ⟨by decide, by decide, by decide⟩
  | decide
  | fail)
local macro_rules | `(tactic| walk_at "rd") => `(tactic| (repeat walk_at "r1"))
local macro_rules | `(tactic| walk_at "sq") => `(tactic| first
  | assumption
  | ((with_reducible refine' SqL.of ?k1); (case k1 => walk_at "hg"))
  | ((with_reducible refine' sqL_new ?k1 ?k2); (case k1 => assumption); (case k2 => walk_at "sq"))
  | ((with_reducible refine' sqL_same ?k1 ?k2); (case k1 => assumption); (case k2 => walk_at "sq"))
  | fail)
local macro_rules | `(tactic| walk_at "sqt") => `(tactic| first
  | assumption
  | exact by_all (by assumption)
  | ((with_reducible refine' SqT.of ?k1); (case k1 => walk_at "hg"))
  | fail)
local macro_rules | `(tactic| walk_at "at") => `(tactic| first | assumption | exact atI_nat (j := 0) rfl | exact atI_nat (j := 1) rfl | exact atI_nat (j := 2) rfl | exact atI_nat (j := 3) rfl | fail)
local macro_rules | `(tactic| walk_at "ixn") => `(tactic| first | assumption | rfl | fail)
local macro_rules | `(tactic| walk_at "sd") => `(tactic| first | omega | decide +kernel | fail)
local macro_rules | `(tactic| walk_at "pl") => `(tactic| first
  | assumption
  | ((with_reducible refine' Pool.new' ?k1 ?k2); (case k1 => assumption); (case k2 => walk_at "pl"))
  | ((with_reducible refine' Pool.same' ?k1 ?k2); (case k1 => assumption); (case k2 => walk_at "pl"))
  | fail)
local macro_rules | `(tactic| walk_at "allm") => `(tactic| ((repeat (refine List.forall_mem_cons.mpr ⟨⟨_, rfl, by first | decide | omega, by first | decide | omega⟩, ?_⟩)); exact List.forall_mem_nil _))
local macro_rules | `(tactic| walk_at "kp") => `(tactic| first
  | assumption
  | exact Kp.refl
  | ((with_reducible refine' Kp.trans ?k1 (Kp.new ?k2)); (case k2 => assumption); walk_at "kp")
  | (refine' Kp.trans ?k1 ?k2; (case k2 => assumption); walk_at "kp")
  | (refine' Kp.trans ?k1 (Kp.of ?k2); (case k2 => assumption); walk_at "kp")
  | ((with_reducible refine' Kp.trans ?k1 Kp.at); walk_at "kp")
  | fail)
local macro_rules | `(tactic| walk_at "ct") => `(tactic| (refine' close_turn ?k1 ?k2 ?k3 ?k4; (case k1 => assumption); (case k2 => assumption); (case k3 => assumption); (case k4 => walk_at "kp")))
local macro_rules | `(tactic| walk_at "sm") => `(tactic| first
  | (with_reducible assumption)
  | (with_reducible exact Same.refl _)
  | ((with_reducible refine' Same.trans ?k1 (same_new ?k2)); (case k2 => assumption); walk_at "sm")
  | ((with_reducible refine' Same.trans ?k1 ?k2); (case k2 => (with_reducible assumption)); walk_at "sm")
  | fail)
local macro_rules | `(tactic| walk_at "f1") => `(tactic| first | rfl | exact congrArg Prod.fst (fold_unfold _ _ _) | exact congrArg Prod.fst (unfold_fold _ _ _) | fail)
local macro_rules | `(tactic| walk_at "f2") => `(tactic| first | rfl | exact congrArg Prod.snd (fold_unfold _ _ _) | exact congrArg Prod.snd (unfold_fold _ _ _) | fail)
local macro_rules | `(tactic| walk_at "smv") => `(tactic| first
  | (with_reducible assumption)
  | ((with_reducible refine sm_sc ?k1); (case k1 => exact rfl))
  | ((with_reducible refine' sm_ints ?k1 ?k2); (case k1 => walk_at "hg"); (case k2 => walk_at "hg"))
  | fail)
local macro_rules | `(tactic| walk_at "kp2") => `(tactic| first
  | exact Kp2.refl
  | exact Kp2.at
  | ((with_reducible refine' Kp2.trans ?k1 Kp2.at); walk_at "kp2")
  | ((with_reducible refine' Kp2.trans ?k1 (Kp2.new ?k2)); (case k2 => assumption); walk_at "kp2")
  | (refine' Kp2.trans ?k1 (Kp2.ofK ?k2); (case k2 => assumption); walk_at "kp2")
  | (refine' Kp2.trans ?k1 (Kp2.ofS ?k2); (case k2 => assumption); walk_at "kp2")
  | fail)
local macro_rules | `(tactic| walk_at "ty") => `(tactic| first
  | exact True.intro
  | ((refine' Or.inl ⟨_, ?k1⟩); (case k1 => walk_at "hg"))
  | ((refine' Or.inr ⟨_, ?k1⟩); (case k1 => walk_at "hg"))
  | fail)
local macro_rules | `(tactic| walk_at "jr") => `(tactic| first
  | exact ⟨_, JR.flat rfl⟩
  | ((refine' ⟨_, JR.tup2 ?k1 ?k2 ?k3⟩); (case k1 => walk_at "hg"); (case k2 => walk_at "ty"); (case k3 => walk_at "ty"))
  | ((refine' ⟨_, JR.tupn ?k1 ?k2⟩); (case k1 => walk_at "hg"); (case k2 => simp))
  | ((refine' ⟨_, JR.lst ?k1⟩); (case k1 => walk_at "hg"))
  | fail)
local macro_rules | `(tactic| walk_at "jr1") => `(tactic| ((refine' List.forall_mem_cons.mpr ⟨?k1, ?_⟩); (case k1 => walk_at "jr")))
local macro_rules | `(tactic| walk_at "alljr") => `(tactic| ((repeat walk_at "jr1"); exact List.forall_mem_nil _))
local macro_rules | `(tactic| walk_at "r1") => `(tactic| first
  | ((with_reducible refine' rd_raiseV ?k1 ?_); (case k1 => exact rfl))
  | (with_reducible refine rd_raiseC ?_)
  | ((with_reducible refine' rd_lam ?k1 fun _ _ _ => ?_); (case k1 => walk_at "tb"))
  | (with_reducible refine rd_told ?_)
  | (with_reducible refine rd_xf ?_)
  | fail)
local macro_rules | `(tactic| walk_at "tb") => `(tactic| first
  | assumption
  | ((with_reducible refine' Tabs.new ?k1 ?k2); (case k1 => assumption); (case k2 => walk_at "tb"))
  | ((with_reducible refine' Tabs.same ?k1 ?k2); (case k1 => assumption); (case k2 => walk_at "tb"))
  | ((with_reducible refine' Tabs.kp ?k0 ?k1 ?k2); (case k1 => assumption); (case k0 => walk_at "pl"); (case k2 => walk_at "tb"))
  | fail)
local macro_rules | `(tactic| walk_at "kpn") => `(tactic| first
  | assumption
  | exact KpN.refl
  | ((with_reducible refine' KpN.trans ?k1 (KpN.new ?k2)); (case k2 => assumption); walk_at "kpn")
  | ((with_reducible refine' KpN.trans ?k1 ?k2); (case k2 => assumption); walk_at "kpn")
  | ((with_reducible refine' KpN.trans ?k1 (KpN.ofK ?k2)); (case k2 => assumption); walk_at "kpn")
  | ((with_reducible refine' KpN.trans ?k1 (KpN.of ?k2)); (case k2 => assumption); walk_at "kpn")
  | ((with_reducible refine' KpN.trans ?k1 (KpN.ofN ?k2)); (case k2 => assumption); walk_at "kpn")
  | ((with_reducible refine' KpN.trans ?k1 KpN.at); walk_at "kpn")
  | fail)
local macro_rules | `(tactic| walk_at "hg") => `(tactic| first
  | ((with_reducible refine' look_extL ?k1 ?k2); (case k1 => assumption); (case k2 => walk_at "hg"))
  | ((with_reducible refine' look_extT ?k1 ?k2); (case k1 => assumption); (case k2 => walk_at "hg"))
  | fail)
local macro_rules | `(tactic| walk_at "als") => `(tactic| ((repeat (refine List.forall_mem_cons.mpr ⟨rfl, ?_⟩)); exact List.forall_mem_nil _))
local macro_rules | `(tactic| walk_at "dv1") => `(tactic| first
  | exact DV.sc rfl
  | ((refine' DV.lst ?n ?e ?s); (case n => walk_at "ne"); (case e => walk_at "hg"); (case s => walk_at "als"))
  | ((refine' DV.tup ?n ?e ?s); (case n => walk_at "ne"); (case e => walk_at "hg"); (case s => walk_at "als"))
  | fail)
local macro_rules | `(tactic| walk_at "dvm1") => `(tactic| ((refine' List.forall_mem_cons.mpr ⟨⟨?d, ?i⟩, ?_⟩); (case d => walk_at "dv1"); (case i => first | rfl | decide)))
local macro_rules | `(tactic| walk_at "dvm") => `(tactic| ((repeat walk_at "dvm1"); exact List.forall_mem_nil _))
local macro_rules | `(tactic| walk_at "r1") => `(tactic| first
  | (with_reducible refine rd_bits ?_)
  | ((with_reducible refine' use_row ?k1 fun _ _ _ _ _ => ?_); (case k1 => walk_at "pl"))
  | fail)
local macro_rules | `(tactic| walk_at "smm1") => `(tactic| ((refine' List.forall_mem_cons.mpr ⟨?a, ?_⟩); (case a => first | exact True.intro | (show Int.natAbs _ < _; omega) | (show Int.natAbs _ < _; decide))))
local macro_rules | `(tactic| walk_at "smm") => `(tactic| ((repeat walk_at "smm1"); exact List.forall_mem_nil _))
local macro_rules | `(tactic| walk_at "rv1") => `(tactic| first
  | exact RV.sc rfl
  | ((refine' RV.lst ?n ?e ?s ?t); (case n => walk_at "ne"); (case e => walk_at "hg"); (case s => walk_at "als"); (case t => walk_at "smm"))
  | ((refine' RV.tup ?n ?e ?s ?t); (case n => walk_at "ne"); (case e => walk_at "hg"); (case s => walk_at "als"); (case t => walk_at "smm"))
  | fail)
local macro_rules | `(tactic| walk_at "rvm1") => `(tactic| ((refine' List.forall_mem_cons.mpr ⟨?d, ?_⟩); (case d => walk_at "rv1")))
local macro_rules | `(tactic| walk_at "rvm") => `(tactic| ((repeat walk_at "rvm1"); exact List.forall_mem_nil _))
local macro_rules | `(tactic| walk_at "tsr1") => `(tactic| first
  | exact TSR.flat rfl
  | ((refine' TSR.lst ?e); (case e => walk_at "hg"))
  | ((refine' TSR.tupn ?e ?n); (case e => walk_at "hg"); (case n => simp))
  | exact RV.tsr (by assumption)
  | fail)
local macro_rules | `(tactic| walk_at "tsrm1") => `(tactic| ((refine' List.forall_mem_cons.mpr ⟨?d, ?_⟩); (case d => walk_at "tsr1")))
local macro_rules | `(tactic| walk_at "tsrm") => `(tactic| ((repeat walk_at "tsrm1"); exact List.forall_mem_nil _))
local macro_rules | `(tactic| walk_at "sl") => `(tactic| first
  | (with_reducible exact e_0)
  | (with_reducible exact e_1)
  | (with_reducible exact e_01)
  | (with_reducible exact e_empty)
  | (with_reducible exact eb)
  | (with_reducible exact rfl)
  | fail)
local macro_rules | `(tactic| walk_at "sdl") => `(tactic| first
  | assumption
  | omega
  | (simp only [List.length_append, List.length_replicate, lowB_length, binB_length, List.length_cons, List.length_nil, List.length_map, List.length_drop, List.length_take]; omega)
  | fail)
local macro_rules | `(tactic| walk_at "r1") => `(tactic| first
  | ((with_reducible refine' rd_addT ?k1 ?k2 ?k3 ?_); (case k1 => walk_at "sl"); (case k2 => walk_at "sl"); (case k3 => walk_at "sdl"))
  | ((with_reducible refine' rd_mulT ?k1 ?k2 ?_); (case k1 => walk_at "sl"); (case k2 => walk_at "sdl"))
  | ((with_reducible refine' rd_lenS ?k1 ?_); (case k1 => walk_at "sdl"))
  | ((with_reducible refine' rd_slSF ?k1 ?_); (case k1 => walk_at "sdl"))
  | ((with_reducible refine' rd_slST ?k1 ?_); (case k1 => walk_at "sdl"))
  | ((with_reducible refine' rd_joinS ?k1 ?k2 ?k3 ?_); (case k1 => walk_at "sl"); (case k2 => walk_at "sq"); (case k3 => walk_at "sdl"))
  | (with_reducible refine rd_bit ?_)
  | ((with_reducible refine' rd_tupL ?k1 fun _ _ => ?_); (case k1 => walk_at "sq"))
  | (with_reducible refine rd_fmtb ?_) | (with_reducible refine rd_shr ?_)
  | ((with_reducible refine' rd_fmtn ?k1 ?k2 ?_); (case k1 => walk_at "sl"); (case k2 => walk_at "sdl"))
  | (with_reducible refine rd_bmS ?_) | (with_reducible refine rd_tyS ?_)
  | ((with_reducible refine' use_start ?k1 fun _ _ _ _ _ _ _ _ _ => ?_); (case k1 => walk_at "pl"))
  | fail)
local macro_rules | `(tactic| walk_at "r1") => `(tactic| first
  | (with_reducible refine use_numW ?_) | (with_reducible refine rd_notBl ?_)
  | ((with_reducible refine' rd_find ?k1 ?k2 ?_); (case k1 => walk_at "sl"); (case k2 => walk_at "sdl"))
  | ((with_reducible refine' rd_strip ?k1 ?k2 ?k3 ?_); (case k1 => walk_at "sl"); (case k2 => walk_at "sdl"); (case k3 => assumption))
  | fail)
local macro_rules | `(tactic| walk_at "r1") => `(tactic| first
  | (with_reducible refine rd_toldM fun _ _ => ?_)
  | ((with_reducible refine' use_oddE ?k1 fun _ _ _ _ _ => ?_); (case k1 => walk_at "pl"))
  | fail)
local macro_rules | `(tactic| walk_at "ne") => `(tactic| first
  | (refine' ne_new ?k1 ?k2; (case k1 => assumption); (case k2 => walk_at "hg"))
  | fail)
local macro_rules | `(tactic| walk_at "alo") => `(tactic| ((repeat (refine List.forall_mem_cons.mpr ⟨?_, ?_⟩; first | rfl | decide +kernel)); exact List.forall_mem_nil _))
local macro_rules | `(tactic| walk_at "nm") => `(tactic| ((refine' nm_cons ?n1 ?n2); (case n1 => walk_at "ne"); (case n2 => first | exact List.not_mem_nil | walk_at "nm")))
local macro_rules | `(tactic| walk_at "ev1") => `(tactic| first
  | exact EV.sc rfl
  | exact EV.sc (by decide +kernel)
  | ((refine' EV.lst ?n ?e ?s); (case n => walk_at "nm"); (case e => walk_at "hg"); (case s => walk_at "alo"))
  | ((refine' EV.tup ?n ?e ?s); (case n => walk_at "nm"); (case e => walk_at "hg"); (case s => walk_at "alo"))
  | fail)
local macro_rules | `(tactic| walk_at "evm1") => `(tactic| ((refine' List.forall_mem_cons.mpr ⟨?d, ?_⟩); (case d => walk_at "ev1")))
local macro_rules | `(tactic| walk_at "evm") => `(tactic| ((repeat walk_at "evm1"); exact List.forall_mem_nil _))
local macro_rules | `(tactic| walk_at "kln") => `(tactic| first
  | assumption
  | exact KpLN.refl
  | ((with_reducible refine' KpLN.trans ?k1 (KpLN.new ?k2)); (case k2 => assumption); walk_at "kln")
  | ((with_reducible refine' KpLN.trans ?k1 ?k2); (case k2 => assumption); walk_at "kln")
  | ((with_reducible refine' KpLN.trans ?k1 (KpLN.ofK ?k3 ?k2)); (case k2 => assumption); (case k3 => simp); walk_at "kln")
  | ((with_reducible refine' KpLN.trans ?k1 (KpLN.of ?k2)); (case k2 => assumption); walk_at "kln")
  | ((with_reducible refine' KpLN.trans ?k1 (KpLN.ofN ?k2)); (case k2 => assumption); walk_at "kln")
  | ((with_reducible refine' KpLN.trans ?k1 (KpLN.ofL ?k2)); (case k2 => assumption); walk_at "kln")
  | fail)
local macro_rules | `(tactic| walk_at "pv0") => `(tactic| first
  | exact PV.sc rfl
  | exact PV.sc (by decide +kernel)
  | fail)
local macro_rules | `(tactic| walk_at "pv1") => `(tactic| first
  | walk_at "pv0"
  | ((refine' PV.tup ?n ?e ?s); (case n => walk_at "nm"); (case e => walk_at "hg"); (case s => walk_at "pvm0"))
  | ((refine' PV.lst ?n ?e ?s); (case n => walk_at "nm"); (case e => walk_at "hg"); (case s => walk_at "pvm0"))
  | fail)
local macro_rules | `(tactic| walk_at "pv2") => `(tactic| first
  | walk_at "pv0"
  | ((refine' PV.tup ?n ?e ?s); (case n => walk_at "nm"); (case e => walk_at "hg"); (case s => walk_at "pvm1"))
  | ((refine' PV.lst ?n ?e ?s); (case n => walk_at "nm"); (case e => walk_at "hg"); (case s => walk_at "pvm1"))
  | fail)
local macro_rules | `(tactic| walk_at "pvs0") => `(tactic| ((refine' List.forall_mem_cons.mpr ⟨?d, ?_⟩); (case d => walk_at "pv0")))
local macro_rules | `(tactic| walk_at "pvm0") => `(tactic| ((repeat walk_at "pvs0"); exact List.forall_mem_nil _))
local macro_rules | `(tactic| walk_at "pvs1") => `(tactic| ((refine' List.forall_mem_cons.mpr ⟨?d, ?_⟩); (case d => walk_at "pv1")))
local macro_rules | `(tactic| walk_at "pvm1") => `(tactic| ((repeat walk_at "pvs1"); exact List.forall_mem_nil _))
local macro_rules | `(tactic| walk_at "pvs2") => `(tactic| ((refine' List.forall_mem_cons.mpr ⟨?d, ?_⟩); (case d => walk_at "pv2")))
local macro_rules | `(tactic| walk_at "pvm2") => `(tactic| ((repeat walk_at "pvs2"); exact List.forall_mem_nil _))
local macro_rules | `(tactic| walk_at "nm") => `(tactic| first
  | (refine' nm_al ?hl ?k ?hp ?n; (case hl => assumption); (case n => assumption); (case k => walk_at "kp"); (case hp => walk_at "pl"))
  | fail)
local macro_rules | `(tactic| walk_at "trt") => `(tactic| (refine' tr_ok ?h ?a ?b ?c; (case h => walk_at "hg"); (case a => first | decide | omega); (case b => first | decide | omega); (case c => first | decide | omega)))
local macro_rules | `(tactic| walk_at "stf1") => `(tactic| ((refine' List.forall_mem_cons.mpr ⟨⟨?d, ?e⟩, ?_⟩); (case d => walk_at "pv2"); (case e => first | walk_at "tsf" | (refine' tsr_ii ?h; (case h => walk_at "hg")))))
local macro_rules | `(tactic| walk_at "stfm") => `(tactic| ((repeat walk_at "stf1"); exact List.forall_mem_nil _))
local macro_rules | `(tactic| walk_at "pni1") => `(tactic| ((refine' List.forall_mem_cons.mpr ⟨⟨?d, ?e⟩, ?_⟩); (case d => walk_at "pv1"); (case e => exact fun _ z => nomatch z)))
local macro_rules | `(tactic| walk_at "pnim") => `(tactic| ((repeat walk_at "pni1"); exact List.forall_mem_nil _))
local macro_rules | `(tactic| walk_at "r1") => `(tactic| first
  | ((with_reducible refine' use_listV ?k1 fun _ _ _ _ _ => ?_); (case k1 => walk_at "pl"))
  | ((with_reducible refine' use_startX ?k1 fun _ _ _ _ _ _ _ => ?_); (case k1 => walk_at "pl"))
  | fail)
local macro_rules | `(tactic| walk_at "r1") => `(tactic| first
  | ((with_reducible refine' use_tabsX ?k1 fun _ _ _ _ _ _ _ _ => ?_); (case k1 => walk_at "pl"))
  | ((with_reducible refine' use_heads ?k1 ?k2 fun _ _ _ _ _ _ _ _ _ _ _ => ?_); (case k1 => walk_at "pl"); (case k2 => walk_at "sd"))
  | ((with_reducible refine' use_someX ?k1 ?k2 fun _ _ _ _ _ _ _ _ _ => ?_); (case k1 => walk_at "pl"); (case k2 => walk_at "sd"))
  | fail)
local macro_rules | `(tactic| walk_at "at") => `(tactic| first | exact atI_nat (j := 4) rfl | exact atI_nat (j := 5) rfl | exact atI_nat (j := 6) rfl | exact atI_nat (j := 7) rfl | fail)
local macro_rules | `(tactic| walk_at "r1") => `(tactic| first
  | ((with_reducible refine' rd_aug ?k1 ?_); (case k1 => exact rfl))
  | (with_reducible refine rd_ipI ?_)
  | ((with_reducible refine use_takeB ?k1 ?k2 ?k3 fun _ _ _ _ _ _ => ?_); (case k1 => walk_at "pl"); (case k2 => walk_at "sd"); (case k3 => walk_at "sd"))
  | fail)
local macro_rules | `(tactic| walk_at "side") => `(tactic| exact wide_div (b := 64) (by omega) (by omega) (by decide) (by decide))
local macro_rules | `(tactic| walk_at "r1") => `(tactic| first
  | ((with_reducible refine use_takeV ?k1 ?k2 ?k3 fun _ _ _ _ _ _ => ?_); (case k1 => walk_at "pl"); (case k2 => walk_at "sd"); (case k3 => walk_at "sd"))
  | fail)
local macro_rules | `(tactic| walk_at "side") => `(tactic| exact wide_div (b := 200) (by omega) (by omega) (by decide) (by decide))
abbrev s_is_integer : Stmt := topS 12
theorem sc_is_integer : FnScope ["value"] ["value"] (defScope s_is_integer) := ⟨rfl, rfl, rfl, by decide +kernel, rfl, by decide +kernel, by decide +kernel⟩
abbrev s_is_within : Stmt := topS 13
theorem sc_is_within : FnScope ["value", "low", "high"] ["value", "low", "high"] (defScope s_is_within) := ⟨rfl, rfl, rfl, by decide +kernel, rfl, by decide +kernel, by decide +kernel⟩
abbrev s_check_integer : Stmt := topS 14
theorem sc_check_integer : FnScope ["value"] ["value"] (defScope s_check_integer) := ⟨rfl, rfl, rfl, by decide +kernel, rfl, by decide +kernel, by decide +kernel⟩
abbrev s_check_within : Stmt := topS 15
theorem sc_check_within : FnScope ["value", "low", "high"] ["value", "low", "high"] (defScope s_check_within) := ⟨rfl, rfl, rfl, by decide +kernel, rfl, by decide +kernel, by decide +kernel⟩
abbrev s_check_items : Stmt := topS 16
theorem sc_check_items : FnScope ["values", "index", "value"] ["values"] (defScope s_check_items) := ⟨rfl, rfl, rfl, by decide +kernel, rfl, by decide +kernel, by decide +kernel⟩
abbrev s_check_sound : Stmt := topS 17
theorem sc_check_sound : FnScope ["values"] ["values"] (defScope s_check_sound) := ⟨rfl, rfl, rfl, by decide +kernel, rfl, by decide +kernel, by decide +kernel⟩
abbrev s_check_block : Stmt := topS 18
theorem sc_check_block : FnScope ["values", "least"] ["values", "least"] (defScope s_check_block) := ⟨rfl, rfl, rfl, by decide +kernel, rfl, by decide +kernel, by decide +kernel⟩
abbrev s_is_joint : Stmt := topS 24
theorem sc_is_joint : FnScope ["value", "width", "shape"] ["value"] (defScope s_is_joint) := ⟨rfl, rfl, rfl, by decide +kernel, rfl, by decide +kernel, by decide +kernel⟩
abbrev s_fold_pair : Stmt := topS 25
theorem sc_fold_pair : FnScope ["shape", "a", "b", "c", "d"] ["shape", "a", "b"] (defScope s_fold_pair) := ⟨rfl, rfl, rfl, by decide +kernel, rfl, by decide +kernel, by decide +kernel⟩
abbrev s_unfold_pair : Stmt := topS 26
theorem sc_unfold_pair : FnScope ["shape", "a", "b", "c", "d"] ["shape", "a", "b"] (defScope s_unfold_pair) := ⟨rfl, rfl, rfl, by decide +kernel, rfl, by decide +kernel, by decide +kernel⟩
abbrev s_check_pair : Stmt := topS 27
theorem sc_check_pair : FnScope ["shape", "a", "b"] ["shape", "a", "b"] (defScope s_check_pair) := ⟨rfl, rfl, rfl, by decide +kernel, rfl, by decide +kernel, by decide +kernel⟩
abbrev s_folded : Stmt := topS 28
theorem sc_folded : FnScope ["values", "joints"] ["values", "joints"] (defScope s_folded) := ⟨rfl, rfl, rfl, by decide +kernel, rfl, by decide +kernel, by decide +kernel⟩
abbrev s_turned : Stmt := topS 30
theorem sc_turned : FnScope ["values", "joints", "turn", "result", "place", "width", "shape", "i", "left", "right"] ["values", "joints", "turn"] (defScope s_turned) := ⟨rfl, rfl, rfl, by decide +kernel, rfl, by decide +kernel, by decide +kernel⟩
abbrev s_check_joints : Stmt := topS 31
theorem sc_check_joints : FnScope ["joints", "length", "place", "width", "index", "item"] ["joints", "length"] (defScope s_check_joints) := ⟨rfl, rfl, rfl, by decide +kernel, rfl, by decide +kernel, by decide +kernel⟩
abbrev s_is_placed_joint : Stmt := topS 32
theorem sc_is_placed_joint : FnScope ["value"] ["value"] (defScope s_is_placed_joint) := ⟨rfl, rfl, rfl, by decide +kernel, rfl, by decide +kernel, by decide +kernel⟩
abbrev s_has_room : Stmt := topS 33
theorem sc_has_room : FnScope ["item", "before", "width_before", "length", "place", "width"] ["item", "before", "width_before", "length"] (defScope s_has_room) := ⟨rfl, rfl, rfl, by decide +kernel, rfl, by decide +kernel, by decide +kernel⟩
abbrev s_split_levels : Stmt := topS 37
theorem sc_split_levels : FnScope ["values", "levels", "sums", "rest", "level", "differences"] ["values", "levels"] (defScope s_split_levels) := ⟨rfl, rfl, rfl, by decide +kernel, rfl, by decide +kernel, by decide +kernel⟩
abbrev s_split_once : Stmt := topS 38
theorem sc_split_once : FnScope ["values", "sums", "differences", "at", "a", "b"] ["values"] (defScope s_split_once) := ⟨rfl, rfl, rfl, by decide +kernel, rfl, by decide +kernel, by decide +kernel⟩
abbrev s_coarse_count : Stmt := topS 41
theorem sc_coarse_count : FnScope ["length", "levels", "many", "level"] ["length", "levels"] (defScope s_coarse_count) := ⟨rfl, rfl, rfl, by decide +kernel, rfl, by decide +kernel, by decide +kernel⟩
abbrev s_quantized : Stmt := topS 42
theorem sc_quantized : FnScope ["value", "step"] ["value", "step"] (defScope s_quantized) := ⟨rfl, rfl, rfl, by decide +kernel, rfl, by decide +kernel, by decide +kernel⟩
abbrev s_is_table : Stmt := topS 50
theorem sc_is_table : FnScope ["value", "total", "count"] ["value"] (defScope s_is_table) := ⟨rfl, rfl, rfl, by decide +kernel, rfl, by decide +kernel, by decide +kernel⟩
abbrev s_is_tables : Stmt := topS 51
theorem sc_is_tables : FnScope ["value"] ["value"] (defScope s_is_tables) := ⟨rfl, rfl, rfl, by decide +kernel, rfl, by decide +kernel, by decide +kernel⟩
abbrev s_parameter : Stmt := topS 52
theorem sc_parameter : FnScope ["table", "total", "count", "least"] ["table"] (defScope s_parameter) := ⟨rfl, rfl, rfl, by decide +kernel, rfl, by decide +kernel, by decide +kernel⟩
abbrev s_table_behind : Stmt := topS 53
theorem sc_table_behind : FnScope ["table", "code", "total", "count"] ["table", "code"] (defScope s_table_behind) := ⟨rfl, rfl, rfl, by decide +kernel, rfl, by decide +kernel, by decide +kernel⟩
abbrev s_code_number : Stmt := topS 54
theorem sc_code_number : FnScope ["number"] ["number"] (defScope s_code_number) := ⟨rfl, rfl, rfl, by decide +kernel, rfl, by decide +kernel, by decide +kernel⟩
abbrev s_number_with : Stmt := topS 55
theorem sc_number_with : FnScope ["code"] ["code"] (defScope s_number_with) := ⟨rfl, rfl, rfl, by decide +kernel, rfl, by decide +kernel, by decide +kernel⟩
abbrev s_code_bits : Stmt := topS 56
theorem sc_code_bits : FnScope ["code", "k", "digits", "ones", "padded"] ["code", "k"] (defScope s_code_bits) := ⟨rfl, rfl, rfl, by decide +kernel, rfl, by decide +kernel, by decide +kernel⟩
abbrev s_write_numbers : Stmt := topS 57
theorem sc_write_numbers : FnScope ["numbers", "coarse", "tables", "now", "words", "at", "number", "which", "code"] ["numbers", "coarse", "tables"] (defScope s_write_numbers) := ⟨rfl, rfl, rfl, by decide +kernel, rfl, by decide +kernel, by decide +kernel⟩
abbrev s_read_numbers : Stmt := topS 58
theorem sc_read_numbers : FnScope ["bits", "length", "coarse", "tables", "now", "numbers", "place", "at", "which", "found", "code"] ["bits", "length", "coarse", "tables"] (defScope s_read_numbers) := ⟨rfl, rfl, rfl, by decide +kernel, rfl, by decide +kernel, by decide +kernel⟩
abbrev s_check_coding : Stmt := topS 59
theorem sc_check_coding : FnScope ["length", "coarse", "tables"] ["length", "coarse", "tables"] (defScope s_check_coding) := ⟨rfl, rfl, rfl, by decide +kernel, rfl, by decide +kernel, by decide +kernel⟩
abbrev s_read_code : Stmt := topS 60
theorem sc_read_code : FnScope ["bits", "place", "k", "zero", "ones", "many", "end", "digits", "low"] ["bits", "place", "k"] (defScope s_read_code) := ⟨rfl, rfl, rfl, by decide +kernel, rfl, by decide +kernel, by decide +kernel⟩
abbrev s_mark_of : Stmt := topS 61
theorem sc_mark_of : FnScope ["numbers", "mark", "number"] ["numbers"] (defScope s_mark_of) := ⟨rfl, rfl, rfl, by decide +kernel, rfl, by decide +kernel, by decide +kernel⟩
abbrev s_is_record : Stmt := topS 66
theorem sc_is_record : FnScope ["value"] ["value"] (defScope s_is_record) := ⟨rfl, rfl, rfl, by decide +kernel, rfl, by decide +kernel, by decide +kernel⟩
abbrev s_is_state : Stmt := topS 67
theorem sc_is_state : FnScope ["value"] ["value"] (defScope s_is_state) := ⟨rfl, rfl, rfl, by decide +kernel, rfl, by decide +kernel, by decide +kernel⟩
abbrev s_is_frame : Stmt := topS 68
theorem sc_is_frame : FnScope ["value", "mark", "bits"] ["value"] (defScope s_is_frame) := ⟨rfl, rfl, rfl, by decide +kernel, rfl, by decide +kernel, by decide +kernel⟩
abbrev s_is_layout : Stmt := topS 69
theorem sc_is_layout : FnScope ["value", "length", "joint", "levels", "step"] ["value"] (defScope s_is_layout) := ⟨rfl, rfl, rfl, by decide +kernel, rfl, by decide +kernel, by decide +kernel⟩
abbrev s_is_bits : Stmt := topS 70
theorem sc_is_bits : FnScope ["value"] ["value"] (defScope s_is_bits) := ⟨rfl, rfl, rfl, by decide +kernel, rfl, by decide +kernel, by decide +kernel⟩
abbrev s_record_size : Stmt := topS 71
theorem sc_record_size : FnScope ["record"] ["record"] (defScope s_record_size) := ⟨rfl, rfl, rfl, by decide +kernel, rfl, by decide +kernel, by decide +kernel⟩
abbrev s_read_frame : Stmt := topS 72
theorem sc_read_frame : FnScope ["record", "tables", "length", "joint", "levels", "step", "mark", "bits", "found"] ["record", "tables"] (defScope s_read_frame) := ⟨rfl, rfl, rfl, by decide +kernel, rfl, by decide +kernel, by decide +kernel⟩
abbrev s_placed_joints : Stmt := topS 74
theorem sc_placed_joints : FnScope ["lengths", "joints", "placed", "place", "length", "joint"] ["lengths", "joints"] (defScope s_placed_joints) := ⟨rfl, rfl, rfl, by decide +kernel, rfl, by decide +kernel, by decide +kernel⟩
abbrev s_check_records : Stmt := topS 76
theorem sc_check_records : FnScope ["records", "index", "record"] ["records"] (defScope s_check_records) := ⟨rfl, rfl, rfl, by decide +kernel, rfl, by decide +kernel, by decide +kernel⟩
abbrev s_read_frames : Stmt := topS 77
theorem sc_read_frames : FnScope ["records", "frames", "tables", "start", "left", "index", "record", "length", "right", "found", "numbers", "behind"] ["records"] (defScope s_read_frames) := ⟨rfl, rfl, rfl, by decide +kernel, rfl, by decide +kernel, by decide +kernel⟩
abbrev s_encode : Stmt := topS 82
theorem sc_encode : FnScope ["sound", "plan", "states"] ["sound", "plan", "states"] (defScope s_encode) := ⟨rfl, rfl, rfl, by decide +kernel, rfl, by decide +kernel, by decide +kernel⟩
abbrev s_check_plan : Stmt := topS 83
theorem sc_check_plan : FnScope ["plan", "length", "left", "total", "index", "item"] ["plan", "length"] (defScope s_check_plan) := ⟨rfl, rfl, rfl, by decide +kernel, rfl, by decide +kernel, by decide +kernel⟩
abbrev s_coded_records : Stmt := topS 84
theorem sc_coded_records : FnScope ["sound", "plan", "states", "lengths", "item", "values", "records", "tables", "start", "frame", "layout", "end", "record"] ["sound", "plan", "states"] (defScope s_coded_records) := ⟨rfl, rfl, rfl, by decide +kernel, rfl, by decide +kernel, by decide +kernel⟩
abbrev s_coded_frame : Stmt := topS 85
theorem sc_coded_frame : FnScope ["values", "layout", "tables", "length", "joint", "levels", "step", "numbers", "value", "bits", "behind"] ["values", "layout", "tables"] (defScope s_coded_frame) := ⟨rfl, rfl, rfl, by decide +kernel, rfl, by decide +kernel, by decide +kernel⟩
abbrev s_even_plan : Stmt := topS 86
theorem sc_even_plan : FnScope ["length", "block", "joint", "levels", "step", "plan", "left", "start", "here", "behind", "right"] ["length", "block", "joint", "levels", "step"] (defScope s_even_plan) := ⟨rfl, rfl, rfl, by decide +kernel, rfl, by decide +kernel, by decide +kernel⟩
abbrev s_smallest : Stmt := topS 87
theorem sc_smallest : FnScope ["sound", "plans", "best", "stream", "index", "other"] ["sound", "plans"] (defScope s_smallest) := ⟨rfl, rfl, rfl, by decide +kernel, rfl, by decide +kernel, by decide +kernel⟩
abbrev s_check_plans : Stmt := topS 88
theorem sc_check_plans : FnScope ["plans", "length", "index", "plan"] ["plans", "length"] (defScope s_check_plans) := ⟨rfl, rfl, rfl, by decide +kernel, rfl, by decide +kernel, by decide +kernel⟩
abbrev s_pool : Stmt := topS 90
theorem sc_pool : FnScope ["_law_script", "_law_k", "_law_cell", "_law_number", "_law_mixed"] ["_law_script", "_law_k"] (defScope s_pool) := ⟨rfl, rfl, rfl, by decide +kernel, rfl, by decide +kernel, by decide +kernel⟩
abbrev s_take : Stmt := topS 91
theorem sc_take : FnScope ["_law_pool_here", "_law_many", "_law_digit"] ["_law_pool_here", "_law_many"] (defScope s_take) := ⟨rfl, rfl, rfl, by decide +kernel, rfl, by decide +kernel, by decide +kernel⟩
abbrev s_sound : Stmt := topS 92
theorem sc_sound : FnScope ["_law_pool_here", "_law_most", "_law_size", "_law_turn"] ["_law_pool_here", "_law_most", "_law_size"] (defScope s_sound) := ⟨rfl, rfl, rfl, by decide +kernel, rfl, by decide +kernel, by decide +kernel⟩
abbrev s_plan : Stmt := topS 93
theorem sc_plan : FnScope ["_law_pool_here", "_law_length", "_law_most", "_law_steps", "_law_plan_here", "_law_width", "_law_size", "_law_joint"] ["_law_pool_here", "_law_length", "_law_most", "_law_steps"] (defScope s_plan) := ⟨rfl, rfl, rfl, by decide +kernel, rfl, by decide +kernel, by decide +kernel⟩
abbrev s_even : Stmt := topS 94
theorem sc_even : FnScope ["_law_length", "_law_block", "_law_joint", "_law_levels", "_law_step", "_law_sizes", "_law_size", "_law_found", "_law_left", "_law_k", "_law_after", "_law_own"] ["_law_length", "_law_block", "_law_joint", "_law_levels", "_law_step"] (defScope s_even) := ⟨rfl, rfl, rfl, by decide +kernel, rfl, by decide +kernel, by decide +kernel⟩
abbrev s_said : Stmt := topS 95
theorem sc_said : FnScope ["_law_length", "_law_block", "_law_joint", "_law_levels", "_law_step", "e"] ["_law_length", "_law_block", "_law_joint", "_law_levels", "_law_step"] (defScope s_said) := ⟨rfl, rfl, rfl, by decide +kernel, rfl, by decide +kernel, by decide +kernel⟩
abbrev s_law : Stmt := topS 96
theorem sc_law : FnScope ["_law_script", "_law_k", "_law_pool_here", "_law_width", "_law_row", "_law_odd", "_law_at", "_law_sound_here", "_law_plans", "_law_turn", "_law_sizes", "_law_record", "_law_plan_here", "_law_stream"] ["_law_script"] (defScope s_law) := ⟨rfl, rfl, rfl, by decide +kernel, rfl, by decide +kernel, by decide +kernel⟩
abbrev s_Stream___init__ : Stmt := inClass (topS 78) 0
theorem sc_Stream___init__ : FnScope ["self", "records"] ["self", "records"] (defScope s_Stream___init__) := ⟨rfl, rfl, rfl, by decide +kernel, rfl, by decide +kernel, by decide +kernel⟩
abbrev s_Stream___eq__ : Stmt := inClass (topS 78) 1
theorem sc_Stream___eq__ : FnScope ["self", "other"] ["self", "other"] (defScope s_Stream___eq__) := ⟨rfl, rfl, rfl, by decide +kernel, rfl, by decide +kernel, by decide +kernel⟩
abbrev s_Stream_records : Stmt := inClass (topS 78) 4
theorem sc_Stream_records : FnScope ["self"] ["self"] (defScope s_Stream_records) := ⟨rfl, rfl, rfl, by decide +kernel, rfl, by decide +kernel, by decide +kernel⟩
abbrev s_Stream_size : Stmt := inClass (topS 78) 14
theorem sc_Stream_size : FnScope ["self", "record"] ["self"] (defScope s_Stream_size) := ⟨rfl, rfl, rfl, by decide +kernel, rfl, by decide +kernel, by decide +kernel⟩
abbrev s_init_InvalidNumber : Stmt := inClass (topS 3) 0
theorem sc_init_InvalidNumber : FnScope ["self", "value"] ["self", "value"] (defScope s_init_InvalidNumber) := ⟨rfl, rfl, rfl, by decide +kernel, rfl, by decide +kernel, by decide +kernel⟩
abbrev s_init_InvalidJoint : Stmt := inClass (topS 4) 0
theorem sc_init_InvalidJoint : FnScope ["self", "value"] ["self", "value"] (defScope s_init_InvalidJoint) := ⟨rfl, rfl, rfl, by decide +kernel, rfl, by decide +kernel, by decide +kernel⟩
section
variable {P : Program} {w : World} {K : PySem.W.Frag} {mg : Str → Option Value} {base : Heap}
theorem ok_init_InvalidNumber {f C : Addr} {fd : FuncData} (F : Fun K "__init__" "InvalidNumber.__init__" s_init_InvalidNumber f fd) (T : EC K mg "InvalidNumber" "value" C f) : FnOk P w K mg base CX0 1 f fd ["self", "value"] (spInit K C "value") := by
  refine lt_out ?_
  simp (disch := with_unfolding_all
    refine F.ok sc_init_InvalidNumber (fun vs H Q E h => ?_) (fun cdv A outer s H vs Q E hr h => ?_)
    · obtain ⟨a, v, rfl, _⟩ := h
      rfl
    · obtain ⟨a, v, rfl, ha, q⟩ := h
      exact ⟨_, (pss_one (ps_ost (pv 0) (pv 1))), v, rfl, .ref a, rfl, a, C, rfl, T.o, T.noF, .inl ⟨ha, fun dx n ne => q dx n ne⟩⟩
    ) only [↓lt_eq]
theorem ok_init_InvalidJoint {f C : Addr} {fd : FuncData} (F : Fun K "__init__" "InvalidJoint.__init__" s_init_InvalidJoint f fd) (T : EC K mg "InvalidJoint" "value" C f) : FnOk P w K mg base CX0 1 f fd ["self", "value"] (spInit K C "value") := by
  refine lt_out ?_
  simp (disch := with_unfolding_all
    refine F.ok sc_init_InvalidJoint (fun vs H Q E h => ?_) (fun cdv A outer s H vs Q E hr h => ?_)
    · obtain ⟨a, v, rfl, _⟩ := h
      rfl
    · obtain ⟨a, v, rfl, ha, q⟩ := h
      exact ⟨_, (pss_one (ps_ost (pv 0) (pv 1))), v, rfl, .ref a, rfl, a, C, rfl, T.o, T.noF, .inl ⟨ha, fun dx n ne => q dx n ne⟩⟩
    ) only [↓lt_eq]
theorem ok_is_integer {f : Addr} {fd : FuncData}     (D : Dn K mg "is_integer" s_is_integer ["value"] f fd) (bi : Bi mg)      : FnOk P w K mg base CX0 1 f fd ["value"] spIsI := by
  refine lt_out ?_
  simp (disch := with_unfolding_all
    refine D.F.ok sc_is_integer (fun vs H Q E h => ?_) (fun cdv A outer s H vs Q E hr h => ?_)
    · obtain ⟨x, rfl, _⟩ := h
      rfl
    · obtain ⟨x, rfl, t, q⟩ := h
      refine ⟨_, (pss_one (ps_ret (pe_and (pe_callB call_isi (by rfl) bi.isinstance_ (by decide +kernel) (pa_cons (pv 0) (pa_cons (pe_bltn (v := .ty "int") (by rfl) bi.int_ (by decide +kernel) rfl) pa_nil))) (pe_one (pe_not (pe_callB call_isi (by rfl) bi.isinstance_ (by decide +kernel) (pa_cons (pv 0) (pa_cons (pe_bltn (v := .ty "bool") (by rfl) bi.bool_ (by decide +kernel) rfl) pa_nil)))))))), ?_⟩
      refine rd_start (σ := [some x]) rfl ?_
      cases x with
      | non => walk_at "rd"; exact q
      | bl _ => walk_at "rd"; exact q
      | int _ => walk_at "rd"; exact q
      | str _ => walk_at "rd"; exact q
      | ref a =>
        rcases t with ⟨xs, t⟩ | ⟨xs, t⟩
        · walk_at "rd"; exact q
        · walk_at "rd"; exact q
      | byt _ => exact t.elim
      | flt _ => exact t.elim
      | ty _ => exact t.elim
    ) only [↓lt_eq]
theorem ok_is_within {f : Addr} {fd : FuncData} {f_is_integer : Addr} {fd_is_integer : FuncData}    (D : Dn K mg "is_within" s_is_within ["value", "low", "high"] f fd) (bi : Bi mg) (G_is_integer : FnOk P w K mg base CX0 1 f_is_integer fd_is_integer ["value"] spIsI) (D_is_integer : Dn K mg "is_integer" s_is_integer ["value"] f_is_integer fd_is_integer)     : FnOk P w K mg base CX0 2 f fd ["value", "low", "high"] spWithin := by
  refine lt_out ?_
  simp (disch := with_unfolding_all
    refine D.F.ok sc_is_within (fun vs H Q E h => ?_) (fun cdv A outer s H vs Q E hr h => ?_)
    · obtain ⟨x, lo, hi, rfl, _⟩ := h
      rfl
    · obtain ⟨x, lo, hi, rfl, t, q⟩ := h
      refine ⟨_, (pss_one (ps_ret (pe_and (pe_call G_is_integer (hr.mono (by first | decide | exact Nat.le_refl _)) (by rfl) D_is_integer.g D_is_integer.F.kp D_is_integer.b .nil pass0 (pa_cons (pv 0) pa_nil)) (pe_one (pe_chain op_le op_le (pv 1) (pv 0) (pv 2)))))), ?_⟩
      refine rd_start (σ := [some x, some (.int lo), some (.int hi)]) rfl ?_
      walk_at "rd"
      refine use_isi t (rd_bl ?_)
      cases x with
      | int i =>
        refine if_yes (c := isI (V.int i)) rfl ?_
        walk_at "rd"
        refine rd_iteD (p := lo ≤ i) (fun c => ?_) (fun c => ?_)
        · walk_at "rd"
          have e : inI (.int i) lo hi = decide (i ≤ hi) := by simp [inI, c]
          rw [e] at q
          exact q
        · have e : inI (.int i) lo hi = false := by simp [inI, c]
          rw [e] at q
          exact q
      | non => exact iteF q
      | bl _ => exact iteF q
      | str _ => exact iteF q
      | ref _ => exact iteF q
      | byt _ => exact iteF q
      | flt _ => exact iteF q
      | ty _ => exact iteF q
    ) only [↓lt_eq]
theorem ok_is_joint {f : Addr} {fd : FuncData} {f_is_within : Addr} {fd_is_within : FuncData}    (D : Dn K mg "is_joint" s_is_joint ["value"] f fd) (bi : Bi mg) (G_is_within : FnOk P w K mg base CX0 2 f_is_within fd_is_within ["value", "low", "high"] spWithin) (D_is_within : Dn K mg "is_within" s_is_within ["value", "low", "high"] f_is_within fd_is_within)    (g_WIDTH_LIMIT : ∃ t, mg "WIDTH_LIMIT" = some (.int 8 t)) (g_SHAPE_LIMIT : ∃ t, mg "SHAPE_LIMIT" = some (.int 3 t)) : FnOk P w K mg base CX0 3 f fd ["value"] spJ := by
  refine lt_out ?_
  simp (disch := with_unfolding_all
    refine D.F.ok sc_is_joint (fun vs H Q E h => ?_) (fun cdv A outer s H vs Q E hr h => ?_)
    · obtain ⟨x, b, rfl, _⟩ := h
      rfl
    · obtain ⟨x, b, rfl, hj, q⟩ := h
      obtain ⟨t1, g_WIDTH_LIMIT⟩ := g_WIDTH_LIMIT
      obtain ⟨t2, g_SHAPE_LIMIT⟩ := g_SHAPE_LIMIT
      refine ⟨_, (pss_cons (ps_if (PW.pt (pw_or (pt_not (pt_val (pe_callB call_isi (by rfl) bi.isinstance_ (by decide +kernel) (pa_cons (pv 0) (pa_cons (pe_bltn (v := .ty "tuple") (by rfl) bi.tuple_ (by decide +kernel) rfl) pa_nil))))) (pw_or1 (pt_cmpR op_ne (pe_callB cLen (by rfl) bi.len_ (by decide +kernel) (pa_cons (pv 0) pa_nil)) pe_int (nomark _)))))
   (pss_one (ps_ret pe_bl))
   pss_nil)
   (pss_cons (ps_asg (pv 0) (pg_tup rfl (pgs_cons (pg_name (i := 1) sc_is_joint.nd rfl (Or.inl rfl)) (pgs_cons (pg_name (i := 2) sc_is_joint.nd rfl (Or.inl rfl)) pgs_nil))))
   (pss_cons (ps_if (PW.pt (pw_or (pt_not (pt_val (pe_call G_is_within (hr.mono (by first | decide | exact Nat.le_refl _)) (by rfl) D_is_within.g D_is_within.F.kp D_is_within.b .nil pass0 (pa_cons (pv 1) (pa_cons pe_int (pa_cons (pe_glob (v := .int 8) (by rfl) g_WIDTH_LIMIT ⟨_, rfl⟩) pa_nil)))))) (pw_or1 (pt_not (pt_val (pe_call G_is_within (hr.mono (by first | decide | exact Nat.le_refl _)) (by rfl) D_is_within.g D_is_within.F.kp D_is_within.b .nil pass0 (pa_cons (pv 2) (pa_cons pe_int (pa_cons (pe_glob (v := .int 3) (by rfl) g_SHAPE_LIMIT ⟨_, rfl⟩) pa_nil)))))))))
   (pss_one (ps_ret pe_bl))
   pss_nil)
   (pss_one (ps_ret (pe_or (pe_cmpR op_gt (pv 1) pe_int (nomark _)) (pe_one (pe_cmpR op_eq (pv 2) pe_int (nomark _))))))))), ?_⟩
      refine rd_start (σ := [some x, none, none]) rfl ?_
      cases hj with
      | @flat _ h =>
        cases x with
        | non => walk_at "rd"; exact q
        | bl _ => walk_at "rd"; exact q
        | int _ => walk_at "rd"; exact q
        | str _ => walk_at "rd"; exact q
        | ref _ => exact Bool.noConfusion h
        | byt _ => exact Bool.noConfusion h
        | flt _ => exact Bool.noConfusion h
        | ty _ => exact Bool.noConfusion h
      | @lst a xs h => walk_at "rd"; exact q
      | @tupn a xs h n =>
        walk_at "rd"
        refine if_yesN (fun z => n (Int.ofNat.inj (V.int.inj z))) ?_
        walk_at "rd"
        exact q
      | @tup2 a u v h hu hv =>
        walk_at "rd"
        refine if_noN rfl ?_
        walk_at "rd"
        refine use_within hu ?_
        walk_at "rd"
        cases cu : inI u 0 8 with
        | false =>
          rw [jt_no1 cu] at q
          walk_at "rd"
          exact q
        | true =>
          walk_at "rd"
          refine use_within hv ?_
          walk_at "rd"
          cases cv : inI v 0 3 with
          | false =>
            rw [jt_no2 cv] at q
            walk_at "rd"
            exact q
          | true =>
            obtain ⟨w1, rfl⟩ := isI_yes (inI_isI cu)
            obtain ⟨w2, rfl⟩ := isI_yes (inI_isI cv)
            have e : jt (.int w1) (.int w2) = (decide (0 < w1) || decide (w2 = 0)) := by unfold jt; rw [cu, cv]; rfl
            rw [e] at q
            walk_at "rd"
            refine rd_iteD (fun c => ?_) (fun c => ?_)
            · rw [decide_eq_true c] at q
              exact q
            · walk_at "rd"
              rw [decide_eq_false c, ← dec_i0] at q
              exact q
    ) only [↓lt_eq]
theorem ok_is_table {f : Addr} {fd : FuncData} {f_is_integer : Addr} {fd_is_integer : FuncData} {f_is_within : Addr} {fd_is_within : FuncData}    (D : Dn K mg "is_table" s_is_table ["value"] f fd) (bi : Bi mg) (G_is_integer : FnOk P w K mg base CX0 1 f_is_integer fd_is_integer ["value"] spIsI) (D_is_integer : Dn K mg "is_integer" s_is_integer ["value"] f_is_integer fd_is_integer) (G_is_within : FnOk P w K mg base CX0 2 f_is_within fd_is_within ["value", "low", "high"] spWithin) (D_is_within : Dn K mg "is_within" s_is_within ["value", "low", "high"] f_is_within fd_is_within)    (g_COUNT_LIMIT : ∃ t, mg "COUNT_LIMIT" = some (.int 15 t)) : FnOk P w K mg base CX0 3 f fd ["value"] (spTblG K) := by
  refine lt_out ?_
  simp (disch := with_unfolding_all
    refine D.F.ok sc_is_table (fun vs H Q E h => ?_) (fun cdv A outer s H vs Q E hr h => ?_)
    · obtain ⟨a, t, m, rfl, _⟩ := h
      rfl
    · obtain ⟨a, t, m, rfl, h1, ok, q⟩ := h
      obtain ⟨t1, g_COUNT_LIMIT⟩ := g_COUNT_LIMIT
      have L1 := h1.1
      obtain ⟨o1, o2, o3, o4⟩ := ok
      refine ⟨_, (pss_cons (ps_if (PW.pt (pw_or (pt_not (pt_val (pe_callB call_isi (by rfl) bi.isinstance_ (by decide +kernel) (pa_cons (pv 0) (pa_cons (pe_bltn (v := .ty "tuple") (by rfl) bi.tuple_ (by decide +kernel) rfl) pa_nil))))) (pw_or1 (pt_cmpR op_ne (pe_callB cLen (by rfl) bi.len_ (by decide +kernel) (pa_cons (pv 0) pa_nil)) pe_int (nomark _)))))
   (pss_one (ps_ret pe_bl))
   pss_nil)
   (pss_cons (ps_asg (pv 0) (pg_tup rfl (pgs_cons (pg_name (i := 1) sc_is_table.nd rfl (Or.inl rfl)) (pgs_cons (pg_name (i := 2) sc_is_table.nd rfl (Or.inl rfl)) pgs_nil))))
   (pss_one (ps_ret (pe_and (pe_call G_is_integer (hr.mono (by first | decide | exact Nat.le_refl _)) (by rfl) D_is_integer.g D_is_integer.F.kp D_is_integer.b .nil pass0 (pa_cons (pv 1) pa_nil)) (pe_and (pe_cmpR op_ge (pv 1) pe_int (nomark _)) (pe_one (pe_call G_is_within (hr.mono (by first | decide | exact Nat.le_refl _)) (by rfl) D_is_within.g D_is_within.F.kp D_is_within.b .nil pass0 (pa_cons (pv 2) (pa_cons pe_int (pa_cons (pe_glob (v := .int 15) (by rfl) g_COUNT_LIMIT ⟨_, rfl⟩) pa_nil))))))))))), ?_⟩
      refine rd_start (σ := [some (.ref a), none, none]) rfl ?_
      walk_at "rd"
      refine isi_ty h1.2 (d := true) (by decide +kernel) ?_
      walk_at "rd"
      refine if_noN rfl ?_
      walk_at "rd"
      rw [decide_eq_true (show t.1 ≥ 0 from o1)]
      walk_at "rd"
      rw [decide_eq_true (show 1 ≤ t.2 ∧ t.2 ≤ 15 from ⟨o3, o4⟩)]
      exact q
    ) only [↓lt_eq]
theorem ok_is_tables {f : Addr} {fd : FuncData} {f_is_table : Addr} {fd_is_table : FuncData}    (D : Dn K mg "is_tables" s_is_tables ["value"] f fd) (bi : Bi mg) (G_is_table : FnOk P w K mg base CX0 3 f_is_table fd_is_table ["value"] (spTblG K)) (D_is_table : Dn K mg "is_table" s_is_table ["value"] f_is_table fd_is_table)     : FnOk P w K mg base CX0 4 f fd ["value"] (spTblsG K) := by
  refine lt_out ?_
  simp (disch := with_unfolding_all
    refine D.F.ok sc_is_tables (fun vs H Q E h => ?_) (fun cdv A outer s H vs Q E hr h => ?_)
    · obtain ⟨a, T, m, rfl, _⟩ := h
      rfl
    · obtain ⟨a, T, m, rfl, ⟨r0, r1, h0, h1, h2⟩, o1, o2, q⟩ := h
      have L1 := h0.1
      refine ⟨_, (pss_one (ps_ret (pe_and (pe_callB call_isi (by rfl) bi.isinstance_ (by decide +kernel) (pa_cons (pv 0) (pa_cons (pe_bltn (v := .ty "tuple") (by rfl) bi.tuple_ (by decide +kernel) rfl) pa_nil))) (pe_and (pe_cmpR op_eq (pe_callB cLen (by rfl) bi.len_ (by decide +kernel) (pa_cons (pv 0) pa_nil)) pe_int (nomark _)) (pe_and (pe_call G_is_table (hr.mono (by first | decide | exact Nat.le_refl _)) (by rfl) D_is_table.g D_is_table.F.kp D_is_table.b .nil pass0 (pa_cons (pe_ix ix_tup (pv 0) pe_int (fun _ _ => rfl)) pa_nil)) (pe_one (pe_call G_is_table (hr.mono (by first | decide | exact Nat.le_refl _)) (by rfl) D_is_table.g D_is_table.F.kp D_is_table.b .nil pass0 (pa_cons (pe_ix ix_tup (pv 0) pe_int (fun _ _ => rfl)) pa_nil)))))))), ?_⟩
      refine rd_start (σ := [some (.ref a)]) rfl ?_
      walk_at "rd"
      refine isi_ty h0.2 (d := true) (by decide +kernel) ?_
      walk_at "rd"
      refine if_yesD rfl ?_
      walk_at "rd"
      refine use_tblG h1 o1 ?_
      walk_at "rd"
      refine use_tblG h2 o2 ?_
      exact q
    ) only [↓lt_eq]
theorem ok_is_bits {f : Addr} {fd : FuncData}     (D : Dn K mg "is_bits" s_is_bits ["value"] f fd) (bi : Bi mg)      : FnOk P w K mg base CX0 1 f fd ["value"] spIsB := by
  refine lt_out ?_
  simp (disch := with_unfolding_all
    refine D.F.ok sc_is_bits (fun vs H Q E h => ?_) (fun cdv A outer s H vs Q E hr h => ?_)
    · obtain ⟨l, rfl, _⟩ := h
      rfl
    · obtain ⟨l, rfl, hb, hl, q⟩ := h
      have hl2 : l.length ≤ 16777216 := by omega
      refine ⟨_, (pss_one (ps_ret (pe_and (pe_callB call_isi (by rfl) bi.isinstance_ (by decide +kernel) (pa_cons (pv 0) (pa_cons (pe_bltn (v := .ty "str") (by rfl) bi.str_ (by decide +kernel) rfl) pa_nil))) (pe_one (pe_cmpR op_eq (pe_bm PySem.F.plainAttrs_str PySem.F.slot_str_strip PySem.F.type_str_strip mt_stripK (pv 0) (pa_cons pe_str pa_nil)) pe_str (nomark _)))))), ?_⟩
      refine rd_start (σ := [some (.str (SX.S l))]) rfl ?_
      walk_at "rd"
      exact rd_decT (congrArg V.str e_empty.symm) q
    ) only [↓lt_eq]
theorem ok_is_layout {f : Addr} {fd : FuncData} {f_is_within : Addr} {fd_is_within : FuncData} {f_is_joint : Addr} {fd_is_joint : FuncData}    (D : Dn K mg "is_layout" s_is_layout ["value"] f fd) (bi : Bi mg) (G_is_within : FnOk P w K mg base CX0 2 f_is_within fd_is_within ["value", "low", "high"] spWithin) (D_is_within : Dn K mg "is_within" s_is_within ["value", "low", "high"] f_is_within fd_is_within) (G_is_joint : FnOk P w K mg base CX0 3 f_is_joint fd_is_joint ["value"] spJ) (D_is_joint : Dn K mg "is_joint" s_is_joint ["value"] f_is_joint fd_is_joint)    (g_BLOCK_LIMIT : ∃ t, mg "BLOCK_LIMIT" = some (.int 64 t)) (g_LEVEL_LIMIT : ∃ t, mg "LEVEL_LIMIT" = some (.int 5 t)) (g_STEP_LIMIT : ∃ t, mg "STEP_LIMIT" = some (.int 64 t)) : FnOk P w K mg base CX0 4 f fd ["value"] spIsLay := by
  refine lt_out ?_
  simp (disch := with_unfolding_all
    refine D.F.ok sc_is_layout (fun vs H Q E h => ?_) (fun cdv A outer s H vs Q E hr h => ?_)
    · obtain ⟨a, j, d, rfl, _⟩ := h
      rfl
    · obtain ⟨a, j, d, rfl, ⟨h, hj⟩, hok, q⟩ := h
      obtain ⟨ln, w, sh, lv, st⟩ := d
      obtain ⟨k1, k2, k3, k4, k5, k6, k7, k8⟩ := hok
      dsimp only at k1 k2 k3 k4 k5 k6 k7 k8 h hj
      obtain ⟨t1, g_BLOCK_LIMIT⟩ := g_BLOCK_LIMIT
      obtain ⟨t2, g_LEVEL_LIMIT⟩ := g_LEVEL_LIMIT
      obtain ⟨t3, g_STEP_LIMIT⟩ := g_STEP_LIMIT
      refine ⟨_, (pss_cons (ps_if (PW.pt (pw_or (pt_not (pt_val (pe_callB call_isi (by rfl) bi.isinstance_ (by decide +kernel) (pa_cons (pv 0) (pa_cons (pe_bltn (v := .ty "tuple") (by rfl) bi.tuple_ (by decide +kernel) rfl) pa_nil))))) (pw_or1 (pt_cmpR op_ne (pe_callB cLen (by rfl) bi.len_ (by decide +kernel) (pa_cons (pv 0) pa_nil)) pe_int (nomark _)))))
   (pss_one (ps_ret pe_bl))
   pss_nil)
   (pss_cons (ps_asg (pv 0) (pg_tup rfl (pgs_cons (pg_name (i := 1) sc_is_layout.nd rfl (Or.inl rfl)) (pgs_cons (pg_name (i := 2) sc_is_layout.nd rfl (Or.inl rfl)) (pgs_cons (pg_name (i := 3) sc_is_layout.nd rfl (Or.inl rfl)) (pgs_cons (pg_name (i := 4) sc_is_layout.nd rfl (Or.inl rfl)) pgs_nil))))))
   (pss_cons (ps_if (PW.pt (pw_or (pt_not (pt_val (pe_call G_is_within (hr.mono (by first | decide | exact Nat.le_refl _)) (by rfl) D_is_within.g D_is_within.F.kp D_is_within.b .nil pass0 (pa_cons (pv 1) (pa_cons pe_int (pa_cons (pe_glob (v := .int 64) (by rfl) g_BLOCK_LIMIT ⟨_, rfl⟩) pa_nil)))))) (pw_or1 (pt_not (pt_val (pe_call G_is_joint (hr.mono (by first | decide | exact Nat.le_refl _)) (by rfl) D_is_joint.g D_is_joint.F.kp D_is_joint.b .nil pass0 (pa_cons (pv 2) pa_nil)))))))
   (pss_one (ps_ret pe_bl))
   pss_nil)
   (pss_one (ps_ret (pe_and (pe_call G_is_within (hr.mono (by first | decide | exact Nat.le_refl _)) (by rfl) D_is_within.g D_is_within.F.kp D_is_within.b .nil pass0 (pa_cons (pv 3) (pa_cons pe_int (pa_cons (pe_glob (v := .int 5) (by rfl) g_LEVEL_LIMIT ⟨_, rfl⟩) pa_nil)))) (pe_one (pe_call G_is_within (hr.mono (by first | decide | exact Nat.le_refl _)) (by rfl) D_is_within.g D_is_within.F.kp D_is_within.b .nil pass0 (pa_cons (pv 4) (pa_cons pe_int (pa_cons (pe_glob (v := .int 64) (by rfl) g_STEP_LIMIT ⟨_, rfl⟩) pa_nil))))))))))), ?_⟩
      refine rd_start (σ := [some (.ref a), none, none, none, none]) rfl ?_
      walk_at "rd"
      refine if_noN rfl ?_
      walk_at "rd"
      rw [decide_eq_true (show (1 : Int) ≤ (ln : Int) ∧ (ln : Int) ≤ 64 by omega)]
      walk_at "rd"
      have jr := JR.tup2 hj trivial trivial
      rw [jt_ok (j := (0, w, sh)) k3 k4 k5] at jr
      refine use_j jr (rd_bl ?_)
      walk_at "rd"
      rw [decide_eq_true (show (0 : Int) ≤ (lv : Int) ∧ (lv : Int) ≤ 5 by omega)]
      walk_at "rd"
      exact rd_decT (by omega) q
    ) only [↓lt_eq]
theorem ok_is_frame {f : Addr} {fd : FuncData} {f_is_layout : Addr} {fd_is_layout : FuncData} {f_is_within : Addr} {fd_is_within : FuncData} {f_is_bits : Addr} {fd_is_bits : FuncData}    (D : Dn K mg "is_frame" s_is_frame ["value"] f fd) (bi : Bi mg) (G_is_layout : FnOk P w K mg base CX0 4 f_is_layout fd_is_layout ["value"] spIsLay) (D_is_layout : Dn K mg "is_layout" s_is_layout ["value"] f_is_layout fd_is_layout) (G_is_within : FnOk P w K mg base CX0 2 f_is_within fd_is_within ["value", "low", "high"] spWithin) (D_is_within : Dn K mg "is_within" s_is_within ["value", "low", "high"] f_is_within fd_is_within) (G_is_bits : FnOk P w K mg base CX0 1 f_is_bits fd_is_bits ["value"] spIsB) (D_is_bits : Dn K mg "is_bits" s_is_bits ["value"] f_is_bits fd_is_bits)    (g_FRAME_ITEMS : ∃ t, mg "FRAME_ITEMS" = some (.int 7 t)) (g_MARK_MODULUS : ∃ t, mg "MARK_MODULUS" = some (.int 9973 t)) : FnOk P w K mg base CX0 5 f fd ["value"] (spIsFr K) := by
  refine lt_out ?_
  simp (disch := with_unfolding_all
    refine D.F.ok sc_is_frame (fun vs H Q E h => ?_) (fun cdv A outer s H vs Q E hr h => ?_)
    · obtain ⟨v, d, ns, T, rfl, _⟩ := h
      rfl
    · obtain ⟨v, d, ns, T, rfl, ⟨a, j, rfl, h, hj⟩, ok, q⟩ := h
      obtain ⟨bl, bb⟩ := bitsF_len ok
      obtain ⟨m0, m1⟩ := markF_bound ns
      unfold FrAt at h
      obtain ⟨t1, g_FRAME_ITEMS⟩ := g_FRAME_ITEMS
      obtain ⟨t2, g_MARK_MODULUS⟩ := g_MARK_MODULUS
      refine ⟨_, (pss_cons (ps_if (PW.pt (pw_or (pt_not (pt_val (pe_callB call_isi (by rfl) bi.isinstance_ (by decide +kernel) (pa_cons (pv 0) (pa_cons (pe_bltn (v := .ty "tuple") (by rfl) bi.tuple_ (by decide +kernel) rfl) pa_nil))))) (pw_or (pt_cmpR op_ne (pe_callB cLen (by rfl) bi.len_ (by decide +kernel) (pa_cons (pv 0) pa_nil)) (pe_glob (v := .int 7) (by rfl) g_FRAME_ITEMS ⟨_, rfl⟩) (nomark _)) (pw_or1 (pt_cmpR op_ne (pe_ix ix_tup (pv 0) pe_int (fun _ _ => rfl)) pe_str (nomark _))))))
   (pss_one (ps_ret pe_bl))
   pss_nil)
   (pss_cons (ps_asg (pe_slice sl_tup (pv 0) (po_some pe_int) po_none) (pg_tup rfl (pgs_cons (pg_name (i := 1) sc_is_frame.nd rfl (Or.inl rfl)) (pgs_cons (pg_name (i := 2) sc_is_frame.nd rfl (Or.inl rfl)) pgs_nil))))
   (pss_one (ps_ret (pe_and (pe_call G_is_layout (hr.mono (by first | decide | exact Nat.le_refl _)) (by rfl) D_is_layout.g D_is_layout.F.kp D_is_layout.b .nil pass0 (pa_cons (pe_slice sl_tup (pv 0) (po_some pe_int) (po_some pe_int)) pa_nil)) (pe_and (pe_call G_is_within (hr.mono (by first | decide | exact Nat.le_refl _)) (by rfl) D_is_within.g D_is_within.F.kp D_is_within.b .nil pass0 (pa_cons (pv 1) (pa_cons pe_int (pa_cons (pe_op op_sub (pe_glob (v := .int 9973) (by rfl) g_MARK_MODULUS ⟨_, rfl⟩) pe_int) pa_nil)))) (pe_one (pe_call G_is_bits (hr.mono (by first | decide | exact Nat.le_refl _)) (by rfl) D_is_bits.g D_is_bits.F.kp D_is_bits.b .nil pass0 (pa_cons (pv 2) pa_nil))))))))), ?_⟩
      refine rd_start (σ := [some (.ref a), none, none]) rfl ?_
      walk_at "rd"
      refine if_noN rfl ?_
      walk_at "rd"
      refine if_noN rfl ?_
      walk_at "rd"
      refine rd_slTp (SqT.of h) (ys := [.int (markF ns), .str (SX.S (bitsF d ns T))]) rfl (show ¬ (HT.sIx 7 0 (some 5) = 0 ∧ HT.sIx 7 7 none = 7) by decide) fun p1 hp1 => ?_
      walk_at "rd"
      refine rd_slTp (SqT.of (look_new hp1 h)) (ys := [.int (d.1 : Nat), .ref j, .int (d.2.2.2.1 : Nat), .int (d.2.2.2.2 : Nat)]) rfl (show ¬ (HT.sIx 7 0 (some 1) = 0 ∧ HT.sIx 7 7 (some 5) = 7) by decide) fun p2 hp2 => ?_
      have s2 : Same H (upd (upd H p1 (.tup [.int (markF ns), .str (SX.S (bitsF d ns T))])) p2 (.tup [.int (d.1 : Nat), .ref j, .int (d.2.2.2.1 : Nat), .int (d.2.2.2.2 : Nat)])) := (same_new hp1).trans (same_new hp2)
      walk_at "rd"
      refine use_islay (d := d) ⟨upd_same, s2 _ _ hj⟩ ok.1 ?_
      walk_at "rd"
      rw [decide_eq_true (show (0 : Int) ≤ markF ns ∧ markF ns ≤ 9973 - 1 by omega)]
      walk_at "rd"
      exact use_isb bb bl (q _ s2)
    ) only [↓lt_eq]
theorem ok_is_state {f : Addr} {fd : FuncData} {f_is_tables : Addr} {fd_is_tables : FuncData}    (D : Dn K mg "is_state" s_is_state ["value"] f fd) (bi : Bi mg) (G_is_tables : FnOk P w K mg base CX0 4 f_is_tables fd_is_tables ["value"] (spTblsG K)) (D_is_tables : Dn K mg "is_tables" s_is_tables ["value"] f_is_tables fd_is_tables)     : FnOk P w K mg base CX0 5 f fd ["value"] (spIsSt K) := by
  refine lt_out ?_
  simp (disch := with_unfolding_all
    refine D.F.ok sc_is_state (fun vs H Q E h => ?_) (fun cdv A outer s H vs Q E hr h => ?_)
    · obtain ⟨v, r, rfl, _⟩ := h
      rfl
    · obtain ⟨v, r, rfl, hr1, ok, q⟩ := h
      cases r with
      | st T =>
        obtain ⟨a, t, rfl, h, hT⟩ := hr1
        refine ⟨_, (pss_one (ps_ret (pe_and (pe_callB call_isi (by rfl) bi.isinstance_ (by decide +kernel) (pa_cons (pv 0) (pa_cons (pe_bltn (v := .ty "tuple") (by rfl) bi.tuple_ (by decide +kernel) rfl) pa_nil))) (pe_and (pe_cmpR op_eq (pe_callB cLen (by rfl) bi.len_ (by decide +kernel) (pa_cons (pv 0) pa_nil)) pe_int (nomark _)) (pe_and (pe_cmpR op_eq (pe_ix ix_tup (pv 0) pe_int (fun _ _ => rfl)) pe_str (nomark _)) (pe_one (pe_call G_is_tables (hr.mono (by first | decide | exact Nat.le_refl _)) (by rfl) D_is_tables.g D_is_tables.F.kp D_is_tables.b .nil pass0 (pa_cons (pe_ix ix_tup (pv 0) pe_int (fun _ _ => rfl)) pa_nil)))))))), ?_⟩
        refine rd_start (σ := [some (.ref a)]) rfl ?_
        walk_at "rd"
        refine if_yesD rfl ?_
        walk_at "rd"
        refine if_yesD rfl ?_
        walk_at "rd"
        exact use_tblsG hT ok.1 ok.2 q
      | fr d ns T =>
        obtain ⟨a, j, rfl, h, hj⟩ := hr1
        unfold FrAt at h
        refine ⟨_, (pss_one (ps_ret (pe_and (pe_callB call_isi (by rfl) bi.isinstance_ (by decide +kernel) (pa_cons (pv 0) (pa_cons (pe_bltn (v := .ty "tuple") (by rfl) bi.tuple_ (by decide +kernel) rfl) pa_nil))) (pe_and (pe_cmpR op_eq (pe_callB cLen (by rfl) bi.len_ (by decide +kernel) (pa_cons (pv 0) pa_nil)) pe_int (nomark _)) (pe_and (pe_cmpR op_eq (pe_ix ix_tup (pv 0) pe_int (fun _ _ => rfl)) pe_str (nomark _)) (pe_one (pe_call G_is_tables (hr.mono (by first | decide | exact Nat.le_refl _)) (by rfl) D_is_tables.g D_is_tables.F.kp D_is_tables.b .nil pass0 (pa_cons (pe_ix ix_tup (pv 0) pe_int (fun _ _ => rfl)) pa_nil)))))))), ?_⟩
        refine rd_start (σ := [some (.ref a)]) rfl ?_
        walk_at "rd"
        refine if_noD (fun z => absurd (show (7 : Int) = 2 from V.int.inj z) (by decide)) ?_
        exact q
    ) only [↓lt_eq]
theorem ok_is_record {f : Addr} {fd : FuncData} {f_is_state : Addr} {fd_is_state : FuncData} {f_is_frame : Addr} {fd_is_frame : FuncData}    (D : Dn K mg "is_record" s_is_record ["value"] f fd) (bi : Bi mg) (G_is_state : FnOk P w K mg base CX0 5 f_is_state fd_is_state ["value"] (spIsSt K)) (D_is_state : Dn K mg "is_state" s_is_state ["value"] f_is_state fd_is_state) (G_is_frame : FnOk P w K mg base CX0 5 f_is_frame fd_is_frame ["value"] (spIsFr K)) (D_is_frame : Dn K mg "is_frame" s_is_frame ["value"] f_is_frame fd_is_frame)     : FnOk P w K mg base CX0 6 f fd ["value"] (spIsRc K) := by
  refine lt_out ?_
  simp (disch := with_unfolding_all
    refine D.F.ok sc_is_record (fun vs H Q E h => ?_) (fun cdv A outer s H vs Q E hr h => ?_)
    · obtain ⟨v, r, rfl, _⟩ := h
      rfl
    · obtain ⟨v, r, rfl, hr1, ok, q⟩ := h
      refine ⟨_, (pss_one (ps_ret (pe_or (pe_call G_is_state (hr.mono (by first | decide | exact Nat.le_refl _)) (by rfl) D_is_state.g D_is_state.F.kp D_is_state.b .nil pass0 (pa_cons (pv 0) pa_nil)) (pe_one (pe_call G_is_frame (hr.mono (by first | decide | exact Nat.le_refl _)) (by rfl) D_is_frame.g D_is_frame.F.kp D_is_frame.b .nil pass0 (pa_cons (pv 0) pa_nil)))))), ?_⟩
      refine rd_start (σ := [some v]) rfl ?_
      walk_at "rd"
      refine use_isst hr1 ok ?_
      cases r with
      | st T =>
        walk_at "rd"
        exact q _ (Same.refl _)
      | fr d ns T =>
        refine rd_bl (if_no rfl ?_)
        walk_at "rd"
        exact use_isfr hr1 ok q
    ) only [↓lt_eq]
theorem ok_check_records {f : Addr} {fd : FuncData} {f_is_record : Addr} {fd_is_record : FuncData}    (D : Dn K mg "check_records" s_check_records ["records"] f fd) (bi : Bi mg) (G_is_record : FnOk P w K mg base CX0 6 f_is_record fd_is_record ["value"] (spIsRc K)) (D_is_record : Dn K mg "is_record" s_is_record ["value"] f_is_record fd_is_record)     : FnOk P w K mg base CX0 7 f fd ["records"] (spCkRc K) := by
  refine lt_out ?_
  simp (disch := with_unfolding_all
    refine D.F.ok sc_check_records (fun vs H Q E h => ?_) (fun cdv A outer s H vs Q E hr h => ?_)
    · obtain ⟨a, refs, rs, rfl, _⟩ := h
      rfl
    · obtain ⟨a, refs, rs, rfl, hS, hR, ok, q⟩ := h
      refine ⟨_, (pss_cons (ps_if (pt_not (pt_val (pe_callB call_isiT (by rfl) bi.isinstance_ (by decide +kernel) (pa_cons (pv 0) (pa_cons (pe_tup (pa_cons (pe_bltn (v := .ty "list") (by rfl) bi.list_ (by decide +kernel) rfl) (pa_cons (pe_bltn (v := .ty "tuple") (by rfl) bi.tuple_ (by decide +kernel) rfl) pa_nil))) pa_nil)))))
   (pss_one ps_never)
   pss_nil)
   (pss_one (ps_for PassesOwn.never rfl (pi_enum (by rfl) bi.enumerate_ (pa_cons (pv 0) pa_nil)) (pg_tup rfl (pgs_cons (pg_name (i := 1) sc_check_records.nd rfl (Or.inl rfl)) (pgs_cons (pg_name (i := 2) sc_check_records.nd rfl (Or.inl rfl)) pgs_nil)))
   (pss_one (ps_if (pt_not (pt_val (pe_call G_is_record (hr.mono (by first | decide | exact Nat.le_refl _)) (by rfl) D_is_record.g D_is_record.F.kp D_is_record.b .nil pass0 (pa_cons (pv 2) pa_nil))))
   (pss_one ps_never)
   pss_nil))))), ?_⟩
      refine rd_start (σ := [some (.ref a), none, none]) rfl ?_
      walk_at "rd"
      rename_i t ht
      refine isiT_lst (look_new ht hS) upd_same ?_
      walk_at "rd"
      refine rd_lpE (SqL.of (look_new ht hS)) ?_
      refine for_enum (xs := refs) (fun i σ H' => ∃ t u, σ = [some (.ref a), t, u] ∧ Same H H') ⟨none, none, rfl, same_new ht⟩ (fun i σ H1 _ hI => ?_) (fun i v σ H1 T hv hI hT => ?_) (fun σ H1 hI => ?_)
      · obtain ⟨t, u, rfl, hs⟩ := hI
        exact SqL.of (hs _ _ hS)
      · obtain ⟨t, u, rfl, hs⟩ := hI
        obtain ⟨r, rr, hv2, hdr, _⟩ := hR.get _ _ hv
        have hmem : r ∈ rs := List.mem_of_mem_drop (i := i) (by rw [hdr]; exact List.mem_cons_self)
        have hs2 := hs.trans (same_new (o := .tup [.int (i : Int), v]) hT)
        walk_at "rd"
        refine use_isrc (hv2.lk (.of hs2)) (ok _ hmem) fun H2 hs3 => ?_
        walk_at "rd"
        exact ⟨_, _, rfl, hs2.trans hs3⟩
      · obtain ⟨t, u, rfl, hs⟩ := hI
        walk_at "rd"
        exact q _ hs
    ) only [↓lt_eq]
theorem ok_check_within {f : Addr} {fd : FuncData} {f_is_within : Addr} {fd_is_within : FuncData}    (D : Dn K mg "check_within" s_check_within ["value", "low", "high"] f fd) (bi : Bi mg) (G_is_within : FnOk P w K mg base CX0 2 f_is_within fd_is_within ["value", "low", "high"] spWithin) (D_is_within : Dn K mg "is_within" s_is_within ["value", "low", "high"] f_is_within fd_is_within)     : FnOk P w K mg base CX0 3 f fd ["value", "low", "high"] spCkW := by
  refine lt_out ?_
  simp (disch := with_unfolding_all
    refine D.F.ok sc_check_within (fun vs H Q E h => ?_) (fun cdv A outer s H vs Q E hr h => ?_)
    · obtain ⟨i, lo, hi, rfl, _⟩ := h
      rfl
    · obtain ⟨i, lo, hi, rfl, h1, h2, q⟩ := h
      refine ⟨_, (pss_one (ps_if (pt_not (pt_val (pe_call G_is_within (hr.mono (by first | decide | exact Nat.le_refl _)) (by rfl) D_is_within.g D_is_within.F.kp D_is_within.b .nil pass0 (pa_cons (pv 0) (pa_cons (pv 1) (pa_cons (pv 2) pa_nil))))))
   (pss_one ps_never)
   pss_nil)), ?_⟩
      refine rd_start (σ := [some (.int i), some (.int lo), some (.int hi)]) rfl ?_
      walk_at "rd"
      refine rd_iteN (p := lo ≤ i ∧ i ≤ hi) (fun c => (c ⟨h1, h2⟩).elim) (fun c => ?_)
      exact q
    ) only [↓lt_eq]
theorem ok_check_integer {f : Addr} {fd : FuncData} {f_is_integer : Addr} {fd_is_integer : FuncData}    (D : Dn K mg "check_integer" s_check_integer ["value"] f fd) (bi : Bi mg) (G_is_integer : FnOk P w K mg base CX0 1 f_is_integer fd_is_integer ["value"] spIsI) (D_is_integer : Dn K mg "is_integer" s_is_integer ["value"] f_is_integer fd_is_integer)     : FnOk P w K mg base CX0 2 f fd ["value"] spCkI := by
  refine lt_out ?_
  simp (disch := with_unfolding_all
    refine D.F.ok sc_check_integer (fun vs H Q E h => ?_) (fun cdv A outer s H vs Q E hr h => ?_)
    · obtain ⟨i, rfl, _⟩ := h
      rfl
    · obtain ⟨i, rfl, q⟩ := h
      refine ⟨_, (pss_one (ps_if (pt_not (pt_val (pe_call G_is_integer (hr.mono (by first | decide | exact Nat.le_refl _)) (by rfl) D_is_integer.g D_is_integer.F.kp D_is_integer.b .nil pass0 (pa_cons (pv 0) pa_nil))))
   (pss_one ps_never)
   pss_nil)), ?_⟩
      refine rd_start (σ := [some (.int i)]) rfl ?_
      walk_at "rd"
      exact q
    ) only [↓lt_eq]
theorem ok_check_items {f : Addr} {fd : FuncData} {f_is_integer : Addr} {fd_is_integer : FuncData}    (D : Dn K mg "check_items" s_check_items ["values"] f fd) (bi : Bi mg) (G_is_integer : FnOk P w K mg base CX0 1 f_is_integer fd_is_integer ["value"] spIsI) (D_is_integer : Dn K mg "is_integer" s_is_integer ["value"] f_is_integer fd_is_integer)     : FnOk P w K mg base CX0 2 f fd ["values"] (spItems K) := by
  refine lt_out ?_
  simp (disch := with_unfolding_all
    refine D.F.ok sc_check_items (fun vs H Q E h => ?_) (fun cdv A outer s H vs Q E hr h => ?_)
    · obtain ⟨a, ns, rfl, _⟩ := h
      rfl
    · obtain ⟨a, ns, rfl, hS, q⟩ := h
      refine ⟨_, (pss_one (ps_for PassesOwn.never rfl (pi_enum (by rfl) bi.enumerate_ (pa_cons (pv 0) pa_nil)) (pg_tup rfl (pgs_cons (pg_name (i := 1) sc_check_items.nd rfl (Or.inl rfl)) (pgs_cons (pg_name (i := 2) sc_check_items.nd rfl (Or.inl rfl)) pgs_nil)))
   (pss_one (ps_if (pt_not (pt_val (pe_call G_is_integer (hr.mono (by first | decide | exact Nat.le_refl _)) (by rfl) D_is_integer.g D_is_integer.F.kp D_is_integer.b .nil pass0 (pa_cons (pv 2) pa_nil))))
   (pss_one ps_never)
   pss_nil)))), ?_⟩
      refine rd_start (σ := [some (.ref a), none, none]) rfl ?_
      walk_at "rd"
      refine rd_lpE hS ?_
      refine for_enum (xs := ns.map V.int) (fun i σ H' => ∃ t u, σ = [some (.ref a), t, u] ∧ Same H H') ⟨none, none, rfl, Same.refl _⟩ (fun i σ H1 _ hI => ?_) (fun i v σ H1 T hv hI hT => ?_) (fun σ H1 hI => ?_)
      · obtain ⟨t, u, rfl, hs⟩ := hI
        exact hs.seq hS
      · obtain ⟨t, u, rfl, hs⟩ := hI
        obtain ⟨z, rfl⟩ : ∃ z, v = .int z := by
          rw [List.getElem?_map] at hv
          cases g : ns[i]? with
          | none => rw [g] at hv; cases hv
          | some z => rw [g] at hv; exact ⟨z, (Option.some.inj hv).symm⟩
        walk_at "rd"
        exact ⟨_, _, rfl, hs.trans (same_new hT)⟩
      · obtain ⟨t, u, rfl, hs⟩ := hI
        walk_at "rd"
        exact q _ hs
    ) only [↓lt_eq]
theorem ok_check_block {f : Addr} {fd : FuncData} {f_check_items : Addr} {fd_check_items : FuncData}    (D : Dn K mg "check_block" s_check_block ["values", "least"] f fd) (bi : Bi mg) (G_check_items : FnOk P w K mg base CX0 2 f_check_items fd_check_items ["values"] (spItems K)) (D_check_items : Dn K mg "check_items" s_check_items ["values"] f_check_items fd_check_items)    (g_BLOCK_LIMIT : ∃ t, mg "BLOCK_LIMIT" = some (.int 64 t)) : FnOk P w K mg base CX0 3 f fd ["values", "least"] spBlock := by
  refine lt_out ?_
  simp (disch := with_unfolding_all
    refine D.F.ok sc_check_block (fun vs H Q E h => ?_) (fun cdv A outer s H vs Q E hr h => ?_)
    · obtain ⟨a, ns, least, rfl, _⟩ := h
      rfl
    · obtain ⟨a, ns, least, rfl, hS, h1, h2, q⟩ := h
      obtain ⟨t64, g_BLOCK_LIMIT⟩ := g_BLOCK_LIMIT
      refine ⟨_, (pss_cons (ps_if (PW.pt (pw_or (pt_not (pt_val (pe_callB call_isi (by rfl) bi.isinstance_ (by decide +kernel) (pa_cons (pv 0) (pa_cons (pe_bltn (v := .ty "list") (by rfl) bi.list_ (by decide +kernel) rfl) pa_nil))))) (pw_or1 (pt_not (pt_chain op_le op_le (pv 1) (pe_callB cLen (by rfl) bi.len_ (by decide +kernel) (pa_cons (pv 0) pa_nil)) (pe_glob (v := .int 64) (by rfl) g_BLOCK_LIMIT ⟨_, rfl⟩))))))
   (pss_one ps_never)
   pss_nil)
   (pss_one (ps_expr (pe_call G_check_items (hr.mono (by first | decide | exact Nat.le_refl _)) (by rfl) D_check_items.g D_check_items.F.kp D_check_items.b .nil pass0 (pa_cons (pv 0) pa_nil))))), ?_⟩
      refine rd_start (σ := [some (.ref a), some (.int least)]) rfl ?_
      walk_at "rd"
      refine if_yesD (by rw [List.length_map]; exact h1) ?_
      walk_at "rd"
      refine if_noN (by rw [List.length_map]; omega) ?_
      walk_at "rd"
      exact q _ (by assumption)
    ) only [↓lt_eq]
theorem ok_coarse_count {f : Addr} {fd : FuncData} {f_check_within : Addr} {fd_check_within : FuncData}    (D : Dn K mg "coarse_count" s_coarse_count ["length", "levels"] f fd) (bi : Bi mg) (G_check_within : FnOk P w K mg base CX0 3 f_check_within fd_check_within ["value", "low", "high"] spCkW) (D_check_within : Dn K mg "check_within" s_check_within ["value", "low", "high"] f_check_within fd_check_within)    (g_BLOCK_LIMIT : ∃ t, mg "BLOCK_LIMIT" = some (.int 64 t)) (g_LEVEL_LIMIT : ∃ t, mg "LEVEL_LIMIT" = some (.int 5 t)) : FnOk P w K mg base CX0 4 f fd ["length", "levels"] spCoarse := by
  refine lt_out ?_
  simp (disch := with_unfolding_all
    refine D.F.ok sc_coarse_count (fun vs H Q E h => ?_) (fun cdv A outer s H vs Q E hr h => ?_)
    · obtain ⟨n, k, rfl, _⟩ := h
      rfl
    · obtain ⟨n, k, rfl, h1, h2, h3, q⟩ := h
      obtain ⟨t1, g_BLOCK_LIMIT⟩ := g_BLOCK_LIMIT
      obtain ⟨t2, g_LEVEL_LIMIT⟩ := g_LEVEL_LIMIT
      refine ⟨_, (pss_cons (ps_expr (pe_call G_check_within (hr.mono (by first | decide | exact Nat.le_refl _)) (by rfl) D_check_within.g D_check_within.F.kp D_check_within.b .nil pass0 (pa_cons (pv 0) (pa_cons pe_int (pa_cons (pe_glob (v := .int 64) (by rfl) g_BLOCK_LIMIT ⟨_, rfl⟩) pa_nil)))))
   (pss_cons (ps_expr (pe_call G_check_within (hr.mono (by first | decide | exact Nat.le_refl _)) (by rfl) D_check_within.g D_check_within.F.kp D_check_within.b .nil pass0 (pa_cons (pv 1) (pa_cons pe_int (pa_cons (pe_glob (v := .int 5) (by rfl) g_LEVEL_LIMIT ⟨_, rfl⟩) pa_nil)))))
   (pss_cons (ps_set (i := 2) sc_coarse_count.nd rfl (Or.inl rfl) (pv 0))
   (pss_cons (ps_for PassesOwn.never rfl (pi_range1 (by rfl) bi.range_ (pa_cons (pv 1) pa_nil)) (pg_name (i := 3) sc_coarse_count.nd rfl (Or.inl rfl))
   (pss_one (ps_set (i := 2) sc_coarse_count.nd rfl (Or.inl rfl) (pe_op op_fdiv (pe_op op_add (pv 2) pe_int) pe_int))))
   (pss_one (ps_ret (pv 2))))))), ?_⟩
      refine rd_start (σ := [some (.int (n : Int)), some (.int (k : Int)), none, none]) rfl ?_
      walk_at "rd"
      refine for_range (lo := 0) (n := ((k : Nat) : Int).toNat) (fun i σ H' => ∃ t, σ = [some (.int (n : Int)), some (.int (k : Int)), some (.int (cc n i : Nat)), t] ∧ H' = H) ⟨none, rfl, rfl⟩ (fun i σ H1 hi hI => ?_) (fun σ H1 hI => ?_)
      · obtain ⟨t, rfl, rfl⟩ := hI
        walk_at "rd"
        refine ⟨some (.int (0 + (i : Int))), ?_, rfl⟩
        rw [show ((cc n (i + 1) : Nat) : Int) = ((cc n i : Nat) + 1) / 2 by show (((cc n i + 1) / 2 : Nat) : Int) = _; omega]
        rfl
      · obtain ⟨t, rfl, rfl⟩ := hI
        walk_at "rd"
        exact q
    ) only [↓lt_eq]
theorem ok_parameter {f : Addr} {fd : FuncData} {f_is_table : Addr} {fd_is_table : FuncData}    (D : Dn K mg "parameter" s_parameter ["table"] f fd) (bi : Bi mg) (G_is_table : FnOk P w K mg base CX0 3 f_is_table fd_is_table ["value"] (spTblG K)) (D_is_table : Dn K mg "is_table" s_is_table ["value"] f_is_table fd_is_table)     : FnOk P w K mg base CX0 4 f fd ["table"] (spParG K) := by
  refine lt_out ?_
  simp (disch := with_unfolding_all
    refine D.F.ok sc_parameter (fun vs H Q E h => ?_) (fun cdv A outer s H vs Q E hr h => ?_)
    · obtain ⟨a, t, m, rfl, _⟩ := h
      rfl
    · obtain ⟨a, t, m, rfl, h1, ok, q⟩ := h
      have L1 := h1.1
      refine ⟨_, (pss_cons (ps_if (pt_not (pt_val (pe_call G_is_table (hr.mono (by first | decide | exact Nat.le_refl _)) (by rfl) D_is_table.g D_is_table.F.kp D_is_table.b .nil pass0 (pa_cons (pv 0) pa_nil))))
   (pss_one ps_never)
   pss_nil)
   (pss_cons (ps_asg (pv 0) (pg_tup rfl (pgs_cons (pg_name (i := 1) sc_parameter.nd rfl (Or.inl rfl)) (pgs_cons (pg_name (i := 2) sc_parameter.nd rfl (Or.inl rfl)) pgs_nil))))
   (pss_cons (ps_set (i := 3) sc_parameter.nd rfl (Or.inl rfl) (pe_op op_fdiv (pe_op op_sub (pe_op op_add (pv 1) (pv 2)) pe_int) (pv 2)))
   (pss_one (ps_ret (pe_bits (pe_op op_sub (pe_callB (cMax rfl) (by rfl) bi.max_ (by decide +kernel) (pa_cons (pv 3) (pa_cons pe_int pa_nil))) pe_int))))))), ?_⟩
      refine rd_start (σ := [some (.ref a), none, none, none]) rfl ?_
      walk_at "rd"
      refine use_tblG h1 ok ?_
      obtain ⟨o1, o2, o3, o4⟩ := ok
      walk_at "rd"
      exact q
    ) only [↓lt_eq]
theorem ok_table_behind {f : Addr} {fd : FuncData}     (D : Dn K mg "table_behind" s_table_behind ["table", "code"] f fd) (bi : Bi mg)     (g_COUNT_LIMIT : ∃ t, mg "COUNT_LIMIT" = some (.int 15 t)) (g_HALVED_COUNT : ∃ t, mg "HALVED_COUNT" = some (.int 8 t)) : FnOk P w K mg base CX0 1 f fd ["table", "code"] (spBehind K) := by
  refine lt_out ?_
  simp (disch := with_unfolding_all
    refine D.F.ok sc_table_behind (fun vs H Q E h => ?_) (fun cdv A outer s H vs Q E hr h => ?_)
    · obtain ⟨a, t, m, u, rfl, _⟩ := h
      rfl
    · obtain ⟨a, t, m, u, rfl, h1, ok, q⟩ := h
      obtain ⟨t1, g_COUNT_LIMIT⟩ := g_COUNT_LIMIT
      obtain ⟨t2, g_HALVED_COUNT⟩ := g_HALVED_COUNT
      have L1 := h1.1
      refine ⟨_, (pss_cons (ps_par (i := 2) (j := 3) rfl sc_table_behind.nd rfl rfl (by decide) rfl rfl (pa_cons (pe_op op_add (pe_ix ix_tup (pv 0) pe_int (fun _ _ => rfl)) (pv 1)) (pa_cons (pe_op op_add (pe_ix ix_tup (pv 0) pe_int (fun _ _ => rfl)) pe_int) pa_nil)) rfl)
   (pss_cons (ps_if (pt_cmpR op_gt (pv 3) (pe_glob (v := .int 15) (by rfl) g_COUNT_LIMIT ⟨_, rfl⟩) (nomark _))
   (pss_one (ps_ret (pe_tup (pa_cons (pe_op op_fdiv (pv 2) pe_int) (pa_cons (pe_glob (v := .int 8) (by rfl) g_HALVED_COUNT ⟨_, rfl⟩) pa_nil)))))
   pss_nil)
   (pss_one (ps_ret (pe_tup (pa_cons (pv 2) (pa_cons (pv 3) pa_nil))))))), ?_⟩
      refine rd_start (σ := [some (.ref a), some (.int (u : Int)), none, none]) rfl ?_
      walk_at "rd"
      refine rd_iteD (fun c => ?_) (fun c => ?_)
      · walk_at "rd"
        rename_i p hp
        have e : tbB t u = ((t.1 + (u : Int)) / 2, 8) := if_pos c
        rw [e] at q
        exact q p hp
      · walk_at "rd"
        rename_i p hp
        have e : tbB t u = (t.1 + (u : Int), t.2 + 1) := if_neg c
        rw [e] at q
        exact q p hp
    ) only [↓lt_eq]
theorem ok_code_number {f : Addr} {fd : FuncData}     (D : Dn K mg "code_number" s_code_number ["number"] f fd) (bi : Bi mg)      : FnOk P w K mg base CX0 1 f fd ["number"] spCode := by
  refine lt_out ?_
  simp (disch := with_unfolding_all
    refine D.F.ok sc_code_number (fun vs H Q E h => ?_) (fun cdv A outer s H vs Q E hr h => ?_)
    · obtain ⟨n, rfl, _⟩ := h
      rfl
    · obtain ⟨n, rfl, q⟩ := h
      refine ⟨_, (pss_one (ps_ret (pe_ifExp (pt_cmpR op_ge (pv 0) pe_int (nomark _)) (pe_op op_mul pe_int (pv 0)) (pe_op op_sub (pe_op op_mul (pe_un un_neg pe_int) (pv 0)) pe_int)))), ?_⟩
      refine rd_start (σ := [some (.int n)]) rfl ?_
      walk_at "rd"
      refine rd_iteD (fun c => ?_) (fun c => ?_)
      · walk_at "rd"
        have e : codeU n = 2 * n := if_pos c
        rw [e] at q
        exact q
      · walk_at "rd"
        have e : codeU n = -2 * n - 1 := if_neg c
        rw [e] at q
        exact q
    ) only [↓lt_eq]
theorem ok_number_with {f : Addr} {fd : FuncData}     (D : Dn K mg "number_with" s_number_with ["code"] f fd) (bi : Bi mg)      : FnOk P w K mg base CX0 1 f fd ["code"] spNumW := by
  refine lt_out ?_
  simp (disch := with_unfolding_all
    refine D.F.ok sc_number_with (fun vs H Q E h => ?_) (fun cdv A outer s H vs Q E hr h => ?_)
    · obtain ⟨u, rfl, _⟩ := h
      rfl
    · obtain ⟨u, rfl, q⟩ := h
      refine ⟨_, (pss_one (ps_ret (pe_ifExp (pt_cmpR op_eq (pe_op op_mod (pv 0) pe_int) pe_int (nomark _)) (pe_op op_fdiv (pv 0) pe_int) (pe_op op_sub (pe_un un_neg (pe_op op_fdiv (pv 0) pe_int)) pe_int)))), ?_⟩
      refine rd_start (σ := [some (.int (u : Int))]) rfl ?_
      walk_at "rd"
      refine rd_iteD (fun c => ?_) (fun c => ?_)
      · have e : unU u = ((u / 2 : Nat) : Int) := if_pos (by have := V.int.inj c; omega)
        rw [e, ← half_nat] at q
        walk_at "rd"
        exact q
      · have e : unU u = -((u / 2 : Nat) : Int) - 1 := if_neg (fun z => c (congrArg V.int (by omega)))
        rw [e, ← half_nat] at q
        walk_at "rd"
        exact q
    ) only [↓lt_eq]
theorem ok_read_code {f : Addr} {fd : FuncData}     (D : Dn K mg "read_code" s_read_code ["bits", "place", "k"] f fd) (bi : Bi mg)     (g_LONG_FORM : ∃ t, mg "LONG_FORM" = some (.int 20 t)) : FnOk P w K mg base CX0 1 f fd ["bits", "place", "k"] spRdC := by
  refine lt_out ?_
  simp (disch := with_unfolding_all
    refine D.F.ok sc_read_code (fun vs H Q E h => ?_) (fun cdv A outer s H vs Q E hr h => ?_)
    · obtain ⟨l, pl, k, rfl, _⟩ := h
      rfl
    · obtain ⟨l, pl, k, rfl, hb, hl, hpl, hk, ho, q1, q2⟩ := h
      obtain ⟨t1, g_LONG_FORM⟩ := g_LONG_FORM
      refine ⟨_, (pss_cons (ps_set (i := 3) sc_read_code.nd rfl (Or.inl rfl) (pe_bm PySem.F.plainAttrs_str PySem.F.slot_str_find PySem.F.type_str_find mt_find3K (pv 0) (pa_cons pe_str (pa_cons (pv 1) pa_nil))))
   (pss_cons (ps_if (pt_cmpR op_lt (pv 3) pe_int (nomark _))
   (pss_one (ps_ret pe_non))
   pss_nil)
   (pss_cons (ps_set (i := 4) sc_read_code.nd rfl (Or.inl rfl) (pe_op op_sub (pv 3) (pv 1)))
   (pss_cons (ps_set (i := 5) sc_read_code.nd rfl (Or.inl rfl) (pe_ifExp (pt_cmpR op_lt (pv 4) (pe_glob (v := .int 20) (by rfl) g_LONG_FORM ⟨_, rfl⟩) (nomark _)) (pv 2) (pe_op op_add (pe_op op_sub (pv 4) (pe_glob (v := .int 20) (by rfl) g_LONG_FORM ⟨_, rfl⟩)) pe_int)))
   (pss_cons (ps_set (i := 6) sc_read_code.nd rfl (Or.inl rfl) (pe_op op_add (pe_op op_add (pv 3) pe_int) (pv 5)))
   (pss_cons (ps_if (pt_cmpR op_gt (pv 6) (pe_callB cLen (by rfl) bi.len_ (by decide +kernel) (pa_cons (pv 0) pa_nil)) (nomark _))
   (pss_one (ps_ret pe_non))
   pss_nil)
   (pss_cons (ps_set (i := 7) sc_read_code.nd rfl (Or.inl rfl) (pe_slice C8.sl_txt (pv 0) (po_some (pe_op op_add (pv 3) pe_int)) (po_some (pv 6))))
   (pss_cons (ps_set (i := 8) sc_read_code.nd rfl (Or.inl rfl) (pe_callTy call_intB (by rfl) bi.int_ (by decide +kernel) (pa_cons (pe_op op_addT pe_str (pv 7)) (pa_cons pe_int pa_nil))))
   (pss_cons (ps_if (pt_cmpR op_lt (pv 4) (pe_glob (v := .int 20) (by rfl) g_LONG_FORM ⟨_, rfl⟩) (nomark _))
   (pss_one (ps_ret (pe_tup (pa_cons (pe_op op_add (pe_op op_shl (pv 4) (pv 2)) (pv 8)) (pa_cons (pv 6) pa_nil)))))
   pss_nil)
   (pss_cons (ps_if (PW.pt (pw_or (pt_cmpR op_eq (pe_ix ix_str (pv 7) pe_int (fun _ _ => rfl)) pe_str (nomark _)) (pw_or1 (pt_cmpR op_lt (pe_op op_shr (pv 8) (pv 2)) (pe_glob (v := .int 20) (by rfl) g_LONG_FORM ⟨_, rfl⟩) (nomark _)))))
   (pss_one (ps_ret pe_non))
   pss_nil)
   (pss_one (ps_ret (pe_tup (pa_cons (pv 8) (pa_cons (pv 6) pa_nil))))))))))))))), ?_⟩
      refine rd_start (σ := [some (.str (SX.S l)), some (.int (pl : Int)), some (.int (k : Int)), none, none, none, none, none, none]) rfl ?_
      walk_at "rd"
      unfold rdC at q1 q2
      unfold fzI
      generalize onesL (l.drop pl) = o at ho q1 q2 ⊢
      by_cases hz : pl + o < l.length
      · rw [if_pos hz] at q1 q2 ⊢
        walk_at "rd"
        refine if_noD (by omega) ?_
        walk_at "rd"
        have eo : ((pl + o : Nat) : Int) - (pl : Int) = ((o : Nat) : Int) := by omega
        rw [eo]
        by_cases c : o < 20
        · rw [if_pos c] at q1 q2
          refine if_yesD (by omega) ?_
          walk_at "rd"
          rw [show ((pl + o : Nat) : Int) + 1 + (k : Int) = ((pl + o + 1 + k : Nat) : Int) by omega]
          by_cases d : l.length < pl + o + 1 + k
          · refine if_yesD (by omega) ?_
            walk_at "rd"
            exact q1 (by rw [if_pos d])
          · rw [if_neg d, if_pos c] at q2
            refine if_noD (by omega) ?_
            walk_at "rd"
            rw [show ((pl + o : Nat) : Int) + 1 = ((pl + o + 1 : Nat) : Int) by omega]
            refine rd_slSM (by omega) (by omega) (by omega) ?_
            rw [show pl + o + 1 + k - (pl + o + 1) = k by omega]
            have hdb : ∀ x ∈ (l.drop (pl + o + 1)).take k, IsB x := fun x hx => hb x (List.mem_of_mem_drop (List.mem_of_mem_take hx))
            have hdl : ((l.drop (pl + o + 1)).take k).length ≤ 600 := by rw [List.length_take]; omega
            generalize (l.drop (pl + o + 1)).take k = dg at q2 hdb hdl ⊢
            walk_at "rd"
            refine rd_intB (l := [48] ++ dg) (by simp) (by simp; omega) (fun x hx => ?_) ?_
            · rcases List.mem_append.mp hx with hx | hx
              · exact .inl (List.mem_singleton.mp hx)
              · exact hdb x hx
            rw [show valB ([48] ++ dg) = valB dg from valB_zero dg]
            walk_at "rd"
            refine if_yesD (by omega) ?_
            walk_at "rd"
            rename_i p hp
            rw [Int.toNat_natCast, show (o : Int) * 2 ^ k + (valB dg : Nat) = ((o * 2 ^ k + valB dg : Nat) : Int) by norm_cast]
            exact q2 _ _ rfl p hp
        · rw [if_neg c] at q1 q2
          refine if_noD (by omega) ?_
          walk_at "rd"
          rw [show ((pl + o : Nat) : Int) + 1 + ((o : Nat) - 20 + 1) = ((pl + o + 1 + (o - 19) : Nat) : Int) by omega]
          by_cases d : l.length < pl + o + 1 + (o - 19)
          · refine if_yesD (by omega) ?_
            walk_at "rd"
            exact q1 (by rw [if_pos d])
          · rw [if_neg d, if_neg c] at q1 q2
            refine if_noD (by omega) ?_
            walk_at "rd"
            rw [show ((pl + o : Nat) : Int) + 1 = ((pl + o + 1 : Nat) : Int) by omega]
            refine rd_slSM (by omega) (by omega) (by omega) ?_
            rw [show pl + o + 1 + (o - 19) - (pl + o + 1) = o - 19 by omega]
            have hdb : ∀ x ∈ (l.drop (pl + o + 1)).take (o - 19), IsB x := fun x hx => hb x (List.mem_of_mem_drop (List.mem_of_mem_take hx))
            have hdl : ((l.drop (pl + o + 1)).take (o - 19)).length ≤ 600 := by rw [List.length_take]; omega
            have hln : 0 < (l.drop (pl + o + 1)).length := by rw [List.length_drop]; omega
            have h0 : ((l.drop (pl + o + 1)).take (o - 19))[0]? = (l.drop (pl + o + 1))[0]? := by rw [List.getElem?_take, if_pos (by omega)]
            obtain ⟨ch, hch⟩ : ∃ ch, (l.drop (pl + o + 1))[0]? = some ch := ⟨_, List.getElem?_eq_getElem hln⟩
            rw [hch] at h0 q1 q2
            generalize (l.drop (pl + o + 1)).take (o - 19) = dg at q1 q2 hdb hdl h0 ⊢
            walk_at "rd"
            refine rd_intB (l := [48] ++ dg) (by simp) (by simp; omega) (fun x hx => ?_) ?_
            · rcases List.mem_append.mp hx with hx | hx
              · exact .inl (List.mem_singleton.mp hx)
              · exact hdb x hx
            rw [show valB ([48] ++ dg) = valB dg from valB_zero dg]
            walk_at "rd"
            refine if_noD (by omega) ?_
            walk_at "rd"
            refine rd_ixS (i := 0) rfl (by omega) h0 ?_
            walk_at "rd"
            by_cases z : ch = 48
            · subst z
              refine if_yesD (congrArg V.str e_0.symm) ?_
              walk_at "rd"
              exact q1 (by rw [if_pos (.inl rfl)])
            · have z2 : ¬ V.str (SX.S [ch]) = V.str (Str.ofString "0") := fun e => z (by
                rw [e_0] at e
                exact (List.cons.inj (SX.S_inj (V.str.inj e))).1)
              refine if_noD z2 ?_
              walk_at "rd"
              by_cases y : valB dg / 2 ^ k < 20
              · refine if_yesD (by omega) ?_
                walk_at "rd"
                exact q1 (by rw [if_pos (.inr y)])
              · refine if_noD (by omega) ?_
                walk_at "rd"
                rename_i p hp
                rw [if_neg (by rintro (e | e); exact z (Option.some.inj e); exact y e)] at q2
                exact q2 _ _ rfl p hp
      · rw [if_neg hz] at q1 ⊢
        walk_at "rd"
        refine if_yesD (by decide) ?_
        walk_at "rd"
        exact q1 rfl
    ) only [↓lt_eq]
theorem ok_check_coding {f : Addr} {fd : FuncData} {f_check_within : Addr} {fd_check_within : FuncData} {f_is_tables : Addr} {fd_is_tables : FuncData}    (D : Dn K mg "check_coding" s_check_coding ["length", "coarse", "tables"] f fd) (bi : Bi mg) (G_check_within : FnOk P w K mg base CX0 3 f_check_within fd_check_within ["value", "low", "high"] spCkW) (D_check_within : Dn K mg "check_within" s_check_within ["value", "low", "high"] f_check_within fd_check_within) (G_is_tables : FnOk P w K mg base CX0 4 f_is_tables fd_is_tables ["value"] (spTblsG K)) (D_is_tables : Dn K mg "is_tables" s_is_tables ["value"] f_is_tables fd_is_tables)     : FnOk P w K mg base CX0 5 f fd ["length", "coarse", "tables"] (spCoding K) := by
  refine lt_out ?_
  simp (disch := with_unfolding_all
    refine D.F.ok sc_check_coding (fun vs H Q E h => ?_) (fun cdv A outer s H vs Q E hr h => ?_)
    · obtain ⟨n, first, a, T, m, rfl, _⟩ := h
      rfl
    · obtain ⟨n, first, a, T, m, rfl, h1, h2, o1, o2, q⟩ := h
      refine ⟨_, (pss_cons (ps_expr (pe_call G_check_within (hr.mono (by first | decide | exact Nat.le_refl _)) (by rfl) D_check_within.g D_check_within.F.kp D_check_within.b .nil pass0 (pa_cons (pv 1) (pa_cons pe_int (pa_cons (pv 0) pa_nil)))))
   (pss_one (ps_if (pt_not (pt_val (pe_call G_is_tables (hr.mono (by first | decide | exact Nat.le_refl _)) (by rfl) D_is_tables.g D_is_tables.F.kp D_is_tables.b .nil pass0 (pa_cons (pv 2) pa_nil))))
   (pss_one ps_never)
   pss_nil))), ?_⟩
      refine rd_start (σ := [some (.int (n : Int)), some (.int (first : Int)), some (.ref a)]) rfl ?_
      walk_at "rd"
      refine use_tblsG h2 o1 o2 ?_
      walk_at "rd"
      exact q
    ) only [↓lt_eq]
theorem ok_read_numbers {f : Addr} {fd : FuncData} {f_check_within : Addr} {fd_check_within : FuncData} {f_check_coding : Addr} {fd_check_coding : FuncData} {f_parameter : Addr} {fd_parameter : FuncData} {f_read_code : Addr} {fd_read_code : FuncData} {f_number_with : Addr} {fd_number_with : FuncData} {f_table_behind : Addr} {fd_table_behind : FuncData}    (D : Dn K mg "read_numbers" s_read_numbers ["bits", "length", "coarse", "tables"] f fd) (bi : Bi mg) (G_check_within : FnOk P w K mg base CX0 3 f_check_within fd_check_within ["value", "low", "high"] spCkW) (D_check_within : Dn K mg "check_within" s_check_within ["value", "low", "high"] f_check_within fd_check_within) (G_check_coding : FnOk P w K mg base CX0 5 f_check_coding fd_check_coding ["length", "coarse", "tables"] (spCoding K)) (D_check_coding : Dn K mg "check_coding" s_check_coding ["length", "coarse", "tables"] f_check_coding fd_check_coding) (G_parameter : FnOk P w K mg base CX0 4 f_parameter fd_parameter ["table"] (spParG K)) (D_parameter : Dn K mg "parameter" s_parameter ["table"] f_parameter fd_parameter) (G_read_code : FnOk P w K mg base CX0 1 f_read_code fd_read_code ["bits", "place", "k"] spRdC) (D_read_code : Dn K mg "read_code" s_read_code ["bits", "place", "k"] f_read_code fd_read_code) (G_number_with : FnOk P w K mg base CX0 1 f_number_with fd_number_with ["code"] spNumW) (D_number_with : Dn K mg "number_with" s_number_with ["code"] f_number_with fd_number_with) (G_table_behind : FnOk P w K mg base CX0 1 f_table_behind fd_table_behind ["table", "code"] (spBehind K)) (D_table_behind : Dn K mg "table_behind" s_table_behind ["table", "code"] f_table_behind fd_table_behind)    (g_BLOCK_LIMIT : ∃ t, mg "BLOCK_LIMIT" = some (.int 64 t)) : FnOk P w K mg base CX0 6 f fd ["bits", "length", "coarse", "tables"] (spRd K) := by
  refine lt_out ?_
  simp (disch := with_unfolding_all
    refine D.F.ok sc_read_numbers (fun vs H Q E h => ?_) (fun cdv A outer s H vs Q E hr h => ?_)
    · obtain ⟨ns, first, b, T, rfl, _⟩ := h
      rfl
    · obtain ⟨ns, first, b, T, rfl, hl, hf, hn, hT, o1, o2, q⟩ := h
      obtain ⟨t64, g_BLOCK_LIMIT⟩ := g_BLOCK_LIMIT
      have hbin : ∀ c ∈ (wst ns first T ns.length).1.flatten, IsB c := wst_bin ns first T ns.length
      have hfl := wst_flat (first := first) hn o1 o2 ns.length hl
      have hfl2 : (wst ns first T ns.length).1.flatten.length ≤ 1000000 := by omega
      refine ⟨_, (pss_cons (ps_expr (pe_call G_check_within (hr.mono (by first | decide | exact Nat.le_refl _)) (by rfl) D_check_within.g D_check_within.F.kp D_check_within.b .nil pass0 (pa_cons (pv 1) (pa_cons pe_int (pa_cons (pe_glob (v := .int 64) (by rfl) g_BLOCK_LIMIT ⟨_, rfl⟩) pa_nil)))))
   (pss_cons (ps_expr (pe_call G_check_coding (hr.mono (by first | decide | exact Nat.le_refl _)) (by rfl) D_check_coding.g D_check_coding.F.kp D_check_coding.b .nil pass0 (pa_cons (pv 1) (pa_cons (pv 2) (pa_cons (pv 3) pa_nil)))))
   (pss_cons (ps_if (PW.pt (pw_or (pt_not (pt_val (pe_callB call_isi (by rfl) bi.isinstance_ (by decide +kernel) (pa_cons (pv 0) (pa_cons (pe_bltn (v := .ty "str") (by rfl) bi.str_ (by decide +kernel) rfl) pa_nil))))) (pw_or1 (pt_cmpR op_ne (pe_bm PySem.F.plainAttrs_str PySem.F.slot_str_strip PySem.F.type_str_strip mt_stripK (pv 0) (pa_cons pe_str pa_nil)) pe_str (nomark _)))))
   (pss_one (ps_ret pe_non))
   pss_nil)
   (pss_cons (ps_set (i := 4) sc_read_numbers.nd rfl (Or.inl rfl) (pe_callTy cList (by rfl) bi.list_ (by decide +kernel) (pa_cons (pv 3) pa_nil)))
   (pss_cons (ps_set (i := 5) sc_read_numbers.nd rfl (Or.inl rfl) (pe_lst pa_nil))
   (pss_cons (ps_set (i := 6) sc_read_numbers.nd rfl (Or.inl rfl) pe_int)
   (pss_cons (ps_for PassesOwn.never rfl (pi_range1 (by rfl) bi.range_ (pa_cons (pv 1) pa_nil)) (pg_name (i := 7) sc_read_numbers.nd rfl (Or.inl rfl))
   (pss_cons (ps_set (i := 8) sc_read_numbers.nd rfl (Or.inl rfl) (pe_ifExp (pt_cmpR op_lt (pv 7) (pv 2) (nomark _)) pe_int pe_int))
   (pss_cons (ps_set (i := 9) sc_read_numbers.nd rfl (Or.inl rfl) (pe_call G_read_code (hr.mono (by first | decide | exact Nat.le_refl _)) (by rfl) D_read_code.g D_read_code.F.kp D_read_code.b .nil pass0 (pa_cons (pv 0) (pa_cons (pv 6) (pa_cons (pe_call G_parameter (hr.mono (by first | decide | exact Nat.le_refl _)) (by rfl) D_parameter.g D_parameter.F.kp D_parameter.b .nil pass0 (pa_cons (pe_ix ix_list (pv 4) (pv 8) (fun _ _ => rfl)) pa_nil)) pa_nil)))))
   (pss_cons (ps_if (pt_cmpR cIsN (pv 9) pe_non (nomark _))
   (pss_one (ps_ret pe_non))
   pss_nil)
   (pss_cons (ps_asg (pv 9) (pg_tup rfl (pgs_cons (pg_name (i := 10) sc_read_numbers.nd rfl (Or.inl rfl)) (pgs_cons (pg_name (i := 6) sc_read_numbers.nd rfl (Or.inl rfl)) pgs_nil))))
   (pss_cons (ps_expr (pe_bm PySem.F.plainAttrs_list PySem.F.slot_list_append PySem.F.type_list_append mt_append (pv 5) (pa_cons (pe_call G_number_with (hr.mono (by first | decide | exact Nat.le_refl _)) (by rfl) D_number_with.g D_number_with.F.kp D_number_with.b .nil pass0 (pa_cons (pv 10) pa_nil)) pa_nil)))
   (pss_one (ps_asg (pe_call G_table_behind (hr.mono (by first | decide | exact Nat.le_refl _)) (by rfl) D_table_behind.g D_table_behind.F.kp D_table_behind.b .nil pass0 (pa_cons (pe_ix ix_list (pv 4) (pv 8) (fun _ _ => rfl)) (pa_cons (pv 10) pa_nil))) (pg_sub (pv 4) (pv 8) set_list)))))))))
   (pss_cons (ps_if (pt_cmpR op_ne (pv 6) (pe_callB cLen (by rfl) bi.len_ (by decide +kernel) (pa_cons (pv 0) pa_nil)) (nomark _))
   (pss_one (ps_ret pe_non))
   pss_nil)
   (pss_one (ps_ret (pe_tup (pa_cons (pv 5) (pa_cons (pe_callTy cTuple (by rfl) bi.tuple_ (by decide +kernel) (pa_cons (pv 4) pa_nil)) pa_nil))))))))))))), ?_⟩
      refine rd_start (σ := [some (.str (SX.S (wst ns first T ns.length).1.flatten)), some (.int (ns.length : Nat)), some (.int (first : Int)), some (.ref b), none, none, none, none, none, none, none]) rfl ?_
      walk_at "rd"
      refine use_coding hf hT o1 o2 ?_
      obtain ⟨r0, r1, h0, h1, h2⟩ := hT
      walk_at "rd"
      refine if_noN (congrArg V.str e_empty.symm) ?_
      walk_at "rd"
      refine rd_listQ h0.1 fun p hp => ?_
      walk_at "rd"
      rename_i w hw
      have hs2 : Same H (upd (upd H p (.lst [.ref r0, .ref r1])) w (.lst [])) := (same_new hp).trans (same_new hw)
      have hwn : H w = none := (same_new hp).free hw
      have hpw : p ≠ w := ne_of_none upd_same hw
      have hwp := hpw.symm
      refine for_range (lo := 0) (n := ((ns.length : Nat) : Int).toNat) (fun i σ H' => ∃ r0 r1 x7 x8 x9 x10, σ = [some (.str (SX.S (wst ns first T ns.length).1.flatten)), some (.int (ns.length : Nat)), some (.int (first : Int)), some (.ref b), some (.ref p), some (.ref w), some (.int (((wst ns first T i).1.flatten.length : Nat) : Int)), x7, x8, x9, x10] ∧ H' p = some (.lst [.ref r0, .ref r1]) ∧ H' w = some (.lst ((ns.take i).map V.int)) ∧ TbV K H' r0 (wst ns first T i).2.1 ∧ TbV K H' r1 (wst ns first T i).2.2 ∧ Same H H') ⟨r0, r1, none, none, none, none, rfl, look_new hw upd_same, upd_same, (h1.lk (.new hp)).lk (.new hw), (h2.lk (.new hp)).lk (.new hw), hs2⟩ (fun i σ H' hi hI => ?_) (fun σ H' hI => ?_)
      · obtain ⟨r0, r1, x7, x8, x9, x10, rfl, h3, h3w, h4, h5, hs⟩ := hI
        rw [Int.toNat_natCast] at hi
        obtain ⟨k1, k2⟩ := wst_ok (first := first) hn o1 o2 i (by omega)
        have bnd : (10 ^ 58 + (i : Int) * 10 ^ 56) < 10 ^ 60 := by omega
        have hz := getD_some (List.getElem?_eq_getElem hi)
        have htk : ns.take (i + 1) = ns.take i ++ [ns.getD i 0] := by rw [hz, List.take_add_one, List.getElem?_eq_getElem hi]; rfl
        obtain ⟨post, hpost⟩ := wst_split ns first T (i + 1) ns.length hi
        have hpl : (wst ns first T i).1.flatten.length ≤ (wst ns first T ns.length).1.flatten.length := by
          obtain ⟨post2, e⟩ := wst_split ns first T i ns.length (by omega)
          rw [e, List.length_append]
          omega
        rw [show (0 : Int) + (i : Int) = ((i : Nat) : Int) by omega]
        walk_at "rd"
        refine rd_iteD (fun c => ?_) (fun c => ?_)
        · have c := Int.ofNat_lt.mp c
          walk_at "rd"
          refine use_parG h4 k1 ?_
          walk_at "rd"
          have hpp := par_leG k1 bnd
          have hw1 : (wst ns first T ns.length).1.flatten = (wst ns first T i).1.flatten ++ (encB (uOf (ns.getD i 0)) (par (wst ns first T i).2.1.1 (wst ns first T i).2.1.2) ++ post) := by
            rw [hpost, wst_lo c, List.flatten_append, List.append_assoc]
            simp
          have hrd := rdC_good (wst ns first T i).1.flatten post (uOf (ns.getD i 0)) (par (wst ns first T i).2.1.1 (wst ns first T i).2.1.2)
          rw [← hw1] at hrd
          have hon : onesL ((wst ns first T ns.length).1.flatten.drop (wst ns first T i).1.flatten.length) ≤ 600 := by
            rw [hw1, List.drop_left]
            exact ones_enc _ _ _ (nb_small (uOf_getD hn i))
          refine use_rdC hbin hfl2 hpl (by omega) hon hrd fun p1 hp1 => ?_
          walk_at "rd"
          refine if_noD (fun z => V.noConfusion z) ?_
          have hlt : (ns.take i).length ≤ 1000 := by rw [List.length_take]; omega
          have hl1 : (wst ns first T (i + 1)).1.flatten.length = (wst ns first T i).1.flatten.length + (encB (uOf (ns.getD i 0)) (par (wst ns first T i).2.1.1 (wst ns first T i).2.1.2)).length := by
            rw [wst_lo c, List.flatten_append, List.length_append]
            simp
          walk_at "rd"
          rw [unU_uOf]
          walk_at "rd"
          have u3 := look_new (o := .tup [.int ((uOf (ns.getD i 0) : Nat) : Int), .int (((wst ns first T i).1.flatten.length + (encB (uOf (ns.getD i 0)) (par (wst ns first T i).2.1.1 (wst ns first T i).2.1.2)).length : Nat) : Int)]) hp1 h3
          have u3w := look_new (o := .tup [.int ((uOf (ns.getD i 0) : Nat) : Int), .int (((wst ns first T i).1.flatten.length + (encB (uOf (ns.getD i 0)) (par (wst ns first T i).2.1.1 (wst ns first T i).2.1.2)).length : Nat) : Int)]) hp1 h3w
          have v3 := look_upd (o := .lst ((ns.take i ++ [ns.getD i 0]).map V.int)) hpw u3
          have v4 : TbV K _ r0 (wst ns first T i).2.1 := TbV.lk (LK.at (o := .lst ((ns.take i ++ [ns.getD i 0]).map V.int)) u3w) (h4.lk (.new hp1))
          have v5 : TbV K _ r1 (wst ns first T i).2.2 := TbV.lk (LK.at (o := .lst ((ns.take i ++ [ns.getD i 0]).map V.int)) u3w) (h5.lk (.new hp1))
          refine use_behind v4 k1 fun p2 hp2 => ?_
          walk_at "rd"
          rw [hl1, wst_lo c, htk]
          refine ⟨p2, r1, _, _, _, _, rfl, upd_same, ?_, ?_, ?_, ?_⟩
          · rw [upd_ne hwp, upd_ne (ne_of_none upd_same hp2), upd_same]
          · exact TbV.lk (LK.at (look_new hp2 v3)) (TbV.of upd_same)
          · exact TbV.lk (LK.at (look_new hp2 v3)) (TbV.lk (LK.new hp2) v5)
          · intro b2 x e
            rw [upd_ne (ne_of_none e hp)]
            refine look_new hp2 ?_
            rw [upd_ne (ne_of_none e hwn)]
            exact look_new hp1 (hs _ _ e)
        · have c : ¬ i < first := fun z => c (Int.ofNat_lt.mpr z)
          walk_at "rd"
          refine use_parG h5 k2 ?_
          walk_at "rd"
          have hpp := par_leG k2 bnd
          have hw1 : (wst ns first T ns.length).1.flatten = (wst ns first T i).1.flatten ++ (encB (uOf (ns.getD i 0)) (par (wst ns first T i).2.2.1 (wst ns first T i).2.2.2) ++ post) := by
            rw [hpost, wst_hi c, List.flatten_append, List.append_assoc]
            simp
          have hrd := rdC_good (wst ns first T i).1.flatten post (uOf (ns.getD i 0)) (par (wst ns first T i).2.2.1 (wst ns first T i).2.2.2)
          rw [← hw1] at hrd
          have hon : onesL ((wst ns first T ns.length).1.flatten.drop (wst ns first T i).1.flatten.length) ≤ 600 := by
            rw [hw1, List.drop_left]
            exact ones_enc _ _ _ (nb_small (uOf_getD hn i))
          refine use_rdC hbin hfl2 hpl (by omega) hon hrd fun p1 hp1 => ?_
          walk_at "rd"
          refine if_noD (fun z => V.noConfusion z) ?_
          have hlt : (ns.take i).length ≤ 1000 := by rw [List.length_take]; omega
          have hl1 : (wst ns first T (i + 1)).1.flatten.length = (wst ns first T i).1.flatten.length + (encB (uOf (ns.getD i 0)) (par (wst ns first T i).2.2.1 (wst ns first T i).2.2.2)).length := by
            rw [wst_hi c, List.flatten_append, List.length_append]
            simp
          walk_at "rd"
          rw [unU_uOf]
          walk_at "rd"
          have u3 := look_new (o := .tup [.int ((uOf (ns.getD i 0) : Nat) : Int), .int (((wst ns first T i).1.flatten.length + (encB (uOf (ns.getD i 0)) (par (wst ns first T i).2.2.1 (wst ns first T i).2.2.2)).length : Nat) : Int)]) hp1 h3
          have u3w := look_new (o := .tup [.int ((uOf (ns.getD i 0) : Nat) : Int), .int (((wst ns first T i).1.flatten.length + (encB (uOf (ns.getD i 0)) (par (wst ns first T i).2.2.1 (wst ns first T i).2.2.2)).length : Nat) : Int)]) hp1 h3w
          have v3 := look_upd (o := .lst ((ns.take i ++ [ns.getD i 0]).map V.int)) hpw u3
          have v4 : TbV K _ r0 (wst ns first T i).2.1 := TbV.lk (LK.at (o := .lst ((ns.take i ++ [ns.getD i 0]).map V.int)) u3w) (h4.lk (.new hp1))
          have v5 : TbV K _ r1 (wst ns first T i).2.2 := TbV.lk (LK.at (o := .lst ((ns.take i ++ [ns.getD i 0]).map V.int)) u3w) (h5.lk (.new hp1))
          refine use_behind v5 k2 fun p2 hp2 => ?_
          walk_at "rd"
          rw [hl1, wst_hi c, htk]
          refine ⟨r0, p2, _, _, _, _, rfl, upd_same, ?_, ?_, ?_, ?_⟩
          · rw [upd_ne hwp, upd_ne (ne_of_none upd_same hp2), upd_same]
          · exact TbV.lk (LK.at (look_new hp2 v3)) (TbV.lk (LK.new hp2) v4)
          · exact TbV.lk (LK.at (look_new hp2 v3)) (TbV.of upd_same)
          · intro b2 x e
            rw [upd_ne (ne_of_none e hp)]
            refine look_new hp2 ?_
            rw [upd_ne (ne_of_none e hwn)]
            exact look_new hp1 (hs _ _ e)
      · obtain ⟨r0, r1, x7, x8, x9, x10, rfl, h3, h3w, h4, h5, hs⟩ := hI
        rw [Int.toNat_natCast] at *
        rw [List.take_length] at h3w
        walk_at "rd"
        refine if_noN rfl ?_
        walk_at "rd"
        rename_i q1 hq1 p1 hp1
        refine q p1 w q1 _ ((hs.trans (same_new hq1)).trans (same_new hp1)) ((hs.trans (same_new hq1)).free hp1) upd_same (look_new hp1 (look_new hq1 h3w)) ⟨r0, r1, .of (look_new hp1 upd_same), (h4.lk (.new hq1)).lk (.new hp1), (h5.lk (.new hq1)).lk (.new hp1)⟩
    ) only [↓lt_eq]
theorem ok_mark_of {f : Addr} {fd : FuncData} {f_check_block : Addr} {fd_check_block : FuncData} {f_code_number : Addr} {fd_code_number : FuncData}    (D : Dn K mg "mark_of" s_mark_of ["numbers"] f fd) (bi : Bi mg) (G_check_block : FnOk P w K mg base CX0 3 f_check_block fd_check_block ["values", "least"] spBlock) (D_check_block : Dn K mg "check_block" s_check_block ["values", "least"] f_check_block fd_check_block) (G_code_number : FnOk P w K mg base CX0 1 f_code_number fd_code_number ["number"] spCode) (D_code_number : Dn K mg "code_number" s_code_number ["number"] f_code_number fd_code_number)    (g_MARK_FACTOR : ∃ t, mg "MARK_FACTOR" = some (.int 31 t)) (g_MARK_MODULUS : ∃ t, mg "MARK_MODULUS" = some (.int 9973 t)) : FnOk P w K mg base CX0 4 f fd ["numbers"] spMark := by
  refine lt_out ?_
  simp (disch := with_unfolding_all
    refine D.F.ok sc_mark_of (fun vs H Q E h => ?_) (fun cdv A outer s H vs Q E hr h => ?_)
    · obtain ⟨a, ns, rfl, _⟩ := h
      rfl
    · obtain ⟨a, ns, rfl, hS, hl, q⟩ := h
      obtain ⟨tf, g_MARK_FACTOR⟩ := g_MARK_FACTOR
      obtain ⟨tm, g_MARK_MODULUS⟩ := g_MARK_MODULUS
      refine ⟨_, (pss_cons (ps_expr (pe_call G_check_block (hr.mono (by first | decide | exact Nat.le_refl _)) (by rfl) D_check_block.g D_check_block.F.kp D_check_block.b .nil pass0 (pa_cons (pv 0) (pa_cons pe_int pa_nil))))
   (pss_cons (ps_set (i := 1) sc_mark_of.nd rfl (Or.inl rfl) pe_int)
   (pss_cons (ps_for PassesOwn.never rfl (pi_list (pv 0)) (pg_name (i := 2) sc_mark_of.nd rfl (Or.inl rfl))
   (pss_one (ps_set (i := 1) sc_mark_of.nd rfl (Or.inl rfl) (pe_op op_mod (pe_op op_add (pe_op op_mul (pv 1) (pe_glob (v := .int 31) (by rfl) g_MARK_FACTOR ⟨_, rfl⟩)) (pe_call G_code_number (hr.mono (by first | decide | exact Nat.le_refl _)) (by rfl) D_code_number.g D_code_number.F.kp D_code_number.b .nil pass0 (pa_cons (pv 2) pa_nil))) (pe_glob (v := .int 9973) (by rfl) g_MARK_MODULUS ⟨_, rfl⟩)))))
   (pss_one (ps_ret (pv 1)))))), ?_⟩
      refine rd_start (σ := [some (.ref a), none, none]) rfl ?_
      walk_at "rd"
      refine' rd_lpL (xs := ns.map V.int) ?k1 ?_
      (case k1 => exact SqL.of (by walk_at "hg"))
      refine for_list (xs := ns.map V.int) (fun i σ H' => ∃ t, σ = [some (.ref a), some (.int (markF (ns.take i))), t] ∧ Same H H') ⟨none, rfl, by walk_at "sm"⟩ (fun i σ H1 _ hI => ?_) (fun i v σ H1 hv hI => ?_) (fun σ H1 hI => ?_)
      · obtain ⟨t, rfl, hs⟩ := hI
        exact hs.seq (SqL.of hS)
      · obtain ⟨t, rfl, hs⟩ := hI
        obtain ⟨z, rfl, hz⟩ : ∃ z, v = .int z ∧ ns[i]? = some z := by
          rw [List.getElem?_map] at hv
          cases g : ns[i]? with
          | none => rw [g] at hv; cases hv
          | some z => rw [g] at hv; exact ⟨z, (Option.some.inj hv).symm, rfl⟩
        have hb := markF_bound (ns.take i)
        walk_at "rd"
        refine ⟨some (.int z), ?_, hs⟩
        rw [show ns.take (i + 1) = ns.take i ++ [z] by rw [List.take_add_one, hz]; rfl, markF_snoc]
        rfl
      · obtain ⟨t, rfl, hs⟩ := hI
        walk_at "rd"
        rw [List.take_of_length_le (by rw [List.length_map]; exact Nat.le_refl _)]
        exact q _ hs
    ) only [↓lt_eq]
theorem ok_read_frame {f : Addr} {fd : FuncData} {f_read_numbers : Addr} {fd_read_numbers : FuncData} {f_coarse_count : Addr} {fd_coarse_count : FuncData} {f_mark_of : Addr} {fd_mark_of : FuncData}    (D : Dn K mg "read_frame" s_read_frame ["record", "tables"] f fd) (bi : Bi mg) (G_read_numbers : FnOk P w K mg base CX0 6 f_read_numbers fd_read_numbers ["bits", "length", "coarse", "tables"] (spRd K)) (D_read_numbers : Dn K mg "read_numbers" s_read_numbers ["bits", "length", "coarse", "tables"] f_read_numbers fd_read_numbers) (G_coarse_count : FnOk P w K mg base CX0 4 f_coarse_count fd_coarse_count ["length", "levels"] spCoarse) (D_coarse_count : Dn K mg "coarse_count" s_coarse_count ["length", "levels"] f_coarse_count fd_coarse_count) (G_mark_of : FnOk P w K mg base CX0 4 f_mark_of fd_mark_of ["numbers"] spMark) (D_mark_of : Dn K mg "mark_of" s_mark_of ["numbers"] f_mark_of fd_mark_of)     : FnOk P w K mg base CX0 7 f fd ["record", "tables"] (spRf K) := by
  refine lt_out ?_
  simp (disch := with_unfolding_all
    refine D.F.ok sc_read_frame (fun vs H Q E h => ?_) (fun cdv A outer s H vs Q E hr h => ?_)
    · obtain ⟨v, d, ns, T, t, rfl, _⟩ := h
      rfl
    · obtain ⟨v, d, ns, T, t, rfl, ⟨a, j, rfl, h, hj⟩, ok, hT, q⟩ := h
      unfold FrAt at h
      obtain ⟨hok, hl, hn, o1, o2⟩ := ok
      obtain ⟨k1, k2, k3, k4, k5, k6, k7, k8⟩ := hok
      refine ⟨_, (pss_cons (ps_asg (pe_slice sl_tup (pv 0) (po_some pe_int) po_none) (pg_tup rfl (pgs_cons (pg_name (i := 2) sc_read_frame.nd rfl (Or.inl rfl)) (pgs_cons (pg_name (i := 3) sc_read_frame.nd rfl (Or.inl rfl)) (pgs_cons (pg_name (i := 4) sc_read_frame.nd rfl (Or.inl rfl)) (pgs_cons (pg_name (i := 5) sc_read_frame.nd rfl (Or.inl rfl)) (pgs_cons (pg_name (i := 6) sc_read_frame.nd rfl (Or.inl rfl)) (pgs_cons (pg_name (i := 7) sc_read_frame.nd rfl (Or.inl rfl)) pgs_nil))))))))
   (pss_cons (ps_set (i := 8) sc_read_frame.nd rfl (Or.inl rfl) (pe_call G_read_numbers (hr.mono (by first | decide | exact Nat.le_refl _)) (by rfl) D_read_numbers.g D_read_numbers.F.kp D_read_numbers.b .nil pass0 (pa_cons (pv 7) (pa_cons (pv 2) (pa_cons (pe_call G_coarse_count (hr.mono (by first | decide | exact Nat.le_refl _)) (by rfl) D_coarse_count.g D_coarse_count.F.kp D_coarse_count.b .nil pass0 (pa_cons (pv 2) (pa_cons (pv 4) pa_nil))) (pa_cons (pv 1) pa_nil))))))
   (pss_cons (ps_if (PW.pt (pw_or (pt_cmpR cIsN (pv 8) pe_non (nomark _)) (pw_or1 (pt_cmpR op_ne (pe_call G_mark_of (hr.mono (by first | decide | exact Nat.le_refl _)) (by rfl) D_mark_of.g D_mark_of.F.kp D_mark_of.b .nil pass0 (pa_cons (pe_ix ix_tup (pv 8) pe_int (fun _ _ => rfl)) pa_nil)) (pv 6) (nomark _)))))
   (pss_one (ps_ret pe_non))
   pss_nil)
   (pss_one (ps_ret (pv 8)))))), ?_⟩
      refine rd_start (σ := [some (.ref a), some (.ref t), none, none, none, none, none, none, none]) rfl ?_
      walk_at "rd"
      refine rd_slTp (SqT.of h) (ys := [.int (d.1 : Nat), .ref j, .int (d.2.2.2.1 : Nat), .int (d.2.2.2.2 : Nat), .int (markF ns), .str (SX.S (bitsF d ns T))]) rfl (show ¬ (HT.sIx 7 0 (some 1) = 0 ∧ HT.sIx 7 7 none = 7) by decide) fun p1 hp1 => ?_
      walk_at "rd"
      refine use_coarse k1 k2 k6 ?_
      have hcc := cc_n d.1 d.2.2.2.1
      walk_at "rd"
      refine use_rd (ns := ns) (T := T) rfl hl.symm (by omega) (by omega) (fun z hz => Nat.lt_of_le_of_lt (hn z hz) (by decide)) (hT.lk (.new hp1)) (o1.up (by decide)) (o2.up (by decide)) fun p m q2 H2 hs2 hn2 hp2 hm2 hq2 => ?_
      walk_at "rd"
      refine if_noD (fun z => V.noConfusion z) ?_
      walk_at "rd"
      rename_i H3 hs3
      refine if_noN rfl ?_
      walk_at "rd"
      exact q p m q2 _ (((same_new hp1).trans hs2).trans hs3) ((same_new hp1).free hn2) (hs3 _ _ hp2) (hs3 _ _ hm2) (hq2.lk (.of hs3))
    ) only [↓lt_eq]
theorem ok_read_frames {f : Addr} {fd : FuncData} {f_read_frame : Addr} {fd_read_frame : FuncData}    (D : Dn K mg "read_frames" s_read_frames ["records"] f fd) (bi : Bi mg) (G_read_frame : FnOk P w K mg base CX0 7 f_read_frame fd_read_frame ["record", "tables"] (spRf K)) (D_read_frame : Dn K mg "read_frame" s_read_frame ["record", "tables"] f_read_frame fd_read_frame)    {a_START t0 t1 a_HARD : Addr} (g_START : mg "START" = some (.ref a_START)) (hSt : ∀ H, TupV K H a_START [.ref t0, .ref t1]) (hS0 : ∀ H, TupV K H t0 [.int 2, .int 1]) (hS1 : ∀ H, TupV K H t1 [.int 2, .int 1]) (g_HARD : mg "HARD" = some (.ref a_HARD)) (hHd : ∀ H, TupV K H a_HARD [.int 0, .int 0]) : FnOk P w K mg base CX0 8 f fd ["records"] (spFrs K) := by
  refine lt_out ?_
  simp (disch := with_unfolding_all
    refine D.F.ok sc_read_frames (fun vs H Q E h => ?_) (fun cdv A outer s H vs Q E hr h => ?_)
    · obtain ⟨a, refs, rs, T, rfl, _⟩ := h
      rfl
    · obtain ⟨a, refs, rs, Te, rfl, hS, hlen, hR, hV, q⟩ := h
      refine ⟨_, (pss_cons (ps_set (i := 1) sc_read_frames.nd rfl (Or.inl rfl) (pe_lst pa_nil))
   (pss_cons (ps_par3 (i := 2) (j := 3) (l := 4) rfl sc_read_frames.nd rfl rfl rfl (by decide) (by decide) (by decide) rfl rfl rfl (pa_cons (pe_glob (v := .ref a_START) (by rfl) g_START rfl) (pa_cons pe_int (pa_cons (pe_glob (v := .ref a_HARD) (by rfl) g_HARD rfl) pa_nil))) rfl)
   (pss_cons (ps_for PassesOwn.never rfl (pi_enum (by rfl) bi.enumerate_ (pa_cons (pv 0) pa_nil)) (pg_tup rfl (pgs_cons (pg_name (i := 5) sc_read_frames.nd rfl (Or.inl rfl)) (pgs_cons (pg_name (i := 6) sc_read_frames.nd rfl (Or.inl rfl)) pgs_nil)))
   (pss_one (ps_if (pt_cmpR op_eq (pe_ix ix_tup (pv 6) pe_int (fun _ _ => rfl)) pe_str (nomark _))
   (pss_one (ps_set (i := 2) sc_read_frames.nd rfl (Or.inl rfl) (pe_ix ix_tup (pv 6) pe_int (fun _ _ => rfl))))
   (pss_cons (ps_asg (pe_slice sl_tup (pv 6) (po_some pe_int) (po_some pe_int)) (pg_tup rfl (pgs_cons (pg_name (i := 7) sc_read_frames.nd rfl (Or.inl rfl)) (pgs_cons (pg_name (i := 8) sc_read_frames.nd rfl (Or.inl rfl)) pgs_nil))))
   (pss_cons (ps_set (i := 9) sc_read_frames.nd rfl (Or.inl rfl) (pe_call G_read_frame (hr.mono (by first | decide | exact Nat.le_refl _)) (by rfl) D_read_frame.g D_read_frame.F.kp D_read_frame.b .nil pass0 (pa_cons (pv 6) (pa_cons (pv 2) pa_nil))))
   (pss_cons (ps_if (PW.pt (pw_or (pt_cmpR op_gt (pe_op op_add (pe_ix ix_tup (pv 4) pe_int (fun _ _ => rfl)) (pe_ix ix_tup (pv 8) pe_int (fun _ _ => rfl))) (pv 7) (nomark _)) (pw_or1 (pt_cmpR cIsN (pv 9) pe_non (nomark _)))))
   (pss_one ps_never)
   pss_nil)
   (pss_cons (ps_asg (pv 9) (pg_tup rfl (pgs_cons (pg_name (i := 10) sc_read_frames.nd rfl (Or.inl rfl)) (pgs_cons (pg_name (i := 11) sc_read_frames.nd rfl (Or.inl rfl)) pgs_nil))))
   (pss_cons (ps_expr (pe_bm PySem.F.plainAttrs_list PySem.F.slot_list_append PySem.F.type_list_append mt_append (pv 1) (pa_cons (pe_tup (pa_cons (pe_tup (pa_cons (pv 5) (pa_cons (pv 3) (pa_cons (pv 7) (pa_cons (pv 4) (pa_cons (pv 8) pa_nil)))))) (pa_cons (pv 10) (pa_cons (pv 2) (pa_cons (pv 11) pa_nil))))) pa_nil)))
   (pss_one (ps_par3 (i := 2) (j := 3) (l := 4) rfl sc_read_frames.nd rfl rfl rfl (by decide) (by decide) (by decide) rfl rfl rfl (pa_cons (pv 11) (pa_cons (pe_op op_add (pv 3) (pv 7)) (pa_cons (pv 8) pa_nil))) rfl))))))))))
   (pss_cons (ps_if (pt_cmpR (op_neD hr.units) (pv 4) (pe_glob (v := .ref a_HARD) (by rfl) g_HARD rfl) (nomark _))
   (pss_one ps_never)
   pss_nil)
   (pss_one (ps_ret (pv 1))))))), ?_⟩
      refine rd_start (σ := [some (.ref a), none, none, none, none, none, none, none, none, none, none, none]) rfl ?_
      walk_at "rd"
      rename_i F hF
      refine rd_lpE (SqL.of (look_new hF hS)) ?_
      refine for_enum (xs := refs) (fun i σ H' => ∃ fms dn t T pl jl lj x5 x6 x7 x8 x9 x10 x11, σ = [some (.ref a), some (.ref F), some (.ref t), some (.int (pl : Nat)), some (.ref jl), x5, x6, x7, x8, x9, x10, x11] ∧ FI K F H H' rs Te i fms dn t T pl jl lj) ⟨[], [], a_START, T0, 0, a_HARD, (0, 0), none, none, none, none, none, none, none, rfl, ⟨upd_same, hF, .nil, rfl, hV, hHd _, fun _ => rfl, ⟨t0, t1, hSt _, hS0 _, hS1 _⟩, same_new hF, Nat.le_refl _⟩⟩ (fun i σ H1 _ hI => ?_) (fun i v σ H1 W hv hI hW => ?_) (fun σ H1 hI => ?_)
      · obtain ⟨fms, dn, t, T, pl, jl, lj, x5, x6, x7, x8, x9, x10, x11, rfl, hI⟩ := hI
        exact SqL.of (hI.sm _ _ hS)
      · obtain ⟨fms, dn, t, T, pl, jl, lj, x5, x6, x7, x8, x9, x10, x11, rfl, hI⟩ := hI
        obtain ⟨r, rr, hv2, hd1, hd2, hmem⟩ := hR.drop_head hv
        have hil := (List.getElem?_eq_some_iff.mp hv).1
        have hI := hI.same (same_new (o := .tup [.int (i : Nat), v]) hW)
        have hv2 := hv2.lk (.of hI.sm)
        have hok := hV.ok r hmem
        cases r with
        | st T' =>
          obtain ⟨b, t', rfl, hb, hT'⟩ := hv2
          walk_at "rd"
          refine if_yesD rfl ?_
          walk_at "rd"
          exact ⟨fms, dn, t', T', pl, jl, lj, _, _, _, _, _, _, _, rfl, hI.st hd1 hd2 hT'⟩
        | fr d ns T' =>
          obtain ⟨b, j, rfl, hb, hj⟩ := hv2
          have vd := hI.vd
          rw [hd1] at vd
          obtain ⟨rfl, v2, v3, v4, v5, v6, v7⟩ := vd
          have hrc : RcAt K _ (.ref b) (.fr d ns T') := ⟨b, j, rfl, hb, hj⟩
          unfold FrAt at hb
          walk_at "rd"
          refine if_noD st_ne_fr ?_
          walk_at "rd"
          refine rd_slTp (SqT.of hb) (ys := [.int (d.1 : Nat), .ref j]) rfl (show ¬ (HT.sIx 7 0 (some 1) = 0 ∧ HT.sIx 7 7 (some 3) = 7) by decide) fun p1 hp1 => ?_
          have lk1 := LK.new (o := .tup [.int (d.1 : Nat), .ref j]) hp1
          have hI := hI.same (same_new (o := .tup [.int (d.1 : Nat), .ref j]) hp1)
          have hrc := hrc.lk lk1
          walk_at "rd"
          refine use_rf hrc hok hI.tb fun p2 m2 q2 H2 hs2 hn2 hp2 hm2 hq2 => ?_
          have hI := hI.same hs2
          have hj2 := (LK.of hs2) _ _ (lk1 _ _ hj fun _ z => nomatch z) fun _ z => nomatch z
          have L1 := hI.jt.1
          walk_at "rd"
          refine if_noD (by omega) ?_
          walk_at "rd"
          refine if_noD (fun z => V.noConfusion z) ?_
          have eF := hI.eF
          have hlf := hI.len
          have nmF : m2 ≠ F := ne_fms eF hm2 (by have := v2.1; omega) (fms_ref hI.fm)
          walk_at "rd"
          rename_i b5 hb5 w6 hw6
          have s5 := same_new (o := .tup [.int (i : Nat), .int (pl : Nat), .int (d.1 : Nat), .ref jl, .ref j]) hb5
          have s6 := same_new (o := .tup [.ref b5, .ref m2, .ref t, .ref q2]) hw6
          have hI := hI.same (s5.trans s6)
          refine rd_appG hI.eF (by omega) ?_
          walk_at "rd"
          have lk5 := LK.of (s5.trans s6)
          have fm : FmAt K [F] _ (.ref w6) (i, pl, d, lj, ns, T') := ⟨w6, b5, jl, j, m2, t, q2, rfl, upd_same, s6 _ _ upd_same, hI.jt, lk5 _ _ hj2 (fun _ z => nomatch z), fun z => nmF (List.mem_singleton.mp z), s6 _ _ (s5 _ _ hm2), hI.tb, hq2.lk lk5⟩
          have hI := hI.fr hd1 hd2 fm (lk5 _ _ hj2 fun _ z => nomatch z) (hq2.lk lk5)
          refine ⟨_, _, q2, _, pl + d.1, j, _, some (.int (i : Nat)), some (.ref b), some (.int (d.1 : Nat)), some (.ref j), some (.ref p2), some (.ref m2), some (.ref q2), ?_, hI⟩
          rw [show ((pl + d.1 : Nat) : Int) = (pl : Int) + (d.1 : Int) by omega]
          rfl
      · obtain ⟨fms, dn, t, T, pl, jl, lj, x5, x6, x7, x8, x9, x10, x11, rfl, hI⟩ := hI
        rw [hR.len] at hI
        have vd := hI.vd
        rw [List.drop_length] at vd
        have l0 : lj.1 = 0 := vd.2
        have l1 := hI.j0 l0
        walk_at "rd"
        refine rd_neT2 hI.jt.1 (hHd _).1 (by omega) (by omega) ?_
        walk_at "rd"
        have sp := hI.sp
        rw [List.drop_length, show frR rs.length pl lj [] = [] from rfl, List.append_nil] at sp
        refine q F fms _ hF hI.eF ?_ hI.sm
        rw [sp]
        exact hI.fm.imp fun _ _ z => z.out
    ) only [↓lt_eq]
theorem ok_Stream___init__ {f : Addr} {fd : FuncData} {f_check_records : Addr} {fd_check_records : FuncData} {f_read_frames : Addr} {fd_read_frames : FuncData} {C_Stream : Addr}   (D : Mn K C_Stream "__init__" "Stream.__init__" s_Stream___init__ ["self", "records"] f fd) (bi : Bi mg) (G_check_records : FnOk P w K mg base CX0 7 f_check_records fd_check_records ["records"] (spCkRc K)) (D_check_records : Dn K mg "check_records" s_check_records ["records"] f_check_records fd_check_records) (G_read_frames : FnOk P w K mg base CX0 8 f_read_frames fd_read_frames ["records"] (spFrs K)) (D_read_frames : Dn K mg "read_frames" s_read_frames ["records"] f_read_frames fd_read_frames)  (TC_Stream : StmC K mg C_Stream)   : FnOk P w K mg base CX0 9 f fd ["self", "records"] (spInitS K C_Stream) := by
  refine lt_out ?_
  simp (disch := with_unfolding_all
    refine D.F.ok sc_Stream___init__ (fun vs H Q E h => ?_) (fun cdv A outer s H vs Q E hr h => ?_)
    · obtain ⟨x, a, dx, refs, rs, Te, rfl, _⟩ := h
      rfl
    · obtain ⟨x, a, dx, refs, rs, Te, rfl, hx, hS, hl, hR, hV, q⟩ := h
      refine ⟨_, (pss_cons (ps_expr (pe_call G_check_records (hr.mono (by first | decide | exact Nat.le_refl _)) (by rfl) D_check_records.g D_check_records.F.kp D_check_records.b .nil pass0 (pa_cons (pv 1) pa_nil)))
   (pss_cons (ps_fld (pv 0) (pe_callTy cList (by rfl) bi.list_ (by decide +kernel) (pa_cons (pv 1) pa_nil)) rfl)
   (pss_one (ps_fld (pv 0) (pe_call G_read_frames (hr.mono (by first | decide | exact Nat.le_refl _)) (by rfl) D_read_frames.g D_read_frames.F.kp D_read_frames.b .nil pass0 (pa_cons (pe_fld (pv 0) rfl) pa_nil)) rfl)))), ?_⟩
      refine rd_start (σ := [some (.ref x), some (.ref a)]) rfl ?_
      walk_at "rd"
      refine use_ckrc hS hR hV.ok fun H1 hs1 => ?_
      have hS1 := hs1 _ _ hS
      have hx1 := hs1 _ _ hx
      walk_at "rd"
      refine rd_setF ?_
      walk_at "rd"
      rename_i L hL
      have nxL : x ≠ L := ne_of_none hx1 hL
      refine ⟨x, C_Stream, dx, _, rfl, look_new hL hx1, TC_Stream.cl, TC_Stream.nh, by decide, ?_⟩
      walk_at "rd"
      refine rd_setF ?_
      walk_at "rd"
      have k1 : Kp x H (upd (upd H1 L (.lst refs)) x (.ins C_Stream dx (putF "held" (.ref L) []))) := fun b o nb e => by rw [upd_ne nb]; exact look_new hL (hs1 _ _ e)
      have eL1 : (upd (upd H1 L (.lst refs)) x (.ins C_Stream dx (putF "held" (.ref L) []))) L = some (.lst refs) := by rw [upd_ne nxL.symm]; exact upd_same
      refine ⟨.ref x, rfl, x, C_Stream, dx, _, _, rfl, upd_same, TC_Stream.cl, TC_Stream.nh, held_ L, ?_⟩
      walk_at "rd"
      have hR1 := hR.lki (.ofK hx k1)
      refine use_frs eL1 hl hR1 hV fun F fms H2 hF eF hfm hs2 => ?_
      have hx2 := hs2 _ _ upd_same
      have k2 := k1.trans (Kp.of hs2)
      have k3 : Kp x H2 (upd H2 x (.ins C_Stream dx (sf L F))) := fun b o nb e => by rw [upd_ne nb]; exact e
      refine ⟨x, C_Stream, dx, _, rfl, hx2, TC_Stream.cl, TC_Stream.nr, by show 1 < 1000; decide, ?_⟩
      walk_at "rd"
      exact q _ ⟨dx, L, F, fms, Te, upd_same, k3 _ _ nxL.symm (hs2 _ _ eL1), hl, hR.lki (.ofK hx (k2.trans k3)), hV, lst_kp hx2 k3 _ _ eF, hfm.fld hx2 k3⟩ (k2.trans k3)
    ) only [↓lt_eq]
theorem ok_check_pair {f : Addr} {fd : FuncData} {f_check_within : Addr} {fd_check_within : FuncData} {f_check_integer : Addr} {fd_check_integer : FuncData}    (D : Dn K mg "check_pair" s_check_pair ["shape", "a", "b"] f fd) (bi : Bi mg) (G_check_within : FnOk P w K mg base CX0 3 f_check_within fd_check_within ["value", "low", "high"] spCkW) (D_check_within : Dn K mg "check_within" s_check_within ["value", "low", "high"] f_check_within fd_check_within) (G_check_integer : FnOk P w K mg base CX0 2 f_check_integer fd_check_integer ["value"] spCkI) (D_check_integer : Dn K mg "check_integer" s_check_integer ["value"] f_check_integer fd_check_integer)    (g_SHAPE_LIMIT : ∃ t, mg "SHAPE_LIMIT" = some (.int 3 t)) : FnOk P w K mg base CX0 4 f fd ["shape", "a", "b"] spCkP := by
  refine lt_out ?_
  simp (disch := with_unfolding_all
    refine D.F.ok sc_check_pair (fun vs H Q E h => ?_) (fun cdv A outer s H vs Q E hr h => ?_)
    · obtain ⟨s, a, b, rfl, _⟩ := h
      rfl
    · obtain ⟨s, a, b, rfl, h1, h2, q⟩ := h
      obtain ⟨t64, g_SHAPE_LIMIT⟩ := g_SHAPE_LIMIT
      refine ⟨_, (pss_cons (ps_expr (pe_call G_check_within (hr.mono (by first | decide | exact Nat.le_refl _)) (by rfl) D_check_within.g D_check_within.F.kp D_check_within.b .nil pass0 (pa_cons (pv 0) (pa_cons pe_int (pa_cons (pe_glob (v := .int 3) (by rfl) g_SHAPE_LIMIT ⟨_, rfl⟩) pa_nil)))))
   (pss_cons (ps_expr (pe_call G_check_integer (hr.mono (by first | decide | exact Nat.le_refl _)) (by rfl) D_check_integer.g D_check_integer.F.kp D_check_integer.b .nil pass0 (pa_cons (pv 1) pa_nil)))
   (pss_one (ps_expr (pe_call G_check_integer (hr.mono (by first | decide | exact Nat.le_refl _)) (by rfl) D_check_integer.g D_check_integer.F.kp D_check_integer.b .nil pass0 (pa_cons (pv 2) pa_nil)))))), ?_⟩
      refine rd_start (σ := [some (.int s), some (.int a), some (.int b)]) rfl ?_
      walk_at "rd"
      exact q
    ) only [↓lt_eq]
theorem ok_fold_pair {f : Addr} {fd : FuncData} {f_check_pair : Addr} {fd_check_pair : FuncData}    (D : Dn K mg "fold_pair" s_fold_pair ["shape", "a", "b"] f fd) (bi : Bi mg) (G_check_pair : FnOk P w K mg base CX0 4 f_check_pair fd_check_pair ["shape", "a", "b"] spCkP) (D_check_pair : Dn K mg "check_pair" s_check_pair ["shape", "a", "b"] f_check_pair fd_check_pair)    {a_COEFFICIENTS t0 t1 t2 t3 : Addr} (g_COEFFICIENTS : mg "COEFFICIENTS" = some (.ref a_COEFFICIENTS)) (hC : ∀ H, SqT K H a_COEFFICIENTS [.ref t0, .ref t1, .ref t2, .ref t3]) (h0 : ∀ H, SqT K H t0 [.int (-1), .int 2]) (h1 : ∀ H, SqT K H t1 [.int (-2), .int 3]) (h2 : ∀ H, SqT K H t2 [.int 1, .int (-2)]) (h3 : ∀ H, SqT K H t3 [.int 2, .int (-3)]) : FnOk P w K mg base CX0 5 f fd ["shape", "a", "b"] (spPair foldP) := by
  refine lt_out ?_
  simp (disch := with_unfolding_all
    refine D.F.ok sc_fold_pair (fun vs H Q E h => ?_) (fun cdv A outer s H vs Q E hr h => ?_)
    · obtain ⟨s, a, b, rfl, _⟩ := h
      rfl
    · obtain ⟨s, a, b, rfl, hs0, hs1, q⟩ := h
      refine ⟨_, (pss_cons (ps_expr (pe_call G_check_pair (hr.mono (by first | decide | exact Nat.le_refl _)) (by rfl) D_check_pair.g D_check_pair.F.kp D_check_pair.b .nil pass0 (pa_cons (pv 0) (pa_cons (pv 1) (pa_cons (pv 2) pa_nil)))))
   (pss_cons (ps_asg (pe_ix ix_tup (pe_glob (v := .ref a_COEFFICIENTS) (by rfl) g_COEFFICIENTS rfl) (pv 0) (fun _ _ => rfl)) (pg_tup rfl (pgs_cons (pg_name (i := 3) sc_fold_pair.nd rfl (Or.inl rfl)) (pgs_cons (pg_name (i := 4) sc_fold_pair.nd rfl (Or.inl rfl)) pgs_nil))))
   (pss_cons (ps_set (i := 1) sc_fold_pair.nd rfl (Or.inl rfl) (pe_op op_add (pv 1) (pe_op op_fdiv (pe_op op_add (pe_op op_mul (pv 3) (pv 2)) pe_int) pe_int)))
   (pss_cons (ps_set (i := 2) sc_fold_pair.nd rfl (Or.inl rfl) (pe_op op_add (pv 2) (pe_op op_fdiv (pe_op op_add (pe_op op_mul (pv 4) (pv 1)) pe_int) pe_int)))
   (pss_cons (ps_set (i := 1) sc_fold_pair.nd rfl (Or.inl rfl) (pe_op op_add (pv 1) (pe_op op_fdiv (pe_op op_add (pe_op op_mul (pv 3) (pv 2)) pe_int) pe_int)))
   (pss_one (ps_ret (pe_tup (pa_cons (pv 1) (pa_cons (pv 2) pa_nil)))))))))), ?_⟩
      refine rd_start (σ := [some (.int s), some (.int a), some (.int b), none, none]) rfl ?_
      rcases four hs0 hs1 with rfl | rfl | rfl | rfl
      all_goals
        walk_at "rd"
        rename_i p hp
        exact q p hp
    ) only [↓lt_eq]
theorem ok_unfold_pair {f : Addr} {fd : FuncData} {f_check_pair : Addr} {fd_check_pair : FuncData}    (D : Dn K mg "unfold_pair" s_unfold_pair ["shape", "a", "b"] f fd) (bi : Bi mg) (G_check_pair : FnOk P w K mg base CX0 4 f_check_pair fd_check_pair ["shape", "a", "b"] spCkP) (D_check_pair : Dn K mg "check_pair" s_check_pair ["shape", "a", "b"] f_check_pair fd_check_pair)    {a_COEFFICIENTS t0 t1 t2 t3 : Addr} (g_COEFFICIENTS : mg "COEFFICIENTS" = some (.ref a_COEFFICIENTS)) (hC : ∀ H, SqT K H a_COEFFICIENTS [.ref t0, .ref t1, .ref t2, .ref t3]) (h0 : ∀ H, SqT K H t0 [.int (-1), .int 2]) (h1 : ∀ H, SqT K H t1 [.int (-2), .int 3]) (h2 : ∀ H, SqT K H t2 [.int 1, .int (-2)]) (h3 : ∀ H, SqT K H t3 [.int 2, .int (-3)]) : FnOk P w K mg base CX0 5 f fd ["shape", "a", "b"] (spPair unfoldP) := by
  refine lt_out ?_
  simp (disch := with_unfolding_all
    refine D.F.ok sc_unfold_pair (fun vs H Q E h => ?_) (fun cdv A outer s H vs Q E hr h => ?_)
    · obtain ⟨s, a, b, rfl, _⟩ := h
      rfl
    · obtain ⟨s, a, b, rfl, hs0, hs1, q⟩ := h
      refine ⟨_, (pss_cons (ps_expr (pe_call G_check_pair (hr.mono (by first | decide | exact Nat.le_refl _)) (by rfl) D_check_pair.g D_check_pair.F.kp D_check_pair.b .nil pass0 (pa_cons (pv 0) (pa_cons (pv 1) (pa_cons (pv 2) pa_nil)))))
   (pss_cons (ps_asg (pe_ix ix_tup (pe_glob (v := .ref a_COEFFICIENTS) (by rfl) g_COEFFICIENTS rfl) (pv 0) (fun _ _ => rfl)) (pg_tup rfl (pgs_cons (pg_name (i := 3) sc_unfold_pair.nd rfl (Or.inl rfl)) (pgs_cons (pg_name (i := 4) sc_unfold_pair.nd rfl (Or.inl rfl)) pgs_nil))))
   (pss_cons (ps_set (i := 1) sc_unfold_pair.nd rfl (Or.inl rfl) (pe_op op_sub (pv 1) (pe_op op_fdiv (pe_op op_add (pe_op op_mul (pv 3) (pv 2)) pe_int) pe_int)))
   (pss_cons (ps_set (i := 2) sc_unfold_pair.nd rfl (Or.inl rfl) (pe_op op_sub (pv 2) (pe_op op_fdiv (pe_op op_add (pe_op op_mul (pv 4) (pv 1)) pe_int) pe_int)))
   (pss_cons (ps_set (i := 1) sc_unfold_pair.nd rfl (Or.inl rfl) (pe_op op_sub (pv 1) (pe_op op_fdiv (pe_op op_add (pe_op op_mul (pv 3) (pv 2)) pe_int) pe_int)))
   (pss_one (ps_ret (pe_tup (pa_cons (pv 1) (pa_cons (pv 2) pa_nil)))))))))), ?_⟩
      refine rd_start (σ := [some (.int s), some (.int a), some (.int b), none, none]) rfl ?_
      rcases four hs0 hs1 with rfl | rfl | rfl | rfl
      all_goals
        walk_at "rd"
        rename_i p hp
        exact q p hp
    ) only [↓lt_eq]
theorem ok_check_sound {f : Addr} {fd : FuncData} {f_check_items : Addr} {fd_check_items : FuncData}    (D : Dn K mg "check_sound" s_check_sound ["values"] f fd) (bi : Bi mg) (G_check_items : FnOk P w K mg base CX0 2 f_check_items fd_check_items ["values"] (spItems K)) (D_check_items : Dn K mg "check_items" s_check_items ["values"] f_check_items fd_check_items)     : FnOk P w K mg base CX0 3 f fd ["values"] spSound := by
  refine lt_out ?_
  simp (disch := with_unfolding_all
    refine D.F.ok sc_check_sound (fun vs H Q E h => ?_) (fun cdv A outer s H vs Q E hr h => ?_)
    · obtain ⟨a, ns, rfl, _⟩ := h
      rfl
    · obtain ⟨a, ns, rfl, e1, q⟩ := h
      refine ⟨_, (pss_cons (ps_if (pt_not (pt_val (pe_callB call_isiT (by rfl) bi.isinstance_ (by decide +kernel) (pa_cons (pv 0) (pa_cons (pe_tup (pa_cons (pe_bltn (v := .ty "list") (by rfl) bi.list_ (by decide +kernel) rfl) (pa_cons (pe_bltn (v := .ty "tuple") (by rfl) bi.tuple_ (by decide +kernel) rfl) pa_nil))) pa_nil)))))
   (pss_one ps_never)
   pss_nil)
   (pss_one (ps_expr (pe_call G_check_items (hr.mono (by first | decide | exact Nat.le_refl _)) (by rfl) D_check_items.g D_check_items.F.kp D_check_items.b .nil pass0 (pa_cons (pv 0) pa_nil))))), ?_⟩
      refine rd_start (σ := [some (.ref a)]) rfl ?_
      walk_at "rd"
      rename_i t ht
      refine isiT_lst (look_new ht e1) upd_same ?_
      walk_at "rd"
      rename_i H1 hs1
      exact q _ ((same_new ht).trans hs1)
    ) only [↓lt_eq]
theorem ok_is_placed_joint {f : Addr} {fd : FuncData} {f_is_integer : Addr} {fd_is_integer : FuncData} {f_is_joint : Addr} {fd_is_joint : FuncData}    (D : Dn K mg "is_placed_joint" s_is_placed_joint ["value"] f fd) (bi : Bi mg) (G_is_integer : FnOk P w K mg base CX0 1 f_is_integer fd_is_integer ["value"] spIsI) (D_is_integer : Dn K mg "is_integer" s_is_integer ["value"] f_is_integer fd_is_integer) (G_is_joint : FnOk P w K mg base CX0 3 f_is_joint fd_is_joint ["value"] spJ) (D_is_joint : Dn K mg "is_joint" s_is_joint ["value"] f_is_joint fd_is_joint)     : FnOk P w K mg base CX0 4 f fd ["value"] spPlaced := by
  refine lt_out ?_
  simp (disch := with_unfolding_all
    refine D.F.ok sc_is_placed_joint (fun vs H Q E h => ?_) (fun cdv A outer s H vs Q E hr h => ?_)
    · obtain ⟨a, q, j, rfl, _⟩ := h
      rfl
    · obtain ⟨a, q1, j, rfl, e1, e2, h1, h2, h3, q⟩ := h
      refine ⟨_, (pss_one (ps_ret (pe_and (pe_callB call_isi (by rfl) bi.isinstance_ (by decide +kernel) (pa_cons (pv 0) (pa_cons (pe_bltn (v := .ty "tuple") (by rfl) bi.tuple_ (by decide +kernel) rfl) pa_nil))) (pe_and (pe_cmpR op_eq (pe_callB cLen (by rfl) bi.len_ (by decide +kernel) (pa_cons (pv 0) pa_nil)) pe_int (nomark _)) (pe_and (pe_call G_is_integer (hr.mono (by first | decide | exact Nat.le_refl _)) (by rfl) D_is_integer.g D_is_integer.F.kp D_is_integer.b .nil pass0 (pa_cons (pe_ix ix_tup (pv 0) pe_int (fun _ _ => rfl)) pa_nil)) (pe_one (pe_call G_is_joint (hr.mono (by first | decide | exact Nat.le_refl _)) (by rfl) D_is_joint.g D_is_joint.F.kp D_is_joint.b .nil pass0 (pa_cons (pe_ix ix_tup (pv 0) pe_int (fun _ _ => rfl)) pa_nil)))))))), ?_⟩
      refine rd_start (σ := [some (.ref a)]) rfl ?_
      walk_at "rd"
      refine if_yesD rfl ?_
      walk_at "rd"
      refine use_j (JR.tup2 e2 trivial trivial) ?_
      rw [jt_ok h1 h2 h3]
      exact q
    ) only [↓lt_eq]
theorem ok_has_room {f : Addr} {fd : FuncData}     (D : Dn K mg "has_room" s_has_room ["item", "before", "width_before", "length"] f fd) (bi : Bi mg)      : FnOk P w K mg base CX0 1 f fd ["item", "before", "width_before", "length"] spRoom := by
  refine lt_out ?_
  simp (disch := with_unfolding_all
    refine D.F.ok sc_has_room (fun vs H Q E h => ?_) (fun cdv A outer s H vs Q E hr h => ?_)
    · obtain ⟨a, q, j, b, wb, n, rfl, _⟩ := h
      rfl
    · obtain ⟨a, q1, j, b, wb, n, rfl, e1, e2, h1, h2, h3, h4, q⟩ := h
      refine ⟨_, (pss_cons (ps_par (i := 4) (j := 5) rfl sc_has_room.nd rfl rfl (by decide) rfl rfl (pa_cons (pe_ix ix_tup (pv 0) pe_int (fun _ _ => rfl)) (pa_cons (pe_ix ix_tup (pe_ix ix_tup (pv 0) pe_int (fun _ _ => rfl)) pe_int (fun _ _ => rfl)) pa_nil)) rfl)
   (pss_cons (ps_if (pt_not (pt_chain op_lt op_lt (pv 1) (pv 4) (pv 3)))
   (pss_one (ps_ret pe_bl))
   pss_nil)
   (pss_one (ps_ret (pe_and (pe_cmpR op_ge (pe_op op_sub (pv 4) (pv 1)) (pe_op op_add (pv 2) (pv 5)) (nomark _)) (pe_one (pe_cmpR op_ge (pe_op op_sub (pv 3) (pv 4)) (pv 5) (nomark _)))))))), ?_⟩
      refine rd_start (σ := [some (.ref a), some (.int (b : Nat)), some (.int (wb : Nat)), some (.int (n : Nat)), none, none]) rfl ?_
      walk_at "rd"
      refine if_yesD (by omega) ?_
      walk_at "rd"
      rw [decide_eq_true (show ((j.1 : Nat) : Int) < (n : Nat) by omega)]
      walk_at "rd"
      refine if_yesD (by omega) ?_
      walk_at "rd"
      rw [decide_eq_true (by omega)]
      exact q
    ) only [↓lt_eq]
theorem ok_check_joints {f : Addr} {fd : FuncData} {f_is_placed_joint : Addr} {fd_is_placed_joint : FuncData} {f_has_room : Addr} {fd_has_room : FuncData}    (D : Dn K mg "check_joints" s_check_joints ["joints", "length"] f fd) (bi : Bi mg) (G_is_placed_joint : FnOk P w K mg base CX0 4 f_is_placed_joint fd_is_placed_joint ["value"] spPlaced) (D_is_placed_joint : Dn K mg "is_placed_joint" s_is_placed_joint ["value"] f_is_placed_joint fd_is_placed_joint) (G_has_room : FnOk P w K mg base CX0 1 f_has_room fd_has_room ["item", "before", "width_before", "length"] spRoom) (D_has_room : Dn K mg "has_room" s_has_room ["item", "before", "width_before", "length"] f_has_room fd_has_room)     : FnOk P w K mg base CX0 5 f fd ["joints", "length"] spJoints := by
  refine lt_out ?_
  simp (disch := with_unfolding_all
    refine D.F.ok sc_check_joints (fun vs H Q E h => ?_) (fun cdv A outer s H vs Q E hr h => ?_)
    · obtain ⟨a, refs, js, n, rfl, _⟩ := h
      rfl
    · obtain ⟨a, refs, js, n, rfl, e1, hj, hr1, q⟩ := h
      refine ⟨_, (pss_cons (ps_if (pt_not (pt_val (pe_callB call_isiT (by rfl) bi.isinstance_ (by decide +kernel) (pa_cons (pv 0) (pa_cons (pe_tup (pa_cons (pe_bltn (v := .ty "list") (by rfl) bi.list_ (by decide +kernel) rfl) (pa_cons (pe_bltn (v := .ty "tuple") (by rfl) bi.tuple_ (by decide +kernel) rfl) pa_nil))) pa_nil)))))
   (pss_one ps_never)
   pss_nil)
   (pss_cons (ps_asg (pe_tup (pa_cons pe_int (pa_cons pe_int pa_nil))) (pg_tup rfl (pgs_cons (pg_name (i := 2) sc_check_joints.nd rfl (Or.inl rfl)) (pgs_cons (pg_name (i := 3) sc_check_joints.nd rfl (Or.inl rfl)) pgs_nil))))
   (pss_one (ps_for PassesOwn.never rfl (pi_enum (by rfl) bi.enumerate_ (pa_cons (pv 0) pa_nil)) (pg_tup rfl (pgs_cons (pg_name (i := 4) sc_check_joints.nd rfl (Or.inl rfl)) (pgs_cons (pg_name (i := 5) sc_check_joints.nd rfl (Or.inl rfl)) pgs_nil)))
   (pss_cons (ps_if (PW.pt (pw_or (pt_not (pt_val (pe_call G_is_placed_joint (hr.mono (by first | decide | exact Nat.le_refl _)) (by rfl) D_is_placed_joint.g D_is_placed_joint.F.kp D_is_placed_joint.b .nil pass0 (pa_cons (pv 5) pa_nil)))) (pw_or1 (pt_not (pt_val (pe_call G_has_room (hr.mono (by first | decide | exact Nat.le_refl _)) (by rfl) D_has_room.g D_has_room.F.kp D_has_room.b .nil pass0 (pa_cons (pv 5) (pa_cons (pv 2) (pa_cons (pv 3) (pa_cons (pv 1) pa_nil))))))))))
   (pss_one ps_never)
   pss_nil)
   (pss_one (ps_par (i := 2) (j := 3) rfl sc_check_joints.nd rfl rfl (by decide) rfl rfl (pa_cons (pe_ix ix_tup (pv 5) pe_int (fun _ _ => rfl)) (pa_cons (pe_ix ix_tup (pe_ix ix_tup (pv 5) pe_int (fun _ _ => rfl)) pe_int (fun _ _ => rfl)) pa_nil)) rfl))))))), ?_⟩
      refine rd_start (σ := [some (.ref a), some (.int (n : Nat)), none, none, none, none]) rfl ?_
      walk_at "rd"
      rename_i t ht
      refine isiT_lst (look_new ht e1) upd_same ?_
      walk_at "rd"
      rename_i t2 ht2
      refine rd_lpE (SqL.of (look_new ht2 (look_new ht e1))) ?_
      refine for_enum (xs := refs) (fun i σ H' => ∃ x y, σ = [some (.ref a), some (.int (n : Nat)), some (.int ((bef 0 0 js i).1 : Nat)), some (.int ((bef 0 0 js i).2 : Nat)), x, y] ∧ Same H H') ⟨none, none, rfl, (same_new ht).trans (same_new ht2)⟩ (fun i σ H1 _ hI => ?_) (fun i v σ H1 T hv hI hT => ?_) (fun σ H1 hI => ?_)
      · obtain ⟨x, y, rfl, hs⟩ := hI
        exact SqL.of (hs _ _ e1)
      · obtain ⟨x, y, rfl, hs⟩ := hI
        obtain ⟨j, b, q1, ej, rfl, eb, eq⟩ := hj.2 i v hv
        obtain ⟨c1, c2, c3, c4, c5, c6, c7⟩ := rm_at js 0 0 hr1 i j ej
        have eb' := look_new (o := .tup [.int (i : Nat), .ref b]) hT (hs _ _ eb)
        have eq' := look_new (o := .tup [.int (i : Nat), .ref b]) hT (hs _ _ eq)
        walk_at "rd"
        refine ⟨b, q1, j, rfl, eb', eq', c5, c6, c7, ?_⟩
        walk_at "rd"
        refine ⟨b, q1, j, _, _, n, rfl, eb', eq', c1, c2, c3, c4, ?_⟩
        walk_at "rd"
        rw [bef_succ js 0 0 i j ej]
        exact ⟨_, _, rfl, hs.trans (same_new hT)⟩
      · obtain ⟨x, y, rfl, hs⟩ := hI
        walk_at "rd"
        exact q _ hs
    ) only [↓lt_eq]
theorem ok_turned {f g f_check_sound f_check_joints : Addr} {fd fd_turn fd_check_sound fd_check_joints : FuncData} {fn : Int → Int → Int → Int × Int} (D : Dn K mg "turned" s_turned ["values", "joints", "turn"] f fd) (bi : Bi mg)
    (G_check_sound : FnOk P w K mg base CX0 3 f_check_sound fd_check_sound ["values"] spSound) (D_check_sound : Dn K mg "check_sound" s_check_sound ["values"] f_check_sound fd_check_sound)
    (G_check_joints : FnOk P w K mg base CX0 5 f_check_joints fd_check_joints ["joints", "length"] spJoints) (D_check_joints : Dn K mg "check_joints" s_check_joints ["joints", "length"] f_check_joints fd_check_joints)
    (G_turn : FnOk P w K mg base CX0 5 g fd_turn ["shape", "a", "b"] (spPair fn)) (kp_turn : PySem.W.keepIn K (.ref g) = true) (b_turn : Binds K fd_turn ["shape", "a", "b"] []) : FnOk P w K mg base CX0 6 f fd ["values", "joints", "turn"] (spTurned fn g) := by
  refine lt_out ?_
  simp (disch := with_unfolding_all
    refine D.F.ok sc_turned (fun vs H Q E h => ?_) (fun cdv A outer s H vs Q E hr h => ?_)
    · obtain ⟨a, b, xs, refs, js, rfl, _⟩ := h
      rfl
    · obtain ⟨a, b, xs, refs, js, rfl, e1, e2, hj, hr1, hl, q⟩ := h
      refine ⟨_, (pss_cons (ps_expr (pe_call G_check_sound (hr.mono (by first | decide | exact Nat.le_refl _)) (by rfl) D_check_sound.g D_check_sound.F.kp D_check_sound.b .nil pass0 (pa_cons (pv 0) pa_nil)))
   (pss_cons (ps_expr (pe_call G_check_joints (hr.mono (by first | decide | exact Nat.le_refl _)) (by rfl) D_check_joints.g D_check_joints.F.kp D_check_joints.b .nil pass0 (pa_cons (pv 1) (pa_cons (pe_callB cLen (by rfl) bi.len_ (by decide +kernel) (pa_cons (pv 0) pa_nil)) pa_nil))))
   (pss_cons (ps_set (i := 3) sc_turned.nd rfl (Or.inl rfl) (pe_callTy cList (by rfl) bi.list_ (by decide +kernel) (pa_cons (pv 0) pa_nil)))
   (pss_cons (ps_for PassesOwn.never rfl (pi_list (pv 1)) (pg_tup rfl (pgs_cons (pg_name (i := 4) sc_turned.nd rfl (Or.inl rfl)) (pgs_cons (pg_tup rfl (pgs_cons (pg_name (i := 5) sc_turned.nd rfl (Or.inl rfl)) (pgs_cons (pg_name (i := 6) sc_turned.nd rfl (Or.inl rfl)) pgs_nil))) pgs_nil)))
   (pss_one (ps_for PassesOwn.never rfl (pi_range1 (by rfl) bi.range_ (pa_cons (pv 5) pa_nil)) (pg_name (i := 7) sc_turned.nd rfl (Or.inl rfl))
   (pss_cons (ps_par (i := 8) (j := 9) rfl sc_turned.nd rfl rfl (by decide) rfl rfl (pa_cons (pe_op op_sub (pe_op op_sub (pv 4) pe_int) (pv 7)) (pa_cons (pe_op op_add (pv 4) (pv 7)) pa_nil)) rfl)
   (pss_one (ps_asg (pe_callL (i := 2) G_turn (hr.mono (by first | decide | exact Nat.le_refl _)) rfl (Or.inl rfl) kp_turn b_turn .nil pass0 (pa_cons (pv 6) (pa_cons (pe_ix ix_list (pv 3) (pv 8) (fun _ _ => rfl)) (pa_cons (pe_ix ix_list (pv 3) (pv 9) (fun _ _ => rfl)) pa_nil)))) (pg_tup rfl (pgs_cons (pg_sub (pv 3) (pv 8) set_list) (pgs_cons (pg_sub (pv 3) (pv 9) set_list) pgs_nil)))))))))
   (pss_one (ps_ret (pv 3))))))), ?_⟩
      refine rd_start (σ := [some (.ref a), some (.ref b), some (.ref g), none, none, none, none, none, none, none]) rfl ?_
      walk_at "rd"
      refine use_sound e1 fun H1 hs1 => ?_
      walk_at "rd"
      rw [List.length_map]
      refine use_joints (hs1 _ _ e2) (hj.same hs1) hr1 fun H2 hs2 => ?_
      walk_at "rd"
      rename_i p hp
      have hs3 : Same H (upd H2 p (.lst (xs.map V.int))) := (hs1.trans hs2).trans (same_new hp)
      refine rd_lpL (SqL.of (hs3 _ _ e2)) ?_
      refine for_list (xs := refs) (fun i σ H' => ∃ x4 x5 x6 x7 x8 x9, σ = [some (.ref a), some (.ref b), some (.ref g), some (.ref p), x4, x5, x6, x7, x8, x9] ∧ H' p = some (.lst ((turnL fn xs (js.take i)).map V.int)) ∧ Same H H') ⟨none, none, none, none, none, none, rfl, upd_same, hs3⟩ (fun i σ H3 _ hI => ?_) (fun i v σ H3 hv hI => ?_) (fun σ H3 hI => ?_)
      · obtain ⟨x4, x5, x6, x7, x8, x9, rfl, h3, hs⟩ := hI
        exact SqL.of (hs _ _ e2)
      · obtain ⟨x4, x5, x6, x7, x8, x9, rfl, h3, hs⟩ := hI
        obtain ⟨j, aj, qj, ej, rfl, ea, eq⟩ := hj.2 i v hv
        obtain ⟨c1, c2, c3, c4, c5, c6, c7⟩ := rm_at js 0 0 hr1 i j ej
        have ea' := hs _ _ ea
        have eq' := hs _ _ eq
        have hpn : H p = none := (hs1.trans hs2).free hp
        walk_at "rd"
        refine for_range (lo := 0) (n := ((j.2.1 : Nat) : Int).toNat) (fun k σ H' => ∃ y7 y8 y9, σ = [some (.ref a), some (.ref b), some (.ref g), some (.ref p), some (.int (j.1 : Nat)), some (.int (j.2.1 : Nat)), some (.int (j.2.2 : Nat)), y7, y8, y9] ∧ H' p = some (.lst (((prs1 j k).foldl (stp fn) (turnL fn xs (js.take i))).map V.int)) ∧ Same H H') ⟨x7, x8, x9, rfl, h3, hs⟩ (fun k σ H4 hk hI => ?_) (fun σ H4 hI => ?_)
        · obtain ⟨y7, y8, y9, rfl, h4, hs4⟩ := hI
          generalize hys : (prs1 j k).foldl (stp fn) (turnL fn xs (js.take i)) = ys at h4
          have hyl : ys.length = xs.length := by rw [← hys, foldl_length, turnL_length]
          have hml : (ys.map V.int).length = ys.length := List.length_map ..
          have hatL := at_getD (ys := ys) (l := j.1 - 1 - k) (z := ((j.1 : Nat) : Int) - 1 - (0 + (k : Int))) (by omega) (by omega)
          have hatR := at_getD (ys := ys) (l := j.1 + k) (z := ((j.1 : Nat) : Int) + (0 + (k : Int))) (by omega) (by omega)
          have hixL : ixN (ys.map V.int).length (((j.1 : Nat) : Int) - 1 - (0 + (k : Int))) = some (j.1 - 1 - k) := ix_of (by omega) (by omega)
          have hixR : ∀ z : V, ixN ((ys.map V.int).set (j.1 - 1 - k) z).length (((j.1 : Nat) : Int) + (0 + (k : Int))) = some (j.1 + k) := fun z => ix_of (by rw [List.length_set]; omega) (by omega)
          walk_at "rd"
          refine rd_callL rfl ?_
          walk_at "rd"
          rename_i t ht
          refine' rd_setL ?k1 (hixR _) ?_
          (case k1 => exact upd_same)
          walk_at "rd"
          have hpt : p ≠ t := ne_of_none h4 ht
          refine ⟨_, _, _, rfl, ?_, fun b x e => ?_⟩
          · rw [upd_same, prs1_succ, List.foldl_append, hys]
            exact congrArg (fun l => some (HO.lst l)) (map_stp (f := fn) (ys := ys) (t := (j.2.2, j.1 - 1 - k, j.1 + k)))
          · have nb : b ≠ p := ne_of_none e hpn
            rw [upd_ne nb, upd_ne nb]
            exact look_new ht (hs4 _ _ e)
        · obtain ⟨y7, y8, y9, rfl, h4, hs4⟩ := hI
          refine ⟨_, _, _, _, _, _, rfl, ?_, hs4⟩
          rw [Int.toNat_natCast] at h4
          rw [h4, show js.take (i + 1) = js.take i ++ [j] by rw [List.take_add_one, ej]; rfl]
          unfold turnL
          rw [prs_snoc, List.foldl_append]
      · obtain ⟨x4, x5, x6, x7, x8, x9, rfl, h3, hs⟩ := hI
        rw [hj.1, List.take_length] at h3
        walk_at "rd"
        exact q p _ ((hs1.trans hs2).free hp) hs h3
    ) only [↓lt_eq]
theorem ok_placed_joints {f : Addr} {fd : FuncData}     (D : Dn K mg "placed_joints" s_placed_joints ["lengths", "joints"] f fd) (bi : Bi mg)      : FnOk P w K mg base CX0 1 f fd ["lengths", "joints"] spPlcd := by
  refine lt_out ?_
  simp (disch := with_unfolding_all
    refine D.F.ok sc_placed_joints (fun vs H Q E h => ?_) (fun cdv A outer s H vs Q E hr h => ?_)
    · obtain ⟨a, b, fs, js, rfl, _⟩ := h
      rfl
    · obtain ⟨a, b, fs, js, rfl, e1, e2, hj, hl, q⟩ := h
      refine ⟨_, (pss_cons (ps_set (i := 2) sc_placed_joints.nd rfl (Or.inl rfl) (pe_lst pa_nil))
   (pss_cons (ps_set (i := 3) sc_placed_joints.nd rfl (Or.inl rfl) pe_int)
   (pss_cons (ps_for PassesOwn.never rfl (RZ.pi_zipA (by rfl) bi.zip_ (pa_cons (pv 0) (pa_cons (pv 1) pa_nil))) (pg_tup rfl (pgs_cons (pg_name (i := 4) sc_placed_joints.nd rfl (Or.inl rfl)) (pgs_cons (pg_name (i := 5) sc_placed_joints.nd rfl (Or.inl rfl)) pgs_nil)))
   (pss_cons (ps_aug (i := 3) sc_placed_joints.nd rfl (Or.inl rfl) (pv 4) ip_add)
   (pss_one (ps_expr (pe_bm PySem.F.plainAttrs_list PySem.F.slot_list_append PySem.F.type_list_append mt_append (pv 2) (pa_cons (pe_tup (pa_cons (pv 3) (pa_cons (pv 5) pa_nil))) pa_nil))))))
   (pss_one (ps_ret (pe_slice sl_list (pv 2) po_none (po_some (pe_un un_neg pe_int)))))))), ?_⟩
      refine rd_start (σ := [some (.ref a), some (.ref b), none, none, none, none]) rfl ?_
      walk_at "rd"
      rename_i D hD
      have s0 := same_new (o := .lst []) hD
      have hjl := hj.len
      refine ⟨a, b, _, _, rfl, .inl ⟨SqL.of (s0 _ _ e1), SqL.of (s0 _ _ e2), ?_⟩⟩
      refine for_zip (xs := fs.map fun f => V.int (f.1 : Nat)) (ys := js) (by rw [List.length_map]; exact hjl.symm) (fun i σ H' => ∃ ps x4 x5, σ = [some (.ref a), some (.ref b), some (.ref D), some (.int (totW (fs.take i) : Nat)), x4, x5] ∧ H' D = some (.lst ps) ∧ JsAt H' ps (plJ 0 (fs.take i)) ∧ ps.length = i ∧ Same H H') ⟨[], none, none, rfl, upd_same, ⟨rfl, fun i v e => by simp at e⟩, rfl, s0⟩ (fun i σ H1 _ hI => ?_) (fun i u v σ H1 T hu hv hI hT => ?_) (fun σ H1 hI => ?_)
      · obtain ⟨ps, x4, x5, rfl, eD, hps, hpl, sm⟩ := hI
        exact ⟨SqL.of (sm _ _ e1), SqL.of (sm _ _ e2)⟩
      · obtain ⟨ps, x4, x5, rfl, eD, hps, hpl, sm⟩ := hI
        obtain ⟨f', ef, rfl⟩ : ∃ f', fs[i]? = some f' ∧ u = .int (f'.1 : Nat) := by
          rw [List.getElem?_map] at hu
          cases e : fs[i]? with
          | none => rw [e] at hu; cases hu
          | some f' => rw [e] at hu; exact ⟨f', rfl, (Option.some.inj hu).symm⟩
        have hil := (List.getElem?_eq_some_iff.mp ef).1
        obtain ⟨f2, ef2, j, rfl, hjt⟩ := hj.at2 hv
        rw [ef] at ef2
        cases ef2
        have et : fs.take (i + 1) = fs.take i ++ [f'] := by rw [List.take_add_one, ef]; rfl
        have eD := look_new (o := .tup [.int (f'.1 : Nat), .ref j]) hT eD
        have hps := hps.same (same_new (o := .tup [.int (f'.1 : Nat), .ref j]) hT)
        have sm := sm.trans (same_new (o := .tup [.int (f'.1 : Nat), .ref j]) hT)
        have hjt := sm _ _ hjt
        walk_at "rd"
        rename_i t ht
        have nDt : t ≠ D := (ne_of_none eD ht).symm
        have eD := look_new (o := .tup [.int (((totW (fs.take i) : Nat) : Int) + (f'.1 : Nat)), .ref j]) ht eD
        have s2 := same_new (o := .tup [.int (((totW (fs.take i) : Nat) : Int) + (f'.1 : Nat)), .ref j]) ht
        refine rd_appG eD (by omega) ?_
        walk_at "rd"
        have hps := (hps.same s2).kp (p := D) (Kp.at (o := .lst (ps ++ [.ref t]))) ⟨_, eD⟩
        refine ⟨_, some (.int (f'.1 : Nat)), some (.ref j), ?_, upd_same, ?_, by rw [List.length_append, hpl]; rfl, fun c o e => by rw [upd_ne (ne_of_none e hD)]; exact s2 _ _ (sm _ _ e)⟩
        · rw [et, totW_snoc, show ((totW (fs.take i) + f'.1 : Nat) : Int) = ((totW (fs.take i) : Nat) : Int) + (f'.1 : Nat) by omega]
          rfl
        · rw [et, plJ_snoc]
          refine hps.snoc (j := (0 + totW (fs.take i) + f'.1, f'.2.1, f'.2.2)) ?_ (q := j) ?_
          · rw [upd_ne nDt, upd_same, show ((0 + totW (fs.take i) + f'.1 : Nat) : Int) = ((totW (fs.take i) : Nat) : Int) + (f'.1 : Nat) by omega]
          · have ejt := s2 _ _ hjt
            unfold JtAt at ejt
            have nj : j ≠ D := fun z => by
              subst z
              exact absurd (eD.symm.trans ejt) (fun z => nomatch z)
            rw [upd_ne nj]
            exact ejt
      · obtain ⟨ps, x4, x5, rfl, eD, hps, hpl, sm⟩ := hI
        rw [List.length_map, List.take_length] at hps
        walk_at "rd"
        refine rd_slD (SqL.of eD) fun p hp => ?_
        exact q p _ _ (sm.free hp) (sm.trans (same_new hp)) upd_same (hps.drop.same (same_new hp))
    ) only [↓lt_eq]
theorem ok_folded {f f_turned f_fold_pair : Addr} {fd fd_turned fd_fold_pair : FuncData} (D : Dn K mg "folded" s_folded ["values", "joints"] f fd) (bi : Bi mg) (G_turned : FnOk P w K mg base CX0 6 f_turned fd_turned ["values", "joints", "turn"] (spTurned foldP f_fold_pair)) (D_turned : Dn K mg "turned" s_turned ["values", "joints", "turn"] f_turned fd_turned) (D_fold_pair : Dn K mg "fold_pair" s_fold_pair ["shape", "a", "b"] f_fold_pair fd_fold_pair) : FnOk P w K mg base CX0 7 f fd ["values", "joints"] (spFolds foldP) := by
  refine lt_out ?_
  simp (disch := with_unfolding_all
    refine D.F.ok sc_folded (fun vs H Q E h => ?_) (fun cdv A outer s H vs Q E hr h => ?_)
    · obtain ⟨a, b, xs, refs, js, rfl, _⟩ := h
      rfl
    · obtain ⟨a, b, xs, refs, js, rfl, e1, e2, hj, hr1, hl, q⟩ := h
      refine ⟨_, (pss_one (ps_ret (pe_call G_turned (hr.mono (by first | decide | exact Nat.le_refl _)) (by rfl) D_turned.g D_turned.F.kp D_turned.b .nil pass0 (pa_cons (pv 0) (pa_cons (pv 1) (pa_cons (pe_glob (v := .ref f_fold_pair) (by rfl) D_fold_pair.g rfl) pa_nil)))))), ?_⟩
      refine rd_start (σ := [some (.ref a), some (.ref b)]) rfl ?_
      walk_at "rd"
      exact ⟨a, b, xs, refs, js, rfl, e1, e2, hj, hr1, hl, q⟩
    ) only [↓lt_eq]
theorem ok_split_once {f : Addr} {fd : FuncData}     (D : Dn K mg "split_once" s_split_once ["values"] f fd) (bi : Bi mg)      : FnOk P w K mg base CX0 1 f fd ["values"] (spOnce K) := by
  refine lt_out ?_
  simp (disch := with_unfolding_all
    refine D.F.ok sc_split_once (fun vs H Q E h => ?_) (fun cdv A outer s H vs Q E hr h => ?_)
    · obtain ⟨a, ns, rfl, _⟩ := h
      rfl
    · obtain ⟨a, ns, rfl, hS, hl, q⟩ := h
      refine ⟨_, (pss_cons (ps_set (i := 1) sc_split_once.nd rfl (Or.inl rfl) (pe_lst pa_nil))
   (pss_cons (ps_set (i := 2) sc_split_once.nd rfl (Or.inl rfl) (pe_lst pa_nil))
   (pss_cons (ps_for PassesOwn.never rfl (pi_range3 (by rfl) bi.range_ (pa_cons pe_int (pa_cons (pe_op op_sub (pe_callB cLen (by rfl) bi.len_ (by decide +kernel) (pa_cons (pv 0) pa_nil)) pe_int) (pa_cons pe_int pa_nil)))) (pg_name (i := 3) sc_split_once.nd rfl (Or.inl rfl))
   (pss_cons (ps_par (i := 4) (j := 5) rfl sc_split_once.nd rfl rfl (by decide) rfl rfl (pa_cons (pe_ix ix_list (pv 0) (pv 3) (fun _ _ => rfl)) (pa_cons (pe_ix ix_list (pv 0) (pe_op op_add (pv 3) pe_int) (fun _ _ => rfl)) pa_nil)) rfl)
   (pss_cons (ps_expr (pe_bm PySem.F.plainAttrs_list PySem.F.slot_list_append PySem.F.type_list_append mt_append (pv 1) (pa_cons (pe_op op_fdiv (pe_op op_add (pv 4) (pv 5)) pe_int) pa_nil)))
   (pss_one (ps_expr (pe_bm PySem.F.plainAttrs_list PySem.F.slot_list_append PySem.F.type_list_append mt_append (pv 2) (pa_cons (pe_op op_sub (pv 4) (pv 5)) pa_nil)))))))
   (pss_cons (ps_if (pt_cmpR op_eq (pe_op op_mod (pe_callB cLen (by rfl) bi.len_ (by decide +kernel) (pa_cons (pv 0) pa_nil)) pe_int) pe_int (nomark _))
   (pss_one (ps_expr (pe_bm PySem.F.plainAttrs_list PySem.F.slot_list_append PySem.F.type_list_append mt_append (pv 1) (pa_cons (pe_ix ix_list (pv 0) (pe_un un_neg pe_int) (fun _ _ => rfl)) pa_nil))))
   pss_nil)
   (pss_one (ps_ret (pe_tup (pa_cons (pv 1) (pa_cons (pv 2) pa_nil))))))))), ?_⟩
      refine rd_start (σ := [some (.ref a), none, none, none, none, none]) rfl ?_
      have hml : (ns.map V.int).length = ns.length := List.length_map ..
      walk_at "rd"
      rename_i s1 hs1 d1 hd1
      have hsd : s1 ≠ d1 := ne_of_none upd_same hd1
      have hd0 : H d1 = none := by rw [upd_ne hsd.symm] at hd1; exact hd1
      refine for_rangeC (lo := 0) (c := 2) (n := _) (fun i σ H' => ∃ t1 t2 t3, σ = [some (.ref a), some (.ref s1), some (.ref d1), t1, t2, t3] ∧ H' s1 = some (.lst (((spS ns).take i).map V.int)) ∧ H' d1 = some (.lst (((spD ns).take i).map V.int)) ∧ Same H H') ⟨none, none, none, rfl, look_new hd1 upd_same, upd_same, (same_new hs1).trans (same_new hd1)⟩ (fun i σ H1 hi hI => ?_) (fun σ H1 hI => ?_)
      · obtain ⟨t1, t2, t3, rfl, h1, h2, hs⟩ := hI
        have hS1 := hs.seq hS
        have l1 : 2 * i < ns.length := by omega
        have l2 : 2 * i + 1 < ns.length := by omega
        have g1 := List.getElem?_eq_getElem l1
        have g2 := List.getElem?_eq_getElem l2
        have hat1 : atI (ns.map V.int) (0 + (i : Nat) * 2) = some (.int ns[2 * i]) := by
          rw [show ((0 : Int) + (i : Nat) * 2) = ((2 * i : Nat) : Int) by omega]
          exact at_ints g1
        have hat2 : atI (ns.map V.int) (0 + (i : Nat) * 2 + 1) = some (.int ns[2 * i + 1]) := by
          rw [show ((0 : Int) + (i : Nat) * 2 + 1) = ((2 * i + 1 : Nat) : Int) by omega]
          exact at_ints g2
        have k1 : ((spS ns).take i).length ≤ 1000 := by rw [List.length_take]; omega
        have k2 : ((spD ns).take i).length ≤ 1000 := by rw [List.length_take]; omega
        have eS : (spS ns).take (i + 1) = (spS ns).take i ++ [(ns[2 * i] + ns[2 * i + 1]) / 2] := by rw [List.take_add_one, spS_get ns i _ _ g1 g2]; rfl
        have eD : (spD ns).take (i + 1) = (spD ns).take i ++ [ns[2 * i] - ns[2 * i + 1]] := by rw [List.take_add_one, spD_get ns i _ _ g1 g2]; rfl
        have hsd' := hsd.symm
        walk_at "rd"
        refine ⟨_, _, _, rfl, ?_, ?_, fun b x e => ?_⟩
        · rw [eS, upd_ne hsd, upd_same]
        · rw [eD, upd_same]
        · rw [upd_ne (ne_of_none e hd0), upd_ne (ne_of_none e hs1)]
          exact hs _ _ e
      · obtain ⟨t1, t2, t3, rfl, h1, h2, hs⟩ := hI
        have hS1 := hs.seq hS
        rw [hml] at h1 h2
        have eD : (spD ns).take (ns.length / 2) = spD ns := List.take_of_length_le (by rw [spD_length]; exact Nat.le_refl _)
        rw [eD] at h2
        have k1 : ((spS ns).take (ns.length / 2)).length ≤ 1000 := by rw [List.length_take]; omega
        have hsd' := hsd.symm
        walk_at "rd"
        refine rd_iteD (fun c => ?_) (fun c => ?_)
        · have c' : ns.length % 2 = 1 := by have := V.int.inj c; omega
          obtain ⟨z, hz, hdz, hat⟩ := last_odd c'
          walk_at "rd"
          rename_i p hp
          refine q p s1 d1 _ (fun b x e => ?_) upd_same ?_ ?_ hs1
          · refine look_new hp ?_
            rw [upd_ne (ne_of_none e hs1)]
            exact hs _ _ e
          · refine look_new hp ?_
            rw [upd_same, ← hdz, ← spS_parts]
          · refine look_new hp ?_
            rw [upd_ne hsd.symm]
            exact h2
        · have c' : ¬ ns.length % 2 = 1 := fun z => c (congrArg V.int (by omega))
          walk_at "rd"
          rename_i p hp
          have e := spS_parts ns
          rw [drop_even c', List.append_nil] at e
          rw [← e] at h1
          exact q p s1 d1 _ (hs.trans (same_new hp)) upd_same (look_new hp h1) (look_new hp h2) hs1
    ) only [↓lt_eq]
theorem ok_split_levels {f : Addr} {fd : FuncData} {f_check_block : Addr} {fd_check_block : FuncData} {f_check_within : Addr} {fd_check_within : FuncData} {f_split_once : Addr} {fd_split_once : FuncData}    (D : Dn K mg "split_levels" s_split_levels ["values", "levels"] f fd) (bi : Bi mg) (G_check_block : FnOk P w K mg base CX0 3 f_check_block fd_check_block ["values", "least"] spBlock) (D_check_block : Dn K mg "check_block" s_check_block ["values", "least"] f_check_block fd_check_block) (G_check_within : FnOk P w K mg base CX0 3 f_check_within fd_check_within ["value", "low", "high"] spCkW) (D_check_within : Dn K mg "check_within" s_check_within ["value", "low", "high"] f_check_within fd_check_within) (G_split_once : FnOk P w K mg base CX0 1 f_split_once fd_split_once ["values"] (spOnce K)) (D_split_once : Dn K mg "split_once" s_split_once ["values"] f_split_once fd_split_once)    (g_LEVEL_LIMIT : ∃ t, mg "LEVEL_LIMIT" = some (.int 5 t)) : FnOk P w K mg base CX0 4 f fd ["values", "levels"] spSplit := by
  refine lt_out ?_
  simp (disch := with_unfolding_all
    refine D.F.ok sc_split_levels (fun vs H Q E h => ?_) (fun cdv A outer s H vs Q E hr h => ?_)
    · obtain ⟨a, ns, k, rfl, _⟩ := h
      rfl
    · obtain ⟨a, ns, k, rfl, hS, h1, h2, h3, h4, q⟩ := h
      obtain ⟨t64, g_LEVEL_LIMIT⟩ := g_LEVEL_LIMIT
      refine ⟨_, (pss_cons (ps_expr (pe_call G_check_block (hr.mono (by first | decide | exact Nat.le_refl _)) (by rfl) D_check_block.g D_check_block.F.kp D_check_block.b .nil pass0 (pa_cons (pv 0) (pa_cons pe_int pa_nil))))
   (pss_cons (ps_expr (pe_call G_check_within (hr.mono (by first | decide | exact Nat.le_refl _)) (by rfl) D_check_within.g D_check_within.F.kp D_check_within.b .nil pass0 (pa_cons (pv 1) (pa_cons pe_int (pa_cons (pe_glob (v := .int 5) (by rfl) g_LEVEL_LIMIT ⟨_, rfl⟩) pa_nil)))))
   (pss_cons (ps_set (i := 2) sc_split_levels.nd rfl (Or.inl rfl) (pe_callTy cList (by rfl) bi.list_ (by decide +kernel) (pa_cons (pv 0) pa_nil)))
   (pss_cons (ps_set (i := 3) sc_split_levels.nd rfl (Or.inl rfl) (pe_lst pa_nil))
   (pss_cons (ps_for PassesOwn.never rfl (pi_range1 (by rfl) bi.range_ (pa_cons (pv 1) pa_nil)) (pg_name (i := 4) sc_split_levels.nd rfl (Or.inl rfl))
   (pss_cons (ps_asg (pe_call G_split_once (hr.mono (by first | decide | exact Nat.le_refl _)) (by rfl) D_split_once.g D_split_once.F.kp D_split_once.b .nil pass0 (pa_cons (pv 2) pa_nil)) (pg_tup rfl (pgs_cons (pg_name (i := 2) sc_split_levels.nd rfl (Or.inl rfl)) (pgs_cons (pg_name (i := 5) sc_split_levels.nd rfl (Or.inl rfl)) pgs_nil))))
   (pss_one (ps_set (i := 3) sc_split_levels.nd rfl (Or.inl rfl) (pe_op op_cat (pv 5) (pv 3))))))
   (pss_one (ps_ret (pe_op op_cat (pv 2) (pv 3))))))))), ?_⟩
      refine rd_start (σ := [some (.ref a), some (.int k), none, none, none, none]) rfl ?_
      walk_at "rd"
      rename_i H1 hs1 s1 hs2 r1 hr1
      refine for_range (lo := 0) (n := k.toNat) (fun i σ H' => ∃ t1 t2 s2 r2, σ = [some (.ref a), some (.int k), some (.ref s2), some (.ref r2), t1, t2] ∧ H' s2 = some (.lst ((lvS ns i).map V.int)) ∧ H' r2 = some (.lst ((lvR ns i).map V.int)) ∧ Same H H') ⟨none, none, s1, r1, rfl, look_new hr1 upd_same, upd_same, hs1.trans ((same_new hs2).trans (same_new hr1))⟩ (fun i σ H2 hi hI => ?_) (fun σ H2 hI => ?_)
      · obtain ⟨t1, t2, s2, r2, rfl, e1, e2, hs⟩ := hI
        have hle := lvS_le ns i
        have hlv := lv_length ns i
        have hD := spD_length (lvS ns i)
        walk_at "rd"
        rename_i p s3 d3 H3 hs3 hp3 es3 ed3 hn3 r3 hr3
        exact ⟨_, _, s3, r3, rfl, look_new hr3 es3, upd_same, hs.trans (hs3.trans (same_new hr3))⟩
      · obtain ⟨t1, t2, s2, r2, rfl, e1, e2, hs⟩ := hI
        have hlv := lv_length ns k.toNat
        walk_at "rd"
        rename_i p hp
        exact q p _ (hs.free hp) (hs.trans (same_new hp)) upd_same
    ) only [↓lt_eq]
theorem ok_quantized {f : Addr} {fd : FuncData} {f_check_integer : Addr} {fd_check_integer : FuncData} {f_check_within : Addr} {fd_check_within : FuncData}    (D : Dn K mg "quantized" s_quantized ["value", "step"] f fd) (bi : Bi mg) (G_check_integer : FnOk P w K mg base CX0 2 f_check_integer fd_check_integer ["value"] spCkI) (D_check_integer : Dn K mg "check_integer" s_check_integer ["value"] f_check_integer fd_check_integer) (G_check_within : FnOk P w K mg base CX0 3 f_check_within fd_check_within ["value", "low", "high"] spCkW) (D_check_within : Dn K mg "check_within" s_check_within ["value", "low", "high"] f_check_within fd_check_within)    (g_STEP_LIMIT : ∃ t, mg "STEP_LIMIT" = some (.int 64 t)) : FnOk P w K mg base CX0 4 f fd ["value", "step"] spQuant := by
  refine lt_out ?_
  simp (disch := with_unfolding_all
    refine D.F.ok sc_quantized (fun vs H Q E h => ?_) (fun cdv A outer s H vs Q E hr h => ?_)
    · obtain ⟨v, s, rfl, _⟩ := h
      rfl
    · obtain ⟨v, s, rfl, h1, h2, q⟩ := h
      obtain ⟨t64, g_STEP_LIMIT⟩ := g_STEP_LIMIT
      refine ⟨_, (pss_cons (ps_expr (pe_call G_check_integer (hr.mono (by first | decide | exact Nat.le_refl _)) (by rfl) D_check_integer.g D_check_integer.F.kp D_check_integer.b .nil pass0 (pa_cons (pv 0) pa_nil)))
   (pss_cons (ps_expr (pe_call G_check_within (hr.mono (by first | decide | exact Nat.le_refl _)) (by rfl) D_check_within.g D_check_within.F.kp D_check_within.b .nil pass0 (pa_cons (pv 1) (pa_cons pe_int (pa_cons (pe_glob (v := .int 64) (by rfl) g_STEP_LIMIT ⟨_, rfl⟩) pa_nil)))))
   (pss_one (ps_ret (pe_op op_fdiv (pe_op op_add (pe_op op_mul pe_int (pv 0)) (pv 1)) (pe_op op_mul pe_int (pv 1))))))), ?_⟩
      refine rd_start (σ := [some (.int v), some (.int s)]) rfl ?_
      walk_at "rd"
      exact q
    ) only [↓lt_eq]
theorem ok_code_bits {f : Addr} {fd : FuncData}     (D : Dn K mg "code_bits" s_code_bits ["code", "k"] f fd) (bi : Bi mg)     (g_LONG_FORM : ∃ t, mg "LONG_FORM" = some (.int 20 t)) : FnOk P w K mg base CX0 1 f fd ["code", "k"] spBits := by
  refine lt_out ?_
  simp (disch := with_unfolding_all
    refine D.F.ok sc_code_bits (fun vs H Q E h => ?_) (fun cdv A outer s H vs Q E hr h => ?_)
    · obtain ⟨u, k, rfl, _⟩ := h
      rfl
    · obtain ⟨u, k, rfl, hk, hu, q⟩ := h
      obtain ⟨t1, g_LONG_FORM⟩ := g_LONG_FORM
      refine ⟨_, (pss_cons (ps_set (i := 2) sc_code_bits.nd rfl (Or.inl rfl) (pe_joined1 (pe_fmtb (pv 0) (pe_joined1 pe_str))))
   (pss_cons (ps_set (i := 3) sc_code_bits.nd rfl (Or.inl rfl) (pe_op op_shr (pv 0) (pv 1)))
   (pss_cons (ps_if (pt_cmpR op_lt (pv 3) (pe_glob (v := .int 20) (by rfl) g_LONG_FORM ⟨_, rfl⟩) (nomark _))
   (pss_cons (ps_set (i := 4) sc_code_bits.nd rfl (Or.inl rfl) (pe_bm PySem.F.plainAttrs_str PySem.F.slot_str_zfill PySem.F.type_str_zfill mt_zf (pv 2) (pa_cons (pv 1) pa_nil)))
   (pss_one (ps_ret (pe_op op_addT (pe_op op_addT (pe_op op_mulT pe_str (pv 3)) pe_str) (pe_slice C8.sl_txt (pv 4) (po_some (pe_op op_sub (pe_callB cLen (by rfl) bi.len_ (by decide +kernel) (pa_cons (pv 4) pa_nil)) (pv 1))) po_none)))))
   pss_nil)
   (pss_one (ps_ret (pe_op op_addT (pe_op op_addT (pe_op op_mulT pe_str (pe_op op_sub (pe_op op_add (pe_glob (v := .int 20) (by rfl) g_LONG_FORM ⟨_, rfl⟩) (pe_callB cLen (by rfl) bi.len_ (by decide +kernel) (pa_cons (pv 2) pa_nil))) pe_int)) pe_str) (pv 2))))))), ?_⟩
      refine rd_start (σ := [some (.int (u : Int)), some (.int (k : Int)), none, none, none]) rfl ?_
      walk_at "rd"
      refine rd_iteD (fun c => ?_) (fun c => ?_)
      · have c2 : u / 2 ^ k < 20 := Int.ofNat_lt.mp c
        have e : encB u k = List.replicate (u / 2 ^ k) 49 ++ [48] ++ lowB u k := if_pos c2
        rw [e] at q
        clear c e
        generalize u / 2 ^ k = g at c2 q ⊢
        walk_at "rd"
        refine rd_zf (by omega) (lowB_bin _ _) ?_
        rw [binB_length]
        have hd := low_fill u k
        have hk2 : k ≤ (if k ≤ nb u then binB u else List.replicate (k - nb u) 48 ++ binB u).length := by
          split
          · rw [binB_length]; omega
          · rw [List.length_append, List.length_replicate, binB_length]; omega
        have hl2 : (if k ≤ nb u then binB u else List.replicate (k - nb u) 48 ++ binB u).length ≤ 200000 := by
          split
          · rw [binB_length]; omega
          · rw [List.length_append, List.length_replicate, binB_length]; omega
        generalize (if k ≤ nb u then binB u else List.replicate (k - nb u) 48 ++ binB u) = P at hd hk2 hl2 ⊢
        walk_at "rd"
        rw [show ((P.length : Nat) : Int) - (k : Int) = ((P.length - k : Nat) : Int) by omega]
        walk_at "rd"
        rw [hd]
        exact q
      · have c2 : ¬ u / 2 ^ k < 20 := fun z => c (Int.ofNat_lt.mpr z)
        have e : encB u k = List.replicate (19 + nb u) 49 ++ [48] ++ binB u := if_neg c2
        rw [e] at q
        have hbl := binB_length u
        walk_at "rd"
        rw [hbl, show (20 : Int) + (nb u : Nat) - 1 = ((19 + nb u : Nat) : Int) by omega]
        walk_at "rd"
        exact q
    ) only [↓lt_eq]
theorem ok_write_numbers {f : Addr} {fd : FuncData} {f_check_block : Addr} {fd_check_block : FuncData} {f_check_coding : Addr} {fd_check_coding : FuncData} {f_code_number : Addr} {fd_code_number : FuncData} {f_code_bits : Addr} {fd_code_bits : FuncData} {f_parameter : Addr} {fd_parameter : FuncData} {f_table_behind : Addr} {fd_table_behind : FuncData}    (D : Dn K mg "write_numbers" s_write_numbers ["numbers", "coarse", "tables"] f fd) (bi : Bi mg) (G_check_block : FnOk P w K mg base CX0 3 f_check_block fd_check_block ["values", "least"] spBlock) (D_check_block : Dn K mg "check_block" s_check_block ["values", "least"] f_check_block fd_check_block) (G_check_coding : FnOk P w K mg base CX0 5 f_check_coding fd_check_coding ["length", "coarse", "tables"] (spCoding K)) (D_check_coding : Dn K mg "check_coding" s_check_coding ["length", "coarse", "tables"] f_check_coding fd_check_coding) (G_code_number : FnOk P w K mg base CX0 1 f_code_number fd_code_number ["number"] spCode) (D_code_number : Dn K mg "code_number" s_code_number ["number"] f_code_number fd_code_number) (G_code_bits : FnOk P w K mg base CX0 1 f_code_bits fd_code_bits ["code", "k"] spBits) (D_code_bits : Dn K mg "code_bits" s_code_bits ["code", "k"] f_code_bits fd_code_bits) (G_parameter : FnOk P w K mg base CX0 4 f_parameter fd_parameter ["table"] (spParG K)) (D_parameter : Dn K mg "parameter" s_parameter ["table"] f_parameter fd_parameter) (G_table_behind : FnOk P w K mg base CX0 1 f_table_behind fd_table_behind ["table", "code"] (spBehind K)) (D_table_behind : Dn K mg "table_behind" s_table_behind ["table", "code"] f_table_behind fd_table_behind)     : FnOk P w K mg base CX0 6 f fd ["numbers", "coarse", "tables"] (spWr K) := by
  refine lt_out ?_
  simp (disch := with_unfolding_all
    refine D.F.ok sc_write_numbers (fun vs H Q E h => ?_) (fun cdv A outer s H vs Q E hr h => ?_)
    · obtain ⟨a, ns, first, b, T, rfl, _⟩ := h
      rfl
    · obtain ⟨a, ns, first, b, T, rfl, e1, hl, hf, hn, hT, o1, o2, q⟩ := h
      refine ⟨_, (pss_cons (ps_expr (pe_call G_check_block (hr.mono (by first | decide | exact Nat.le_refl _)) (by rfl) D_check_block.g D_check_block.F.kp D_check_block.b .nil pass0 (pa_cons (pv 0) (pa_cons pe_int pa_nil))))
   (pss_cons (ps_expr (pe_call G_check_coding (hr.mono (by first | decide | exact Nat.le_refl _)) (by rfl) D_check_coding.g D_check_coding.F.kp D_check_coding.b .nil pass0 (pa_cons (pe_callB cLen (by rfl) bi.len_ (by decide +kernel) (pa_cons (pv 0) pa_nil)) (pa_cons (pv 1) (pa_cons (pv 2) pa_nil)))))
   (pss_cons (ps_set (i := 3) sc_write_numbers.nd rfl (Or.inl rfl) (pe_callTy cList (by rfl) bi.list_ (by decide +kernel) (pa_cons (pv 2) pa_nil)))
   (pss_cons (ps_set (i := 4) sc_write_numbers.nd rfl (Or.inl rfl) (pe_lst pa_nil))
   (pss_cons (ps_for PassesOwn.never rfl (pi_enum (by rfl) bi.enumerate_ (pa_cons (pv 0) pa_nil)) (pg_tup rfl (pgs_cons (pg_name (i := 5) sc_write_numbers.nd rfl (Or.inl rfl)) (pgs_cons (pg_name (i := 6) sc_write_numbers.nd rfl (Or.inl rfl)) pgs_nil)))
   (pss_cons (ps_set (i := 7) sc_write_numbers.nd rfl (Or.inl rfl) (pe_ifExp (pt_cmpR op_lt (pv 5) (pv 1) (nomark _)) pe_int pe_int))
   (pss_cons (ps_set (i := 8) sc_write_numbers.nd rfl (Or.inl rfl) (pe_call G_code_number (hr.mono (by first | decide | exact Nat.le_refl _)) (by rfl) D_code_number.g D_code_number.F.kp D_code_number.b .nil pass0 (pa_cons (pv 6) pa_nil)))
   (pss_cons (ps_expr (pe_bm PySem.F.plainAttrs_list PySem.F.slot_list_append PySem.F.type_list_append mt_append (pv 4) (pa_cons (pe_call G_code_bits (hr.mono (by first | decide | exact Nat.le_refl _)) (by rfl) D_code_bits.g D_code_bits.F.kp D_code_bits.b .nil pass0 (pa_cons (pv 8) (pa_cons (pe_call G_parameter (hr.mono (by first | decide | exact Nat.le_refl _)) (by rfl) D_parameter.g D_parameter.F.kp D_parameter.b .nil pass0 (pa_cons (pe_ix ix_list (pv 3) (pv 7) (fun _ _ => rfl)) pa_nil)) pa_nil))) pa_nil)))
   (pss_one (ps_asg (pe_call G_table_behind (hr.mono (by first | decide | exact Nat.le_refl _)) (by rfl) D_table_behind.g D_table_behind.F.kp D_table_behind.b .nil pass0 (pa_cons (pe_ix ix_list (pv 3) (pv 7) (fun _ _ => rfl)) (pa_cons (pv 8) pa_nil))) (pg_sub (pv 3) (pv 7) set_list)))))))
   (pss_one (ps_ret (pe_tup (pa_cons (pe_bm PySem.F.plainAttrs_str PySem.F.slot_str_join PySem.F.type_str_join mt_joinK pe_str (pa_cons (pv 4) pa_nil)) (pa_cons (pe_callTy cTuple (by rfl) bi.tuple_ (by decide +kernel) (pa_cons (pv 3) pa_nil)) pa_nil)))))))))), ?_⟩
      refine rd_start (σ := [some (.ref a), some (.int (first : Int)), some (.ref b), none, none, none, none, none, none]) rfl ?_
      walk_at "rd"
      rename_i H1 hs1
      rw [List.length_map]
      refine use_coding hf (hT.lk (.of hs1)) o1 o2 ?_
      obtain ⟨r0, r1, h0, h1, h2⟩ := hT.lk (.of hs1)
      walk_at "rd"
      refine rd_listQ h0.1 fun p hp => ?_
      walk_at "rd"
      rename_i w hw
      have hs2 : Same H (upd (upd H1 p (.lst [.ref r0, .ref r1])) w (.lst [])) := (hs1.trans (same_new hp)).trans (same_new hw)
      have hpn : H p = none := hs1.free hp
      have hwn : H w = none := (hs1.trans (same_new hp)).free hw
      have hpw : p ≠ w := ne_of_none upd_same hw
      have hwp := hpw.symm
      refine rd_lpE (SqL.of (hs2 _ _ e1)) ?_
      refine for_enum (xs := ns.map V.int) (fun i σ H' => ∃ r0 r1 x5 x6 x7 x8, σ = [some (.ref a), some (.int (first : Int)), some (.ref b), some (.ref p), some (.ref w), x5, x6, x7, x8] ∧ H' p = some (.lst [.ref r0, .ref r1]) ∧ H' w = some (.lst ((wst ns first T i).1.map fun l => V.str (SX.S l))) ∧ TbV K H' r0 (wst ns first T i).2.1 ∧ TbV K H' r1 (wst ns first T i).2.2 ∧ Same H H') ⟨r0, r1, none, none, none, none, rfl, look_new hw upd_same, upd_same, (h1.lk (.new hp)).lk (.new hw), (h2.lk (.new hp)).lk (.new hw), hs2⟩ (fun i σ H' _ hI => ?_) (fun i v σ H' t hv hI ht => ?_) (fun σ H' hI => ?_)
      · obtain ⟨r0, r1, x5, x6, x7, x8, rfl, h3, h3w, h4, h5, hs⟩ := hI
        exact SqL.of (hs _ _ e1)
      · obtain ⟨r0, r1, x5, x6, x7, x8, rfl, h3, h3w, h4, h5, hs⟩ := hI
        have hil : i < ns.length := by
          have z := (List.getElem?_eq_some_iff.mp hv).1
          rw [List.length_map] at z
          exact z
        obtain ⟨z, rfl, hz⟩ : ∃ z, v = .int z ∧ ns.getD i 0 = z := by
          rw [List.getElem?_map] at hv
          cases g : ns[i]? with
          | none => rw [g] at hv; cases hv
          | some z => rw [g] at hv; exact ⟨z, (Option.some.inj hv).symm, getD_some g⟩
        obtain ⟨k1, k2⟩ := wst_ok (first := first) hn o1 o2 i (by omega)
        have bnd : (10 ^ 58 + (i : Int) * 10 ^ 56) < 10 ^ 60 := by omega
        have hu := nb_small (uOf_getD hn i)
        rw [hz] at hu
        have hwl := wst_len ns first T i
        have t4 : TbV K (upd H' t (.tup [.int (i : Nat), .int z])) r0 (wst ns first T i).2.1 := h4.lk (.new ht)
        have t5 : TbV K (upd H' t (.tup [.int (i : Nat), .int z])) r1 (wst ns first T i).2.2 := h5.lk (.new ht)
        have u3 := look_new (o := .tup [.int (i : Nat), .int z]) ht h3
        have u3w := look_new (o := .tup [.int (i : Nat), .int z]) ht h3w
        have hst : Same H (upd H' t (.tup [.int (i : Nat), .int z])) := hs.trans (same_new ht)
        have utt : upd H' t (.tup [.int (i : Nat), .int z]) t = some (.tup [.int (i : Nat), .int z]) := upd_same
        generalize upd H' t (.tup [.int (i : Nat), .int z]) = Ht at t4 t5 u3 u3w hst utt ⊢
        walk_at "rd"
        refine rd_iteD (fun c => ?_) (fun c => ?_)
        · have c := Int.ofNat_lt.mp c
          walk_at "rd"
          rw [← uOf_eq]
          refine use_parG t4 k1 ?_
          walk_at "rd"
          refine use_bits (by have := par_leG k1 bnd; omega) (by omega) ?_
          walk_at "rd"
          refine rd_appG u3w (by rw [List.length_map]; omega) ?_
          have v3 := look_upd (o := .lst ((wst ns first T i).1.map (fun l => V.str (SX.S l)) ++ [.str (SX.S (encB (uOf z) (par (wst ns first T i).2.1.1 (wst ns first T i).2.1.2)))])) hpw u3
          have v4 := TbV.lk (LK.at (o := .lst ((wst ns first T i).1.map (fun l => V.str (SX.S l)) ++ [.str (SX.S (encB (uOf z) (par (wst ns first T i).2.1.1 (wst ns first T i).2.1.2)))])) u3w) t4
          have v5 := TbV.lk (LK.at (o := .lst ((wst ns first T i).1.map (fun l => V.str (SX.S l)) ++ [.str (SX.S (encB (uOf z) (par (wst ns first T i).2.1.1 (wst ns first T i).2.1.2)))])) u3w) t5
          walk_at "rd"
          skip
          refine use_behind v4 k1 fun p2 hp2 => ?_
          walk_at "rd"
          have n2p : p2 ≠ p := (ne_of_none v3 hp2).symm
          rw [wst_lo c]
          refine ⟨p2, r1, _, _, _, _, rfl, upd_same, ?_, ?_, ?_, ?_⟩
          · rw [upd_ne hwp, upd_ne (ne_of_none upd_same hp2), upd_same, List.map_append, hz]
            rfl
          · exact TbV.lk (LK.at (look_new hp2 v3)) (by rw [hz]; exact TbV.of upd_same)
          · exact TbV.lk (LK.at (look_new hp2 v3)) (TbV.lk (LK.new hp2) v5)
          · intro b2 x e
            rw [upd_ne (ne_of_none e hpn)]
            refine look_new hp2 ?_
            rw [upd_ne (ne_of_none e hwn)]
            exact hst _ _ e

        · have c : ¬ i < first := fun z => c (Int.ofNat_lt.mpr z)
          walk_at "rd"
          rw [← uOf_eq]
          refine use_parG t5 k2 ?_
          walk_at "rd"
          refine use_bits (by have := par_leG k2 bnd; omega) (by omega) ?_
          walk_at "rd"
          refine rd_appG u3w (by rw [List.length_map]; omega) ?_
          have v3 := look_upd (o := .lst ((wst ns first T i).1.map (fun l => V.str (SX.S l)) ++ [.str (SX.S (encB (uOf z) (par (wst ns first T i).2.2.1 (wst ns first T i).2.2.2)))])) hpw u3
          have v4 := TbV.lk (LK.at (o := .lst ((wst ns first T i).1.map (fun l => V.str (SX.S l)) ++ [.str (SX.S (encB (uOf z) (par (wst ns first T i).2.2.1 (wst ns first T i).2.2.2)))])) u3w) t4
          have v5 := TbV.lk (LK.at (o := .lst ((wst ns first T i).1.map (fun l => V.str (SX.S l)) ++ [.str (SX.S (encB (uOf z) (par (wst ns first T i).2.2.1 (wst ns first T i).2.2.2)))])) u3w) t5
          walk_at "rd"
          skip
          refine use_behind v5 k2 fun p2 hp2 => ?_
          walk_at "rd"
          have n2p : p2 ≠ p := (ne_of_none v3 hp2).symm
          rw [wst_hi c]
          refine ⟨r0, p2, _, _, _, _, rfl, upd_same, ?_, ?_, ?_, ?_⟩
          · rw [upd_ne hwp, upd_ne (ne_of_none upd_same hp2), upd_same, List.map_append, hz]
            rfl
          · exact TbV.lk (LK.at (look_new hp2 v3)) (TbV.lk (LK.new hp2) v4)
          · exact TbV.lk (LK.at (look_new hp2 v3)) (by rw [hz]; exact TbV.of upd_same)
          · intro b2 x e
            rw [upd_ne (ne_of_none e hpn)]
            refine look_new hp2 ?_
            rw [upd_ne (ne_of_none e hwn)]
            exact hst _ _ e

      · obtain ⟨r0, r1, x5, x6, x7, x8, rfl, h3, h3w, h4, h5, hs⟩ := hI
        rw [List.length_map] at h3w h4 h5
        have hfl := wst_flat (first := first) hn o1 o2 ns.length hl
        have hfl2 : (wst ns first T ns.length).1.flatten.length ≤ 16777216 := by omega
        walk_at "rd"
        rename_i q1 hq1 p1 hp1
        refine q p1 q1 _ ((hs.trans (same_new hq1)).trans (same_new hp1)) ((hs.trans (same_new hq1)).free hp1) upd_same ⟨r0, r1, .of (look_new hp1 upd_same), (h4.lk (.new hq1)).lk (.new hp1), (h5.lk (.new hq1)).lk (.new hp1)⟩
    ) only [↓lt_eq]
theorem ok_check_plan {f : Addr} {fd : FuncData} {f_is_layout : Addr} {fd_is_layout : FuncData}    (D : Dn K mg "check_plan" s_check_plan ["plan", "length"] f fd) (bi : Bi mg) (G_is_layout : FnOk P w K mg base CX0 4 f_is_layout fd_is_layout ["value"] spIsLay) (D_is_layout : Dn K mg "is_layout" s_is_layout ["value"] f_is_layout fd_is_layout)    {a_START t0 t1 a_HARD : Addr} (g_START : mg "START" = some (.ref a_START)) (hSt : ∀ H, TupV K H a_START [.ref t0, .ref t1]) (hS0 : ∀ H, TupV K H t0 [.int 2, .int 1]) (hS1 : ∀ H, TupV K H t1 [.int 2, .int 1]) (g_HARD : mg "HARD" = some (.ref a_HARD)) (hHd : ∀ H, TupV K H a_HARD [.int 0, .int 0]) : FnOk P w K mg base CX0 5 f fd ["plan", "length"] (spCkPl K) := by
  refine lt_out ?_
  simp (disch := with_unfolding_all
    refine D.F.ok sc_check_plan (fun vs H Q E h => ?_) (fun cdv A outer s H vs Q E hr h => ?_)
    · obtain ⟨a, refs, hs, n, rfl, _⟩ := h
      rfl
    · obtain ⟨a, refs, hs, n, rfl, e1, hh, hc, ht2, q⟩ := h
      refine ⟨_, (pss_cons (ps_if (pt_not (pt_val (pe_callB call_isiT (by rfl) bi.isinstance_ (by decide +kernel) (pa_cons (pv 0) (pa_cons (pe_tup (pa_cons (pe_bltn (v := .ty "list") (by rfl) bi.list_ (by decide +kernel) rfl) (pa_cons (pe_bltn (v := .ty "tuple") (by rfl) bi.tuple_ (by decide +kernel) rfl) pa_nil))) pa_nil)))))
   (pss_one ps_never)
   pss_nil)
   (pss_cons (ps_set (i := 2) sc_check_plan.nd rfl (Or.inl rfl) (pe_glob (v := .ref a_HARD) (by rfl) g_HARD rfl))
   (pss_cons (ps_set (i := 3) sc_check_plan.nd rfl (Or.inl rfl) pe_int)
   (pss_cons (ps_for PassesOwn.never rfl (pi_enum (by rfl) bi.enumerate_ (pa_cons (pv 0) pa_nil)) (pg_tup rfl (pgs_cons (pg_name (i := 4) sc_check_plan.nd rfl (Or.inl rfl)) (pgs_cons (pg_name (i := 5) sc_check_plan.nd rfl (Or.inl rfl)) pgs_nil)))
   (pss_cons (ps_if (PW.pt (pw_or (pt_not (pt_val (pe_call G_is_layout (hr.mono (by first | decide | exact Nat.le_refl _)) (by rfl) D_is_layout.g D_is_layout.F.kp D_is_layout.b .nil pass0 (pa_cons (pv 5) pa_nil)))) (pw_or1 (pt_cmpR op_gt (pe_op op_add (pe_ix ix_tup (pv 2) pe_int (fun _ _ => rfl)) (pe_ix ix_tup (pe_ix ix_tup (pv 5) pe_int (fun _ _ => rfl)) pe_int (fun _ _ => rfl))) (pe_ix ix_tup (pv 5) pe_int (fun _ _ => rfl)) (nomark _)))))
   (pss_one ps_never)
   pss_nil)
   (pss_cons (ps_if (PW.pt (pw_and (pt_cmpR op_eq (pv 4) (pe_op op_sub (pe_callB cLen (by rfl) bi.len_ (by decide +kernel) (pa_cons (pv 0) pa_nil)) pe_int) (nomark _)) (pw_and1 (pt_cmpR (op_neD hr.units) (pe_ix ix_tup (pv 5) pe_int (fun _ _ => rfl)) (pe_glob (v := .ref a_HARD) (by rfl) g_HARD rfl) (nomark _)))))
   (pss_one ps_never)
   pss_nil)
   (pss_cons (ps_set (i := 2) sc_check_plan.nd rfl (Or.inl rfl) (pe_ix ix_tup (pv 5) pe_int (fun _ _ => rfl)))
   (pss_one (ps_aug (i := 3) sc_check_plan.nd rfl (Or.inl rfl) (pe_ix ix_tup (pv 5) pe_int (fun _ _ => rfl)) ip_add))))))
   (pss_one (ps_if (pt_cmpR op_ne (pv 3) (pv 1) (nomark _))
   (pss_one ps_never)
   pss_nil)))))), ?_⟩
      refine rd_start (σ := [some (.ref a), some (.int (n : Nat)), none, none, none, none]) rfl ?_
      walk_at "rd"
      rename_i t ht
      refine isiT_lst (look_new ht e1) upd_same ?_
      walk_at "rd"
      have s0 := same_new (o := .tup [.ty "list", .ty "tuple"]) ht
      have hln := hh.len
      refine rd_lpE (SqL.of (s0 _ _ e1)) ?_
      refine for_enum (xs := refs) (fun i σ H' => ∃ jl lj x4 x5, σ = [some (.ref a), some (.int (n : Nat)), some (.ref jl), some (.int (totH (hs.take i) : Nat)), x4, x5] ∧ JtV K H' jl lj ∧ Ch lj.1 (hs.drop i) 0 ∧ Same H H') ⟨a_HARD, (0, 0), none, none, rfl, hHd _, hc, s0⟩ (fun i σ H1 _ hI => ?_) (fun i v σ H1 T hv hI hT => ?_) (fun σ H1 hI => ?_)
      · obtain ⟨jl, lj, x4, x5, rfl, hJ, hC, sm⟩ := hI
        exact SqL.of (sm _ _ e1)
      · obtain ⟨jl, lj, x4, x5, rfl, hJ, hC, sm⟩ := hI
        have hil := (List.getElem?_eq_some_iff.mp hv).1
        obtain ⟨d, ed, h, j, rfl, hd⟩ := hh.at2 hv
        have hil2 := (List.getElem?_eq_some_iff.mp ed).1
        have edr : hs.drop i = d :: hs.drop (i + 1) := by rw [List.drop_eq_getElem_cons hil2, (List.getElem?_eq_some_iff.mp ed).2]
        rw [edr] at hC
        obtain ⟨ok, hw, hC2⟩ := hC
        have et := totH_take ed
        have sm := sm.trans (same_new (o := .tup [.int (i : Nat), .ref h]) hT)
        have hJ := hJ.lk (.of (same_new (o := .tup [.int (i : Nat), .ref h]) hT))
        have hd := hd.lk (.of sm)
        obtain ⟨hd1, hd2⟩ := id hd
        have L1 := hJ.1
        have e1' := sm _ _ e1
        walk_at "rd"
        refine use_islay hd ok ?_
        walk_at "rd"
        refine if_noD (by omega) ?_
        walk_at "rd"
        have et2 : ((totH (hs.take (i + 1)) : Nat) : Int) = ((totH (hs.take i) : Nat) : Int) + (d.1 : Nat) := by omega
        refine rd_iteD (p := V.int (i : Nat) = V.int ((refs.length : Nat) - 1)) (fun c => ?_) (fun c => ?_)
        · have ci := V.int.inj c
          have en : hs.drop (i + 1) = [] := List.drop_of_length_le (by omega)
          have w0 : d.2.1 = 0 := by rw [en] at hC2; exact hC2
          have s0 : d.2.2.1 = 0 := ok.2.2.2.2.1 w0
          walk_at "rd"
          refine rd_neT2 (SqT.of hd2) (hHd _).1 (by omega) (by omega) ?_
          walk_at "rd"
          exact ⟨j, (d.2.1, d.2.2.1), _, _, by rw [et2]; rfl, JtAt.v hd2, hC2, sm⟩
        · walk_at "rd"
          exact ⟨j, (d.2.1, d.2.2.1), _, _, by rw [et2]; rfl, JtAt.v hd2, hC2, sm⟩
      · obtain ⟨jl, lj, x4, x5, rfl, hJ, hC, sm⟩ := hI
        rw [hln, List.take_length, ht2]
        walk_at "rd"
        refine if_no (by rw [decide_eq_true rfl]; rfl) ?_
        walk_at "rd"
        exact q _ sm
    ) only [↓lt_eq]
theorem ok_coded_frame {f : Addr} {fd : FuncData} {f_split_levels : Addr} {fd_split_levels : FuncData} {f_quantized : Addr} {fd_quantized : FuncData} {f_write_numbers : Addr} {fd_write_numbers : FuncData} {f_coarse_count : Addr} {fd_coarse_count : FuncData} {f_mark_of : Addr} {fd_mark_of : FuncData}    (D : Dn K mg "coded_frame" s_coded_frame ["values", "layout", "tables"] f fd) (bi : Bi mg) (G_split_levels : FnOk P w K mg base CX0 4 f_split_levels fd_split_levels ["values", "levels"] spSplit) (D_split_levels : Dn K mg "split_levels" s_split_levels ["values", "levels"] f_split_levels fd_split_levels) (G_quantized : FnOk P w K mg base CX0 4 f_quantized fd_quantized ["value", "step"] spQuant) (D_quantized : Dn K mg "quantized" s_quantized ["value", "step"] f_quantized fd_quantized) (G_write_numbers : FnOk P w K mg base CX0 6 f_write_numbers fd_write_numbers ["numbers", "coarse", "tables"] (spWr K)) (D_write_numbers : Dn K mg "write_numbers" s_write_numbers ["numbers", "coarse", "tables"] f_write_numbers fd_write_numbers) (G_coarse_count : FnOk P w K mg base CX0 4 f_coarse_count fd_coarse_count ["length", "levels"] spCoarse) (D_coarse_count : Dn K mg "coarse_count" s_coarse_count ["length", "levels"] f_coarse_count fd_coarse_count) (G_mark_of : FnOk P w K mg base CX0 4 f_mark_of fd_mark_of ["numbers"] spMark) (D_mark_of : Dn K mg "mark_of" s_mark_of ["numbers"] f_mark_of fd_mark_of)     : FnOk P w K mg base CX0 7 f fd ["values", "layout", "tables"] (spCdF K) := by
  refine lt_out ?_
  simp (disch := with_unfolding_all
    refine D.F.ok sc_coded_frame (fun vs H Q E h => ?_) (fun cdv A outer s H vs Q E hr h => ?_)
    · obtain ⟨a, h, j, b, xs, d, T, rfl, _⟩ := h
      rfl
    · obtain ⟨a, h, j, b, xs, d, T, rfl, e1, hh, ok, hl, hn, hT, tk, q⟩ := h
      refine ⟨_, (pss_cons (ps_asg (pv 1) (pg_tup rfl (pgs_cons (pg_name (i := 3) sc_coded_frame.nd rfl (Or.inl rfl)) (pgs_cons (pg_name (i := 4) sc_coded_frame.nd rfl (Or.inl rfl)) (pgs_cons (pg_name (i := 5) sc_coded_frame.nd rfl (Or.inl rfl)) (pgs_cons (pg_name (i := 6) sc_coded_frame.nd rfl (Or.inr rfl)) pgs_nil))))))
   (pss_cons (ps_setLc (i := 7) (own := [("value", 8)]) (g := gName 8) (tt := tYes) rfl sc_coded_frame.nd rfl rfl (sw_true rfl rfl rfl (by decide +kernel)) (pi_list (pe_call G_split_levels (hr.mono (by first | decide | exact Nat.le_refl _)) (by rfl) D_split_levels.g D_split_levels.F.kp D_split_levels.b .nil pass0 (pa_cons (pv 0) (pa_cons (pv 5) pa_nil)))) (blkOk_by (N := ["values", "layout", "tables", "length", "joint", "levels", "step", "numbers", "value", "bits", "behind"]) (sc := defScope s_coded_frame) (by decide +kernel)) (fun _ _ _ _ _ => pg_name (i := 8) sc_coded_frame.nd rfl (Or.inl rfl)) (fun _ _ _ _ _ => pts_nil) (fun _ _ _ _ _ => (pe_call G_quantized (hr.mono (by first | decide | exact Nat.le_refl _)) (by rfl) D_quantized.g D_quantized.F.kp D_quantized.b .nil pass0 (pa_cons (pv 8) (pa_cons (pv 6) pa_nil)))))
   (pss_cons (ps_asg (pe_call G_write_numbers (hr.mono (by first | decide | exact Nat.le_refl _)) (by rfl) D_write_numbers.g D_write_numbers.F.kp D_write_numbers.b .nil pass0 (pa_cons (pv 7) (pa_cons (pe_call G_coarse_count (hr.mono (by first | decide | exact Nat.le_refl _)) (by rfl) D_coarse_count.g D_coarse_count.F.kp D_coarse_count.b .nil pass0 (pa_cons (pv 3) (pa_cons (pv 5) pa_nil))) (pa_cons (pv 2) pa_nil)))) (pg_tup rfl (pgs_cons (pg_name (i := 9) sc_coded_frame.nd rfl (Or.inl rfl)) (pgs_cons (pg_name (i := 10) sc_coded_frame.nd rfl (Or.inl rfl)) pgs_nil))))
   (pss_one (ps_ret (pe_tup (pa_cons (pe_tup (pa_cons pe_str (pa_cons (pv 3) (pa_cons (pv 4) (pa_cons (pv 5) (pa_cons (pv 6) (pa_cons (pe_call G_mark_of (hr.mono (by first | decide | exact Nat.le_refl _)) (by rfl) D_mark_of.g D_mark_of.F.kp D_mark_of.b .nil pass0 (pa_cons (pv 7) pa_nil)) (pa_cons (pv 9) pa_nil)))))))) (pa_cons (pv 10) pa_nil)))))))), ?_⟩
      refine rd_start (σ := [some (.ref a), some (.ref h), some (.ref b), none, none, none, none, none, none, none, none]) rfl ?_
      obtain ⟨h1, hj⟩ := hh
      walk_at "rd"
      obtain ⟨o1, o2, o3, o4, o5, o6, o7, o8⟩ := ok
      walk_at "rd"
      rename_i S H1 hS s1 eS
      rw [Int.toNat_natCast] at eS
      refine ⟨S, rfl, ⟨_, SqL.of eS⟩, fun D hD => ?_⟩
      have sl := splitL_length xs d.2.2.2.1
      refine lc_mapM (fun v => (2 * v + (d.2.2.2.2 : Int)) / (2 * (d.2.2.2.2 : Int))) (SqL.of eS) (by omega) (fun _ => rfl) hD (fun z hz H2 Q' hs hq => ?_) fun H2 s2 eD => ?_
      · walk_at "rd"
        exact hq
      have eD : H2 D = some (.lst ((nsQ d xs).map V.int)) := eD
      have nl := nsQ_len d xs
      have s12 := s1.trans s2
      have c1 := cc_n d.1 d.2.2.2.1
      walk_at "rd"
      refine use_coarse (n := d.1) (k := d.2.2.2.1) o1 o2 o6 ?_
      walk_at "rd"
      refine use_wr (first := cc d.1 d.2.2.2.1) eD (by omega) (by omega) (fun z hz => Nat.lt_of_le_of_lt (hn z hz) (by decide)) (hT.lk (.of s12)) (tk.1.up (by decide)) (tk.2.up (by decide)) fun p q' H3 s3 hp3 ep3 hq3 => ?_
      have eD3 := s3 _ _ eD
      have hln : (nsQ d xs).length ≤ 64 := by omega
      walk_at "rd"
      rename_i H4 s4 r5 hr5 p6 hp6
      have s14 := s12.trans (s3.trans s4)
      have s5 := same_new (o := .tup [.str (Str.ofString "frame"), .int (d.1 : Nat), .ref j, .int (d.2.2.2.1 : Nat), .int (d.2.2.2.2 : Nat), .int (markF (nsQ d xs)), .str (SX.S (wst (nsQ d xs) (cc d.1 d.2.2.2.1) T (nsQ d xs).length).1.flatten)]) hr5
      have s6 := s14.trans s5
      refine q p6 r5 q' _ (s6.trans (same_new hp6)) (s6.free hp6) upd_same (look_new hp6 upd_same) ?_
      exact hq3.lk (.of ((s4.trans s5).trans (same_new hp6)))
    ) only [↓lt_eq]
theorem ok_coded_records {f : Addr} {fd : FuncData} {f_folded : Addr} {fd_folded : FuncData} {f_placed_joints : Addr} {fd_placed_joints : FuncData} {f_coded_frame : Addr} {fd_coded_frame : FuncData}    (D : Dn K mg "coded_records" s_coded_records ["sound", "plan", "states"] f fd) (bi : Bi mg) (G_folded : FnOk P w K mg base CX0 7 f_folded fd_folded ["values", "joints"] (spFolds foldP)) (D_folded : Dn K mg "folded" s_folded ["values", "joints"] f_folded fd_folded) (G_placed_joints : FnOk P w K mg base CX0 1 f_placed_joints fd_placed_joints ["lengths", "joints"] spPlcd) (D_placed_joints : Dn K mg "placed_joints" s_placed_joints ["lengths", "joints"] f_placed_joints fd_placed_joints) (G_coded_frame : FnOk P w K mg base CX0 7 f_coded_frame fd_coded_frame ["values", "layout", "tables"] (spCdF K)) (D_coded_frame : Dn K mg "coded_frame" s_coded_frame ["values", "layout", "tables"] f_coded_frame fd_coded_frame)    {a_START t0 t1 a_HARD : Addr} (g_START : mg "START" = some (.ref a_START)) (hSt : ∀ H, TupV K H a_START [.ref t0, .ref t1]) (hS0 : ∀ H, TupV K H t0 [.int 2, .int 1]) (hS1 : ∀ H, TupV K H t1 [.int 2, .int 1]) (g_HARD : mg "HARD" = some (.ref a_HARD)) (hHd : ∀ H, TupV K H a_HARD [.int 0, .int 0]) : FnOk P w K mg base CX0 8 f fd ["sound", "plan", "states"] (spCdR K) := by
  refine lt_out ?_
  simp (disch := with_unfolding_all
    refine D.F.ok sc_coded_records (fun vs H Q E h => ?_) (fun cdv A outer s H vs Q E hr h => ?_)
    · obtain ⟨a, b, xs, refs, hs, g, Te, rfl, _⟩ := h
      rfl
    · obtain ⟨a, b, xs, refs, hs, g, Te, rfl, e1, e2, hh, hc, hl, ht, hr2, hv, q⟩ := h
      refine ⟨_, (pss_cons (ps_setLc (i := 3) (own := [("item", 4)]) (g := gName 4) (tt := tYes) rfl sc_coded_records.nd rfl rfl (sw_true rfl rfl rfl (by decide +kernel)) (pi_list (pv 1)) (blkOk_by (N := ["sound", "plan", "states", "lengths", "item", "values", "records", "tables", "start", "frame", "layout", "end", "record"]) (sc := defScope s_coded_records) (by decide +kernel)) (fun _ _ _ _ _ => pg_name (i := 4) sc_coded_records.nd rfl (Or.inl rfl)) (fun _ _ _ _ _ => pts_nil) (fun _ _ _ _ _ => (pe_ix (show IxR _ (rIxT K) from ix_tup) (pv 4) pe_int (fun _ _ => rfl))))
   (pss_cons (ps_set (i := 5) sc_coded_records.nd rfl (Or.inl rfl) (pe_call G_folded (hr.mono (by first | decide | exact Nat.le_refl _)) (by rfl) D_folded.g D_folded.F.kp D_folded.b .nil pass0 (pa_cons (pv 0) (pa_cons (pe_call G_placed_joints (hr.mono (by first | decide | exact Nat.le_refl _)) (by rfl) D_placed_joints.g D_placed_joints.F.kp D_placed_joints.b .nil pass0 (pa_cons (pv 3) (pa_cons (pe_lc (own := [("item", 4)]) (g := gName 4) (tt := tYes) rfl sc_coded_records.nd (pi_list (pv 1)) (blkOk_by (N := ["sound", "plan", "states", "lengths", "item", "values", "records", "tables", "start", "frame", "layout", "end", "record"]) (sc := defScope s_coded_records) (by decide +kernel)) (fun _ _ _ _ _ => pg_name (i := 4) sc_coded_records.nd rfl (Or.inl rfl)) (fun _ _ _ _ _ => pts_nil) (fun _ _ _ _ _ => (pe_ix (show IxR _ (rIxT K) from ix_tup) (pv 4) pe_int (fun _ _ => rfl)))) pa_nil))) pa_nil))))
   (pss_cons (ps_set (i := 6) sc_coded_records.nd rfl (Or.inl rfl) (pe_lst pa_nil))
   (pss_cons (ps_par (i := 7) (j := 8) rfl sc_coded_records.nd rfl rfl (by decide) rfl rfl (pa_cons (pe_glob (v := .ref a_START) (by rfl) g_START rfl) (pa_cons pe_int pa_nil)) rfl)
   (pss_cons (ps_for PassesOwn.never rfl (pi_enum (by rfl) bi.enumerate_ (pa_cons (pv 1) pa_nil)) (pg_tup rfl (pgs_cons (pg_name (i := 9) sc_coded_records.nd rfl (Or.inl rfl)) (pgs_cons (pg_name (i := 10) sc_coded_records.nd rfl (Or.inl rfl)) pgs_nil)))
   (C8.pss_cut (ps_if (PW.pt (pw_and (pt_cmpR op_gt (pv 2) pe_int (nomark _)) (pw_and (pt_cmpR op_gt (pv 9) pe_int (nomark _)) (pw_and1 (pt_cmpR op_eq (pe_op op_mod (pv 9) (pv 2)) pe_int (nomark _))))))
   (pss_one (ps_expr (pe_bm PySem.F.plainAttrs_list PySem.F.slot_list_append PySem.F.type_list_append mt_append (pv 6) (pa_cons (pe_tup (pa_cons pe_str (pa_cons (pv 7) pa_nil))) pa_nil))))
   pss_nil)
   (pss_cons (ps_set (i := 11) sc_coded_records.nd rfl (Or.inl rfl) (pe_op op_add (pv 8) (pe_ix ix_tup (pv 10) pe_int (fun _ _ => rfl))))
   (pss_cons (ps_asg (pe_call G_coded_frame (hr.mono (by first | decide | exact Nat.le_refl _)) (by rfl) D_coded_frame.g D_coded_frame.F.kp D_coded_frame.b .nil pass0 (pa_cons (pe_slice sl_list (pv 5) (po_some (pv 8)) (po_some (pv 11))) (pa_cons (pv 10) (pa_cons (pv 7) pa_nil)))) (pg_tup rfl (pgs_cons (pg_name (i := 12) sc_coded_records.nd rfl (Or.inl rfl)) (pgs_cons (pg_name (i := 7) sc_coded_records.nd rfl (Or.inl rfl)) pgs_nil))))
   (pss_cons (ps_expr (pe_bm PySem.F.plainAttrs_list PySem.F.slot_list_append PySem.F.type_list_append mt_append (pv 6) (pa_cons (pv 12) pa_nil)))
   (pss_one (ps_set (i := 8) sc_coded_records.nd rfl (Or.inl rfl) (pv 11))))))))
   (pss_one (ps_ret (pv 6)))))))), ?_⟩
      refine rd_start (σ := [some (.ref a), some (.ref b), some (.int (g : Nat)), none, none, none, none, none, none, none, none, none, none]) rfl ?_
      walk_at "rd"
      refine ⟨b, rfl, ⟨_, SqL.of e2⟩, fun D hD => ?_⟩
      have hln := hh.len
      refine lc_ofG (fun v d => ∃ h j, v = .ref h ∧ HdAt H h j d) (fun d => V.int (d.1 : Nat)) hh (SqL.of e2) (by omega) hD (fun v d H2 Q' hm hv2 hs2 hq => ?_) fun H1 s1 eD => ?_
      · obtain ⟨h, j, rfl, h1, h2⟩ := hv2
        have h1 := hs2 _ _ h1
        refine rd_gname ⟨rfl, ?_⟩
        walk_at "rd"
        exact hq _ (Same.refl _)
      walk_at "rd"
      refine ⟨b, rfl, ⟨_, SqL.of (s1 _ _ e2)⟩, fun D2 hD2 => ?_⟩
      obtain ⟨js, hj1, hj2⟩ := hds_js hh
      refine lc_ofG (fun v u => ∃ a j l x y, v = .ref a ∧ H a = some (.tup [l, .ref j, x, y]) ∧ u = V.ref j) id hj1 (SqL.of (s1 _ _ e2)) (by omega) hD2 (fun v u H2 Q' hm hv2 hs2 hq => ?_) fun H2 s2 eD2 => ?_
      · obtain ⟨h, j, l', x', y', rfl, h1, rfl⟩ := hv2
        have h1 := hs2 _ _ (s1 _ _ h1)
        refine rd_gname ⟨rfl, ?_⟩
        walk_at "rd"
        exact hq _ (Same.refl _)
      rw [List.map_id] at eD2
      have s12 := s1.trans s2
      walk_at "rd"
      refine use_plcd (fs := hs.map hdW) (by rw [List.map_map]; exact s2 _ _ eD) eD2 (hj2.same s12) (by rw [List.length_map]; omega) fun PJ ps H3 hP s3 eP hps => ?_
      have s13 := s12.trans s3
      walk_at "rd"
      refine use_folds (s13 _ _ e1) eP hps (plH_rm hc hl) (by omega) fun F H4 hF s4 eF => ?_
      have s14 := s13.trans s4
      have fl : (turnL foldP xs (plH hs)).length = totH hs := by rw [turnL_length, hl]
      have eF : H4 F = some (.lst ((turnL foldP xs (plH hs)).map V.int)) := eF
      walk_at "rd"
      rename_i R hR
      have s15 := s14.trans (same_new (o := .lst []) hR)
      have nFR : F ≠ R := ne_of_none eF hR
      have hHR : H R = none := s14.free hR
      refine rd_lpE (SqL.of (s15 _ _ e2)) ?_
      refine for_enum (xs := refs) (fun i σ H' => ∃ ws dn t T x9 x10 x11 x12, σ = [some (.ref a), some (.ref b), some (.int (g : Nat)), some (.ref D), none, some (.ref F), some (.ref R), some (.ref t), some (.int (totH (hs.take i) : Nat)), x9, x10, x11, x12] ∧ H' F = some (.lst ((turnL foldP xs (plH hs)).map V.int)) ∧ EI K R H H' g hs xs Te i ws dn t T) ⟨[], [], a_START, T0, none, none, none, none, rfl, look_new hR eF, upd_same, .nil, ⟨t0, t1, hSt _, hS0 _, hS1 _⟩, Nat.zero_le _, rfl, ⟨0, hv⟩, s15⟩ (fun i σ H5 _ hI => ?_) (fun i v σ H5 W hv2 hI hW => ?_) (fun σ H5 hI => ?_)
      · obtain ⟨ws, dn, t, T, x9, x10, x11, x12, rfl, eF, hI⟩ := hI
        exact SqL.of (hI.sm _ _ e2)
      · obtain ⟨ws, dn, t, T, x9, x10, x11, x12, rfl, eF, hI⟩ := hI
        have hil := (List.getElem?_eq_some_iff.mp hv2).1
        obtain ⟨d, ed, h, j, rfl, hd⟩ := hh.at2 hv2
        have hil2 := (List.getElem?_eq_some_iff.mp ed).1
        have edr : hs.drop i = d :: hs.drop (i + 1) := by rw [List.drop_eq_getElem_cons hil2, (List.getElem?_eq_some_iff.mp ed).2]
        have et := totH_take ed
        have tle := totH_le hs (i + 1)
        have eF := look_new (o := .tup [.int (i : Nat), .ref h]) hW eF
        have hI := hI.same (same_new (o := .tup [.int (i : Nat), .ref h]) hW)
        generalize hV : turnL foldP xs (plH hs) = VV at eF fl hI
        obtain ⟨eR, rc, tb, le, sp, ⟨l, vd⟩, sm⟩ := hI
        rw [hV, edr] at sp vd
        have hd0 := hd
        have hd := hd.lk (.of sm)
        walk_at "rd"
        refine rd_cut (fun σ H' => σ = [some (.ref a), some (.ref b), some (.int (g : Nat)), some (.ref D), none, some (.ref F), some (.ref R), some (.ref t), some (.int (totH (hs.take i) : Nat)), some (.int (i : Nat)), some (.ref h), x11, x12] ∧ H' F = some (.lst (VV.map V.int)) ∧ ∃ ws', H' R = some (.lst ws') ∧ RcsAt K H' ws' (dn ++ if stB g i = true then [.st T] else []) ∧ TbsV K H' t T ∧ ws'.length ≤ 2 * i + 1 ∧ Same H H') ?_ fun σ' H6 hM => ?_
        · walk_at "rd"
          refine rd_iteD (fun c1 => ?_) (fun c1 => ?_)
          · walk_at "rd"
            refine rd_iteD (fun c2 => ?_) (fun c2 => ?_)
            · walk_at "rd"
              refine rd_iteD (fun c3 => ?_) (fun c3 => ?_)
              · have c3 := V.int.inj c3
                walk_at "rd"
                rename_i q5 hq5
                have eR5 := look_new (o := .tup [.str (Str.ofString "state"), .ref t]) hq5 eR
                refine rd_appG eR5 (by omega) ?_
                walk_at "rd"
                have es := stB_yes (g := g) (i := i) (by omega) (by omega) c3
                have lk5 := (LK.new (o := .tup [.str (Str.ofString "state"), .ref t]) hq5).trans (LK.at (o := .lst (ws ++ [.ref q5])) eR5)
                refine ⟨rfl, ?_, ws ++ [.ref q5], upd_same, ?_, tb.lk lk5, by rw [List.length_append]; exact Nat.succ_le_succ le, fun c o e => by rw [upd_ne (ne_of_none e hHR)]; exact look_new hq5 (sm _ _ e)⟩
                · rw [upd_ne nFR]
                  exact look_new hq5 eF
                · rw [es, if_pos rfl]
                  exact All2.app (rc.lk lk5) ⟨q5, t, rfl, by rw [upd_ne (ne_of_none eR hq5).symm]; exact upd_same, tb.lk lk5⟩
              · have c3 : ¬ ((i : Int) % (g : Int) = 0) := fun z => c3 (by rw [z])
                walk_at "rd"
                have es := stB_no (g := g) (i := i) (fun z => c3 z.2.2)
                refine ⟨rfl, eF, ws, eR, ?_, tb, by omega, sm⟩
                rw [es, if_neg Bool.false_ne_true, List.append_nil]
                exact rc
            · -- the first frame
              walk_at "rd"
              have es := stB_no (g := g) (i := i) (fun z => c2 (by omega))
              refine ⟨rfl, eF, ws, eR, ?_, tb, by omega, sm⟩
              rw [es, if_neg Bool.false_ne_true, List.append_nil]
              exact rc
          · -- no states
            walk_at "rd"
            have es := stB_no (g := g) (i := i) (fun z => c1 (by omega))
            refine ⟨rfl, eF, ws, eR, ?_, tb, by omega, sm⟩
            rw [es, if_neg Bool.false_ne_true, List.append_nil]
            exact rc
        obtain ⟨rfl, eF, ws', eR, rc, tb, le, sm⟩ := hM
        have hd := hd0.lk (.of sm)
        obtain ⟨hd1, hd2⟩ := id hd
        have en : encR g i T (d :: hs.drop (i + 1)) (VV.drop (totH (hs.take i))) = (if stB g i = true then [Rc.st T] else []) ++ .fr d (nsQ d ((VV.drop (totH (hs.take i))).take d.1)) T :: encR g (i + 1) (nextF d (nsQ d ((VV.drop (totH (hs.take i))).take d.1)) T) (hs.drop (i + 1)) (VV.drop (totH (hs.take (i + 1)))) := by
          rw [show VV.drop (totH (hs.take (i + 1))) = (VV.drop (totH (hs.take i))).drop d.1 by rw [et, List.drop_drop]]
          rfl
        rw [en] at sp vd
        generalize hvs : (VV.drop (totH (hs.take i))).take d.1 = vs at sp vd
        have hvl : vs.length = d.1 := by rw [← hvs, List.length_take, List.length_drop]; omega
        obtain ⟨l2, vd2⟩ : ∃ l2, Vd T l2 (.fr d (nsQ d vs) T :: encR g (i + 1) (nextF d (nsQ d vs) T) (hs.drop (i + 1)) (VV.drop (totH (hs.take (i + 1))))) Te 0 := by
          cases c : stB g i with
          | true => rw [c, if_pos rfl] at vd; exact ⟨l, vd.2⟩
          | false => rw [c, if_neg Bool.false_ne_true] at vd; exact ⟨l, vd⟩
        obtain ⟨_, ok, hw2, hnl, hnb, tk, vd3⟩ := vd2
        walk_at "rd"
        refine rd_slM (j := totH (hs.take i)) (k := totH (hs.take i) + d.1) (SqL.of eF) (by omega) (by omega) fun S hS => ?_
        rw [show totH (hs.take i) + d.1 - totH (hs.take i) = d.1 by omega, hvs]
        have s7 := same_new (o := .lst (vs.map V.int)) hS
        walk_at "rd"
        refine use_cdF upd_same (hd.lk (.of s7)) ok hvl hnb (tb.lk (.of s7)) tk fun p r q' H7 s8 hp7 ep7 fr7 hq7 => ?_
        have s78 := s7.trans s8
        walk_at "rd"
        have eR7 := s78 _ _ eR
        refine rd_appG eR7 (by omega) ?_
        walk_at "rd"
        have lk9 := LK.at (o := .lst (ws' ++ [.ref r])) eR7
        refine ⟨ws' ++ [.ref r], (dn ++ if stB g i = true then [.st T] else []) ++ [.fr d (nsQ d vs) T], q', nextF d (nsQ d vs) T, some (.int (i : Nat)), some (.ref h), some (.int (((totH (hs.take i) : Nat) : Int) + (d.1 : Nat))), some (.ref r), ?_, ?_, ?_⟩
        · rw [et, show ((totH (hs.take i) + d.1 : Nat) : Int) = ((totH (hs.take i) : Nat) : Int) + (d.1 : Nat) by omega]
          rfl
        · rw [upd_ne nFR]
          exact s78 _ _ eF
        · exact { eR := upd_same, rc := (rc.lk ((LK.of s78).trans lk9)).app ⟨r, j, rfl, lk9 _ _ fr7 (fun _ z => nomatch z), lk9 _ _ (s78 _ _ hd2) (fun _ z => nomatch z)⟩
                  tb := hq7.lk lk9, le := by rw [List.length_append]; simp; omega
                  sp := by rw [sp, hV, List.append_assoc (dn ++ _), List.append_assoc]; rfl
                  vd := by rw [hV]; exact ⟨_, vd3⟩
                  sm := fun c o e => by rw [upd_ne (ne_of_none e hHR)]; exact s78 _ _ (sm _ _ e) }
      · obtain ⟨ws, dn, t, T, x9, x10, x11, x12, rfl, eF, hI⟩ := hI
        walk_at "rd"
        have sp := hI.sp
        rw [hln, List.drop_length] at sp
        have sp : encA g hs xs = dn ++ [] := sp
        rw [List.append_nil] at sp
        exact q R ws _ hHR hI.sm hI.eR (by rw [sp]; exact hI.rc)
    ) only [↓lt_eq]
theorem ok_encode {f : Addr} {fd : FuncData} {f_check_sound : Addr} {fd_check_sound : FuncData} {f_check_plan : Addr} {fd_check_plan : FuncData} {f_check_within : Addr} {fd_check_within : FuncData} {f_coded_records : Addr} {fd_coded_records : FuncData} {f_Stream___init__ : Addr} {fd_Stream___init__ : FuncData} {C_Stream : Addr}   (D : Kn K mg "encode" s_encode ["sound", "plan", "states"] 2 ["states"] [.int 0] f fd) (bi : Bi mg) (G_check_sound : FnOk P w K mg base CX0 3 f_check_sound fd_check_sound ["values"] spSound) (D_check_sound : Dn K mg "check_sound" s_check_sound ["values"] f_check_sound fd_check_sound) (G_check_plan : FnOk P w K mg base CX0 5 f_check_plan fd_check_plan ["plan", "length"] (spCkPl K)) (D_check_plan : Dn K mg "check_plan" s_check_plan ["plan", "length"] f_check_plan fd_check_plan) (G_check_within : FnOk P w K mg base CX0 3 f_check_within fd_check_within ["value", "low", "high"] spCkW) (D_check_within : Dn K mg "check_within" s_check_within ["value", "low", "high"] f_check_within fd_check_within) (G_coded_records : FnOk P w K mg base CX0 8 f_coded_records fd_coded_records ["sound", "plan", "states"] (spCdR K)) (D_coded_records : Dn K mg "coded_records" s_coded_records ["sound", "plan", "states"] f_coded_records fd_coded_records) (G_Stream___init__ : FnOk P w K mg base CX0 9 f_Stream___init__ fd_Stream___init__ ["self", "records"] (spInitS K C_Stream)) (D_Stream___init__ : Mn K C_Stream "__init__" "Stream.__init__" s_Stream___init__ ["self", "records"] f_Stream___init__ fd_Stream___init__)  (TC_Stream : StmC K mg C_Stream)  (g_STATES_LIMIT : ∃ t, mg "STATES_LIMIT" = some (.int 1000 t)) : FnOk P w K mg base CX0 11 f fd ["sound", "plan", "states"] (spEnc K C_Stream) := by
  refine lt_out ?_
  simp (disch := with_unfolding_all
    refine D.F.ok sc_encode (fun vs H Q E h => ?_) (fun cdv A outer s H vs Q E hr h => ?_)
    · obtain ⟨a, b, xs, refs, hs, g, Te, rfl, _⟩ := h
      rfl
    · obtain ⟨a, b, xs, refs, hs, g, Te, rfl, e1, e2, hh, hc, hl, ht, hr2, hg, hv, q⟩ := h
      obtain ⟨t64, g_STATES_LIMIT⟩ := g_STATES_LIMIT
      refine ⟨_, (pss_cons (ps_expr (pe_call G_check_sound (hr.mono (by first | decide | exact Nat.le_refl _)) (by rfl) D_check_sound.g D_check_sound.F.kp D_check_sound.b .nil pass0 (pa_cons (pv 0) pa_nil)))
   (pss_cons (ps_expr (pe_call G_check_plan (hr.mono (by first | decide | exact Nat.le_refl _)) (by rfl) D_check_plan.g D_check_plan.F.kp D_check_plan.b .nil pass0 (pa_cons (pv 1) (pa_cons (pe_callB cLen (by rfl) bi.len_ (by decide +kernel) (pa_cons (pv 0) pa_nil)) pa_nil))))
   (pss_cons (ps_expr (pe_call G_check_within (hr.mono (by first | decide | exact Nat.le_refl _)) (by rfl) D_check_within.g D_check_within.F.kp D_check_within.b .nil pass0 (pa_cons (pv 2) (pa_cons pe_int (pa_cons (pe_glob (v := .int 1000) (by rfl) g_STATES_LIMIT ⟨_, rfl⟩) pa_nil)))))
   (pss_one (ps_ret (pe_make ⟨TC_Stream.mks, D_Stream___init__.m.at_, D_Stream___init__.m.fn, TC_Stream.kc⟩ G_Stream___init__ (hr.mono (by first | decide | exact Nat.le_refl _)) (by rfl) TC_Stream.g D_Stream___init__.b .nil pass0 (pa_cons (pe_call G_coded_records (hr.mono (by first | decide | exact Nat.le_refl _)) (by rfl) D_coded_records.g D_coded_records.F.kp D_coded_records.b .nil pass0 (pa_cons (pv 0) (pa_cons (pv 1) (pa_cons (pv 2) pa_nil)))) pa_nil))))))), ?_⟩
      refine rd_start (σ := [some (.ref a), some (.ref b), some (.int (g : Nat))]) rfl ?_
      walk_at "rd"
      refine use_sound e1 fun H1 s1 => ?_
      have e1' := s1 _ _ e1
      walk_at "rd"
      rw [List.length_map]
      refine use_ckpl (s1 _ _ e2) (hh.lk (.of s1)) hc hl.symm fun H2 s2 => ?_
      have s12 := s1.trans s2
      walk_at "rd"
      refine rd_mk ?_
      walk_at "rd"
      refine use_cdR (s12 _ _ e1) (s12 _ _ e2) (hh.lk (.of s12)) hc hl ht hr2 hv fun D ws H3 hD s3 eD hR => ?_
      refine rd_nil ?_
      intro x dx hx hdx hne
      have s13 := s12.trans s3
      have sx : Same H3 (upd (upd H3 dx (.own x)) x (.ins C_Stream dx [])) := fun b u e => by
        rw [upd_ne (ne_of_none e hx), upd_ne (ne_of_none e hdx)]
        exact e
      have l1 := hR.len
      have l2 : (encA g hs xs).length ≤ 2 * hs.length := encR_len g hs 0 T0 _
      have l3 := hh.len
      refine use_init upd_same (sx _ _ eD) (by omega) (hR.lk (.of sx)) hv fun H4 hS4 hK4 => ⟨rfl, ?_⟩
      exact q x ws H4 (s13.free hx) (fun b o e => hK4 b o (ne_of_none (s13 _ _ e) hx) (sx _ _ (s13 _ _ e))) hS4
    ) only [↓lt_eq]
theorem ok_Stream___eq__ {f : Addr} {fd : FuncData}  {C_Stream : Addr}   (D : Mn K C_Stream "__eq__" "Stream.__eq__" s_Stream___eq__ ["self", "other"] f fd) (bi : Bi mg)   (TC_Stream : StmC K mg C_Stream)  (ca_Stream : PySem.W.findIn K (.ref C_Stream) "__class__" = some (some (.builtin "object.__class__"))) (cm_Stream : PySem.W.mroIn K C_Stream (.type "object") = some true) (cn : PySem.W.specialIn K (.builtin "object.__class__") "__get__" = some (some (.builtin "getset_descriptor.__get__"))) (ct : PySem.W.takesIn K (.builtin "object.__class__") = some true) : FnOk P w K mg base CX0 1 f fd ["self", "other"] (spEq (SEq K C_Stream)) := by
  refine lt_out ?_
  simp (disch := with_unfolding_all
    refine D.F.ok sc_Stream___eq__ (fun vs H Q E h => ?_) (fun cdv A outer s H vs Q E hr h => ?_)
    · obtain ⟨a, b, rfl, _⟩ := h
      rfl
    · obtain ⟨a, b, rfl, ⟨v, w, rs, hA, hB⟩, q⟩ := h
      refine ⟨_, (pss_one (ps_ret (pe_and (pe_callB call_isi (by rfl) bi.isinstance_ (by decide +kernel) (pa_cons (pv 1) (pa_cons (pe_glob (v := .ref C_Stream) (by rfl) TC_Stream.g rfl) pa_nil))) (pe_one (pe_cmpR (op_eqD hr.units) (pe_fld (pv 0) rfl) (pe_fld (pv 1) rfl) (nomark _)))))), ?_⟩
      refine rd_start (σ := [some (.ref a), some (.ref b)]) rfl ?_
      obtain ⟨dx, L, F, fms, Te, g1, g2, g3, g4, g5, g6, g7⟩ := id hA
      obtain ⟨dx', L', F', fms', Te', k1, k2, k3, k4, k5, k6, k7⟩ := id hB
      walk_at "rd"
      refine rd_isi (.own C_Stream) (.base (.ins k1 TC_Stream.cl ca_Stream cn ct cm_Stream)) (if_pos (beq_self_eq_true _)) ?_
      walk_at "rd"
      refine rd_heldV TC_Stream g1 rfl ?_
      refine rd_heldV TC_Stream k1 rfl ?_
      refine rd_eqRcs (SqL.of g2) (SqL.of k2) g4 k4 g5.ok ?_
      exact q _ (fun _ _ e => e)
    ) only [↓lt_eq]
theorem ok_check_within_X {f : Addr} {fd : FuncData} {f_is_within : Addr} {fd_is_within : FuncData} {C_InvalidNumber : Addr}   (D : Dn K mg "check_within" s_check_within ["value", "low", "high"] f fd) (bi : Bi mg) (G_is_within : FnOk P w K mg base CX0 2 f_is_within fd_is_within ["value", "low", "high"] spWithin) (D_is_within : Dn K mg "is_within" s_is_within ["value", "low", "high"] f_is_within fd_is_within)   (T_InvalidNumber : ErrK P w K mg base "InvalidNumber" "value" C_InvalidNumber)  : FnOk P w K mg base (L2.CX P w) 3 f fd ["value", "low", "high"] (spCkWX C_InvalidNumber) := by
  refine lt_out ?_
  simp (disch := with_unfolding_all
    refine D.F.okX sc_check_within (fun vs H Q E h => ?_) (fun cdv A outer s H vs Q E hr h => ?_)
    · obtain ⟨x, lo, hi, rfl, _⟩ := h
      rfl
    · obtain ⟨x, lo, hi, rfl, t, h1, h2⟩ := h
      refine ⟨_, (pss_one (ps_if (pt_not (pt_val (pe_call G_is_within (hr.mono (by first | decide | exact Nat.le_refl _)) (by rfl) D_is_within.g D_is_within.F.kp D_is_within.b .nil pass0 (pa_cons (pv 0) (pa_cons (pv 1) (pa_cons (pv 2) pa_nil))))))
   (pss_one (ps_raiseE T_InvalidNumber rfl (hr.mono (by first | decide | exact Nat.le_refl _)) (takes_of rfl rfl rfl rfl) (pa_cons (pv 0) pa_nil)))
   pss_nil)), ?_⟩
      refine rd_start (σ := [some x, some (.int lo), some (.int hi)]) rfl ?_
      walk_at "rd"
      refine use_within t (rd_bl ?_)
      cases e : inI x lo hi with
      | false =>
        walk_at "rd"
        exact (h1 e).now
      | true =>
        walk_at "rd"
        exact h2 e
    ) only [↓lt_eq]
theorem ok_even_plan {f : Addr} {fd : FuncData} {f_check_within : Addr} {fd_check_within : FuncData} {f_is_joint : Addr} {fd_is_joint : FuncData} {C_InvalidJoint : Addr} {C_InvalidNumber : Addr}   (D : Dn K mg "even_plan" s_even_plan ["length", "block", "joint", "levels", "step"] f fd) (bi : Bi mg) (G_check_within : FnOk P w K mg base CX0 3 f_check_within fd_check_within ["value", "low", "high"] spCkW) (D_check_within : Dn K mg "check_within" s_check_within ["value", "low", "high"] f_check_within fd_check_within) (G_is_joint : FnOk P w K mg base CX0 3 f_is_joint fd_is_joint ["value"] spJ) (D_is_joint : Dn K mg "is_joint" s_is_joint ["value"] f_is_joint fd_is_joint) (G_check_within_X : FnOk P w K mg base (L2.CX P w) 3 f_check_within fd_check_within ["value", "low", "high"] (spCkWX C_InvalidNumber))  (T_InvalidJoint : ErrK P w K mg base "InvalidJoint" "value" C_InvalidJoint) (g_LENGTH_LIMIT : ∃ t, mg "LENGTH_LIMIT" = some (.int 20000 t)) (g_BLOCK_LIMIT : ∃ t, mg "BLOCK_LIMIT" = some (.int 64 t)) (g_LEVEL_LIMIT : ∃ t, mg "LEVEL_LIMIT" = some (.int 5 t)) (g_STEP_LIMIT : ∃ t, mg "STEP_LIMIT" = some (.int 64 t)) {a_HARD : Addr} (g_HARD : mg "HARD" = some (.ref a_HARD)) (hHd : ∀ H, JtV K H a_HARD (0, 0)) : FnOk P w K mg base (L2.CX P w) 4 f fd ["length", "block", "joint", "levels", "step"] (spEvX K C_InvalidNumber C_InvalidJoint) := by
  refine lt_out ?_
  simp (disch := with_unfolding_all
    refine D.F.okX sc_even_plan (fun vs H Q E h => ?_) (fun cdv A outer s H vs Q E hr h => ?_)
    · obtain ⟨v0, v1, v2, v3, v4, b, rfl, _⟩ := h
      rfl
    · obtain ⟨v0, v1, v2, v3, v4, b, rfl, t0, t1, t2, t3, t4, e1, e2, q⟩ := h
      obtain ⟨t01, g_LENGTH_LIMIT⟩ := g_LENGTH_LIMIT
      obtain ⟨t02, g_BLOCK_LIMIT⟩ := g_BLOCK_LIMIT
      obtain ⟨t03, g_LEVEL_LIMIT⟩ := g_LEVEL_LIMIT
      obtain ⟨t04, g_STEP_LIMIT⟩ := g_STEP_LIMIT
      refine ⟨_, (pss_cons (ps_expr (pe_call G_check_within_X (hr.mono (by first | decide | exact Nat.le_refl _)) (by rfl) D_check_within.g D_check_within.F.kp D_check_within.b .nil (passes_call (takes_of rfl rfl rfl rfl) (fun _ _ _ _ h => h)) (pa_cons (pv 0) (pa_cons pe_int (pa_cons (pe_glob (v := .int 20000) (by rfl) g_LENGTH_LIMIT ⟨_, rfl⟩) pa_nil)))))
   (pss_cons (ps_expr (pe_call G_check_within_X (hr.mono (by first | decide | exact Nat.le_refl _)) (by rfl) D_check_within.g D_check_within.F.kp D_check_within.b .nil (passes_call (takes_of rfl rfl rfl rfl) (fun _ _ _ _ h => h)) (pa_cons (pv 1) (pa_cons pe_int (pa_cons (pe_glob (v := .int 64) (by rfl) g_BLOCK_LIMIT ⟨_, rfl⟩) pa_nil)))))
   (pss_cons (ps_if (pt_not (pt_val (pe_call G_is_joint (hr.mono (by first | decide | exact Nat.le_refl _)) (by rfl) D_is_joint.g D_is_joint.F.kp D_is_joint.b .nil pass0 (pa_cons (pv 2) pa_nil))))
   (pss_one (ps_raiseE T_InvalidJoint rfl (hr.mono (by first | decide | exact Nat.le_refl _)) (takes_of rfl rfl rfl rfl) (pa_cons (pv 2) pa_nil)))
   pss_nil)
   (pss_cons (ps_expr (pe_call G_check_within_X (hr.mono (by first | decide | exact Nat.le_refl _)) (by rfl) D_check_within.g D_check_within.F.kp D_check_within.b .nil (passes_call (takes_of rfl rfl rfl rfl) (fun _ _ _ _ h => h)) (pa_cons (pv 3) (pa_cons pe_int (pa_cons (pe_glob (v := .int 5) (by rfl) g_LEVEL_LIMIT ⟨_, rfl⟩) pa_nil)))))
   (pss_cons (ps_expr (pe_call G_check_within_X (hr.mono (by first | decide | exact Nat.le_refl _)) (by rfl) D_check_within.g D_check_within.F.kp D_check_within.b .nil (passes_call (takes_of rfl rfl rfl rfl) (fun _ _ _ _ h => h)) (pa_cons (pv 4) (pa_cons pe_int (pa_cons (pe_glob (v := .int 64) (by rfl) g_STEP_LIMIT ⟨_, rfl⟩) pa_nil)))))
   (pss_cons (ps_set (i := 5) sc_even_plan.nd rfl (Or.inl rfl) (pe_lst pa_nil))
   (pss_cons (ps_set (i := 6) sc_even_plan.nd rfl (Or.inl rfl) (pe_glob (v := .ref a_HARD) (by rfl) g_HARD rfl))
   (pss_cons (ps_for (passes_of rfl) rfl (pi_range3 (by rfl) bi.range_ (pa_cons pe_int (pa_cons (pv 0) (pa_cons (pv 1) pa_nil)))) (pg_name (i := 7) sc_even_plan.nd rfl (Or.inl rfl))
   (pss_cons (ps_set (i := 8) sc_even_plan.nd rfl (Or.inl rfl) (pe_callB (cMin rfl) (by rfl) bi.min_ (by decide +kernel) (pa_cons (pv 1) (pa_cons (pe_op op_sub (pv 0) (pv 7)) pa_nil))))
   (pss_cons (ps_set (i := 9) sc_even_plan.nd rfl (Or.inl rfl) (pe_callB (cMin rfl) (by rfl) bi.min_ (by decide +kernel) (pa_cons (pv 1) (pa_cons (pe_op op_sub (pe_op op_sub (pv 0) (pv 7)) (pv 8)) pa_nil))))
   (pss_cons (ps_set (i := 10) sc_even_plan.nd rfl (Or.inl rfl) (pe_ifExp (PW.pt (pw_and (pt_cmpR op_le (pe_ix ix_tup (pv 2) pe_int (fun _ _ => rfl)) (pv 9) (nomark _)) (pw_and1 (pt_cmpR op_le (pe_op op_add (pe_ix ix_tup (pv 6) pe_int (fun _ _ => rfl)) (pe_ix ix_tup (pv 2) pe_int (fun _ _ => rfl))) (pv 8) (nomark _))))) (pv 2) (pe_glob (v := .ref a_HARD) (by rfl) g_HARD rfl)))
   (pss_cons (ps_expr (pe_bm PySem.F.plainAttrs_list PySem.F.slot_list_append PySem.F.type_list_append mt_append (pv 5) (pa_cons (pe_tup (pa_cons (pv 8) (pa_cons (pv 10) (pa_cons (pv 3) (pa_cons (pv 4) pa_nil))))) pa_nil)))
   (pss_one (ps_set (i := 6) sc_even_plan.nd rfl (Or.inl rfl) (pv 10))))))))
   (pss_one (ps_ret (pv 5))))))))))), ?_⟩
      refine rd_start (σ := [some v0, some v1, some v2, some v3, some v4, none, none, none, none, none, none]) rfl ?_
      walk_at "rd"
      refine use_ckwx t0 (fun z => e1 _ (evO_1 z)) fun h0 => ?_
      walk_at "rd"
      refine use_ckwx t1 (fun z => e1 _ (evO_2 h0 z)) fun h1 => ?_
      walk_at "rd"
      refine use_j t2 ?_
      walk_at "rd"
      cases b with
      | false =>
        walk_at "rd"
        exact (e2 _ (evO_3 h0 h1 rfl)).now
      | true =>
        walk_at "rd"
        refine use_ckwx t3 (fun z => e1 _ (evO_4 h0 h1 rfl z)) fun h3 => ?_
        walk_at "rd"
        refine use_ckwx t4 (fun z => e1 _ (evO_5 h0 h1 rfl h3 z)) fun h4 => ?_
        have q := q (evO_no h0 h1 rfl h3 h4)
        obtain ⟨L0, rfl, l0, l1⟩ := inI_yes h0
        obtain ⟨B0, rfl, b0, b1⟩ := inI_yes h1
        obtain ⟨V0, rfl, w0, w1⟩ := inI_yes h3
        obtain ⟨S0, rfl, s0, s1⟩ := inI_yes h4
        obtain ⟨j, w, sh, rfl, hj, w8, s3, ws⟩ := jr_true t2
        obtain ⟨L, rfl⟩ : ∃ k : Nat, L0 = (k : Int) := ⟨L0.toNat, by omega⟩
        obtain ⟨bk, rfl⟩ : ∃ k : Nat, B0 = (k : Int) := ⟨B0.toNat, by omega⟩
        obtain ⟨lv, rfl⟩ : ∃ k : Nat, V0 = (k : Int) := ⟨V0.toNat, by omega⟩
        obtain ⟨st, rfl⟩ : ∃ k : Nat, S0 = (k : Int) := ⟨S0.toNat, by omega⟩
        have q := q L bk w sh lv st j rfl rfl rfl hj rfl rfl (by omega) (by omega) (by omega) w8 s3 (by omega) (by omega) (by omega)
        have hn := nE_le (L := L) (b := bk) (by omega) (by omega)
        walk_at "rd"
        rename_i D hD
        have sD := same_new (o := .lst []) hD
        refine ⟨_, _, _, _, rfl, rgE (L := L) (b := bk) (by omega) (by omega) (by omega), ?_⟩
        refine for_rangeC (lo := 0) (c := (bk : Int)) (n := _) (fun i σ H' => ∃ refs jl x7 x8 x9 x10, σ = [some (.int (L : Nat)), some (.int (bk : Nat)), some (.ref j), some (.int (lv : Nat)), some (.int (st : Nat)), some (.ref D), some (.ref jl), x7, x8, x9, x10] ∧ H' D = some (.lst refs) ∧ All2 (PlAt K H' lv st) refs (evP L bk w sh i).1 ∧ JtV K H' jl (evE L bk w sh i) ∧ Same H H') ⟨[], a_HARD, none, none, none, none, rfl, upd_same, .nil, hHd _, sD⟩ (fun i σ H' hi hI => ?_) (fun σ H' hI => ?_)
        · obtain ⟨refs, jl, x7, x8, x9, x10, rfl, eD, hpl, hjl, sm⟩ := hI
          have hj' := sm _ _ hj
          have hjw := hjl.1
          walk_at "rd"
          rw [ev_here (L := L) (b := bk) (i := i) hi (by omega)]
          rw [ev_behind (L := L) (b := bk) (i := i) hi (by omega)]
          have ej0 : evE L bk w sh (i + 1) = evJ w sh (evE L bk w sh i).1 (szE L bk i) (szE L bk (i + 1)) := by rw [evE_w]; rfl
          refine rd_iteD (fun c1 => ?_) (fun c1 => ?_)
          · walk_at "rd"
            refine rd_iteD (fun c2 => ?_) (fun c2 => ?_)
            · have ej : evE L bk w sh (i + 1) = (w, sh) := by rw [ej0]; exact if_pos ⟨by omega, by omega⟩
              walk_at "rd"
              rename_i p hp
              have sp := same_new (o := .tup [.int (szE L bk i : Nat), .ref j, .int (lv : Nat), .int (st : Nat)]) hp
              refine rd_appM (sp _ _ eD) (by have := hpl.len; rw [evP_len] at this; omega) ?_
              walk_at "rd"
              have lkE := (LK.of sp).trans (LK.at (o := .lst (refs ++ [.ref p])) (sp _ _ eD))
              have npD : p ≠ D := fun z => by rw [z, eD] at hp; cases hp
              have lkT : (upd (upd H' p (.tup [.int (szE L bk i : Nat), .ref j, .int (lv : Nat), .int (st : Nat)])) D (.lst (refs ++ [.ref p]))) p = some (.tup [.int (szE L bk i : Nat), .ref j, .int (lv : Nat), .int (st : Nat)]) := by rw [upd_ne npD]; exact upd_same
              refine ⟨refs ++ [.ref p], j, _, _, _, _, rfl, upd_same, ?_, ?_, fun b o z => by rw [upd_ne (ne_of_none z hD)]; exact sp _ _ (sm _ _ z)⟩
              · rw [evP_1]
                exact All2.app (hpl.imp fun _ _ z => z.lk lkE) ⟨p, j, rfl, lkT, by rw [ej]; exact JtAt.v (by first | exact lkE _ _ hj' (fun _ z => nomatch z))⟩
              · rw [ej]
                exact JtAt.v (by first | exact lkE _ _ hj' (fun _ z => nomatch z))
            · have ej : evE L bk w sh (i + 1) = (0, 0) := by rw [ej0]; exact if_neg (by omega)
              walk_at "rd"
              rename_i p hp
              have sp := same_new (o := .tup [.int (szE L bk i : Nat), .ref a_HARD, .int (lv : Nat), .int (st : Nat)]) hp
              refine rd_appM (sp _ _ eD) (by have := hpl.len; rw [evP_len] at this; omega) ?_
              walk_at "rd"
              have lkE := (LK.of sp).trans (LK.at (o := .lst (refs ++ [.ref p])) (sp _ _ eD))
              have npD : p ≠ D := fun z => by rw [z, eD] at hp; cases hp
              have lkT : (upd (upd H' p (.tup [.int (szE L bk i : Nat), .ref a_HARD, .int (lv : Nat), .int (st : Nat)])) D (.lst (refs ++ [.ref p]))) p = some (.tup [.int (szE L bk i : Nat), .ref a_HARD, .int (lv : Nat), .int (st : Nat)]) := by rw [upd_ne npD]; exact upd_same
              refine ⟨refs ++ [.ref p], a_HARD, _, _, _, _, rfl, upd_same, ?_, ?_, fun b o z => by rw [upd_ne (ne_of_none z hD)]; exact sp _ _ (sm _ _ z)⟩
              · rw [evP_1]
                exact All2.app (hpl.imp fun _ _ z => z.lk lkE) ⟨p, a_HARD, rfl, lkT, by rw [ej]; exact hHd _⟩
              · rw [ej]
                exact hHd _
          · have ej : evE L bk w sh (i + 1) = (0, 0) := by rw [ej0]; exact if_neg (by omega)
            walk_at "rd"
            rename_i p hp
            have sp := same_new (o := .tup [.int (szE L bk i : Nat), .ref a_HARD, .int (lv : Nat), .int (st : Nat)]) hp
            refine rd_appM (sp _ _ eD) (by have := hpl.len; rw [evP_len] at this; omega) ?_
            walk_at "rd"
            have lkE := (LK.of sp).trans (LK.at (o := .lst (refs ++ [.ref p])) (sp _ _ eD))
            have npD : p ≠ D := fun z => by rw [z, eD] at hp; cases hp
            have lkT : (upd (upd H' p (.tup [.int (szE L bk i : Nat), .ref a_HARD, .int (lv : Nat), .int (st : Nat)])) D (.lst (refs ++ [.ref p]))) p = some (.tup [.int (szE L bk i : Nat), .ref a_HARD, .int (lv : Nat), .int (st : Nat)]) := by rw [upd_ne npD]; exact upd_same
            refine ⟨refs ++ [.ref p], a_HARD, _, _, _, _, rfl, upd_same, ?_, ?_, fun b o z => by rw [upd_ne (ne_of_none z hD)]; exact sp _ _ (sm _ _ z)⟩
            · rw [evP_1]
              exact All2.app (hpl.imp fun _ _ z => z.lk lkE) ⟨p, a_HARD, rfl, lkT, by rw [ej]; exact hHd _⟩
            · rw [ej]
              exact hHd _
        · obtain ⟨refs, jl, x7, x8, x9, x10, rfl, eD, hpl, hjl, sm⟩ := hI
          walk_at "rd"
          exact q D refs H' hD sm eD hpl
    ) only [↓lt_eq]
theorem ok_record_size {f : Addr} {fd : FuncData}     (D : Dn K mg "record_size" s_record_size ["record"] f fd) (bi : Bi mg)     (g_STATE_SIZE : ∃ t, mg "STATE_SIZE" = some (.int 80 t)) (g_FRAME_SIZE : ∃ t, mg "FRAME_SIZE" = some (.int 40 t)) : FnOk P w K mg base CX0 1 f fd ["record"] (spRsz K) := by
  refine lt_out ?_
  simp (disch := with_unfolding_all
    refine D.F.ok sc_record_size (fun vs H Q E h => ?_) (fun cdv A outer s H vs Q E hr h => ?_)
    · obtain ⟨v, r, rfl, _⟩ := h
      rfl
    · obtain ⟨v, r, rfl, hr1, ok, q⟩ := h
      obtain ⟨t1, g_STATE_SIZE⟩ := g_STATE_SIZE
      obtain ⟨t2, g_FRAME_SIZE⟩ := g_FRAME_SIZE
      refine ⟨_, (pss_cons (ps_if (pt_cmpR op_eq (pe_ix ix_tup (pv 0) pe_int (fun _ _ => rfl)) pe_str (nomark _))
   (pss_one (ps_ret (pe_glob (v := .int 80) (by rfl) g_STATE_SIZE ⟨_, rfl⟩)))
   pss_nil)
   (pss_one (ps_ret (pe_op op_add (pe_glob (v := .int 40) (by rfl) g_FRAME_SIZE ⟨_, rfl⟩) (pe_callB cLen (by rfl) bi.len_ (by decide +kernel) (pa_cons (pe_ix ix_tup (pv 0) pe_int (fun _ _ => rfl)) pa_nil)))))), ?_⟩
      refine rd_start (σ := [some v]) rfl ?_
      cases r with
      | st T =>
        obtain ⟨b, t', rfl, hb, hT'⟩ := hr1
        walk_at "rd"
        refine if_yesD rfl ?_
        walk_at "rd"
        exact q
      | fr d ns T =>
        obtain ⟨b, j, rfl, hb, hj⟩ := hr1
        unfold FrAt at hb
        obtain ⟨bl, bb⟩ := bitsF_len ok
        have hl : (bitsF d ns T).length ≤ 16777216 := by omega
        walk_at "rd"
        refine if_noD st_ne_fr ?_
        walk_at "rd"
        exact q
    ) only [↓lt_eq]
theorem ok_Stream_size {f : Addr} {fd : FuncData} {f_record_size : Addr} {fd_record_size : FuncData} {C_Stream : Addr}   (D : Mn K C_Stream "size" "Stream.size" s_Stream_size ["self"] f fd) (bi : Bi mg) (G_record_size : FnOk P w K mg base CX0 1 f_record_size fd_record_size ["record"] (spRsz K)) (D_record_size : Dn K mg "record_size" s_record_size ["record"] f_record_size fd_record_size)  (TC_Stream : StmC K mg C_Stream)  (g_sum : mg "sum" = none) : FnOk P w K mg base CX0 2 f fd ["self"] (spSizeM K C_Stream) := by
  refine lt_out ?_
  simp (disch := with_unfolding_all
    refine D.F.ok sc_Stream_size (fun vs H Q E h => ?_) (fun cdv A outer s H vs Q E hr h => ?_)
    · obtain ⟨x, refs, rs, rfl, _⟩ := h
      rfl
    · obtain ⟨x, refs, rs, rfl, hS, q⟩ := h
      obtain ⟨dx, L, F, fms, Te, h1, h2, h3, h4, h5, h6, h7⟩ := hS
      refine ⟨_, (pss_one (ps_ret (pe_callB (cr_sum rfl) (by rfl) g_sum (by decide +kernel) (pa_cons (pe_lc (own := [("record", 1)]) (g := gName 1) (tt := tYes) rfl sc_Stream_size.nd (pi_list (pe_fld (pv 0) rfl)) (blkOk_by (N := ["self", "record"]) (sc := defScope s_Stream_size) (by decide +kernel)) (fun _ _ _ _ _ => pg_name (i := 1) sc_Stream_size.nd rfl (Or.inl rfl)) (fun _ _ _ _ _ => pts_nil) (fun _ _ _ _ _ => (pe_call G_record_size (hr.mono (by first | decide | exact Nat.le_refl _)) (by rfl) D_record_size.g D_record_size.F.kp D_record_size.b .nil pass0 (pa_cons (pv 1) pa_nil)))) pa_nil)))), ?_⟩
      refine rd_start (σ := [some (.ref x), none]) rfl ?_
      walk_at "rd"
      refine rd_heldV TC_Stream h1 rfl ?_
      refine rd_lcP (SqL.of h2) fun D hD => ?_
      refine lc_toI (RcAt K) rsz (as := rs) (fun H' s => h4.lk (.of s)) (SqL.of h2) (by omega) (fun _ => rfl) hD (fun z y hy H' Q' s hz hq => ?_) fun H' hs' e' => ?_
      · have ok := h5.ok y hy
        walk_at "rd"
        exact use_rsz hz ok (hq _ (Same.refl _))
      · walk_at "rd"
        refine rd_sum (SqL.of e') ?_
        exact q _ hs'
    ) only [↓lt_eq]
theorem ok_Stream_records {f : Addr} {fd : FuncData}  {C_Stream : Addr}  {p_Stream_records : Addr}  (D : Pn K C_Stream "records" "Stream.records" s_Stream_records ["self"] p_Stream_records f fd) (bi : Bi mg)   (TC_Stream : StmC K mg C_Stream)   : FnOk P w K mg base CX0 1 f fd ["self"] (spRecs K C_Stream) := by
  refine lt_out ?_
  simp (disch := with_unfolding_all
    refine D.F.ok sc_Stream_records (fun vs H Q E h => ?_) (fun cdv A outer s H vs Q E hr h => ?_)
    · obtain ⟨x, refs, rs, rfl, _⟩ := h
      rfl
    · obtain ⟨x, refs, rs, rfl, hS, q⟩ := h
      obtain ⟨dx, L, F, fms, Te, h1, h2, h3, h4, h5, h6, h7⟩ := hS
      refine ⟨_, (pss_one (ps_ret (pe_callTy cList (by rfl) bi.list_ (by decide +kernel) (pa_cons (pe_fld (pv 0) rfl) pa_nil)))), ?_⟩
      refine rd_start (σ := [some (.ref x)]) rfl ?_
      walk_at "rd"
      refine rd_heldV TC_Stream h1 rfl ?_
      walk_at "rd"
      exact q _ (by assumption)
    ) only [↓lt_eq]
theorem ok_check_plans {f : Addr} {fd : FuncData} {f_check_plan : Addr} {fd_check_plan : FuncData}    (D : Dn K mg "check_plans" s_check_plans ["plans", "length"] f fd) (bi : Bi mg) (G_check_plan : FnOk P w K mg base CX0 5 f_check_plan fd_check_plan ["plan", "length"] (spCkPl K)) (D_check_plan : Dn K mg "check_plan" s_check_plan ["plan", "length"] f_check_plan fd_check_plan)     : FnOk P w K mg base CX0 6 f fd ["plans", "length"] spCkPls := by
  refine lt_out ?_
  simp (disch := with_unfolding_all
    refine D.F.ok sc_check_plans (fun vs H Q E h => ?_) (fun cdv A outer s H vs Q E hr h => ?_)
    · obtain ⟨a, ps, hss, n, rfl, _⟩ := h
      rfl
    · obtain ⟨a, ps, hss, n, rfl, hA, hP, hne, hC, q⟩ := h
      refine ⟨_, (pss_cons (ps_if (PW.pt (pw_or (pt_not (pt_val (pe_callB call_isiT (by rfl) bi.isinstance_ (by decide +kernel) (pa_cons (pv 0) (pa_cons (pe_tup (pa_cons (pe_bltn (v := .ty "list") (by rfl) bi.list_ (by decide +kernel) rfl) (pa_cons (pe_bltn (v := .ty "tuple") (by rfl) bi.tuple_ (by decide +kernel) rfl) pa_nil))) pa_nil))))) (pw_or1 (pt_not (pt_truth (pv 0) (by intro _; rfl))))))
   (pss_one ps_never)
   pss_nil)
   (pss_one (ps_for PassesOwn.never rfl (pi_enum (by rfl) bi.enumerate_ (pa_cons (pv 0) pa_nil)) (pg_tup rfl (pgs_cons (pg_name (i := 2) sc_check_plans.nd rfl (Or.inl rfl)) (pgs_cons (pg_name (i := 3) sc_check_plans.nd rfl (Or.inl rfl)) pgs_nil)))
   (pss_one (ps_try_thru0 (pss_one (ps_expr (pe_call G_check_plan (hr.mono (by first | decide | exact Nat.le_refl _)) (by rfl) D_check_plan.g D_check_plan.F.kp D_check_plan.b .nil pass0 (pa_cons (pv 3) (pa_cons (pv 1) pa_nil)))))))))), ?_⟩
      refine rd_start (σ := [some (.ref a), some (.int (n : Nat)), none, none]) rfl ?_
      walk_at "rd"
      rename_i t ht
      have st := same_new (o := .tup [.ty "list", .ty "tuple"]) ht
      refine isiT_lst (st _ _ hA) upd_same ?_
      walk_at "rd"
      refine ⟨_, .inl ⟨_, SqL.of (st _ _ hA), rfl⟩, ?_⟩
      refine if_no (by cases ps with | nil => exact absurd rfl hne | cons _ _ => rfl) ?_
      walk_at "rd"
      refine rd_lpE (SqL.of (st _ _ hA)) ?_
      refine for_enum (xs := ps) (fun i σ H' => ∃ x2 x3, σ = [some (.ref a), some (.int (n : Nat)), x2, x3] ∧ Same H H') ⟨_, _, rfl, st⟩ (fun i σ H1 _ hI => ?_) (fun i v σ H1 T hv hI hT => ?_) (fun σ H1 hI => ?_)
      · obtain ⟨x2, x3, rfl, sm⟩ := hI
        exact SqL.of (sm _ _ hA)
      · obtain ⟨x2, x3, rfl, sm⟩ := hI
        have sT := same_new (o := .tup [.int (i : Nat), v]) hT
        have hP' := hP.same (sm.trans sT)
        obtain ⟨hs, ehs, bb, refs, rfl, e1, e2, e3⟩ := hP'.at2 hv
        obtain ⟨c1, c2⟩ := hC hs (List.mem_of_getElem? ehs)
        walk_at "rd"
        refine use_ckpl e1 e2 c1 c2 fun H2 s2 => ?_
        walk_at "rd"
        exact ⟨_, _, rfl, sm.trans (sT.trans s2)⟩
      · obtain ⟨x2, x3, rfl, sm⟩ := hI
        walk_at "rd"
        exact q _ sm
    ) only [↓lt_eq]
theorem ok_smallest {f : Addr} {fd : FuncData} {f_check_sound : Addr} {fd_check_sound : FuncData} {f_check_plans : Addr} {fd_check_plans : FuncData} {f_encode : Addr} {fd_encode : FuncData} {f_Stream_size : Addr} {fd_Stream_size : FuncData} {C_Stream : Addr}   (D : Dn K mg "smallest" s_smallest ["sound", "plans"] f fd) (bi : Bi mg) (G_check_sound : FnOk P w K mg base CX0 3 f_check_sound fd_check_sound ["values"] spSound) (D_check_sound : Dn K mg "check_sound" s_check_sound ["values"] f_check_sound fd_check_sound) (G_check_plans : FnOk P w K mg base CX0 6 f_check_plans fd_check_plans ["plans", "length"] spCkPls) (D_check_plans : Dn K mg "check_plans" s_check_plans ["plans", "length"] f_check_plans fd_check_plans) (G_encode : FnOk P w K mg base CX0 11 f_encode fd_encode ["sound", "plan", "states"] (spEnc K C_Stream)) (D_encode : Kn K mg "encode" s_encode ["sound", "plan", "states"] 2 ["states"] [.int 0] f_encode fd_encode) (G_Stream_size : FnOk P w K mg base CX0 2 f_Stream_size fd_Stream_size ["self"] (spSizeM K C_Stream)) (D_Stream_size : Mn K C_Stream "size" "Stream.size" s_Stream_size ["self"] f_Stream_size fd_Stream_size)  (TC_Stream : StmC K mg C_Stream)   : FnOk P w K mg base CX0 12 f fd ["sound", "plans"] (spSml K C_Stream) := by
  refine lt_out ?_
  simp (disch := with_unfolding_all
    refine D.F.ok sc_smallest (fun vs H Q E h => ?_) (fun cdv A outer s H vs Q E hr h => ?_)
    · obtain ⟨a, b, xs, ps, hss, rfl, _⟩ := h
      rfl
    · obtain ⟨a, b, xs, ps, hss, rfl, hA, hB, hP, hne, hpl, hC, hxl, hxb, q⟩ := h
      obtain ⟨ds_encode, v_encode, b_encode⟩ := D_encode.b
      refine ⟨_, (pss_cons (ps_expr (pe_call G_check_sound (hr.mono (by first | decide | exact Nat.le_refl _)) (by rfl) D_check_sound.g D_check_sound.F.kp D_check_sound.b .nil pass0 (pa_cons (pv 0) pa_nil)))
   (pss_cons (ps_expr (pe_call G_check_plans (hr.mono (by first | decide | exact Nat.le_refl _)) (by rfl) D_check_plans.g D_check_plans.F.kp D_check_plans.b .nil pass0 (pa_cons (pv 1) (pa_cons (pe_callB cLen (by rfl) bi.len_ (by decide +kernel) (pa_cons (pv 0) pa_nil)) pa_nil))))
   (pss_cons (ps_par (i := 2) (j := 3) rfl sc_smallest.nd rfl rfl (by decide) rfl rfl (pa_cons pe_int (pa_cons (pe_call G_encode (hr.mono (by first | decide | exact Nat.le_refl _)) (by rfl) D_encode.g D_encode.F.kp b_encode v_encode pass0 (pa_cons (pv 0) (pa_cons (pe_ix ix_list (pv 1) pe_int (fun _ _ => rfl)) pa_nil))) pa_nil)) rfl)
   (pss_cons (ps_for PassesOwn.never rfl (pi_range2 (by rfl) bi.range_ (pa_cons pe_int (pa_cons (pe_callB cLen (by rfl) bi.len_ (by decide +kernel) (pa_cons (pv 1) pa_nil)) pa_nil))) (pg_name (i := 4) sc_smallest.nd rfl (Or.inl rfl))
   (pss_cons (ps_set (i := 5) sc_smallest.nd rfl (Or.inl rfl) (pe_call G_encode (hr.mono (by first | decide | exact Nat.le_refl _)) (by rfl) D_encode.g D_encode.F.kp b_encode v_encode pass0 (pa_cons (pv 0) (pa_cons (pe_ix ix_list (pv 1) (pv 4) (fun _ _ => rfl)) pa_nil))))
   (pss_one (ps_if (pt_cmpR op_lt (pe_meth0 (pv 5) TC_Stream.cl D_Stream_size.m G_Stream_size (hr.mono (by first | decide | exact Nat.le_refl _)) D_Stream_size.b .nil pass0) (pe_meth0 (pv 3) TC_Stream.cl D_Stream_size.m G_Stream_size (hr.mono (by first | decide | exact Nat.le_refl _)) D_Stream_size.b .nil pass0) (nomark _))
   (pss_one (ps_par (i := 2) (j := 3) rfl sc_smallest.nd rfl rfl (by decide) rfl rfl (pa_cons (pv 4) (pa_cons (pv 5) pa_nil)) rfl))
   pss_nil))))
   (pss_one (ps_ret (pe_tup (pa_cons (pv 2) (pa_cons (pv 3) pa_nil))))))))), ?_⟩
      refine rd_start (σ := [some (.ref a), some (.ref b), none, none, none, none]) rfl ?_
      walk_at "rd"
      refine use_sound hA fun H1 s1 => ?_
      walk_at "rd"
      rw [List.length_map]
      refine use_ckpls (s1 _ _ hB) (hP.same s1) hne hC fun H2 s2 => ?_
      have s12 := s1.trans s2
      have lP := hP.len
      obtain ⟨v0, ev0⟩ : ∃ v0, ps[0]? = some v0 := by
        cases ps with
        | nil => exact absurd rfl hne
        | cons v r => exact ⟨v, rfl⟩
      have l0 := (List.getElem?_eq_some_iff.mp ev0).1
      obtain ⟨hs0, eh0, b0, refs0, rfl, g1, g2, g3⟩ := (hP.same s12).at2 ev0
      obtain ⟨c1, c2⟩ := hC hs0 (List.mem_of_getElem? eh0)
      obtain ⟨Te0, hV0⟩ := enc_vd (g := 0) c1 c2.symm (by omega) hxb
      have hA2 := s12 _ _ hA
      have hB2 := s12 _ _ hB
      walk_at "rd"
      refine rd_ixL (SqL.of hB2) (atI_nat (j := 0) ev0) ?_
      walk_at "rd"
      refine use_enc (g := 0) rfl hA2 g1 g2 c1 c2.symm (by omega) g3 (by decide) hV0 fun x0 ws0 H3 hx0 s3 hS0 => ?_
      walk_at "rd"
      refine for_range (lo := 1) (n := _) (fun i σ H' => ∃ best x ws hs z x4 x5, σ = [some (.ref a), some (.ref b), some (.int (best : Nat)), some (.ref x), x4, x5] ∧ StmAt K C_Stream H' x ws (encA 0 hs xs) ∧ hss[best]? = some hs ∧ MinAt (hss.map (szP xs)) (i + 1) best z ∧ z = szP xs hs ∧ Same H H') ⟨0, x0, ws0, hs0, _, _, _, rfl, hS0, eh0, MinAt.one (by rw [List.getElem?_map, eh0]; rfl), rfl, s12.trans s3⟩ (fun i σ H' hi hI => ?_) (fun σ H' hI => ?_)
      · obtain ⟨best, x, ws, hs, z, x4, x5, rfl, hS, ehb, hM, ez, sm⟩ := hI
        have hi' : i + 1 < ps.length := by omega
        obtain ⟨v1, ev1⟩ : ∃ v1, ps[i + 1]? = some v1 := ⟨_, List.getElem?_eq_getElem hi'⟩
        obtain ⟨hs1, eh1, b1, refs1, rfl, k1, k2, k3⟩ := (hP.same sm).at2 ev1
        obtain ⟨d1, d2⟩ := hC hs1 (List.mem_of_getElem? eh1)
        obtain ⟨Te1, hV1⟩ := enc_vd (g := 0) d1 d2.symm (by omega) hxb
        rw [show (1 : Int) + (i : Int) = ((i + 1 : Nat) : Int) by omega]
        walk_at "rd"
        refine rd_ixL (SqL.of (sm _ _ hB)) (atI_nat ev1) ?_
        walk_at "rd"
        refine use_enc (g := 0) rfl (sm _ _ hA) k1 k2 d1 d2.symm (by omega) k3 (by decide) hV1 fun x1 ws1 H4 hx1 s4 hS1 => ?_
        walk_at "rd"
        refine rd_methS hS1 rfl (by decide +kernel) (by decide +kernel) ?_
        walk_at "rd"
        refine use_sizeM hS1 fun H5 s5 => ?_
        have s45 := s4.trans s5
        walk_at "rd"
        refine rd_methS (hS.same s45) rfl (by decide +kernel) (by decide +kernel) ?_
        walk_at "rd"
        refine use_sizeM (hS.same s45) fun H6 s6 => ?_
        have eq1 : (hss.map (szP xs))[i + 1]? = some (szP xs hs1) := by rw [List.getElem?_map, eh1]; rfl
        walk_at "rd"
        refine rd_iteD (fun c => ?_) (fun c => ?_)
        · walk_at "rd"
          exact ⟨i + 1, x1, ws1, hs1, _, _, _, rfl, (hS1.same s5).same s6, eh1, hM.new eq1 (by rw [ez]; exact c), rfl, sm.trans (s45.trans s6)⟩
        · walk_at "rd"
          exact ⟨best, x, ws, hs, z, _, _, rfl, hS.same (s45.trans s6), ehb, hM.keep eq1 (by rw [ez]; exact c), ez, sm.trans (s45.trans s6)⟩
      · obtain ⟨best, x, ws, hs, z, x4, x5, rfl, hS, ehb, hM, ez, sm⟩ := hI
        walk_at "rd"
        rename_i t ht
        have st := same_new (o := .tup [.int (best : Nat), .ref x]) ht
        refine q t x ws _ best hs z (sm.free ht) (sm.trans st) upd_same (hS.same st) ehb ?_
        rw [show hss.length = (((ps.length : Nat) : Int) - 1).toNat + 1 by omega]
        exact hM
    ) only [↓lt_eq]
theorem ok_take {f : Addr} {fd : FuncData}     (D : Dn K mg "_law_take" s_take ["_law_pool_here", "_law_many"] f fd) (bi : Bi mg)      : FnOk P w K mg base CX0 1 f fd ["_law_pool_here", "_law_many"] spTakeV := by
  refine lt_out ?_
  simp (disch := with_unfolding_all
    refine D.F.ok sc_take (fun vs H Q E h => ?_) (fun cdv A outer s H vs Q E hr h => ?_)
    · obtain ⟨p, m, rfl, _⟩ := h
      rfl
    · obtain ⟨p, m, rfl, ⟨x, y, hp, hx, hy0, hy1⟩, hm0, hm1, q⟩ := h
      refine ⟨_, (pss_cons (ps_if (pt_cmpR op_gt (pe_ix ix_list (pv 0) pe_int (fun _ _ => rfl)) pe_int (nomark _))
   (pss_cons (ps_set (i := 2) sc_take.nd rfl (Or.inl rfl) (pe_op op_mod (pe_callTy cInt (by rfl) bi.int_ (by decide +kernel) (pa_cons (pe_ix ix_list (pv 0) pe_int (fun _ _ => rfl)) pa_nil)) (pv 1)))
   (pss_cons (ps_asg (pe_op op_fdivW (pe_ix ix_list (pv 0) pe_int (fun _ _ => rfl)) (pv 1)) (pg_sub (pv 0) pe_int set_list))
   (pss_one (ps_ret (pv 2)))))
   pss_nil)
   (pss_cons (ps_asg (pe_op op_mod (pe_callTy cInt (by rfl) bi.int_ (by decide +kernel) (pa_cons (pe_op op_add (pe_op op_mul (pe_ix ix_list (pv 0) pe_int (fun _ _ => rfl)) pe_int) pe_int) pa_nil)) pe_int) (pg_sub (pv 0) pe_int set_list))
   (pss_one (ps_ret (pe_op op_mod (pe_op op_fdiv (pe_op op_mod (pe_callTy cInt (by rfl) bi.int_ (by decide +kernel) (pa_cons (pe_op op_mul (pe_ix ix_list (pv 0) pe_int (fun _ _ => rfl)) (pe_ix ix_list (pv 0) pe_int (fun _ _ => rfl))) pa_nil)) pe_int) pe_int) (pv 1)))))), ?_⟩
      refine rd_start (σ := [some (.ref p), some (.int m), none]) rfl ?_
      walk_at "rd"
      refine rd_iteD (fun c => ?_) (fun c => ?_)
      · walk_at "rd"
        exact q _ _ (Int.emod_nonneg _ (by omega)) (Int.emod_lt_of_pos _ hm0) ⟨x / m, y, upd_same, Int.ediv_nonneg hx (by omega), hy0, hy1⟩ Kp.at
      · have e0 := Int.emod_nonneg (y * 48271 + 12345) (show (2147483647 : Int) ≠ 0 by decide)
        have e1 := Int.emod_lt_of_pos (y * 48271 + 12345) (show (0 : Int) < 2147483647 by decide)
        walk_at "rd"
        exact q _ _ (Int.emod_nonneg _ (by omega)) (Int.emod_lt_of_pos _ hm0) ⟨x, (y * 48271 + 12345) % 2147483647, upd_same, hx, e0, e1⟩ Kp.at
    ) only [↓lt_eq]
theorem ok_pool {f : Addr} {fd : FuncData}     (D : Dn K mg "_law_pool" s_pool ["_law_script", "_law_k"] f fd) (bi : Bi mg)      : FnOk P w K mg base CX0 1 f fd ["_law_script", "_law_k"] (spPool K) := by
  refine lt_out ?_
  simp (disch := with_unfolding_all
    refine D.F.ok sc_pool (fun vs H Q E h => ?_) (fun cdv A outer s H vs Q E hr h => ?_)
    · obtain ⟨a, ns, k, rfl, _⟩ := h
      rfl
    · obtain ⟨a, ns, k, rfl, hS, hl, hk0, hk1, q⟩ := h
      refine ⟨_, (pss_cons (ps_set (i := 2) sc_pool.nd rfl (Or.inl rfl) (pe_ix ix_list (pe_op op_cat (pe_slice sl_list (pv 0) (po_some (pv 1)) (po_some (pe_op op_add (pv 1) pe_int))) (pe_lst (pa_cons pe_int pa_nil))) pe_int (fun _ _ => rfl)))
   (pss_cons (ps_set (i := 3) sc_pool.nd rfl (Or.inl rfl) (pe_ifExp (pt_cmpR op_ge (pv 2) pe_int (nomark _)) (pv 2) (pe_op op_sub (pe_un un_neg pe_int) (pv 2))))
   (pss_cons (ps_set (i := 4) sc_pool.nd rfl (Or.inl rfl) (pe_op op_mod (pe_op op_mul (pe_callTy cInt (by rfl) bi.int_ (by decide +kernel) (pa_cons (pe_op op_add (pe_op op_add (pe_op op_add (pe_op op_mod (pv 3) pe_int) (pe_op op_mul (pe_op op_mul pe_int (pv 1)) (pv 1))) (pe_op op_mul pe_int (pv 1))) pe_int) pa_nil)) pe_int) pe_int))
   (pss_one (ps_ret (pe_lst (pa_cons (pe_op op_mul (pv 3) (pe_callTy cInt (by rfl) bi.int_ (by decide +kernel) (pa_cons (pe_cmpR op_ge (pv 3) (pe_op op_pow pe_int pe_int) (nomark _)) pa_nil))) (pa_cons (pe_op op_mod (pe_op op_mul (pv 4) (pv 4)) pe_int) pa_nil)))))))), ?_⟩
      refine rd_start (σ := [some (.ref a), some (.int k), none, none, none]) rfl ?_
      have hS' : SqL (cxOf CX0 P w K mg base ["_law_script", "_law_k", "_law_cell", "_law_number", "_law_mixed"] "_law_pool" (defScope s_pool) f cdv A outer s H E).nox.K H a (ns.map V.int) := hS
      walk_at "rd"
      refine ⟨a, _, rfl, hS', fun p1 hp1 => ?_⟩
      walk_at "rd"
      rename_i p2 hp2
      have hc : ∃ c : Int, (cutV (ns.map V.int) (some k) (some (k + 1)) ++ [.int 0])[0]? = some (.int c) := by
        unfold cutV
        rw [← List.map_drop, ← List.map_take]
        cases (ns.drop (HT.sIx (ns.map V.int).length 0 (some k))).take (HT.sIx (ns.map V.int).length (ns.map V.int).length (some (k + 1)) - HT.sIx (ns.map V.int).length 0 (some k)) with
        | nil => exact ⟨0, rfl⟩
        | cons c r => exact ⟨c, rfl⟩
      have hcl : (cutV (ns.map V.int) (some k) (some (k + 1))).length ≤ 63 := by
        unfold cutV
        rw [List.length_take, List.length_drop, List.length_map]
        omega
      obtain ⟨c, hc⟩ := hc
      refine rd_catG (look_new hp2 upd_same) upd_same (by simp; omega) fun p3 hp3 => ?_
      walk_at "rd"
      refine rd_ixL (SqL.of upd_same) (atI_nat (j := 0) hc) ?_
      walk_at "rd"
      refine rd_iteD (fun d => ?_) (fun d => ?_)
      · have e0 := Int.emod_nonneg c (show (2147483629 : Int) ≠ 0 by decide)
        have e1 := Int.emod_lt_of_pos c (show (0 : Int) < 2147483629 by decide)
        walk_at "rd"
        rename_i p hp
        have hsm : Same H (upd (upd (upd H p1 (.lst (cutV (ns.map V.int) (some k) (some (k + 1))))) p2 (.lst [.int 0])) p3 (.lst (cutV (ns.map V.int) (some k) (some (k + 1)) ++ [.int 0]))) := ((same_new hp1).trans (same_new hp2)).trans (same_new hp3)
        exact q p _ (hsm.free hp) (hsm.trans (same_new hp)) ⟨_, _, upd_same, Int.mul_nonneg (by omega) (by split <;> decide), Int.emod_nonneg _ (by decide), Int.lt_trans (Int.emod_lt_of_pos _ (by decide)) (by decide)⟩
      · walk_at "rd"
        rename_i p hp
        have hsm : Same H (upd (upd (upd H p1 (.lst (cutV (ns.map V.int) (some k) (some (k + 1))))) p2 (.lst [.int 0])) p3 (.lst (cutV (ns.map V.int) (some k) (some (k + 1)) ++ [.int 0]))) := ((same_new hp1).trans (same_new hp2)).trans (same_new hp3)
        exact q p _ (hsm.free hp) (hsm.trans (same_new hp)) ⟨_, _, upd_same, Int.mul_nonneg (by omega) (by split <;> decide), Int.emod_nonneg _ (by decide), Int.lt_trans (Int.emod_lt_of_pos _ (by decide)) (by decide)⟩
    ) only [↓lt_eq]
theorem ok_sound {f : Addr} {fd : FuncData} {f_take : Addr} {fd_take : FuncData}    (D : Dn K mg "_law_sound" s_sound ["_law_pool_here", "_law_most", "_law_size"] f fd) (bi : Bi mg) (G_take : FnOk P w K mg base CX0 1 f_take fd_take ["_law_pool_here", "_law_many"] spTakeV) (D_take : Dn K mg "_law_take" s_take ["_law_pool_here", "_law_many"] f_take fd_take)     : FnOk P w K mg base CX0 2 f fd ["_law_pool_here", "_law_most", "_law_size"] spSoundL := by
  refine lt_out ?_
  simp (disch := with_unfolding_all
    refine D.F.ok sc_sound (fun vs H Q E h => ?_) (fun cdv A outer s H vs Q E hr h => ?_)
    · obtain ⟨p, m, z, rfl, _⟩ := h
      rfl
    · obtain ⟨p, m, z, rfl, hP, h0, h1, z0, z1, q⟩ := h
      refine ⟨_, (pss_one (ps_ret (pe_lc (own := [("_law_turn", 3)]) (g := gName 3) (tt := tYes) rfl sc_sound.nd (pi_range1 (by rfl) bi.range_ (pa_cons (pe_call G_take (hr.mono (by first | decide | exact Nat.le_refl _)) (by rfl) D_take.g D_take.F.kp D_take.b .nil pass0 (pa_cons (pv 0) (pa_cons (pe_op op_add (pv 1) pe_int) pa_nil))) pa_nil)) (blkOk_by (N := ["_law_pool_here", "_law_most", "_law_size", "_law_turn"]) (sc := defScope s_sound) (by decide +kernel)) (fun _ _ _ _ _ => pg_name (i := 3) sc_sound.nd rfl (Or.inl rfl)) (fun _ _ _ _ _ => pts_nil) (fun _ _ _ _ _ => (pe_op op_sub (pe_call G_take (hr.mono (by first | decide | exact Nat.le_refl _)) (by rfl) D_take.g D_take.F.kp D_take.b .nil pass0 (pa_cons (pv 0) (pa_cons (pe_op op_add (pe_op op_mul pe_int (pv 2)) pe_int) pa_nil))) (pv 2)))))), ?_⟩
      refine rd_start (σ := [some (.ref p), some (.int (m : Nat)), some (.int z), none]) rfl ?_
      walk_at "rd"
      rename_i r1 H1 h10 h11 hP1 hK1 D hD
      refine lc_draw (fun w => -z ≤ w ∧ w ≤ z) (fun _ => rfl) hP1 hD (by omega) (fun i H2 Q' hP2 hq => ?_) fun xs H2 hxl hxb hP2 hK2 eD => ?_
      · walk_at "rd"
        rename_i r2 H3 h20 h21 hP3 hK3
        exact hq _ _ ⟨by omega, by omega⟩ hP3 hK3
      · exact q D xs H2 (none_of hK1 (hP1.ne hD) hD) eD (by omega) hxb hP2 (hK1.trans hK2)
    ) only [↓lt_eq]
theorem ok_plan {f : Addr} {fd : FuncData} {f_take : Addr} {fd_take : FuncData}    (D : Dn K mg "_law_plan" s_plan ["_law_pool_here", "_law_length", "_law_most", "_law_steps"] f fd) (bi : Bi mg) (G_take : FnOk P w K mg base CX0 1 f_take fd_take ["_law_pool_here", "_law_many"] spTakeV) (D_take : Dn K mg "_law_take" s_take ["_law_pool_here", "_law_many"] f_take fd_take)     : FnOk P w K mg base CX0 2 f fd ["_law_pool_here", "_law_length", "_law_most", "_law_steps"] spPlanL := by
  refine lt_out ?_
  simp (disch := with_unfolding_all
    refine D.F.ok sc_plan (fun vs H Q E h => ?_) (fun cdv A outer s H vs Q E hr h => ?_)
    · obtain ⟨p, n, m, s, rfl, _⟩ := h
      rfl
    · obtain ⟨p, n, m, s, rfl, hP, hn, m0, m1, s0, s1, q⟩ := h
      refine ⟨_, (pss_cons (ps_set (i := 4) sc_plan.nd rfl (Or.inl rfl) (pe_lst pa_nil))
   (pss_cons (ps_set (i := 5) sc_plan.nd rfl (Or.inl rfl) pe_int)
   (pss_cons (ps_while PassesOwn.never (pt_cmpR op_gt (pv 1) pe_int (nomark _))
   (pss_cons (ps_set (i := 6) sc_plan.nd rfl (Or.inl rfl) (pe_callB (cMin rfl) (by rfl) bi.min_ (by decide +kernel) (pa_cons (pv 1) (pa_cons (pe_op op_add (pe_op op_add pe_int (pv 5)) (pe_call G_take (hr.mono (by first | decide | exact Nat.le_refl _)) (by rfl) D_take.g D_take.F.kp D_take.b .nil pass0 (pa_cons (pv 0) (pa_cons (pv 2) pa_nil)))) pa_nil))))
   (pss_cons (ps_set (i := 7) sc_plan.nd rfl (Or.inl rfl) (pe_tup (pa_cons (pe_callB (call_min3Nu rfl) (by rfl) bi.min_ (by decide +kernel) (pa_cons (pe_call G_take (hr.mono (by first | decide | exact Nat.le_refl _)) (by rfl) D_take.g D_take.F.kp D_take.b .nil pass0 (pa_cons (pv 0) (pa_cons pe_int pa_nil))) (pa_cons (pe_op op_sub (pv 6) (pv 5)) (pa_cons (pe_op op_sub (pv 1) (pv 6)) pa_nil)))) (pa_cons (pe_call G_take (hr.mono (by first | decide | exact Nat.le_refl _)) (by rfl) D_take.g D_take.F.kp D_take.b .nil pass0 (pa_cons (pv 0) (pa_cons pe_int pa_nil))) pa_nil))))
   (C8.pss_cut (ps_if (pt_cmpR op_eq (pe_ix ix_tup (pv 7) pe_int (fun _ _ => rfl)) pe_int (nomark _))
   (pss_one (ps_set (i := 7) sc_plan.nd rfl (Or.inl rfl) (pe_tup (pa_cons pe_int (pa_cons pe_int pa_nil)))))
   pss_nil)
   (pss_cons (ps_expr (pe_bm PySem.F.plainAttrs_list PySem.F.slot_list_append PySem.F.type_list_append mt_append (pv 4) (pa_cons (pe_tup (pa_cons (pv 6) (pa_cons (pv 7) (pa_cons (pe_call G_take (hr.mono (by first | decide | exact Nat.le_refl _)) (by rfl) D_take.g D_take.F.kp D_take.b .nil pass0 (pa_cons (pv 0) (pa_cons pe_int pa_nil))) (pa_cons (pe_op op_add pe_int (pe_call G_take (hr.mono (by first | decide | exact Nat.le_refl _)) (by rfl) D_take.g D_take.F.kp D_take.b .nil pass0 (pa_cons (pv 0) (pa_cons (pv 3) pa_nil)))) pa_nil))))) pa_nil)))
   (pss_cons (ps_set (i := 5) sc_plan.nd rfl (Or.inl rfl) (pe_ix ix_tup (pv 7) pe_int (fun _ _ => rfl)))
   (pss_one (ps_set (i := 1) sc_plan.nd rfl (Or.inl rfl) (pe_op op_sub (pv 1) (pv 6))))))))))
   (pss_one (ps_ret (pv 4)))))), ?_⟩
      refine rd_start (σ := [some (.ref p), some (.int (n : Nat)), some (.int (m : Nat)), some (.int (s : Nat)), none, none, none, none]) rfl ?_
      walk_at "rd"
      rename_i D hD
      have hDp : D ≠ p := hP.ne hD
      refine while_n (fun i σ H' => ∃ refs hs w L x6 x7, σ = [some (.ref p), some (.int (L : Nat)), some (.int (m : Nat)), some (.int (s : Nat)), some (.ref D), some (.int (w : Nat)), x6, x7] ∧ H' D = some (.lst refs) ∧ HdsAt H' refs hs ∧ Ch 0 hs w ∧ totH hs + L = n ∧ w ≤ L ∧ w ≤ 8 ∧ hs.length = i ∧ i ≤ totH hs ∧ Pool H' p ∧ Kp p H H') n ⟨[], [], 0, n, none, none, rfl, upd_same, .nil, rfl, Nat.zero_add n, Nat.zero_le _, Nat.zero_le _, rfl, Nat.le_refl _, hP.new hD, Kp.new hD⟩ (fun i σ H1 hi hI => ?_)
      obtain ⟨refs, hs, w, L, x6, x7, rfl, eD, hh, hc, ht, hwL, hw8, hln, hit, hP1, hK1⟩ := hI
      have hrl := hh.len
      walk_at "rd"
      refine rd_iteD (fun c => ?_) (fun c => ?_)
      · refine while_in (by omega) ?_
        walk_at "rd"
        rename_i r1 H2 h10 h11 hP2 hK2 r2 H3 h20 h21 hP3 hK3
        obtain ⟨sz, hsz, z1, z2, z3, z4⟩ : ∃ sz : Nat, (if 1 + (w : Int) + r1 < (L : Int) then 1 + (w : Int) + r1 else (L : Int)) = (sz : Int) ∧ 1 ≤ sz ∧ sz ≤ 64 ∧ w ≤ sz ∧ sz ≤ L := by
          by_cases d : 1 + (w : Int) + r1 < (L : Int)
          · rw [if_pos d]
            exact ⟨(1 + (w : Int) + r1).toNat, by omega, by omega, by omega, by omega, by omega⟩
          · rw [if_neg d]
            exact ⟨L, rfl, by omega, by omega, by omega, by omega⟩
        rw [hsz]
        refine rd_min3 ?_
        obtain ⟨w', hw', y1, y2, y3⟩ : ∃ w' : Nat, (if (L : Int) - (sz : Int) < (if (sz : Int) - (w : Int) < r2 then (sz : Int) - (w : Int) else r2) then (L : Int) - (sz : Int) else (if (sz : Int) - (w : Int) < r2 then (sz : Int) - (w : Int) else r2)) = (w' : Int) ∧ w' ≤ 8 ∧ w + w' ≤ sz ∧ sz + w' ≤ L := by
          refine ⟨(if (L : Int) - (sz : Int) < (if (sz : Int) - (w : Int) < r2 then (sz : Int) - (w : Int) else r2) then (L : Int) - (sz : Int) else (if (sz : Int) - (w : Int) < r2 then (sz : Int) - (w : Int) else r2)).toNat, ?_, ?_, ?_, ?_⟩
          all_goals
            split
            · omega
            · split <;> omega
        rw [hw']
        walk_at "rd"
        rename_i r3 H4 h30 h31 hP4 hK4 j hj
        have K4 : Kp p H1 H4 := hK2.trans (hK3.trans hK4)
        have lk4 := LK.pool hP1 K4
        obtain ⟨s3, rfl⟩ : ∃ s3 : Nat, r3 = (s3 : Int) := ⟨r3.toNat, by omega⟩
        refine rd_cut (fun σ H' => ∃ j' s', σ = [some (.ref p), some (.int (L : Nat)), some (.int (m : Nat)), some (.int (s : Nat)), some (.ref D), some (.int (w : Nat)), some (.int (sz : Nat)), some (.ref j')] ∧ JtAt H' j' (w', s') ∧ s' ≤ 3 ∧ (w' = 0 → s' = 0) ∧ H' D = some (.lst refs) ∧ HdsAt H' refs hs ∧ Pool H' p ∧ Kp p H1 H') ?_ fun σ' H5 hM => ?_
        · walk_at "rd"
          refine rd_iteD (p := V.int (w' : Nat) = V.int 0) (fun c2 => ?_) (fun c2 => ?_)
          · have c2 := V.int.inj c2
            walk_at "rd"
            rename_i j2 hj2
            have sj := (same_new (o := .tup [.int (w' : Nat), .int (s3 : Nat)]) hj).trans (same_new (o := .tup [.int 0, .int 0]) hj2)
            have e0 : w' = 0 := by omega
            subst e0
            exact ⟨j2, 0, rfl, upd_same, by decide, fun _ => rfl, sj _ _ (K4 _ _ hDp eD), (hh.lk lk4).lk (.of sj), hP4.same sj, K4.trans (Kp.of sj)⟩
          · have c2 : ¬ w' = 0 := fun z => c2 (by rw [z]; rfl)
            walk_at "rd"
            have sj := same_new (o := .tup [.int (w' : Nat), .int (s3 : Nat)]) hj
            exact ⟨j, s3, rfl, upd_same, by omega, fun z => (c2 z).elim, sj _ _ (K4 _ _ hDp eD), (hh.lk lk4).lk (.of sj), hP4.same sj, K4.trans (Kp.of sj)⟩
        obtain ⟨j', s', rfl, hjt, hs3, hs0, eD, hh, hP5, hK5⟩ := hM
        walk_at "rd"
        rename_i r4 H6 h40 h41 hP6 hK6 r5 H7 h50 h51 hP7 hK7 h hh7
        obtain ⟨v4, rfl⟩ : ∃ v4 : Nat, r4 = (v4 : Int) := ⟨r4.toNat, by omega⟩
        obtain ⟨v5, rfl⟩ : ∃ v5 : Nat, r5 = (v5 : Int) := ⟨r5.toNat, by omega⟩
        have K7 := hK6.trans hK7
        have lk7 := LK.pool hP5 K7
        have eD7 := K7 _ _ hDp eD
        have ett := look_new (o := .tup [.int (sz : Nat), .ref j', .int (v4 : Nat), .int (1 + (v5 : Nat))]) hh7 eD7
        refine rd_appG ett (by omega) ?_
        have hjt7 := LK.new (o := .tup [.int (sz : Nat), .ref j', .int (v4 : Nat), .int (1 + (v5 : Nat))]) hh7 _ _ (lk7 _ _ hjt fun _ z => nomatch z) fun _ z => nomatch z
        have lk8 := LK.at (o := .lst (refs ++ [.ref h])) ett
        have hjt8 := lk8 _ _ hjt7 fun _ z => nomatch z
        have ok : HdOk (sz, w', s', v4, 1 + v5) := ⟨z1, z2, y1, hs3, hs0, show v4 ≤ 5 by omega, show 1 ≤ 1 + v5 by omega, show 1 + v5 ≤ 64 by omega⟩
        walk_at "rd"
        refine ⟨refs ++ [.ref h], hs ++ [(sz, w', s', v4, 1 + v5)], w', L - sz, some (.int (sz : Nat)), some (.ref j'), ?_, upd_same, ?_, Ch.snoc ok hc y2, by rw [totH_snoc]; show totH hs + sz + (L - sz) = n; omega, by omega, y1, by rw [List.length_append, hln]; rfl, by rw [totH_snoc]; show i + 1 ≤ totH hs + sz; omega, pool_upd hDp (hP7.new hh7), ?_⟩
        · rw [show ((L - sz : Nat) : Int) = (L : Int) - (sz : Int) by omega]
          rfl
        · refine All2.app (((hh.lk lk7).lk (LK.new hh7)).lk lk8) ⟨h, j', rfl, ?_, hjt8⟩
          rw [upd_ne (ne_of_none eD7 hh7).symm, upd_same]
          rfl
        · exact fun b x nb e => by rw [upd_ne (ne_of_none e hD)]; exact (hK1.trans (hK5.trans (K7.trans (Kp.new hh7)))) _ _ nb e
      · have L0 : L = 0 := by omega
        have w0 : w = 0 := by omega
        subst L0 w0
        walk_at "rd"
        exact q D refs hs _ hD eD hh hc (by omega) (by omega) hP1 hK1
    ) only [↓lt_eq]
theorem ok_even {f : Addr} {fd : FuncData}     (D : Dn K mg "_law_even" s_even ["_law_length", "_law_block", "_law_joint", "_law_levels", "_law_step"] f fd) (bi : Bi mg)      : FnOk P w K mg base CX0 1 f fd ["_law_length", "_law_block", "_law_joint", "_law_levels", "_law_step"] (spEvL K) := by
  refine lt_out ?_
  simp (disch := with_unfolding_all
    refine D.F.ok sc_even (fun vs H Q E h => ?_) (fun cdv A outer s H vs Q E hr h => ?_)
    · obtain ⟨L, bk, w, s, lv, st, j, rfl, _⟩ := h
      rfl
    · obtain ⟨L, bk, w, s, lv, st, j, rfl, hj, hL, b1, b2, q⟩ := h
      refine ⟨_, (pss_cons (ps_set (i := 5) sc_even.nd rfl (Or.inl rfl) (pe_op op_cat (pe_op op_rep (pe_lst (pa_cons (pv 1) pa_nil)) (pe_op op_fdiv (pv 0) (pv 1))) (pe_lst (pa_cons (pe_op op_sub (pv 0) (pe_op op_mul (pe_op op_fdiv (pv 0) (pv 1)) (pv 1))) pa_nil))))
   (pss_cons (ps_setLc (i := 5) (own := [("_law_size", 6)]) (g := gName 6) (tt := _) rfl sc_even.nd rfl rfl (sw_true rfl rfl rfl (by decide +kernel)) (pi_list (pv 5)) (blkOk_by (N := ["_law_length", "_law_block", "_law_joint", "_law_levels", "_law_step", "_law_sizes", "_law_size", "_law_found", "_law_left", "_law_k", "_law_after", "_law_own"]) (sc := defScope s_even) (by decide +kernel)) (fun _ _ _ _ _ => pg_name (i := 6) sc_even.nd rfl (Or.inl rfl)) (fun _ _ _ _ _ => (pts_one (pt_cmpR op_gt (pv 6) pe_int (nomark _)))) (fun _ _ _ _ _ => (pv 6)))
   (pss_cons (ps_set (i := 7) sc_even.nd rfl (Or.inl rfl) (pe_lst pa_nil))
   (pss_cons (ps_set (i := 8) sc_even.nd rfl (Or.inl rfl) pe_int)
   (pss_cons (ps_for PassesOwn.never rfl (pi_range1 (by rfl) bi.range_ (pa_cons (pe_callB cLen (by rfl) bi.len_ (by decide +kernel) (pa_cons (pv 5) pa_nil)) pa_nil)) (pg_name (i := 9) sc_even.nd rfl (Or.inl rfl))
   (pss_cons (ps_set (i := 10) sc_even.nd rfl (Or.inl rfl) (pe_ix ix_list (pe_op op_cat (pv 5) (pe_lst (pa_cons pe_int pa_nil))) (pe_op op_add (pv 9) pe_int) (fun _ _ => rfl)))
   (pss_cons (ps_set (i := 11) sc_even.nd rfl (Or.inl rfl) (pe_ifExp (PW.pt (pw_and (pt_cmpR op_le (pe_op op_add (pv 8) (pe_ix ix_tup (pv 2) pe_int (fun _ _ => rfl))) (pe_ix ix_list (pv 5) (pv 9) (fun _ _ => rfl)) (nomark _)) (pw_and1 (pt_cmpR op_le (pe_ix ix_tup (pv 2) pe_int (fun _ _ => rfl)) (pv 10) (nomark _))))) (pv 2) (pe_tup (pa_cons pe_int (pa_cons pe_int pa_nil)))))
   (pss_cons (ps_expr (pe_bm PySem.F.plainAttrs_list PySem.F.slot_list_append PySem.F.type_list_append mt_append (pv 7) (pa_cons (pe_tup (pa_cons (pe_ix ix_list (pv 5) (pv 9) (fun _ _ => rfl)) (pa_cons (pv 11) (pa_cons (pv 3) (pa_cons (pv 4) pa_nil))))) pa_nil)))
   (pss_one (ps_set (i := 8) sc_even.nd rfl (Or.inl rfl) (pe_ix ix_tup (pv 11) pe_int (fun _ _ => rfl))))))))
   (pss_one (ps_ret (pv 7)))))))), ?_⟩
      refine rd_start (σ := [some (.int (L : Nat)), some (.int (bk : Nat)), some (.ref j), some (.int (lv : Nat)), some (.int (st : Nat)), none, none, none, none, none, none, none]) rfl ?_
      walk_at "rd"
      rename_i B0 hB0
      have s1 := same_new (o := .lst [.int (bk : Nat)]) hB0
      have dl : L / bk ≤ L := Nat.div_le_self _ _
      have dm : L / bk * bk ≤ L := Nat.div_mul_le_self _ _
      rw [show (L : Int) / (bk : Int) = ((L / bk : Nat) : Int) from rfl]
      have dd : szI L bk = List.replicate (L / bk) (bk : Int) ++ [((L - L / bk * bk : Nat) : Int)] := rfl
      generalize hq : L / bk = qn at dl dm dd ⊢
      refine ⟨B0, _, [.int (bk : Nat)], rfl, rfl, upd_same, by omega, by omega, by
        show 1 * ((qn : Nat) : Int).toNat ≤ sizeLine
        exact Nat.le_trans (show _ ≤ 10000 by omega) (by unfold sizeLine; decide), fun B1 hB1 => ?_⟩
      rw [Int.toNat_natCast, repInt]
      walk_at "rd"
      rename_i B2 hB2
      have s2 := same_new (o := .lst ((List.replicate qn (bk : Int)).map V.int)) hB1
      have ez : (L : Int) - (L : Int) / (bk : Int) * (bk : Int) = ((L - qn * bk : Nat) : Int) := by
        rw [show (L : Int) / (bk : Int) = ((qn : Nat) : Int) from by rw [← hq]; rfl, ← Int.natCast_mul]
        omega
      rw [ez] at *
      have s3 := same_new (o := .lst [.int ((L - qn * bk : Nat) : Int)]) hB2
      refine rd_catL (ys := [((L - qn * bk : Nat) : Int)]) (s3 _ _ upd_same) upd_same (by rw [List.length_replicate, List.length_singleton]; omega) fun C0 hC0 => ?_
      rw [← dd]
      have s4 := same_new (o := .lst ((szI L bk).map V.int)) hC0
      have s04 := s1.trans (s2.trans (s3.trans s4))
      walk_at "rd"
      refine ⟨C0, rfl, ⟨_, SqL.of upd_same⟩, fun D hD => ?_⟩
      refine lc_filtE (fun z => decide (0 < z)) (SqL.of upd_same) (by unfold szI; rw [List.length_append, List.length_replicate, List.length_singleton, hq]; omega) (fun _ => rfl) hD (fun z H16 q2 hs16 hq2 => ?_) (fun z H16 Q' hq2 => ?_) fun H5 s5 eD => ?_
      · walk_at "rd"
        exact hq2
      · walk_at "rd"
        exact hq2
      rw [szI_filter b1] at eD
      have eD : H5 D = some (.lst ((szN L bk).map V.int)) := eD
      have s05 := s04.trans s5
      have hj5 := s05 _ _ hj
      walk_at "rd"
      rename_i F hF
      have sF := same_new (o := .lst []) hF
      have nn := nE_le (L := L) (b := bk) (by omega) b1
      rw [List.length_map, szN_len]
      refine ⟨_, rfl, by omega, by omega, ?_⟩
      rw [Int.toNat_natCast]
      refine for_range (lo := 0) (n := _) (fun i σ H' => ∃ refs x9 x10 x11, σ = [some (.int (L : Nat)), some (.int (bk : Nat)), some (.ref j), some (.int (lv : Nat)), some (.int (st : Nat)), some (.ref D), none, some (.ref F), some (.int ((evE L bk w s i).1 : Nat)), x9, x10, x11] ∧ H' F = some (.lst refs) ∧ All2 (PlAt K H' lv st) refs (evP L bk w s i).1 ∧ Same H5 H') ⟨[], _, _, _, rfl, upd_same, .nil, sF⟩ (fun i σ H' hi hI => ?_) (fun σ H' hI => ?_)
      · obtain ⟨refs, x9, x10, x11, rfl, eF, hpl, sm⟩ := hI
        have eD' := sm _ _ eD
        have hj' := sm _ _ hj5
        have ej0 : evE L bk w s (i + 1) = evJ w s (evE L bk w s i).1 (szE L bk i) (szE L bk (i + 1)) := by rw [evE_w]; rfl
        have atS : ((szN L bk).map V.int)[i]? = some (.int (szE L bk i : Nat)) := by rw [List.getElem?_map, szN_at hi]; rfl
        have atN : ((szN L bk ++ [0]).map V.int)[i + 1]? = some (.int (szE L bk (i + 1) : Nat)) := by rw [List.getElem?_map, szN_next b1 hi]; rfl
        rw [show (0 : Int) + (i : Int) = (i : Int) from Int.zero_add _]
        walk_at "rd"
        rename_i Z hZ
        have sZ := same_new (o := .lst [V.int 0]) hZ
        refine rd_catM (xs := szN L bk) (ys := [0]) (sZ _ _ eD') upd_same (by rw [szN_len, List.length_singleton]; omega) fun Y hY => ?_
        have sY := same_new (o := .lst ((szN L bk ++ [0]).map V.int)) hY
        have sZY := sZ.trans sY
        have hj2 := sZY _ _ hj'
        walk_at "rd"
        rw [show (i : Int) + 1 = ((i + 1 : Nat) : Int) by omega]
        refine rd_ixL (SqL.of upd_same) (atI_nat atN) ?_
        walk_at "rd"
        refine rd_ixL (SqL.of (sZY _ _ eD')) (atI_nat atS) ?_
        walk_at "rd"
        refine rd_iteD (fun c1 => ?_) (fun c1 => ?_)
        · walk_at "rd"
          refine rd_iteD (fun c2 => ?_) (fun c2 => ?_)
          · have ej : evE L bk w s (i + 1) = (w, s) := by rw [ej0]; exact if_pos ⟨by omega, by omega⟩
            walk_at "rd"
            refine rd_ixL (SqL.of ((Same.refl _) _ _ (sZY _ _ eD'))) (atI_nat atS) ?_
            walk_at "rd"
            rename_i p hp
            have sp := same_new (o := .tup [.int (szE L bk i : Nat), .ref j, .int (lv : Nat), .int (st : Nat)]) hp
            have eF2 := sp _ _ ((Same.refl _) _ _ (sZY _ _ eF))
            refine rd_appM eF2 (by have := hpl.len; rw [evP_len] at this; omega) ?_
            walk_at "rd"
            have lkE := (LK.of ((sZY.trans (Same.refl _)).trans sp)).trans (LK.at (o := .lst (refs ++ [.ref p])) eF2)
            refine rd_ixT (SqT.of (lkE _ _ hj' (fun _ z => nomatch z))) (v := .int (w : Nat)) rfl ?_
            walk_at "rd"
            have npF : p ≠ F := fun z => by rw [z, (Same.refl _) _ _ (sZY _ _ eF)] at hp; cases hp
            refine ⟨refs ++ [.ref p], some (.int (i : Nat)), some (.int (szE L bk (i + 1) : Nat)), some (.ref j), ?_, upd_same, ?_, fun b o z => by rw [upd_ne (ne_of_none z hF)]; exact sp _ _ ((Same.refl _) _ _ (sZY _ _ (sm _ _ z)))⟩
            · rw [ej]
              rfl
            · rw [evP_1]
              refine All2.app (hpl.imp fun _ _ z => z.lk lkE) ⟨p, j, rfl, ?_, ?_⟩
              · rw [upd_ne npF]
                exact upd_same
              · rw [ej]
                exact JtAt.v (lkE _ _ hj' (fun _ z => nomatch z))
          · have ej : evE L bk w s (i + 1) = (0, 0) := by rw [ej0]; exact if_neg (by omega)
            walk_at "rd"
            rename_i O hO
            have sO := same_new (o := .tup [.int 0, .int 0]) hO
            refine rd_ixL (SqL.of (sO _ _ (sZY _ _ eD'))) (atI_nat atS) ?_
            walk_at "rd"
            rename_i p hp
            have sp := same_new (o := .tup [.int (szE L bk i : Nat), .ref O, .int (lv : Nat), .int (st : Nat)]) hp
            have eF2 := sp _ _ (sO _ _ (sZY _ _ eF))
            refine rd_appM eF2 (by have := hpl.len; rw [evP_len] at this; omega) ?_
            walk_at "rd"
            have lkE := (LK.of ((sZY.trans sO).trans sp)).trans (LK.at (o := .lst (refs ++ [.ref p])) eF2)
            have nOF : O ≠ F := fun z => by rw [z, sZY _ _ eF] at hO; cases hO
            refine rd_ixT (SqT.of (show _ = some (HO.tup [V.int 0, V.int 0]) from by rw [upd_ne nOF]; exact sp _ _ upd_same)) (v := .int 0) rfl ?_
            walk_at "rd"
            have npF : p ≠ F := fun z => by rw [z, sO _ _ (sZY _ _ eF)] at hp; cases hp
            refine ⟨refs ++ [.ref p], some (.int (i : Nat)), some (.int (szE L bk (i + 1) : Nat)), some (.ref O), ?_, upd_same, ?_, fun b o z => by rw [upd_ne (ne_of_none z hF)]; exact sp _ _ (sO _ _ (sZY _ _ (sm _ _ z)))⟩
            · rw [ej]
              rfl
            · rw [evP_1]
              refine All2.app (hpl.imp fun _ _ z => z.lk lkE) ⟨p, O, rfl, ?_, ?_⟩
              · rw [upd_ne npF]
                exact upd_same
              · rw [ej]
                exact JtAt.v (show _ = some (HO.tup [V.int 0, V.int 0]) from by rw [upd_ne nOF]; exact sp _ _ upd_same)
        · have ej : evE L bk w s (i + 1) = (0, 0) := by rw [ej0]; exact if_neg (by omega)
          walk_at "rd"
          rename_i O hO
          have sO := same_new (o := .tup [.int 0, .int 0]) hO
          refine rd_ixL (SqL.of (sO _ _ (sZY _ _ eD'))) (atI_nat atS) ?_
          walk_at "rd"
          rename_i p hp
          have sp := same_new (o := .tup [.int (szE L bk i : Nat), .ref O, .int (lv : Nat), .int (st : Nat)]) hp
          have eF2 := sp _ _ (sO _ _ (sZY _ _ eF))
          refine rd_appM eF2 (by have := hpl.len; rw [evP_len] at this; omega) ?_
          walk_at "rd"
          have lkE := (LK.of ((sZY.trans sO).trans sp)).trans (LK.at (o := .lst (refs ++ [.ref p])) eF2)
          have nOF : O ≠ F := fun z => by rw [z, sZY _ _ eF] at hO; cases hO
          refine rd_ixT (SqT.of (show _ = some (HO.tup [V.int 0, V.int 0]) from by rw [upd_ne nOF]; exact sp _ _ upd_same)) (v := .int 0) rfl ?_
          walk_at "rd"
          have npF : p ≠ F := fun z => by rw [z, sO _ _ (sZY _ _ eF)] at hp; cases hp
          refine ⟨refs ++ [.ref p], some (.int (i : Nat)), some (.int (szE L bk (i + 1) : Nat)), some (.ref O), ?_, upd_same, ?_, fun b o z => by rw [upd_ne (ne_of_none z hF)]; exact sp _ _ (sO _ _ (sZY _ _ (sm _ _ z)))⟩
          · rw [ej]
            rfl
          · rw [evP_1]
            refine All2.app (hpl.imp fun _ _ z => z.lk lkE) ⟨p, O, rfl, ?_, ?_⟩
            · rw [upd_ne npF]
              exact upd_same
            · rw [ej]
              exact JtAt.v (show _ = some (HO.tup [V.int 0, V.int 0]) from by rw [upd_ne nOF]; exact sp _ _ upd_same)
      · obtain ⟨refs, x9, x10, x11, rfl, eF, hpl, sm⟩ := hI
        walk_at "rd"
        exact q F refs H' (s05.free hF) (s05.trans sm) eF hpl
    ) only [↓lt_eq]
theorem ok_said {f : Addr} {fd : FuncData} {f_even_plan : Addr} {fd_even_plan : FuncData} {C_InvalidJoint : Addr} {C_InvalidNumber : Addr}   (D : Dn K mg "_law_said" s_said ["_law_length", "_law_block", "_law_joint", "_law_levels", "_law_step"] f fd) (bi : Bi mg) (G_even_plan : FnOk P w K mg base (L2.CX P w) 4 f_even_plan fd_even_plan ["length", "block", "joint", "levels", "step"] (spEvX K C_InvalidNumber C_InvalidJoint)) (D_even_plan : Dn K mg "even_plan" s_even_plan ["length", "block", "joint", "levels", "step"] f_even_plan fd_even_plan)   (T_InvalidNumber : ErrK P w K mg base "InvalidNumber" "value" C_InvalidNumber) (T_InvalidJoint : ErrK P w K mg base "InvalidJoint" "value" C_InvalidJoint) (m_InvalidJoint_InvalidNumber : PySem.W.exmOne K (.ref C_InvalidJoint) (.ref C_InvalidNumber) = some false) (z_repr : mg "repr" = none) : FnOk P w K mg base CX0 5 f fd ["_law_length", "_law_block", "_law_joint", "_law_levels", "_law_step"] (spEvS K) := by
  refine lt_out ?_
  simp (disch := with_unfolding_all
    refine D.F.ok sc_said (fun vs H Q E h => ?_) (fun cdv A outer s H vs Q E hr h => ?_)
    · obtain ⟨v0, v1, v2, v3, v4, b, rfl, _⟩ := h
      rfl
    · obtain ⟨v0, v1, v2, v3, v4, b, rfl, t0, t1, t2, t3, t4, e, q⟩ := h
      refine ⟨_, (pss_one (ps_try_named (Wo := fun _ _ _ _ => False) rfl rfl sc_said.nd L2.takes0 (fun W pn xe tk _ => (pss_one (ps_ret (pe_call G_even_plan (hr.mono (by first | decide | exact Nat.le_refl _)) (by rfl) D_even_plan.g D_even_plan.F.kp D_even_plan.b .nil (passes_callL (E := fun cls d H => ∀ σ : L2.St, σ.length = 6 → W cls d σ H) tk (fun _ _ _ _ hl h => h _ hl)) (pa_cons (pv 0) (pa_cons (pv 1) (pa_cons (pv 2) (pa_cons (pv 3) (pa_cons (pv 4) pa_nil)))))))))
   (NamedOk.cons (i := 5) rfl rfl ⟨rfl, by decide, Or.inl T_InvalidNumber.g⟩ (fun a oe cls d pn hz hf => (pss_one (ps_ret (pe_lst (pa_cons pe_str (pa_cons (pe_callB call_reprS (by rfl) z_repr (by decide +kernel) (pa_cons (pe_xf T_InvalidNumber.xf T_InvalidNumber.noF hz hf (pv 5)) pa_nil)) pa_nil))))))
   (NamedOk.cons (i := 5) rfl rfl ⟨rfl, by decide, Or.inl T_InvalidJoint.g⟩ (fun a oe cls d pn hz hf => (pss_one (ps_ret (pe_lst (pa_cons pe_str (pa_cons (pe_callB call_reprS (by rfl) z_repr (by decide +kernel) (pa_cons (pe_xf T_InvalidJoint.xf T_InvalidJoint.noF hz hf (pv 5)) pa_nil)) pa_nil))))))
   NamedOk.nil)))), ?_⟩
      refine rd_start (σ := [some v0, some v1, some v2, some v3, some v4, none]) rfl ?_
      walk_at "rd"
      refine use_evx t0 t1 t2 t3 t4 (fun v ev => ?_) (fun v ev => ?_) (fun ev => ?_)
      · obtain ⟨ok, q1⟩ := e _ _ ev
        intro d H' s1 n ed σ hl
        obtain ⟨y0, y1, y2, y3, y4, y5, rfl⟩ := len6 hl
        refine ⟨true, T_InvalidNumber.te, fun _ a ha => ?_, fun z => Bool.noConfusion z⟩
        walk_at "rd"
        refine ⟨rfl, rfl, d, _, v, rfl, ed, by simp [List.lookup], ?_⟩
        walk_at "rd"
        refine rd_reprS ok ?_
        walk_at "rd"
        rename_i p hp
        exact q1 p _ (s1.free hp) (s1.trans (same_new hp)) upd_same
      · obtain ⟨ok, q1⟩ := e _ _ ev
        intro d H' s1 n ed σ hl
        obtain ⟨y0, y1, y2, y3, y4, y5, rfl⟩ := len6 hl
        refine ⟨false, m_InvalidJoint_InvalidNumber, fun z => Bool.noConfusion z, fun _ => ?_⟩
        refine ⟨true, T_InvalidJoint.te, fun _ a ha => ?_, fun z => Bool.noConfusion z⟩
        walk_at "rd"
        refine ⟨rfl, rfl, d, _, v, rfl, ed, by simp [List.lookup], ?_⟩
        walk_at "rd"
        refine rd_reprS ok ?_
        walk_at "rd"
        rename_i p hp
        exact q1 p _ (s1.free hp) (s1.trans (same_new hp)) upd_same
      · exact q ev
    ) only [↓lt_eq]
theorem ok_law {f : Addr} {fd : FuncData} {f_pool : Addr} {fd_pool : FuncData} {f_take : Addr} {fd_take : FuncData} {f_sound : Addr} {fd_sound : FuncData} {f_plan : Addr} {fd_plan : FuncData} {f_even : Addr} {fd_even : FuncData} {f_said : Addr} {fd_said : FuncData} {f_even_plan : Addr} {fd_even_plan : FuncData} {f_encode : Addr} {fd_encode : FuncData} {f_smallest : Addr} {fd_smallest : FuncData} {f_record_size : Addr} {fd_record_size : FuncData} {f_Stream_records : Addr} {fd_Stream_records : FuncData} {f_Stream_size : Addr} {fd_Stream_size : FuncData} {f_Stream___eq__ : Addr} {fd_Stream___eq__ : FuncData} {C_Stream : Addr} {p_Stream_records : Addr}  (D : Dn K mg "law" s_law ["_law_script"] f fd) (bi : Bi mg) (G_pool : FnOk P w K mg base CX0 1 f_pool fd_pool ["_law_script", "_law_k"] (spPool K)) (D_pool : Dn K mg "_law_pool" s_pool ["_law_script", "_law_k"] f_pool fd_pool) (G_take : FnOk P w K mg base CX0 1 f_take fd_take ["_law_pool_here", "_law_many"] spTakeV) (D_take : Dn K mg "_law_take" s_take ["_law_pool_here", "_law_many"] f_take fd_take) (G_sound : FnOk P w K mg base CX0 2 f_sound fd_sound ["_law_pool_here", "_law_most", "_law_size"] spSoundL) (D_sound : Dn K mg "_law_sound" s_sound ["_law_pool_here", "_law_most", "_law_size"] f_sound fd_sound) (G_plan : FnOk P w K mg base CX0 2 f_plan fd_plan ["_law_pool_here", "_law_length", "_law_most", "_law_steps"] spPlanL) (D_plan : Dn K mg "_law_plan" s_plan ["_law_pool_here", "_law_length", "_law_most", "_law_steps"] f_plan fd_plan) (G_even : FnOk P w K mg base CX0 1 f_even fd_even ["_law_length", "_law_block", "_law_joint", "_law_levels", "_law_step"] (spEvL K)) (D_even : Dn K mg "_law_even" s_even ["_law_length", "_law_block", "_law_joint", "_law_levels", "_law_step"] f_even fd_even) (G_said : FnOk P w K mg base CX0 5 f_said fd_said ["_law_length", "_law_block", "_law_joint", "_law_levels", "_law_step"] (spEvS K)) (D_said : Dn K mg "_law_said" s_said ["_law_length", "_law_block", "_law_joint", "_law_levels", "_law_step"] f_said fd_said) (G_even_plan : FnOk P w K mg base (L2.CX P w) 4 f_even_plan fd_even_plan ["length", "block", "joint", "levels", "step"] (spEvX K C_InvalidNumber C_InvalidJoint)) (D_even_plan : Dn K mg "even_plan" s_even_plan ["length", "block", "joint", "levels", "step"] f_even_plan fd_even_plan) (G_encode : FnOk P w K mg base CX0 11 f_encode fd_encode ["sound", "plan", "states"] (spEnc K C_Stream)) (D_encode : Kn K mg "encode" s_encode ["sound", "plan", "states"] 2 ["states"] [.int 0] f_encode fd_encode) (G_smallest : FnOk P w K mg base CX0 12 f_smallest fd_smallest ["sound", "plans"] (spSml K C_Stream)) (D_smallest : Dn K mg "smallest" s_smallest ["sound", "plans"] f_smallest fd_smallest) (G_record_size : FnOk P w K mg base CX0 1 f_record_size fd_record_size ["record"] (spRsz K)) (D_record_size : Dn K mg "record_size" s_record_size ["record"] f_record_size fd_record_size) (G_Stream_records : FnOk P w K mg base CX0 1 f_Stream_records fd_Stream_records ["self"] (spRecs K C_Stream)) (D_Stream_records : Pn K C_Stream "records" "Stream.records" s_Stream_records ["self"] p_Stream_records f_Stream_records fd_Stream_records) (G_Stream_size : FnOk P w K mg base CX0 2 f_Stream_size fd_Stream_size ["self"] (spSizeM K C_Stream)) (D_Stream_size : Mn K C_Stream "size" "Stream.size" s_Stream_size ["self"] f_Stream_size fd_Stream_size) (G_Stream___eq__ : FnOk P w K mg base CX0 1 f_Stream___eq__ fd_Stream___eq__ ["self", "other"] (spEq (SEq K C_Stream))) (D_Stream___eq__ : Mn K C_Stream "__eq__" "Stream.__eq__" s_Stream___eq__ ["self", "other"] f_Stream___eq__ fd_Stream___eq__)  (TC_Stream : StmC K mg C_Stream)  (z_repr : mg "repr" = none) (g_sum : mg "sum" = none) : FnOk P w K mg base CX0 13 f fd ["_law_script"] (spLaw K) := by
  refine lt_out ?_
  simp (disch := with_unfolding_all
    refine D.F.ok sc_law (fun vs H Q E h => ?_) (fun cdv A outer s H vs Q E hr h => ?_)
    · obtain ⟨a, ns, rfl, _⟩ := h
      rfl
    · obtain ⟨a, ns, rfl, hS, hl, q⟩ := h
      obtain ⟨ds_encode, v_encode, b_encode⟩ := D_encode.b
      refine ⟨_, (pss_cons (ps_if (PW.pt (pw_or (pt_cmpR op_ne (pe_callB cLen (by rfl) bi.len_ (by decide +kernel) (pa_cons (pe_call G_even_plan (hr.mono (by first | decide | exact Nat.le_refl _)) (by rfl) D_even_plan.g D_even_plan.F.kp D_even_plan.b .nil passL (pa_cons pe_int (pa_cons pe_int (pa_cons (pe_tup (pa_cons pe_int (pa_cons pe_int pa_nil))) (pa_cons pe_int (pa_cons pe_int pa_nil)))))) pa_nil)) pe_int (nomark _)) (pw_or1 (pt_cmpR (op_neD hr.units) (pe_call G_even_plan (hr.mono (by first | decide | exact Nat.le_refl _)) (by rfl) D_even_plan.g D_even_plan.F.kp D_even_plan.b .nil passL (pa_cons pe_int (pa_cons pe_int (pa_cons (pe_tup (pa_cons pe_int (pa_cons pe_int pa_nil))) (pa_cons pe_int (pa_cons pe_int pa_nil)))))) (pe_lst pa_nil) (nomark _)))))
   (pss_one (ps_ret pe_bl))
   pss_nil)
   (pss_cons (ps_for PassesOwn.never rfl (pi_range1 (by rfl) bi.range_ (pa_cons (pe_callB (cMax rfl) (by rfl) bi.max_ (by decide +kernel) (pa_cons pe_int (pa_cons (pe_callB (cMin rfl) (by rfl) bi.min_ (by decide +kernel) (pa_cons pe_int (pa_cons (pe_callB cLen (by rfl) bi.len_ (by decide +kernel) (pa_cons (pv 0) pa_nil)) pa_nil))) pa_nil))) pa_nil)) (pg_name (i := 1) sc_law.nd rfl (Or.inl rfl))
   (pss_cons (ps_set (i := 2) sc_law.nd rfl (Or.inr rfl) (pe_call G_pool (hr.mono (by first | decide | exact Nat.le_refl _)) (by rfl) D_pool.g D_pool.F.kp D_pool.b .nil pass0 (pa_cons (pv 0) (pa_cons (pv 1) pa_nil))))
   (pss_cons (ps_set (i := 3) sc_law.nd rfl (Or.inl rfl) (pe_call G_take (hr.mono (by first | decide | exact Nat.le_refl _)) (by rfl) D_take.g D_take.F.kp D_take.b .nil pass0 (pa_cons (pv 2) (pa_cons pe_int pa_nil))))
   (pss_cons (ps_set (i := 4) sc_law.nd rfl (Or.inl rfl) (pe_lst (pa_cons (pe_call G_take (hr.mono (by first | decide | exact Nat.le_refl _)) (by rfl) D_take.g D_take.F.kp D_take.b .nil pass0 (pa_cons (pv 2) (pa_cons pe_int pa_nil))) (pa_cons (pe_op op_add pe_int (pe_call G_take (hr.mono (by first | decide | exact Nat.le_refl _)) (by rfl) D_take.g D_take.F.kp D_take.b .nil pass0 (pa_cons (pv 2) (pa_cons pe_int pa_nil)))) pa_nil))))
   (pss_cons (ps_set (i := 4) sc_law.nd rfl (Or.inl rfl) (pe_op op_cat (pv 4) (pe_lst (pa_cons (pe_tup (pa_cons (pv 3) (pa_cons (pe_op op_mul (pe_call G_take (hr.mono (by first | decide | exact Nat.le_refl _)) (by rfl) D_take.g D_take.F.kp D_take.b .nil pass0 (pa_cons (pv 2) (pa_cons pe_int pa_nil))) (pe_callTy cInt (by rfl) bi.int_ (by decide +kernel) (pa_cons (pe_cmpR op_gt (pv 3) pe_int (nomark _)) pa_nil))) pa_nil))) pa_nil))))
   (pss_cons (ps_set (i := 4) sc_law.nd rfl (Or.inl rfl) (pe_op op_cat (pv 4) (pe_lst (pa_cons (pe_call G_take (hr.mono (by first | decide | exact Nat.le_refl _)) (by rfl) D_take.g D_take.F.kp D_take.b .nil pass0 (pa_cons (pv 2) (pa_cons pe_int pa_nil))) (pa_cons (pe_op op_add pe_int (pe_call G_take (hr.mono (by first | decide | exact Nat.le_refl _)) (by rfl) D_take.g D_take.F.kp D_take.b .nil pass0 (pa_cons (pv 2) (pa_cons pe_int pa_nil)))) pa_nil)))))
   (pss_cons (ps_if (pt_cmpR (op_neD hr.units) (pe_call G_said (hr.mono (by first | decide | exact Nat.le_refl _)) (by rfl) D_said.g D_said.F.kp D_said.b .nil pass0 (pa_cons (pe_ix ix_list (pv 4) pe_int (fun _ _ => rfl)) (pa_cons (pe_ix ix_list (pv 4) pe_int (fun _ _ => rfl)) (pa_cons (pe_ix ix_list (pv 4) pe_int (fun _ _ => rfl)) (pa_cons (pe_ix ix_list (pv 4) pe_int (fun _ _ => rfl)) (pa_cons (pe_ix ix_list (pv 4) pe_int (fun _ _ => rfl)) pa_nil)))))) (pe_call G_even (hr.mono (by first | decide | exact Nat.le_refl _)) (by rfl) D_even.g D_even.F.kp D_even.b .nil pass0 (pa_cons (pe_ix ix_list (pv 4) pe_int (fun _ _ => rfl)) (pa_cons (pe_ix ix_list (pv 4) pe_int (fun _ _ => rfl)) (pa_cons (pe_ix ix_list (pv 4) pe_int (fun _ _ => rfl)) (pa_cons (pe_ix ix_list (pv 4) pe_int (fun _ _ => rfl)) (pa_cons (pe_ix ix_list (pv 4) pe_int (fun _ _ => rfl)) pa_nil)))))) (nomark _))
   (pss_one (ps_ret pe_bl))
   pss_nil)
   (pss_cons (ps_set (i := 5) sc_law.nd rfl (Or.inl rfl) (pe_ix ix_list (pe_lst (pa_cons pe_non (pa_cons pe_bl (pa_cons (pe_un un_neg pe_int) (pa_cons pe_str (pa_cons pe_int pa_nil)))))) (pe_call G_take (hr.mono (by first | decide | exact Nat.le_refl _)) (by rfl) D_take.g D_take.F.kp D_take.b .nil pass0 (pa_cons (pv 2) (pa_cons pe_int pa_nil))) (fun _ _ => rfl)))
   (pss_cons (ps_for PassesOwn.never rfl (pi_range3 (by rfl) bi.range_ (pa_cons pe_int (pa_cons (pe_un un_neg pe_int) (pa_cons (pe_un un_neg pe_int) pa_nil)))) (pg_name (i := 6) sc_law.nd rfl (Or.inl rfl))
   (pss_cons (ps_asg (pv 5) (pg_sub (pv 4) (pv 6) set_list))
   (pss_one (ps_if (pt_cmpR (op_neD hr.units) (pe_call G_said (hr.mono (by first | decide | exact Nat.le_refl _)) (by rfl) D_said.g D_said.F.kp D_said.b .nil pass0 (pa_cons (pe_ix ix_list (pv 4) pe_int (fun _ _ => rfl)) (pa_cons (pe_ix ix_list (pv 4) pe_int (fun _ _ => rfl)) (pa_cons (pe_ix ix_list (pv 4) pe_int (fun _ _ => rfl)) (pa_cons (pe_ix ix_list (pv 4) pe_int (fun _ _ => rfl)) (pa_cons (pe_ix ix_list (pv 4) pe_int (fun _ _ => rfl)) pa_nil)))))) (pe_lst (pa_cons (pe_ix ix_list (pe_lst (pa_cons pe_str (pa_cons pe_str pa_nil))) (pe_callTy cInt (by rfl) bi.int_ (by decide +kernel) (pa_cons (pe_cmpR op_eq (pv 6) pe_int (nomark _)) pa_nil)) (fun _ _ => rfl)) (pa_cons (pe_callB call_reprS (by rfl) z_repr (by decide +kernel) (pa_cons (pv 5) pa_nil)) pa_nil))) (nomark _))
   (pss_one (ps_ret pe_bl))
   pss_nil))))
   (pss_cons (ps_set (i := 7) sc_law.nd rfl (Or.inr rfl) (pe_call G_sound (hr.mono (by first | decide | exact Nat.le_refl _)) (by rfl) D_sound.g D_sound.F.kp D_sound.b .nil pass0 (pa_cons (pv 2) (pa_cons pe_int (pa_cons (pe_ix ix_list (pe_lst (pa_cons pe_int (pa_cons pe_int pa_nil))) (pe_call G_take (hr.mono (by first | decide | exact Nat.le_refl _)) (by rfl) D_take.g D_take.F.kp D_take.b .nil pass0 (pa_cons (pv 2) (pa_cons pe_int pa_nil))) (fun _ _ => rfl)) pa_nil)))))
   (pss_cons (ps_setLc (i := 8) (own := [("_law_turn", 9)]) (g := gName 9) (tt := tYes) rfl sc_law.nd rfl rfl (sw_true rfl rfl rfl (by decide +kernel)) (pi_range1 (by rfl) bi.range_ (pa_cons (pe_op op_add pe_int (pe_call G_take (hr.mono (by first | decide | exact Nat.le_refl _)) (by rfl) D_take.g D_take.F.kp D_take.b .nil pass0 (pa_cons (pv 2) (pa_cons pe_int pa_nil)))) pa_nil)) (blkOk_by (N := ["_law_script", "_law_k", "_law_pool_here", "_law_width", "_law_row", "_law_odd", "_law_at", "_law_sound_here", "_law_plans", "_law_turn", "_law_sizes", "_law_record", "_law_plan_here", "_law_stream"]) (sc := defScope s_law) (by decide +kernel)) (fun _ _ _ _ _ => pg_name (i := 9) sc_law.nd rfl (Or.inl rfl)) (fun _ _ _ _ _ => pts_nil) (fun _ _ _ _ _ => (pe_call G_plan (hr.mono (by first | decide | exact Nat.le_refl _)) (by rfl) D_plan.g D_plan.F.kp D_plan.b .nil pass0 (pa_cons (pv 2) (pa_cons (pe_callB (show CallR _ (.builtin "len") (rLen K) from cLen) (by rfl) bi.len_ (by decide +kernel) (pa_cons (pv 7) pa_nil)) (pa_cons pe_int (pa_cons pe_int pa_nil)))))))
   (pss_cons (ps_set (i := 8) sc_law.nd rfl (Or.inl rfl) (pe_op op_cat (pv 8) (pe_slice sl_list (pv 8) po_none (po_some pe_int))))
   (pss_cons (ps_setLc (i := 10) (own := [("_law_plan_here", 12)]) (g := gName 12) (tt := tYes) rfl sc_law.nd rfl rfl (sw_true rfl rfl rfl (by decide +kernel)) (pi_list (pv 8)) (blkOk_by (N := ["_law_script", "_law_k", "_law_pool_here", "_law_width", "_law_row", "_law_odd", "_law_at", "_law_sound_here", "_law_plans", "_law_turn", "_law_sizes", "_law_record", "_law_plan_here", "_law_stream"]) (sc := defScope s_law) (by decide +kernel)) (fun _ _ _ _ _ => pg_name (i := 12) sc_law.nd rfl (Or.inl rfl)) (fun _ _ _ _ _ => pts_nil) (fun _ _ _ _ _ => (pe_callB (show CallR _ (.builtin "sum") (rSum K) from cr_sum rfl) (by rfl) g_sum (by decide +kernel) (pa_cons (by exact (pe_lc (own := [("_law_record", 11)]) (g := gName 11) (tt := tYes) rfl sc_law.nd (pi_listK (K := K) (pe_prop (pe_call G_encode (hr.mono (by first | decide | exact Nat.le_refl _)) (by rfl) D_encode.g D_encode.F.kp b_encode v_encode pass0 (pa_cons (pv 7) (pa_cons (pv 12) pa_nil))) TC_Stream.cl D_Stream_records.p G_Stream_records (hr.mono (by first | decide | exact Nat.le_refl _)) D_Stream_records.b .nil pass0 rfl)) (blkOk_by (N := ["_law_script", "_law_k", "_law_pool_here", "_law_width", "_law_row", "_law_odd", "_law_at", "_law_sound_here", "_law_plans", "_law_turn", "_law_sizes", "_law_record", "_law_plan_here", "_law_stream"]) (sc := ({ kind := .function, names := [(".0", .local), ("_law_plan_here", .local), ("sum", .globalImplicit), ("encode", .globalImplicit), ("_law_sound_here", .cell)], isGenerator := false, isCoroutine := false } : Scope)) (by decide +kernel)) (fun _ _ _ _ _ => pg_name (i := 11) sc_law.nd rfl (Or.inl rfl)) (fun _ _ _ _ _ => pts_nil) (fun _ _ _ _ _ => (pe_call G_record_size (hr.mono (by first | decide | exact Nat.le_refl _)) (by rfl) D_record_size.g D_record_size.F.kp D_record_size.b .nil pass0 (pa_cons (pv 11) pa_nil))))) pa_nil))))
   (pss_cons (ps_asg (pe_call G_smallest (hr.mono (by first | decide | exact Nat.le_refl _)) (by rfl) D_smallest.g D_smallest.F.kp D_smallest.b .nil pass0 (pa_cons (pv 7) (pa_cons (pv 8) pa_nil))) (pg_tup rfl (pgs_cons (pg_name (i := 6) sc_law.nd rfl (Or.inl rfl)) (pgs_cons (pg_name (i := 13) sc_law.nd rfl (Or.inl rfl)) pgs_nil))))
   (pss_cons (ps_if (PW.pt (pw_or (pt_cmpR op_ne (pv 6) (pe_bm PySem.F.plainAttrs_list PySem.F.slot_list_index PySem.F.type_list_index mt_index (pv 10) (pa_cons (pe_callB (cr_min rfl) (by rfl) bi.min_ (by decide +kernel) (pa_cons (pv 10) pa_nil)) pa_nil)) (nomark _)) (pw_or1 (pt_not (pt_cmpR (op_eqG (rcG_ins G_Stream___eq__ D_Stream___eq__.m.at_ D_Stream___eq__.m.fn D_Stream___eq__.b pass0) (hr.mono (by first | decide | exact Nat.le_refl _))) (pv 13) (pe_call G_encode (hr.mono (by first | decide | exact Nat.le_refl _)) (by rfl) D_encode.g D_encode.F.kp b_encode v_encode pass0 (pa_cons (pv 7) (pa_cons (pe_ix ix_list (pv 8) (pv 6) (fun _ _ => rfl)) pa_nil))) (nomark _))))))
   (pss_one (ps_ret pe_bl))
   pss_nil)
   (pss_one (ps_if (pt_cmpR op_ne (pe_meth0 (pv 13) TC_Stream.cl D_Stream_size.m G_Stream_size (hr.mono (by first | decide | exact Nat.le_refl _)) D_Stream_size.b .nil pass0) (pe_ix ix_list (pv 10) (pv 6) (fun _ _ => rfl)) (nomark _))
   (pss_one (ps_ret pe_bl))
   pss_nil)))))))))))))))))
   (pss_one (ps_ret pe_bl)))), ?_⟩
      refine rd_start (σ := [some (.ref a), none, none, none, none, none, none, none, none, none, none, none, none, none]) rfl ?_
      walk_at "rd"
      rename_i J0 hJ0
      have sJ0 := same_new (o := .tup [.int 0, .int 0]) hJ0
      refine use_evg (L := 20000) (bk := 64) (w := 0) (s := 0) (lv := 5) (st := 64) rfl rfl rfl rfl upd_same (by decide) (by decide) (fun _ => rfl) (by decide) (by decide) (by decide) (by decide) (by decide) (by decide) fun D1 refs1 H1 hD1 s1 eD1 hp1 => ?_
      have l1 : refs1.length = 313 := by rw [hp1.len, evP_len]; rfl
      walk_at "rd"
      refine if_noN (congrArg (fun n : Nat => V.int (n : Int)) l1) ?_
      walk_at "rd"
      rename_i J1 hJ1
      have sJ1 := same_new (o := .tup [.int 8, .int 3]) hJ1
      refine use_evg (L := 0) (bk := 64) (w := 8) (s := 3) (lv := 0) (st := 1) rfl rfl rfl rfl upd_same (by decide) (by decide) (fun z => by cases z) (by decide) (by decide) (by decide) (by decide) (by decide) (by decide) fun D2 refs2 H2 hD2 s2 eD2 hp2 => ?_
      rw [evP_0 _ _ _ (by decide)] at hp2
      cases hp2
      refine rd_lst ?_
      refine ⟨Nat.zero_le _, fun D3 hD3 => ?_⟩
      have s3 := same_new (o := .lst []) hD3
      refine rd_neL (ns := []) (ms := []) (SqL.of (s3 _ _ eD2)) (SqL.of upd_same) ?_
      refine ⟨_, rfl, ?_⟩
      refine if_noN rfl ?_
      have sH := sJ0.trans (s1.trans (sJ1.trans (s2.trans s3)))
      have hS3 := sH.seq hS
      walk_at "rd"
      have hn := mm_nat2 (ns.map V.int).length 8 (by decide)
      refine for_range (lo := 0) (n := _) (fun i σ G => ∃ x1 x2 x3 x4 x5 x6 x7 x8 x9 x10 x11 x12 x13, σ = [some (.ref a), x1, x2, x3, x4, x5, x6, x7, x8, x9, x10, x11, x12, x13] ∧ Same H G) ⟨_, _, _, _, _, _, _, _, _, _, _, _, _, rfl, sH⟩ (fun i σ G1 hi hI => ?_) (fun σ G1 hI => ?_)
      · obtain ⟨x1, x2, x3, x4, x5, x6, x7, x8, x9, x10, x11, x12, x13, rfl, hsG⟩ := hI
        have hi' : i < 8 := Nat.lt_of_lt_of_le hi hn
        have hS1 := hsG.seq hS
        walk_at "rd"
        rename_i p H2 hp0 hs2 hP2 w3 H3 h30 h31 hP3 hK3 r4 H4 h40 h41 hP4 hK4 r5 H5 h50 h51 hP5 hK5 R0 hR0 r6 H6 h60 h61 hP6 hK6 J hJ M0 hM0
        obtain ⟨w, rfl⟩ : ∃ k : Nat, w3 = (k : Int) := ⟨w3.toNat, by omega⟩
        obtain ⟨L, rfl⟩ : ∃ k : Nat, r4 = (k : Int) := ⟨r4.toNat, by omega⟩
        obtain ⟨b0, rfl⟩ : ∃ k : Nat, r5 = (k : Int) := ⟨r5.toNat, by omega⟩
        obtain ⟨sh, esh, sh3, sh0⟩ : ∃ k : Nat, (r6 * if decide (0 < (w : Int)) = true then 1 else 0) = (k : Int) ∧ k ≤ 3 ∧ (w = 0 → k = 0) := by
          by_cases c : w = 0
          · exact ⟨0, by rw [if_neg (by rw [decide_eq_true_eq]; omega), Int.mul_zero]; rfl, by omega, fun _ => rfl⟩
          · exact ⟨r6.toNat, by rw [if_pos (decide_eq_true (by omega)), Int.mul_one]; omega, by omega, fun z => absurd z c⟩
        rw [esh] at hM0 ⊢
        have sJ := same_new (o := .tup [.int (w : Nat), .int (sh : Nat)]) hJ
        have sM := same_new (o := .lst [.ref J]) hM0
        have nR0 : R0 ≠ p := hP5.ne hR0
        have eR0 := sM _ _ (sJ _ _ (hK6 _ _ nR0 upd_same))
        have nJp : J ≠ p := hP6.ne hJ
        refine rd_catGE (xs := [.int (L : Nat), .int (1 + (b0 : Int))]) (ys := [.ref J]) [.int (L : Nat), .int (1 + (b0 : Int)), .ref J] eR0 upd_same rfl (by show 2 + 1 ≤ 1000; decide) fun R1 hR1 => ?_
        have sR1 := same_new (o := .lst [.int (L : Nat), .int (1 + (b0 : Int)), .ref J]) hR1
        have hP7 := ((hP6.same sJ).same sM).same sR1
        have nR1 : R1 ≠ p := ((hP6.same sJ).same sM).ne hR1
        have eJ1 := sR1 _ _ (sM _ _ (upd_same : (upd H6 J (.tup [.int (w : Nat), .int (sh : Nat)])) J = some (.tup [.int (w : Nat), .int (sh : Nat)])))
        have kA : Kp p H2 (upd (upd (upd H6 J (.tup [.int (w : Nat), .int (sh : Nat)])) M0 (.lst [.ref J])) R1 (.lst [.int (L : Nat), .int (1 + (b0 : Int)), .ref J])) := hK3.trans (hK4.trans (hK5.trans ((Kp.new hR0).trans (hK6.trans (Kp.of (sJ.trans (sM.trans sR1)))))))
        have eR1 : (upd (upd (upd H6 J (.tup [.int (w : Nat), .int (sh : Nat)])) M0 (.lst [.ref J])) R1 (.lst [.int (L : Nat), .int (1 + (b0 : Int)), .ref J])) R1 = some (.lst [.int (L : Nat), .int (1 + (b0 : Int)), .ref J]) := upd_same
        clear sJ sM sR1 eR0 hK3 hK4 hK5 hK6 hP3 hP4 hP5 hP6 hR0 nR0 hR1 hM0 hJ
        generalize (upd (upd (upd H6 J (.tup [.int (w : Nat), .int (sh : Nat)])) M0 (.lst [.ref J])) R1 (.lst [.int (L : Nat), .int (1 + (b0 : Int)), .ref J])) = H7 at *
        walk_at "rd"
        rename_i r8 H8 h80 h81 hP8 hK8 r9 H9 h90 h91 hP9 hK9 M1 hM1
        obtain ⟨lv, rfl⟩ : ∃ k : Nat, r8 = (k : Int) := ⟨r8.toNat, by omega⟩
        obtain ⟨s0, rfl⟩ : ∃ k : Nat, r9 = (k : Int) := ⟨r9.toNat, by omega⟩
        have sM1 := same_new (o := .lst [.int (lv : Nat), .int (1 + (s0 : Int))]) hM1
        refine rd_catGE (xs := [.int (L : Nat), .int (1 + (b0 : Int)), .ref J]) (ys := [.int (lv : Nat), .int (1 + (s0 : Int))]) [.int (L : Nat), .int (1 + (b0 : Int)), .ref J, .int (lv : Nat), .int (1 + (s0 : Int))] (sM1 _ _ (hK9 _ _ nR1 (hK8 _ _ nR1 eR1))) upd_same rfl (by show 3 + 2 ≤ 1000; decide) fun R hR => ?_
        have sR := same_new (o := .lst [.int (L : Nat), .int (1 + (b0 : Int)), .ref J, .int (lv : Nat), .int (1 + (s0 : Int))]) hR
        have hP10 := (hP9.same sM1).same sR
        have nR : R ≠ p := (hP9.same sM1).ne hR
        have kB := kA.trans (hK8.trans (hK9.trans (Kp.of (sM1.trans sR))))
        have eJ := (Kp.trans hK8 (hK9.trans (Kp.of (sM1.trans sR)))) _ _ nJp eJ1
        have eR : (upd (upd H9 M1 (.lst [.int (lv : Nat), .int (1 + (s0 : Int))])) R (.lst [.int (L : Nat), .int (1 + (b0 : Int)), .ref J, .int (lv : Nat), .int (1 + (s0 : Int))])) R = some (.lst [.int (L : Nat), .int (1 + (b0 : Int)), .ref J, .int (lv : Nat), .int (1 + (s0 : Int))]) := upd_same
        have hR2 : H2 R = none := (KpL.ofK (l := [p]) List.mem_cons_self (kA.trans (hK8.trans (hK9.trans (Kp.of sM1))))).free hR (fun z => nR (List.mem_singleton.mp z))
        clear sM1 sR hK8 hK9 hP8 hP9 kA eR1 hR hM1 eJ1 hP7
        generalize (upd (upd H9 M1 (.lst [.int (lv : Nat), .int (1 + (s0 : Int))])) R (.lst [.int (L : Nat), .int (1 + (b0 : Int)), .ref J, .int (lv : Nat), .int (1 + (s0 : Int))])) = H10 at *
        have e1b : (1 : Int) + (b0 : Int) = ((1 + b0 : Nat) : Int) := by omega
        have e1s : (1 : Int) + (s0 : Int) = ((1 + s0 : Nat) : Int) := by omega
        walk_at "rd"
        refine use_evsg (L := L) (bk := 1 + b0) (w := w) (s := sh) (lv := lv) (st := 1 + s0) rfl e1b rfl e1s eJ (by omega) sh3 sh0 (by omega) (by omega) (by omega) (by omega) (by omega) (by omega) fun D4 refs4 H11 hD4 s11 eD4 hp4 => ?_
        have eR11 := s11 _ _ eR
        walk_at "rd"
        refine use_evlz (L := L) (bk := 1 + b0) (w := w) (s := sh) (lv := lv) (st := 1 + s0) rfl e1b rfl e1s (s11 _ _ eJ) (by omega) (by omega) (by omega) fun D5 refs5 H12 hD5 s12 eD5 hp5 => ?_
        refine rd_nePl (s12 _ _ eD4) eD5 (hp4.imp fun _ _ z => z.lk (.of s12)) hp5 ?_
        refine ⟨_, rfl, ?_⟩
        refine if_no rfl ?_
        have s102 := s11.trans s12
        have hP12 := hP10.same s102
        walk_at "rd"
        rename_i B hB r10 H13 h130 h131 hP13 hK13
        have sB := same_new (o := .lst [.non, .bl true, .int (-1), .str "1", .int 20001]) hB
        have nBp : B ≠ p := hP12.ne hB
        refine rd_ixP OddV (SqL.of (hK13 _ _ nBp upd_same)) (by omega) (by show r10 < 5; omega) odds_ok fun o ho => ?_
        have eR13 := hK13 _ _ nR (sB _ _ (s102 _ _ eR))
        have eJ13 := hK13 _ _ nJp (sB _ _ (s102 _ _ eJ))
        have kC : Kp p H2 H13 := kB.trans ((Kp.of (s102.trans sB)).trans hK13)
        have nJR : J ≠ R := fun z => by rw [z, eR13] at eJ13; cases eJ13
        have ho4 := ho.2.2.2.1
        have jr0 : JR H13 (.ref J) true := jr_joint eJ13 (by omega) sh3 sh0
        clear hK13 hB hP12 eD4 eD5 hp4 hp5 hD4 hD5
        walk_at "rd"
        refine ⟨_, _, _, 5, rfl, ⟨by decide, by decide, by decide +kernel, by decide +kernel⟩, ?_⟩
        refine for_rangeC (lo := 4) (c := -1) (n := 5) (fun k σ G => ∃ y6, σ = [some (.ref a), some (.int (0 + (i : Int))), some (.ref p), some (.int (w : Nat)), some (.ref R), some o, y6, x7, x8, x9, x10, x11, x12, x13] ∧ G R = some (.lst (rowE o (.int (L : Nat)) (.int (1 + (b0 : Int))) (.ref J) (.int (lv : Nat)) (.int (1 + (s0 : Int))) k)) ∧ KpL [R] H13 G) ⟨_, rfl, eR13, KpL.refl⟩ (fun k σ G hk hI => ?_) (fun σ G hI => ?_)
        · obtain ⟨y6, rfl, eRG, kG⟩ := hI
          have eJG := kG _ _ (nm_cons nJR List.not_mem_nil) eJ13
          walk_at "rd"
          refine rd_setL (j := 4 - k) eRG (by obtain rfl | rfl | rfl | rfl | rfl : k = 0 ∨ k = 1 ∨ k = 2 ∨ k = 3 ∨ k = 4 := by omega
                                              all_goals rfl) ?_
          rw [rowE_set hk]
          have eRk : (upd G R (.lst (rowE o (.int (L : Nat)) (.int (1 + (b0 : Int))) (.ref J) (.int (lv : Nat)) (.int (1 + (s0 : Int))) (k + 1)))) R = some (.lst [Z.eR o (.int (L : Nat)) 0 (k + 1), Z.eR o (.int (1 + (b0 : Int))) 1 (k + 1), Z.eR o (.ref J) 2 (k + 1), Z.eR o (.int (lv : Nat)) 3 (k + 1), Z.eR o (.int (1 + (s0 : Int))) 4 (k + 1)]) := upd_same
          walk_at "rd"
          have evr := evO_row (v0 := .int (L : Nat)) (v1 := .int (1 + (b0 : Int))) (v2 := .ref J) (v3 := .int (lv : Nat)) (v4 := .int (1 + (s0 : Int))) hk ho (inI_nat (by omega) (by omega)) (inI_nat (by omega) (by omega)) (inI_nat (by omega) (by omega)) (inI_nat (by omega) (by omega))
          refine use_evs (b := decide (k < 2)) (eR_ty ho4 trivial) (eR_ty ho4 trivial) (eR_jr hk ho4 (jr_joint (by rw [upd_ne nJR]; exact eJG) (by omega) sh3 sh0)) (eR_ty ho4 trivial) (eR_ty ho4 trivial) (fun kk v z => ?_) (fun z => by rw [evr] at z; cases z)
          rw [evr] at z
          obtain ⟨rfl, rfl⟩ : decide (k = 2) = kk ∧ o = v := by
            have z := Option.some.inj z
            exact ⟨congrArg Prod.fst z, congrArg Prod.snd z⟩
          refine ⟨ho.2.2.2.2.1, fun D7 H14 hD7 s14 eD7 => ?_⟩
          walk_at "rd"
          rename_i N0 hN0
          have sN0 := same_new (o := .lst [.str "number", .str "joint"]) hN0
          have ixk : (if decide (V.int (4 + (k : Int) * -1) = V.int 2) = true then (1 : Int) else 0) = ((if k = 2 then 1 else 0 : Nat) : Int) := by
            by_cases c : k = 2
            · subst c
              rfl
            · rw [if_neg (by rw [decide_eq_true_eq]; intro z; exact c (by have := V.int.inj z; omega)), if_neg c]
              rfl
          rw [ixk]
          have atk : ([V.str "number", V.str "joint"] : List V)[(if k = 2 then 1 else 0)]? = some (.str (if decide (k = 2) = true then "joint" else "number")) := by
            by_cases c : k = 2
            · subst c
              rfl
            · rw [if_neg c, if_neg (by rw [decide_eq_true_eq]; exact c)]
              rfl
          refine rd_ixL (SqL.of upd_same) (atI_nat atk) ?_
          refine rd_cons ?_
          refine rd_cb ?_
          refine rd_cons ?_
          refine rd_var rfl ?_
          refine rd_nil ?_
          refine rd_reprS ho.2.2.2.2.1 ?_
          refine rd_nil ?_
          refine ⟨Nat.le_of_ble_eq_true rfl, fun N1 hN1 => ?_⟩
          have sN1 := same_new (o := .lst [.str (if decide (k = 2) = true then "joint" else "number"), .str (repV o)]) hN1
          refine rd_neDp (ds := [.str (if decide (k = 2) = true then "joint" else "number"), .str (repV o)]) (SqL.of (sN1 _ _ (sN0 _ _ eD7))) (SqL.of upd_same) (.cons (.str _) (.cons (.str _) .nil)) (.cons (.str _) (.cons (.str _) .nil)) (lay_said ho) (Nat.le_of_ble_eq_true rfl) ?_
          refine ⟨_, rfl, ?_⟩
          refine if_no rfl ?_
          walk_at "rd"
          have s1N := s14.trans (sN0.trans sN1)
          exact ⟨_, rfl, s1N _ _ eRk, kG.trans ((KpL.at List.mem_cons_self).trans (KpL.ofS s1N))⟩
        · obtain ⟨y6, rfl, eRG, kG⟩ := hI
          have hPG : Pool G p := by
            obtain ⟨u1, u2, e, z⟩ := hP13
            exact ⟨u1, u2, kG _ _ (nm_cons nR.symm List.not_mem_nil) e, z⟩
          have kG2 : KpL [p, R] H2 G := (KpL.ofK List.mem_cons_self kC).trans (kG.mono fun b m => List.mem_cons_of_mem _ m)
          walk_at "rd"
          rename_i B2 hB2 r11 H15 h150 h151 hP15 hK15
          have sB2 := same_new (o := .lst [.int 3, .int 400]) hB2
          have nB2 : B2 ≠ p := hPG.ne hB2
          refine rd_ixP (fun v => ∃ z : Int, v = .int z ∧ 0 ≤ z ∧ z ≤ 400) (SqL.of (hK15 _ _ nB2 upd_same)) (by omega) (by show r11 < 2; omega) (fun v hv => by
            simp only [List.mem_cons, List.not_mem_nil, or_false] at hv
            rcases hv with rfl | rfl
            · exact ⟨3, rfl, by decide, by decide⟩
            · exact ⟨400, rfl, by decide, by decide⟩) fun v hv => ?_
          obtain ⟨z, rfl, z0, z1⟩ := hv
          refine rd_nil ?_
          refine use_soundL (m := 50) hP15 (by decide) z0 (Int.le_trans z1 (by decide)) fun S xs H16 hS eS hxl hxb hP16 hK16 => ?_
          have nSp : S ≠ p := hP15.ne hS
          have hxb : ∀ x ∈ xs, -(10 ^ 30) ≤ x ∧ x ≤ 10 ^ 30 := fun x hx => by
            obtain ⟨q1, q2⟩ := hxb x hx
            have : (400 : Int) ≤ 10 ^ 30 := by decide
            omega
          have kH : KpL [p, R] H2 H16 := kG2.trans ((KpL.ofS sB2).trans ((KpL.ofK List.mem_cons_self hK15).trans (KpL.ofK List.mem_cons_self hK16)))
          clear hK15 hK16 sB2 hP15 hPG hB2
          walk_at "rd"
          rename_i r12 H17 h170 h171 hP17 hK17 PL hPL
          have eS17 := hK17 _ _ nSp eS
          refine lc_plans (m := xs.length) (fun _ => rfl) hP17 hPL (by omega) [] (fun _ z => absurd z List.not_mem_nil) (fun i2 H18 Q' hP18 hK18 hq => ?_) fun ps hss H18 hpl ePL hpls hch hP18 hK18 => ?_
          · have eS18 := hK18 _ _ nSp eS17
            walk_at "rd"
            rw [List.length_map]
            exact use_planL (n := xs.length) (m := 12) (s := 20) hP18 (by omega) (by decide) (by decide) (by decide) (by decide) fun b refs hs H' hb eb hh c1 c2 c3 hP2 hK2 => hq b refs hs H' hb eb hh c1 c2 c3 hP2 hK2
          have eS18 := hK18 _ _ nSp eS17
          have kI : KpL [p, R] H2 H18 := kH.trans ((KpL.ofK List.mem_cons_self hK17).trans (KpL.ofK List.mem_cons_self hK18))
          clear hK17 hK18 eS17 hP17 hPL kH kG2 kG
          walk_at "rd"
          refine rd_slGT (k := 1) (SqL.of ePL) fun P1 hP1 => ?_
          have sP1 := same_new (o := .lst (ps.take 1)) hP1
          refine rd_catGE (ps ++ ps.take 1) (sP1 _ _ ePL) upd_same rfl (by rw [List.length_take]; omega) fun P2 hP2' => ?_
          have sP := sP1.trans (same_new (o := .lst (ps ++ ps.take 1)) hP2')
          have lss := hpls.len
          have pls2 : PlsAt _ (ps ++ ps.take 1) (hss ++ hss.take 1) := (PlsAt.same sP (all2_app hpls (all2_take hpls 1)))
          have hch2 : ∀ hs ∈ hss ++ hss.take 1, Ch 0 hs 0 ∧ totH hs = xs.length := fun x hx => by
            rcases List.mem_append.mp hx with hx | hx
            · exact hch x hx
            · exact hch x (List.mem_of_mem_take hx)
          have ne2 : ps ++ ps.take 1 ≠ [] := fun z => by
            have := congrArg List.length z
            rw [List.length_append, hpl] at this
            simp at this
            omega
          have l2 : (ps ++ ps.take 1).length ≤ 10 := by rw [List.length_append, List.length_take]; omega
          have eS2 := sP _ _ eS18
          have eP2 : (upd (upd H18 P1 (.lst (ps.take 1))) P2 (.lst (ps ++ ps.take 1))) P2 = some (.lst (ps ++ ps.take 1)) := upd_same
          generalize ps ++ ps.take 1 = qs at *
          generalize hss ++ hss.take 1 = gss at *
          generalize upd (upd H18 P1 (.lst (ps.take 1))) P2 (.lst qs) = H19 at *
          walk_at "rd"
          refine ⟨P2, rfl, ⟨_, SqL.of eP2⟩, fun Z hZ => ?_⟩
          refine lc_toI (fun H v hs => ∃ b refs, v = .ref b ∧ H b = some (.lst refs) ∧ HdsAt H refs hs ∧ refs.length ≤ 200) (szP xs) (as := gss) (fun H' s => pls2.same s) (SqL.of eP2) (by omega) (fun _ => rfl) hZ (fun z y hy H' Q' sz hz hq => ?_) fun H20 s20 eZ => ?_
          · obtain ⟨b, refs, rfl, k1, k2, k3⟩ := hz
            obtain ⟨c1, c2⟩ := hch2 y hy
            obtain ⟨Te, hV⟩ := enc_vd (g := 0) c1 c2.symm (by omega) hxb
            walk_at "rd"
            refine rd_pclE ?_
            walk_at "rd"
            refine use_enc (g := 0) rfl (sz _ _ eS2) k1 k2 c1 c2.symm (by omega) k3 (by decide) hV fun x ws H21 hx s21 hSt => ?_
            refine rd_pSE hSt ⟨x, ws, _, rfl, hSt, fun Rl hRl => ?_⟩
            obtain ⟨rc, rl⟩ := stm_rc hSt
            refine ⟨Rl, rfl, ⟨_, SqL.of upd_same⟩, fun D8 hD8 => ?_⟩
            have sRl := same_new (o := .lst ws) hRl
            refine lc_toI (RcAt K) rsz (as := encA 0 y xs) (fun H'' s => rc.lk (.of (sRl.trans s))) (SqL.of upd_same) (by omega) (fun _ => rfl) hD8 (fun z r hr H'' Q'' s hz hq2 => ?_) fun H22 s22 e22 => ?_
            · walk_at "rd"
              exact use_rsz hz (hV.ok r hr) (hq2 _ (Same.refl _))
            walk_at "rd"
            refine rd_sum (SqL.of e22) ?_
            exact hq _ (s21.trans (sRl.trans s22))
          have pls20 := pls2.same s20
          have eS20 := s20 _ _ eS2
          have eP20 := s20 _ _ eP2
          walk_at "rd"
          have lg : qs.length = gss.length := pls2.len
          refine use_sml eS20 eP20 pls20 ne2 (by omega) hch2 (by omega) hxb fun t y ws H23 best hs z ht s23 et hSt ehb hMin => ?_
          have eZ23 := s23 _ _ eZ
          have hMin' : MinAt (gss.map (szP xs)) (gss.map (szP xs)).length best z := by rw [List.length_map]; exact hMin
          have ez : szP xs hs = z := by
            have := hMin.1
            rw [List.getElem?_map, ehb] at this
            exact Option.some.inj this
          have lb := (List.getElem?_eq_some_iff.mp ehb).1
          obtain ⟨v2, ev2⟩ : ∃ v2, qs[best]? = some v2 := ⟨_, List.getElem?_eq_getElem (by omega)⟩
          obtain ⟨hs', eh', b2, refs2, rfl, k1, k2, k3⟩ := (pls20.same s23).at2 ev2
          rw [ehb] at eh'
          obtain rfl : hs = hs' := Option.some.inj eh'
          obtain ⟨c1, c2⟩ := hch2 hs (List.mem_of_getElem? ehb)
          obtain ⟨Te, hV⟩ := enc_vd (g := 0) c1 c2.symm (by omega) hxb
          walk_at "rd"
          refine rd_minE eZ23 hMin' ?_
          refine rd_nil ?_
          refine rd_idxE eZ23 hMin' ?_
          walk_at "rd"
          refine if_noN rfl ?_
          walk_at "rd"
          refine rd_ixL (SqL.of (s23 _ _ eP20)) (atI_nat ev2) ?_
          walk_at "rd"
          refine use_enc (g := 0) rfl (s23 _ _ eS20) k1 k2 c1 c2.symm (by omega) k3 (by decide) hV fun y2 ws2 H24 hy2 s24 hSt2 => ?_
          walk_at "rd"
          refine eqS (hSt.same s24) hSt2 fun H25 s25 => ?_
          have s2325 := s24.trans s25
          walk_at "rd"
          refine rd_methS (hSt.same s2325) rfl (by decide +kernel) (by decide +kernel) ?_
          walk_at "rd"
          refine use_sizeM (hSt.same s2325) fun H26 s26 => ?_
          walk_at "rd"
          refine rd_ixL (SqL.of (s26 _ _ (s2325 _ _ eZ23))) (atI_nat (v := .int z) (by rw [List.getElem?_map, hMin.1]; rfl)) ?_
          walk_at "rd"
          refine if_noN (congrArg V.int ez) ?_
          walk_at "rd"
          have sE := sP.trans (s20.trans (s23.trans (s2325.trans s26)))
          exact ⟨_, _, _, _, _, _, _, _, _, _, _, _, _, rfl, fun c u e => sE _ _ (kI c u (nm_cons (ne_of_none (hsG _ _ e) hp0) (nm_cons (ne_of_none (hs2 _ _ (hsG _ _ e)) hR2) List.not_mem_nil)) (hs2 _ _ (hsG _ _ e)))⟩
      · obtain ⟨x1, x2, x3, x4, x5, x6, x7, x8, x9, x10, x11, x12, x13, rfl, hs⟩ := hI
        walk_at "rd"
        exact q _
    ) only [↓lt_eq]
end
theorem mkD_is_integer {K : PySem.W.Frag} {h : Heap} {mg : Str → Option Value} (X : K.In h) (G : h.Ns mainGlobals mg) {f : Addr} {od an : Option Addr} {sl : Array (Option Value)} {oc kV dc pm cd ct : Value} (a : PySem.W.nsIn K mainGlobals "is_integer" = some (some (.ref f))) (lk : K.lookup f = some ⟨oc, od, .func (PySem.W.fnOf "is_integer" "is_integer" (defArgs s_is_integer) (defBody s_is_integer) (defScope s_is_integer) .none kV dc pm an cd ct), sl⟩) (c : PySem.W.codeIn K cd "is_integer" = true) (k : PySem.W.keepIn K (.ref f) = true) : Dn K mg "is_integer" s_is_integer ["value"] f (PySem.W.fnOf "is_integer" "is_integer" (defArgs s_is_integer) (defBody s_is_integer) (defScope s_is_integer) .none kV dc pm an cd ct) := by
  have F := fun_mk (st := s_is_integer) lk c k
  exact ⟨F, PySem.W.mg_of X G a, F.binds (ps := ["value"]) fun _ _ _ _ _ _ us hl => match us, hl with | [_], _ => rfl⟩
theorem mkD_is_within {K : PySem.W.Frag} {h : Heap} {mg : Str → Option Value} (X : K.In h) (G : h.Ns mainGlobals mg) {f : Addr} {od an : Option Addr} {sl : Array (Option Value)} {oc kV dc pm cd ct : Value} (a : PySem.W.nsIn K mainGlobals "is_within" = some (some (.ref f))) (lk : K.lookup f = some ⟨oc, od, .func (PySem.W.fnOf "is_within" "is_within" (defArgs s_is_within) (defBody s_is_within) (defScope s_is_within) .none kV dc pm an cd ct), sl⟩) (c : PySem.W.codeIn K cd "is_within" = true) (k : PySem.W.keepIn K (.ref f) = true) : Dn K mg "is_within" s_is_within ["value", "low", "high"] f (PySem.W.fnOf "is_within" "is_within" (defArgs s_is_within) (defBody s_is_within) (defScope s_is_within) .none kV dc pm an cd ct) := by
  have F := fun_mk (st := s_is_within) lk c k
  exact ⟨F, PySem.W.mg_of X G a, F.binds (ps := ["value", "low", "high"]) fun _ _ _ _ _ _ us hl => match us, hl with | [_, _, _], _ => rfl⟩
theorem mkD_check_integer {K : PySem.W.Frag} {h : Heap} {mg : Str → Option Value} (X : K.In h) (G : h.Ns mainGlobals mg) {f : Addr} {od an : Option Addr} {sl : Array (Option Value)} {oc kV dc pm cd ct : Value} (a : PySem.W.nsIn K mainGlobals "check_integer" = some (some (.ref f))) (lk : K.lookup f = some ⟨oc, od, .func (PySem.W.fnOf "check_integer" "check_integer" (defArgs s_check_integer) (defBody s_check_integer) (defScope s_check_integer) .none kV dc pm an cd ct), sl⟩) (c : PySem.W.codeIn K cd "check_integer" = true) (k : PySem.W.keepIn K (.ref f) = true) : Dn K mg "check_integer" s_check_integer ["value"] f (PySem.W.fnOf "check_integer" "check_integer" (defArgs s_check_integer) (defBody s_check_integer) (defScope s_check_integer) .none kV dc pm an cd ct) := by
  have F := fun_mk (st := s_check_integer) lk c k
  exact ⟨F, PySem.W.mg_of X G a, F.binds (ps := ["value"]) fun _ _ _ _ _ _ us hl => match us, hl with | [_], _ => rfl⟩
theorem mkD_check_within {K : PySem.W.Frag} {h : Heap} {mg : Str → Option Value} (X : K.In h) (G : h.Ns mainGlobals mg) {f : Addr} {od an : Option Addr} {sl : Array (Option Value)} {oc kV dc pm cd ct : Value} (a : PySem.W.nsIn K mainGlobals "check_within" = some (some (.ref f))) (lk : K.lookup f = some ⟨oc, od, .func (PySem.W.fnOf "check_within" "check_within" (defArgs s_check_within) (defBody s_check_within) (defScope s_check_within) .none kV dc pm an cd ct), sl⟩) (c : PySem.W.codeIn K cd "check_within" = true) (k : PySem.W.keepIn K (.ref f) = true) : Dn K mg "check_within" s_check_within ["value", "low", "high"] f (PySem.W.fnOf "check_within" "check_within" (defArgs s_check_within) (defBody s_check_within) (defScope s_check_within) .none kV dc pm an cd ct) := by
  have F := fun_mk (st := s_check_within) lk c k
  exact ⟨F, PySem.W.mg_of X G a, F.binds (ps := ["value", "low", "high"]) fun _ _ _ _ _ _ us hl => match us, hl with | [_, _, _], _ => rfl⟩
theorem mkD_check_items {K : PySem.W.Frag} {h : Heap} {mg : Str → Option Value} (X : K.In h) (G : h.Ns mainGlobals mg) {f : Addr} {od an : Option Addr} {sl : Array (Option Value)} {oc kV dc pm cd ct : Value} (a : PySem.W.nsIn K mainGlobals "check_items" = some (some (.ref f))) (lk : K.lookup f = some ⟨oc, od, .func (PySem.W.fnOf "check_items" "check_items" (defArgs s_check_items) (defBody s_check_items) (defScope s_check_items) .none kV dc pm an cd ct), sl⟩) (c : PySem.W.codeIn K cd "check_items" = true) (k : PySem.W.keepIn K (.ref f) = true) : Dn K mg "check_items" s_check_items ["values"] f (PySem.W.fnOf "check_items" "check_items" (defArgs s_check_items) (defBody s_check_items) (defScope s_check_items) .none kV dc pm an cd ct) := by
  have F := fun_mk (st := s_check_items) lk c k
  exact ⟨F, PySem.W.mg_of X G a, F.binds (ps := ["values"]) fun _ _ _ _ _ _ us hl => match us, hl with | [_], _ => rfl⟩
theorem mkD_check_sound {K : PySem.W.Frag} {h : Heap} {mg : Str → Option Value} (X : K.In h) (G : h.Ns mainGlobals mg) {f : Addr} {od an : Option Addr} {sl : Array (Option Value)} {oc kV dc pm cd ct : Value} (a : PySem.W.nsIn K mainGlobals "check_sound" = some (some (.ref f))) (lk : K.lookup f = some ⟨oc, od, .func (PySem.W.fnOf "check_sound" "check_sound" (defArgs s_check_sound) (defBody s_check_sound) (defScope s_check_sound) .none kV dc pm an cd ct), sl⟩) (c : PySem.W.codeIn K cd "check_sound" = true) (k : PySem.W.keepIn K (.ref f) = true) : Dn K mg "check_sound" s_check_sound ["values"] f (PySem.W.fnOf "check_sound" "check_sound" (defArgs s_check_sound) (defBody s_check_sound) (defScope s_check_sound) .none kV dc pm an cd ct) := by
  have F := fun_mk (st := s_check_sound) lk c k
  exact ⟨F, PySem.W.mg_of X G a, F.binds (ps := ["values"]) fun _ _ _ _ _ _ us hl => match us, hl with | [_], _ => rfl⟩
theorem mkD_check_block {K : PySem.W.Frag} {h : Heap} {mg : Str → Option Value} (X : K.In h) (G : h.Ns mainGlobals mg) {f : Addr} {od an : Option Addr} {sl : Array (Option Value)} {oc kV dc pm cd ct : Value} (a : PySem.W.nsIn K mainGlobals "check_block" = some (some (.ref f))) (lk : K.lookup f = some ⟨oc, od, .func (PySem.W.fnOf "check_block" "check_block" (defArgs s_check_block) (defBody s_check_block) (defScope s_check_block) .none kV dc pm an cd ct), sl⟩) (c : PySem.W.codeIn K cd "check_block" = true) (k : PySem.W.keepIn K (.ref f) = true) : Dn K mg "check_block" s_check_block ["values", "least"] f (PySem.W.fnOf "check_block" "check_block" (defArgs s_check_block) (defBody s_check_block) (defScope s_check_block) .none kV dc pm an cd ct) := by
  have F := fun_mk (st := s_check_block) lk c k
  exact ⟨F, PySem.W.mg_of X G a, F.binds (ps := ["values", "least"]) fun _ _ _ _ _ _ us hl => match us, hl with | [_, _], _ => rfl⟩
theorem mkD_is_joint {K : PySem.W.Frag} {h : Heap} {mg : Str → Option Value} (X : K.In h) (G : h.Ns mainGlobals mg) {f : Addr} {od an : Option Addr} {sl : Array (Option Value)} {oc kV dc pm cd ct : Value} (a : PySem.W.nsIn K mainGlobals "is_joint" = some (some (.ref f))) (lk : K.lookup f = some ⟨oc, od, .func (PySem.W.fnOf "is_joint" "is_joint" (defArgs s_is_joint) (defBody s_is_joint) (defScope s_is_joint) .none kV dc pm an cd ct), sl⟩) (c : PySem.W.codeIn K cd "is_joint" = true) (k : PySem.W.keepIn K (.ref f) = true) : Dn K mg "is_joint" s_is_joint ["value"] f (PySem.W.fnOf "is_joint" "is_joint" (defArgs s_is_joint) (defBody s_is_joint) (defScope s_is_joint) .none kV dc pm an cd ct) := by
  have F := fun_mk (st := s_is_joint) lk c k
  exact ⟨F, PySem.W.mg_of X G a, F.binds (ps := ["value"]) fun _ _ _ _ _ _ us hl => match us, hl with | [_], _ => rfl⟩
theorem mkD_fold_pair {K : PySem.W.Frag} {h : Heap} {mg : Str → Option Value} (X : K.In h) (G : h.Ns mainGlobals mg) {f : Addr} {od an : Option Addr} {sl : Array (Option Value)} {oc kV dc pm cd ct : Value} (a : PySem.W.nsIn K mainGlobals "fold_pair" = some (some (.ref f))) (lk : K.lookup f = some ⟨oc, od, .func (PySem.W.fnOf "fold_pair" "fold_pair" (defArgs s_fold_pair) (defBody s_fold_pair) (defScope s_fold_pair) .none kV dc pm an cd ct), sl⟩) (c : PySem.W.codeIn K cd "fold_pair" = true) (k : PySem.W.keepIn K (.ref f) = true) : Dn K mg "fold_pair" s_fold_pair ["shape", "a", "b"] f (PySem.W.fnOf "fold_pair" "fold_pair" (defArgs s_fold_pair) (defBody s_fold_pair) (defScope s_fold_pair) .none kV dc pm an cd ct) := by
  have F := fun_mk (st := s_fold_pair) lk c k
  exact ⟨F, PySem.W.mg_of X G a, F.binds (ps := ["shape", "a", "b"]) fun _ _ _ _ _ _ us hl => match us, hl with | [_, _, _], _ => rfl⟩
theorem mkD_unfold_pair {K : PySem.W.Frag} {h : Heap} {mg : Str → Option Value} (X : K.In h) (G : h.Ns mainGlobals mg) {f : Addr} {od an : Option Addr} {sl : Array (Option Value)} {oc kV dc pm cd ct : Value} (a : PySem.W.nsIn K mainGlobals "unfold_pair" = some (some (.ref f))) (lk : K.lookup f = some ⟨oc, od, .func (PySem.W.fnOf "unfold_pair" "unfold_pair" (defArgs s_unfold_pair) (defBody s_unfold_pair) (defScope s_unfold_pair) .none kV dc pm an cd ct), sl⟩) (c : PySem.W.codeIn K cd "unfold_pair" = true) (k : PySem.W.keepIn K (.ref f) = true) : Dn K mg "unfold_pair" s_unfold_pair ["shape", "a", "b"] f (PySem.W.fnOf "unfold_pair" "unfold_pair" (defArgs s_unfold_pair) (defBody s_unfold_pair) (defScope s_unfold_pair) .none kV dc pm an cd ct) := by
  have F := fun_mk (st := s_unfold_pair) lk c k
  exact ⟨F, PySem.W.mg_of X G a, F.binds (ps := ["shape", "a", "b"]) fun _ _ _ _ _ _ us hl => match us, hl with | [_, _, _], _ => rfl⟩
theorem mkD_check_pair {K : PySem.W.Frag} {h : Heap} {mg : Str → Option Value} (X : K.In h) (G : h.Ns mainGlobals mg) {f : Addr} {od an : Option Addr} {sl : Array (Option Value)} {oc kV dc pm cd ct : Value} (a : PySem.W.nsIn K mainGlobals "check_pair" = some (some (.ref f))) (lk : K.lookup f = some ⟨oc, od, .func (PySem.W.fnOf "check_pair" "check_pair" (defArgs s_check_pair) (defBody s_check_pair) (defScope s_check_pair) .none kV dc pm an cd ct), sl⟩) (c : PySem.W.codeIn K cd "check_pair" = true) (k : PySem.W.keepIn K (.ref f) = true) : Dn K mg "check_pair" s_check_pair ["shape", "a", "b"] f (PySem.W.fnOf "check_pair" "check_pair" (defArgs s_check_pair) (defBody s_check_pair) (defScope s_check_pair) .none kV dc pm an cd ct) := by
  have F := fun_mk (st := s_check_pair) lk c k
  exact ⟨F, PySem.W.mg_of X G a, F.binds (ps := ["shape", "a", "b"]) fun _ _ _ _ _ _ us hl => match us, hl with | [_, _, _], _ => rfl⟩
theorem mkD_folded {K : PySem.W.Frag} {h : Heap} {mg : Str → Option Value} (X : K.In h) (G : h.Ns mainGlobals mg) {f : Addr} {od an : Option Addr} {sl : Array (Option Value)} {oc kV dc pm cd ct : Value} (a : PySem.W.nsIn K mainGlobals "folded" = some (some (.ref f))) (lk : K.lookup f = some ⟨oc, od, .func (PySem.W.fnOf "folded" "folded" (defArgs s_folded) (defBody s_folded) (defScope s_folded) .none kV dc pm an cd ct), sl⟩) (c : PySem.W.codeIn K cd "folded" = true) (k : PySem.W.keepIn K (.ref f) = true) : Dn K mg "folded" s_folded ["values", "joints"] f (PySem.W.fnOf "folded" "folded" (defArgs s_folded) (defBody s_folded) (defScope s_folded) .none kV dc pm an cd ct) := by
  have F := fun_mk (st := s_folded) lk c k
  exact ⟨F, PySem.W.mg_of X G a, F.binds (ps := ["values", "joints"]) fun _ _ _ _ _ _ us hl => match us, hl with | [_, _], _ => rfl⟩
theorem mkD_turned {K : PySem.W.Frag} {h : Heap} {mg : Str → Option Value} (X : K.In h) (G : h.Ns mainGlobals mg) {f : Addr} {od an : Option Addr} {sl : Array (Option Value)} {oc kV dc pm cd ct : Value} (a : PySem.W.nsIn K mainGlobals "turned" = some (some (.ref f))) (lk : K.lookup f = some ⟨oc, od, .func (PySem.W.fnOf "turned" "turned" (defArgs s_turned) (defBody s_turned) (defScope s_turned) .none kV dc pm an cd ct), sl⟩) (c : PySem.W.codeIn K cd "turned" = true) (k : PySem.W.keepIn K (.ref f) = true) : Dn K mg "turned" s_turned ["values", "joints", "turn"] f (PySem.W.fnOf "turned" "turned" (defArgs s_turned) (defBody s_turned) (defScope s_turned) .none kV dc pm an cd ct) := by
  have F := fun_mk (st := s_turned) lk c k
  exact ⟨F, PySem.W.mg_of X G a, F.binds (ps := ["values", "joints", "turn"]) fun _ _ _ _ _ _ us hl => match us, hl with | [_, _, _], _ => rfl⟩
theorem mkD_check_joints {K : PySem.W.Frag} {h : Heap} {mg : Str → Option Value} (X : K.In h) (G : h.Ns mainGlobals mg) {f : Addr} {od an : Option Addr} {sl : Array (Option Value)} {oc kV dc pm cd ct : Value} (a : PySem.W.nsIn K mainGlobals "check_joints" = some (some (.ref f))) (lk : K.lookup f = some ⟨oc, od, .func (PySem.W.fnOf "check_joints" "check_joints" (defArgs s_check_joints) (defBody s_check_joints) (defScope s_check_joints) .none kV dc pm an cd ct), sl⟩) (c : PySem.W.codeIn K cd "check_joints" = true) (k : PySem.W.keepIn K (.ref f) = true) : Dn K mg "check_joints" s_check_joints ["joints", "length"] f (PySem.W.fnOf "check_joints" "check_joints" (defArgs s_check_joints) (defBody s_check_joints) (defScope s_check_joints) .none kV dc pm an cd ct) := by
  have F := fun_mk (st := s_check_joints) lk c k
  exact ⟨F, PySem.W.mg_of X G a, F.binds (ps := ["joints", "length"]) fun _ _ _ _ _ _ us hl => match us, hl with | [_, _], _ => rfl⟩
theorem mkD_is_placed_joint {K : PySem.W.Frag} {h : Heap} {mg : Str → Option Value} (X : K.In h) (G : h.Ns mainGlobals mg) {f : Addr} {od an : Option Addr} {sl : Array (Option Value)} {oc kV dc pm cd ct : Value} (a : PySem.W.nsIn K mainGlobals "is_placed_joint" = some (some (.ref f))) (lk : K.lookup f = some ⟨oc, od, .func (PySem.W.fnOf "is_placed_joint" "is_placed_joint" (defArgs s_is_placed_joint) (defBody s_is_placed_joint) (defScope s_is_placed_joint) .none kV dc pm an cd ct), sl⟩) (c : PySem.W.codeIn K cd "is_placed_joint" = true) (k : PySem.W.keepIn K (.ref f) = true) : Dn K mg "is_placed_joint" s_is_placed_joint ["value"] f (PySem.W.fnOf "is_placed_joint" "is_placed_joint" (defArgs s_is_placed_joint) (defBody s_is_placed_joint) (defScope s_is_placed_joint) .none kV dc pm an cd ct) := by
  have F := fun_mk (st := s_is_placed_joint) lk c k
  exact ⟨F, PySem.W.mg_of X G a, F.binds (ps := ["value"]) fun _ _ _ _ _ _ us hl => match us, hl with | [_], _ => rfl⟩
theorem mkD_has_room {K : PySem.W.Frag} {h : Heap} {mg : Str → Option Value} (X : K.In h) (G : h.Ns mainGlobals mg) {f : Addr} {od an : Option Addr} {sl : Array (Option Value)} {oc kV dc pm cd ct : Value} (a : PySem.W.nsIn K mainGlobals "has_room" = some (some (.ref f))) (lk : K.lookup f = some ⟨oc, od, .func (PySem.W.fnOf "has_room" "has_room" (defArgs s_has_room) (defBody s_has_room) (defScope s_has_room) .none kV dc pm an cd ct), sl⟩) (c : PySem.W.codeIn K cd "has_room" = true) (k : PySem.W.keepIn K (.ref f) = true) : Dn K mg "has_room" s_has_room ["item", "before", "width_before", "length"] f (PySem.W.fnOf "has_room" "has_room" (defArgs s_has_room) (defBody s_has_room) (defScope s_has_room) .none kV dc pm an cd ct) := by
  have F := fun_mk (st := s_has_room) lk c k
  exact ⟨F, PySem.W.mg_of X G a, F.binds (ps := ["item", "before", "width_before", "length"]) fun _ _ _ _ _ _ us hl => match us, hl with | [_, _, _, _], _ => rfl⟩
theorem mkD_split_levels {K : PySem.W.Frag} {h : Heap} {mg : Str → Option Value} (X : K.In h) (G : h.Ns mainGlobals mg) {f : Addr} {od an : Option Addr} {sl : Array (Option Value)} {oc kV dc pm cd ct : Value} (a : PySem.W.nsIn K mainGlobals "split_levels" = some (some (.ref f))) (lk : K.lookup f = some ⟨oc, od, .func (PySem.W.fnOf "split_levels" "split_levels" (defArgs s_split_levels) (defBody s_split_levels) (defScope s_split_levels) .none kV dc pm an cd ct), sl⟩) (c : PySem.W.codeIn K cd "split_levels" = true) (k : PySem.W.keepIn K (.ref f) = true) : Dn K mg "split_levels" s_split_levels ["values", "levels"] f (PySem.W.fnOf "split_levels" "split_levels" (defArgs s_split_levels) (defBody s_split_levels) (defScope s_split_levels) .none kV dc pm an cd ct) := by
  have F := fun_mk (st := s_split_levels) lk c k
  exact ⟨F, PySem.W.mg_of X G a, F.binds (ps := ["values", "levels"]) fun _ _ _ _ _ _ us hl => match us, hl with | [_, _], _ => rfl⟩
theorem mkD_split_once {K : PySem.W.Frag} {h : Heap} {mg : Str → Option Value} (X : K.In h) (G : h.Ns mainGlobals mg) {f : Addr} {od an : Option Addr} {sl : Array (Option Value)} {oc kV dc pm cd ct : Value} (a : PySem.W.nsIn K mainGlobals "split_once" = some (some (.ref f))) (lk : K.lookup f = some ⟨oc, od, .func (PySem.W.fnOf "split_once" "split_once" (defArgs s_split_once) (defBody s_split_once) (defScope s_split_once) .none kV dc pm an cd ct), sl⟩) (c : PySem.W.codeIn K cd "split_once" = true) (k : PySem.W.keepIn K (.ref f) = true) : Dn K mg "split_once" s_split_once ["values"] f (PySem.W.fnOf "split_once" "split_once" (defArgs s_split_once) (defBody s_split_once) (defScope s_split_once) .none kV dc pm an cd ct) := by
  have F := fun_mk (st := s_split_once) lk c k
  exact ⟨F, PySem.W.mg_of X G a, F.binds (ps := ["values"]) fun _ _ _ _ _ _ us hl => match us, hl with | [_], _ => rfl⟩
theorem mkD_coarse_count {K : PySem.W.Frag} {h : Heap} {mg : Str → Option Value} (X : K.In h) (G : h.Ns mainGlobals mg) {f : Addr} {od an : Option Addr} {sl : Array (Option Value)} {oc kV dc pm cd ct : Value} (a : PySem.W.nsIn K mainGlobals "coarse_count" = some (some (.ref f))) (lk : K.lookup f = some ⟨oc, od, .func (PySem.W.fnOf "coarse_count" "coarse_count" (defArgs s_coarse_count) (defBody s_coarse_count) (defScope s_coarse_count) .none kV dc pm an cd ct), sl⟩) (c : PySem.W.codeIn K cd "coarse_count" = true) (k : PySem.W.keepIn K (.ref f) = true) : Dn K mg "coarse_count" s_coarse_count ["length", "levels"] f (PySem.W.fnOf "coarse_count" "coarse_count" (defArgs s_coarse_count) (defBody s_coarse_count) (defScope s_coarse_count) .none kV dc pm an cd ct) := by
  have F := fun_mk (st := s_coarse_count) lk c k
  exact ⟨F, PySem.W.mg_of X G a, F.binds (ps := ["length", "levels"]) fun _ _ _ _ _ _ us hl => match us, hl with | [_, _], _ => rfl⟩
theorem mkD_quantized {K : PySem.W.Frag} {h : Heap} {mg : Str → Option Value} (X : K.In h) (G : h.Ns mainGlobals mg) {f : Addr} {od an : Option Addr} {sl : Array (Option Value)} {oc kV dc pm cd ct : Value} (a : PySem.W.nsIn K mainGlobals "quantized" = some (some (.ref f))) (lk : K.lookup f = some ⟨oc, od, .func (PySem.W.fnOf "quantized" "quantized" (defArgs s_quantized) (defBody s_quantized) (defScope s_quantized) .none kV dc pm an cd ct), sl⟩) (c : PySem.W.codeIn K cd "quantized" = true) (k : PySem.W.keepIn K (.ref f) = true) : Dn K mg "quantized" s_quantized ["value", "step"] f (PySem.W.fnOf "quantized" "quantized" (defArgs s_quantized) (defBody s_quantized) (defScope s_quantized) .none kV dc pm an cd ct) := by
  have F := fun_mk (st := s_quantized) lk c k
  exact ⟨F, PySem.W.mg_of X G a, F.binds (ps := ["value", "step"]) fun _ _ _ _ _ _ us hl => match us, hl with | [_, _], _ => rfl⟩
theorem mkD_is_table {K : PySem.W.Frag} {h : Heap} {mg : Str → Option Value} (X : K.In h) (G : h.Ns mainGlobals mg) {f : Addr} {od an : Option Addr} {sl : Array (Option Value)} {oc kV dc pm cd ct : Value} (a : PySem.W.nsIn K mainGlobals "is_table" = some (some (.ref f))) (lk : K.lookup f = some ⟨oc, od, .func (PySem.W.fnOf "is_table" "is_table" (defArgs s_is_table) (defBody s_is_table) (defScope s_is_table) .none kV dc pm an cd ct), sl⟩) (c : PySem.W.codeIn K cd "is_table" = true) (k : PySem.W.keepIn K (.ref f) = true) : Dn K mg "is_table" s_is_table ["value"] f (PySem.W.fnOf "is_table" "is_table" (defArgs s_is_table) (defBody s_is_table) (defScope s_is_table) .none kV dc pm an cd ct) := by
  have F := fun_mk (st := s_is_table) lk c k
  exact ⟨F, PySem.W.mg_of X G a, F.binds (ps := ["value"]) fun _ _ _ _ _ _ us hl => match us, hl with | [_], _ => rfl⟩
theorem mkD_is_tables {K : PySem.W.Frag} {h : Heap} {mg : Str → Option Value} (X : K.In h) (G : h.Ns mainGlobals mg) {f : Addr} {od an : Option Addr} {sl : Array (Option Value)} {oc kV dc pm cd ct : Value} (a : PySem.W.nsIn K mainGlobals "is_tables" = some (some (.ref f))) (lk : K.lookup f = some ⟨oc, od, .func (PySem.W.fnOf "is_tables" "is_tables" (defArgs s_is_tables) (defBody s_is_tables) (defScope s_is_tables) .none kV dc pm an cd ct), sl⟩) (c : PySem.W.codeIn K cd "is_tables" = true) (k : PySem.W.keepIn K (.ref f) = true) : Dn K mg "is_tables" s_is_tables ["value"] f (PySem.W.fnOf "is_tables" "is_tables" (defArgs s_is_tables) (defBody s_is_tables) (defScope s_is_tables) .none kV dc pm an cd ct) := by
  have F := fun_mk (st := s_is_tables) lk c k
  exact ⟨F, PySem.W.mg_of X G a, F.binds (ps := ["value"]) fun _ _ _ _ _ _ us hl => match us, hl with | [_], _ => rfl⟩
theorem mkD_parameter {K : PySem.W.Frag} {h : Heap} {mg : Str → Option Value} (X : K.In h) (G : h.Ns mainGlobals mg) {f : Addr} {od an : Option Addr} {sl : Array (Option Value)} {oc kV dc pm cd ct : Value} (a : PySem.W.nsIn K mainGlobals "parameter" = some (some (.ref f))) (lk : K.lookup f = some ⟨oc, od, .func (PySem.W.fnOf "parameter" "parameter" (defArgs s_parameter) (defBody s_parameter) (defScope s_parameter) .none kV dc pm an cd ct), sl⟩) (c : PySem.W.codeIn K cd "parameter" = true) (k : PySem.W.keepIn K (.ref f) = true) : Dn K mg "parameter" s_parameter ["table"] f (PySem.W.fnOf "parameter" "parameter" (defArgs s_parameter) (defBody s_parameter) (defScope s_parameter) .none kV dc pm an cd ct) := by
  have F := fun_mk (st := s_parameter) lk c k
  exact ⟨F, PySem.W.mg_of X G a, F.binds (ps := ["table"]) fun _ _ _ _ _ _ us hl => match us, hl with | [_], _ => rfl⟩
theorem mkD_table_behind {K : PySem.W.Frag} {h : Heap} {mg : Str → Option Value} (X : K.In h) (G : h.Ns mainGlobals mg) {f : Addr} {od an : Option Addr} {sl : Array (Option Value)} {oc kV dc pm cd ct : Value} (a : PySem.W.nsIn K mainGlobals "table_behind" = some (some (.ref f))) (lk : K.lookup f = some ⟨oc, od, .func (PySem.W.fnOf "table_behind" "table_behind" (defArgs s_table_behind) (defBody s_table_behind) (defScope s_table_behind) .none kV dc pm an cd ct), sl⟩) (c : PySem.W.codeIn K cd "table_behind" = true) (k : PySem.W.keepIn K (.ref f) = true) : Dn K mg "table_behind" s_table_behind ["table", "code"] f (PySem.W.fnOf "table_behind" "table_behind" (defArgs s_table_behind) (defBody s_table_behind) (defScope s_table_behind) .none kV dc pm an cd ct) := by
  have F := fun_mk (st := s_table_behind) lk c k
  exact ⟨F, PySem.W.mg_of X G a, F.binds (ps := ["table", "code"]) fun _ _ _ _ _ _ us hl => match us, hl with | [_, _], _ => rfl⟩
theorem mkD_code_number {K : PySem.W.Frag} {h : Heap} {mg : Str → Option Value} (X : K.In h) (G : h.Ns mainGlobals mg) {f : Addr} {od an : Option Addr} {sl : Array (Option Value)} {oc kV dc pm cd ct : Value} (a : PySem.W.nsIn K mainGlobals "code_number" = some (some (.ref f))) (lk : K.lookup f = some ⟨oc, od, .func (PySem.W.fnOf "code_number" "code_number" (defArgs s_code_number) (defBody s_code_number) (defScope s_code_number) .none kV dc pm an cd ct), sl⟩) (c : PySem.W.codeIn K cd "code_number" = true) (k : PySem.W.keepIn K (.ref f) = true) : Dn K mg "code_number" s_code_number ["number"] f (PySem.W.fnOf "code_number" "code_number" (defArgs s_code_number) (defBody s_code_number) (defScope s_code_number) .none kV dc pm an cd ct) := by
  have F := fun_mk (st := s_code_number) lk c k
  exact ⟨F, PySem.W.mg_of X G a, F.binds (ps := ["number"]) fun _ _ _ _ _ _ us hl => match us, hl with | [_], _ => rfl⟩
theorem mkD_number_with {K : PySem.W.Frag} {h : Heap} {mg : Str → Option Value} (X : K.In h) (G : h.Ns mainGlobals mg) {f : Addr} {od an : Option Addr} {sl : Array (Option Value)} {oc kV dc pm cd ct : Value} (a : PySem.W.nsIn K mainGlobals "number_with" = some (some (.ref f))) (lk : K.lookup f = some ⟨oc, od, .func (PySem.W.fnOf "number_with" "number_with" (defArgs s_number_with) (defBody s_number_with) (defScope s_number_with) .none kV dc pm an cd ct), sl⟩) (c : PySem.W.codeIn K cd "number_with" = true) (k : PySem.W.keepIn K (.ref f) = true) : Dn K mg "number_with" s_number_with ["code"] f (PySem.W.fnOf "number_with" "number_with" (defArgs s_number_with) (defBody s_number_with) (defScope s_number_with) .none kV dc pm an cd ct) := by
  have F := fun_mk (st := s_number_with) lk c k
  exact ⟨F, PySem.W.mg_of X G a, F.binds (ps := ["code"]) fun _ _ _ _ _ _ us hl => match us, hl with | [_], _ => rfl⟩
theorem mkD_code_bits {K : PySem.W.Frag} {h : Heap} {mg : Str → Option Value} (X : K.In h) (G : h.Ns mainGlobals mg) {f : Addr} {od an : Option Addr} {sl : Array (Option Value)} {oc kV dc pm cd ct : Value} (a : PySem.W.nsIn K mainGlobals "code_bits" = some (some (.ref f))) (lk : K.lookup f = some ⟨oc, od, .func (PySem.W.fnOf "code_bits" "code_bits" (defArgs s_code_bits) (defBody s_code_bits) (defScope s_code_bits) .none kV dc pm an cd ct), sl⟩) (c : PySem.W.codeIn K cd "code_bits" = true) (k : PySem.W.keepIn K (.ref f) = true) : Dn K mg "code_bits" s_code_bits ["code", "k"] f (PySem.W.fnOf "code_bits" "code_bits" (defArgs s_code_bits) (defBody s_code_bits) (defScope s_code_bits) .none kV dc pm an cd ct) := by
  have F := fun_mk (st := s_code_bits) lk c k
  exact ⟨F, PySem.W.mg_of X G a, F.binds (ps := ["code", "k"]) fun _ _ _ _ _ _ us hl => match us, hl with | [_, _], _ => rfl⟩
theorem mkD_write_numbers {K : PySem.W.Frag} {h : Heap} {mg : Str → Option Value} (X : K.In h) (G : h.Ns mainGlobals mg) {f : Addr} {od an : Option Addr} {sl : Array (Option Value)} {oc kV dc pm cd ct : Value} (a : PySem.W.nsIn K mainGlobals "write_numbers" = some (some (.ref f))) (lk : K.lookup f = some ⟨oc, od, .func (PySem.W.fnOf "write_numbers" "write_numbers" (defArgs s_write_numbers) (defBody s_write_numbers) (defScope s_write_numbers) .none kV dc pm an cd ct), sl⟩) (c : PySem.W.codeIn K cd "write_numbers" = true) (k : PySem.W.keepIn K (.ref f) = true) : Dn K mg "write_numbers" s_write_numbers ["numbers", "coarse", "tables"] f (PySem.W.fnOf "write_numbers" "write_numbers" (defArgs s_write_numbers) (defBody s_write_numbers) (defScope s_write_numbers) .none kV dc pm an cd ct) := by
  have F := fun_mk (st := s_write_numbers) lk c k
  exact ⟨F, PySem.W.mg_of X G a, F.binds (ps := ["numbers", "coarse", "tables"]) fun _ _ _ _ _ _ us hl => match us, hl with | [_, _, _], _ => rfl⟩
theorem mkD_read_numbers {K : PySem.W.Frag} {h : Heap} {mg : Str → Option Value} (X : K.In h) (G : h.Ns mainGlobals mg) {f : Addr} {od an : Option Addr} {sl : Array (Option Value)} {oc kV dc pm cd ct : Value} (a : PySem.W.nsIn K mainGlobals "read_numbers" = some (some (.ref f))) (lk : K.lookup f = some ⟨oc, od, .func (PySem.W.fnOf "read_numbers" "read_numbers" (defArgs s_read_numbers) (defBody s_read_numbers) (defScope s_read_numbers) .none kV dc pm an cd ct), sl⟩) (c : PySem.W.codeIn K cd "read_numbers" = true) (k : PySem.W.keepIn K (.ref f) = true) : Dn K mg "read_numbers" s_read_numbers ["bits", "length", "coarse", "tables"] f (PySem.W.fnOf "read_numbers" "read_numbers" (defArgs s_read_numbers) (defBody s_read_numbers) (defScope s_read_numbers) .none kV dc pm an cd ct) := by
  have F := fun_mk (st := s_read_numbers) lk c k
  exact ⟨F, PySem.W.mg_of X G a, F.binds (ps := ["bits", "length", "coarse", "tables"]) fun _ _ _ _ _ _ us hl => match us, hl with | [_, _, _, _], _ => rfl⟩
theorem mkD_check_coding {K : PySem.W.Frag} {h : Heap} {mg : Str → Option Value} (X : K.In h) (G : h.Ns mainGlobals mg) {f : Addr} {od an : Option Addr} {sl : Array (Option Value)} {oc kV dc pm cd ct : Value} (a : PySem.W.nsIn K mainGlobals "check_coding" = some (some (.ref f))) (lk : K.lookup f = some ⟨oc, od, .func (PySem.W.fnOf "check_coding" "check_coding" (defArgs s_check_coding) (defBody s_check_coding) (defScope s_check_coding) .none kV dc pm an cd ct), sl⟩) (c : PySem.W.codeIn K cd "check_coding" = true) (k : PySem.W.keepIn K (.ref f) = true) : Dn K mg "check_coding" s_check_coding ["length", "coarse", "tables"] f (PySem.W.fnOf "check_coding" "check_coding" (defArgs s_check_coding) (defBody s_check_coding) (defScope s_check_coding) .none kV dc pm an cd ct) := by
  have F := fun_mk (st := s_check_coding) lk c k
  exact ⟨F, PySem.W.mg_of X G a, F.binds (ps := ["length", "coarse", "tables"]) fun _ _ _ _ _ _ us hl => match us, hl with | [_, _, _], _ => rfl⟩
theorem mkD_read_code {K : PySem.W.Frag} {h : Heap} {mg : Str → Option Value} (X : K.In h) (G : h.Ns mainGlobals mg) {f : Addr} {od an : Option Addr} {sl : Array (Option Value)} {oc kV dc pm cd ct : Value} (a : PySem.W.nsIn K mainGlobals "read_code" = some (some (.ref f))) (lk : K.lookup f = some ⟨oc, od, .func (PySem.W.fnOf "read_code" "read_code" (defArgs s_read_code) (defBody s_read_code) (defScope s_read_code) .none kV dc pm an cd ct), sl⟩) (c : PySem.W.codeIn K cd "read_code" = true) (k : PySem.W.keepIn K (.ref f) = true) : Dn K mg "read_code" s_read_code ["bits", "place", "k"] f (PySem.W.fnOf "read_code" "read_code" (defArgs s_read_code) (defBody s_read_code) (defScope s_read_code) .none kV dc pm an cd ct) := by
  have F := fun_mk (st := s_read_code) lk c k
  exact ⟨F, PySem.W.mg_of X G a, F.binds (ps := ["bits", "place", "k"]) fun _ _ _ _ _ _ us hl => match us, hl with | [_, _, _], _ => rfl⟩
theorem mkD_mark_of {K : PySem.W.Frag} {h : Heap} {mg : Str → Option Value} (X : K.In h) (G : h.Ns mainGlobals mg) {f : Addr} {od an : Option Addr} {sl : Array (Option Value)} {oc kV dc pm cd ct : Value} (a : PySem.W.nsIn K mainGlobals "mark_of" = some (some (.ref f))) (lk : K.lookup f = some ⟨oc, od, .func (PySem.W.fnOf "mark_of" "mark_of" (defArgs s_mark_of) (defBody s_mark_of) (defScope s_mark_of) .none kV dc pm an cd ct), sl⟩) (c : PySem.W.codeIn K cd "mark_of" = true) (k : PySem.W.keepIn K (.ref f) = true) : Dn K mg "mark_of" s_mark_of ["numbers"] f (PySem.W.fnOf "mark_of" "mark_of" (defArgs s_mark_of) (defBody s_mark_of) (defScope s_mark_of) .none kV dc pm an cd ct) := by
  have F := fun_mk (st := s_mark_of) lk c k
  exact ⟨F, PySem.W.mg_of X G a, F.binds (ps := ["numbers"]) fun _ _ _ _ _ _ us hl => match us, hl with | [_], _ => rfl⟩
theorem mkD_is_record {K : PySem.W.Frag} {h : Heap} {mg : Str → Option Value} (X : K.In h) (G : h.Ns mainGlobals mg) {f : Addr} {od an : Option Addr} {sl : Array (Option Value)} {oc kV dc pm cd ct : Value} (a : PySem.W.nsIn K mainGlobals "is_record" = some (some (.ref f))) (lk : K.lookup f = some ⟨oc, od, .func (PySem.W.fnOf "is_record" "is_record" (defArgs s_is_record) (defBody s_is_record) (defScope s_is_record) .none kV dc pm an cd ct), sl⟩) (c : PySem.W.codeIn K cd "is_record" = true) (k : PySem.W.keepIn K (.ref f) = true) : Dn K mg "is_record" s_is_record ["value"] f (PySem.W.fnOf "is_record" "is_record" (defArgs s_is_record) (defBody s_is_record) (defScope s_is_record) .none kV dc pm an cd ct) := by
  have F := fun_mk (st := s_is_record) lk c k
  exact ⟨F, PySem.W.mg_of X G a, F.binds (ps := ["value"]) fun _ _ _ _ _ _ us hl => match us, hl with | [_], _ => rfl⟩
theorem mkD_is_state {K : PySem.W.Frag} {h : Heap} {mg : Str → Option Value} (X : K.In h) (G : h.Ns mainGlobals mg) {f : Addr} {od an : Option Addr} {sl : Array (Option Value)} {oc kV dc pm cd ct : Value} (a : PySem.W.nsIn K mainGlobals "is_state" = some (some (.ref f))) (lk : K.lookup f = some ⟨oc, od, .func (PySem.W.fnOf "is_state" "is_state" (defArgs s_is_state) (defBody s_is_state) (defScope s_is_state) .none kV dc pm an cd ct), sl⟩) (c : PySem.W.codeIn K cd "is_state" = true) (k : PySem.W.keepIn K (.ref f) = true) : Dn K mg "is_state" s_is_state ["value"] f (PySem.W.fnOf "is_state" "is_state" (defArgs s_is_state) (defBody s_is_state) (defScope s_is_state) .none kV dc pm an cd ct) := by
  have F := fun_mk (st := s_is_state) lk c k
  exact ⟨F, PySem.W.mg_of X G a, F.binds (ps := ["value"]) fun _ _ _ _ _ _ us hl => match us, hl with | [_], _ => rfl⟩
theorem mkD_is_frame {K : PySem.W.Frag} {h : Heap} {mg : Str → Option Value} (X : K.In h) (G : h.Ns mainGlobals mg) {f : Addr} {od an : Option Addr} {sl : Array (Option Value)} {oc kV dc pm cd ct : Value} (a : PySem.W.nsIn K mainGlobals "is_frame" = some (some (.ref f))) (lk : K.lookup f = some ⟨oc, od, .func (PySem.W.fnOf "is_frame" "is_frame" (defArgs s_is_frame) (defBody s_is_frame) (defScope s_is_frame) .none kV dc pm an cd ct), sl⟩) (c : PySem.W.codeIn K cd "is_frame" = true) (k : PySem.W.keepIn K (.ref f) = true) : Dn K mg "is_frame" s_is_frame ["value"] f (PySem.W.fnOf "is_frame" "is_frame" (defArgs s_is_frame) (defBody s_is_frame) (defScope s_is_frame) .none kV dc pm an cd ct) := by
  have F := fun_mk (st := s_is_frame) lk c k
  exact ⟨F, PySem.W.mg_of X G a, F.binds (ps := ["value"]) fun _ _ _ _ _ _ us hl => match us, hl with | [_], _ => rfl⟩
theorem mkD_is_layout {K : PySem.W.Frag} {h : Heap} {mg : Str → Option Value} (X : K.In h) (G : h.Ns mainGlobals mg) {f : Addr} {od an : Option Addr} {sl : Array (Option Value)} {oc kV dc pm cd ct : Value} (a : PySem.W.nsIn K mainGlobals "is_layout" = some (some (.ref f))) (lk : K.lookup f = some ⟨oc, od, .func (PySem.W.fnOf "is_layout" "is_layout" (defArgs s_is_layout) (defBody s_is_layout) (defScope s_is_layout) .none kV dc pm an cd ct), sl⟩) (c : PySem.W.codeIn K cd "is_layout" = true) (k : PySem.W.keepIn K (.ref f) = true) : Dn K mg "is_layout" s_is_layout ["value"] f (PySem.W.fnOf "is_layout" "is_layout" (defArgs s_is_layout) (defBody s_is_layout) (defScope s_is_layout) .none kV dc pm an cd ct) := by
  have F := fun_mk (st := s_is_layout) lk c k
  exact ⟨F, PySem.W.mg_of X G a, F.binds (ps := ["value"]) fun _ _ _ _ _ _ us hl => match us, hl with | [_], _ => rfl⟩
theorem mkD_is_bits {K : PySem.W.Frag} {h : Heap} {mg : Str → Option Value} (X : K.In h) (G : h.Ns mainGlobals mg) {f : Addr} {od an : Option Addr} {sl : Array (Option Value)} {oc kV dc pm cd ct : Value} (a : PySem.W.nsIn K mainGlobals "is_bits" = some (some (.ref f))) (lk : K.lookup f = some ⟨oc, od, .func (PySem.W.fnOf "is_bits" "is_bits" (defArgs s_is_bits) (defBody s_is_bits) (defScope s_is_bits) .none kV dc pm an cd ct), sl⟩) (c : PySem.W.codeIn K cd "is_bits" = true) (k : PySem.W.keepIn K (.ref f) = true) : Dn K mg "is_bits" s_is_bits ["value"] f (PySem.W.fnOf "is_bits" "is_bits" (defArgs s_is_bits) (defBody s_is_bits) (defScope s_is_bits) .none kV dc pm an cd ct) := by
  have F := fun_mk (st := s_is_bits) lk c k
  exact ⟨F, PySem.W.mg_of X G a, F.binds (ps := ["value"]) fun _ _ _ _ _ _ us hl => match us, hl with | [_], _ => rfl⟩
theorem mkD_record_size {K : PySem.W.Frag} {h : Heap} {mg : Str → Option Value} (X : K.In h) (G : h.Ns mainGlobals mg) {f : Addr} {od an : Option Addr} {sl : Array (Option Value)} {oc kV dc pm cd ct : Value} (a : PySem.W.nsIn K mainGlobals "record_size" = some (some (.ref f))) (lk : K.lookup f = some ⟨oc, od, .func (PySem.W.fnOf "record_size" "record_size" (defArgs s_record_size) (defBody s_record_size) (defScope s_record_size) .none kV dc pm an cd ct), sl⟩) (c : PySem.W.codeIn K cd "record_size" = true) (k : PySem.W.keepIn K (.ref f) = true) : Dn K mg "record_size" s_record_size ["record"] f (PySem.W.fnOf "record_size" "record_size" (defArgs s_record_size) (defBody s_record_size) (defScope s_record_size) .none kV dc pm an cd ct) := by
  have F := fun_mk (st := s_record_size) lk c k
  exact ⟨F, PySem.W.mg_of X G a, F.binds (ps := ["record"]) fun _ _ _ _ _ _ us hl => match us, hl with | [_], _ => rfl⟩
theorem mkD_read_frame {K : PySem.W.Frag} {h : Heap} {mg : Str → Option Value} (X : K.In h) (G : h.Ns mainGlobals mg) {f : Addr} {od an : Option Addr} {sl : Array (Option Value)} {oc kV dc pm cd ct : Value} (a : PySem.W.nsIn K mainGlobals "read_frame" = some (some (.ref f))) (lk : K.lookup f = some ⟨oc, od, .func (PySem.W.fnOf "read_frame" "read_frame" (defArgs s_read_frame) (defBody s_read_frame) (defScope s_read_frame) .none kV dc pm an cd ct), sl⟩) (c : PySem.W.codeIn K cd "read_frame" = true) (k : PySem.W.keepIn K (.ref f) = true) : Dn K mg "read_frame" s_read_frame ["record", "tables"] f (PySem.W.fnOf "read_frame" "read_frame" (defArgs s_read_frame) (defBody s_read_frame) (defScope s_read_frame) .none kV dc pm an cd ct) := by
  have F := fun_mk (st := s_read_frame) lk c k
  exact ⟨F, PySem.W.mg_of X G a, F.binds (ps := ["record", "tables"]) fun _ _ _ _ _ _ us hl => match us, hl with | [_, _], _ => rfl⟩
theorem mkD_placed_joints {K : PySem.W.Frag} {h : Heap} {mg : Str → Option Value} (X : K.In h) (G : h.Ns mainGlobals mg) {f : Addr} {od an : Option Addr} {sl : Array (Option Value)} {oc kV dc pm cd ct : Value} (a : PySem.W.nsIn K mainGlobals "placed_joints" = some (some (.ref f))) (lk : K.lookup f = some ⟨oc, od, .func (PySem.W.fnOf "placed_joints" "placed_joints" (defArgs s_placed_joints) (defBody s_placed_joints) (defScope s_placed_joints) .none kV dc pm an cd ct), sl⟩) (c : PySem.W.codeIn K cd "placed_joints" = true) (k : PySem.W.keepIn K (.ref f) = true) : Dn K mg "placed_joints" s_placed_joints ["lengths", "joints"] f (PySem.W.fnOf "placed_joints" "placed_joints" (defArgs s_placed_joints) (defBody s_placed_joints) (defScope s_placed_joints) .none kV dc pm an cd ct) := by
  have F := fun_mk (st := s_placed_joints) lk c k
  exact ⟨F, PySem.W.mg_of X G a, F.binds (ps := ["lengths", "joints"]) fun _ _ _ _ _ _ us hl => match us, hl with | [_, _], _ => rfl⟩
theorem mkD_check_records {K : PySem.W.Frag} {h : Heap} {mg : Str → Option Value} (X : K.In h) (G : h.Ns mainGlobals mg) {f : Addr} {od an : Option Addr} {sl : Array (Option Value)} {oc kV dc pm cd ct : Value} (a : PySem.W.nsIn K mainGlobals "check_records" = some (some (.ref f))) (lk : K.lookup f = some ⟨oc, od, .func (PySem.W.fnOf "check_records" "check_records" (defArgs s_check_records) (defBody s_check_records) (defScope s_check_records) .none kV dc pm an cd ct), sl⟩) (c : PySem.W.codeIn K cd "check_records" = true) (k : PySem.W.keepIn K (.ref f) = true) : Dn K mg "check_records" s_check_records ["records"] f (PySem.W.fnOf "check_records" "check_records" (defArgs s_check_records) (defBody s_check_records) (defScope s_check_records) .none kV dc pm an cd ct) := by
  have F := fun_mk (st := s_check_records) lk c k
  exact ⟨F, PySem.W.mg_of X G a, F.binds (ps := ["records"]) fun _ _ _ _ _ _ us hl => match us, hl with | [_], _ => rfl⟩
theorem mkD_read_frames {K : PySem.W.Frag} {h : Heap} {mg : Str → Option Value} (X : K.In h) (G : h.Ns mainGlobals mg) {f : Addr} {od an : Option Addr} {sl : Array (Option Value)} {oc kV dc pm cd ct : Value} (a : PySem.W.nsIn K mainGlobals "read_frames" = some (some (.ref f))) (lk : K.lookup f = some ⟨oc, od, .func (PySem.W.fnOf "read_frames" "read_frames" (defArgs s_read_frames) (defBody s_read_frames) (defScope s_read_frames) .none kV dc pm an cd ct), sl⟩) (c : PySem.W.codeIn K cd "read_frames" = true) (k : PySem.W.keepIn K (.ref f) = true) : Dn K mg "read_frames" s_read_frames ["records"] f (PySem.W.fnOf "read_frames" "read_frames" (defArgs s_read_frames) (defBody s_read_frames) (defScope s_read_frames) .none kV dc pm an cd ct) := by
  have F := fun_mk (st := s_read_frames) lk c k
  exact ⟨F, PySem.W.mg_of X G a, F.binds (ps := ["records"]) fun _ _ _ _ _ _ us hl => match us, hl with | [_], _ => rfl⟩
theorem mkD_check_plan {K : PySem.W.Frag} {h : Heap} {mg : Str → Option Value} (X : K.In h) (G : h.Ns mainGlobals mg) {f : Addr} {od an : Option Addr} {sl : Array (Option Value)} {oc kV dc pm cd ct : Value} (a : PySem.W.nsIn K mainGlobals "check_plan" = some (some (.ref f))) (lk : K.lookup f = some ⟨oc, od, .func (PySem.W.fnOf "check_plan" "check_plan" (defArgs s_check_plan) (defBody s_check_plan) (defScope s_check_plan) .none kV dc pm an cd ct), sl⟩) (c : PySem.W.codeIn K cd "check_plan" = true) (k : PySem.W.keepIn K (.ref f) = true) : Dn K mg "check_plan" s_check_plan ["plan", "length"] f (PySem.W.fnOf "check_plan" "check_plan" (defArgs s_check_plan) (defBody s_check_plan) (defScope s_check_plan) .none kV dc pm an cd ct) := by
  have F := fun_mk (st := s_check_plan) lk c k
  exact ⟨F, PySem.W.mg_of X G a, F.binds (ps := ["plan", "length"]) fun _ _ _ _ _ _ us hl => match us, hl with | [_, _], _ => rfl⟩
theorem mkD_coded_records {K : PySem.W.Frag} {h : Heap} {mg : Str → Option Value} (X : K.In h) (G : h.Ns mainGlobals mg) {f : Addr} {od an : Option Addr} {sl : Array (Option Value)} {oc kV dc pm cd ct : Value} (a : PySem.W.nsIn K mainGlobals "coded_records" = some (some (.ref f))) (lk : K.lookup f = some ⟨oc, od, .func (PySem.W.fnOf "coded_records" "coded_records" (defArgs s_coded_records) (defBody s_coded_records) (defScope s_coded_records) .none kV dc pm an cd ct), sl⟩) (c : PySem.W.codeIn K cd "coded_records" = true) (k : PySem.W.keepIn K (.ref f) = true) : Dn K mg "coded_records" s_coded_records ["sound", "plan", "states"] f (PySem.W.fnOf "coded_records" "coded_records" (defArgs s_coded_records) (defBody s_coded_records) (defScope s_coded_records) .none kV dc pm an cd ct) := by
  have F := fun_mk (st := s_coded_records) lk c k
  exact ⟨F, PySem.W.mg_of X G a, F.binds (ps := ["sound", "plan", "states"]) fun _ _ _ _ _ _ us hl => match us, hl with | [_, _, _], _ => rfl⟩
theorem mkD_coded_frame {K : PySem.W.Frag} {h : Heap} {mg : Str → Option Value} (X : K.In h) (G : h.Ns mainGlobals mg) {f : Addr} {od an : Option Addr} {sl : Array (Option Value)} {oc kV dc pm cd ct : Value} (a : PySem.W.nsIn K mainGlobals "coded_frame" = some (some (.ref f))) (lk : K.lookup f = some ⟨oc, od, .func (PySem.W.fnOf "coded_frame" "coded_frame" (defArgs s_coded_frame) (defBody s_coded_frame) (defScope s_coded_frame) .none kV dc pm an cd ct), sl⟩) (c : PySem.W.codeIn K cd "coded_frame" = true) (k : PySem.W.keepIn K (.ref f) = true) : Dn K mg "coded_frame" s_coded_frame ["values", "layout", "tables"] f (PySem.W.fnOf "coded_frame" "coded_frame" (defArgs s_coded_frame) (defBody s_coded_frame) (defScope s_coded_frame) .none kV dc pm an cd ct) := by
  have F := fun_mk (st := s_coded_frame) lk c k
  exact ⟨F, PySem.W.mg_of X G a, F.binds (ps := ["values", "layout", "tables"]) fun _ _ _ _ _ _ us hl => match us, hl with | [_, _, _], _ => rfl⟩
theorem mkD_even_plan {K : PySem.W.Frag} {h : Heap} {mg : Str → Option Value} (X : K.In h) (G : h.Ns mainGlobals mg) {f : Addr} {od an : Option Addr} {sl : Array (Option Value)} {oc kV dc pm cd ct : Value} (a : PySem.W.nsIn K mainGlobals "even_plan" = some (some (.ref f))) (lk : K.lookup f = some ⟨oc, od, .func (PySem.W.fnOf "even_plan" "even_plan" (defArgs s_even_plan) (defBody s_even_plan) (defScope s_even_plan) .none kV dc pm an cd ct), sl⟩) (c : PySem.W.codeIn K cd "even_plan" = true) (k : PySem.W.keepIn K (.ref f) = true) : Dn K mg "even_plan" s_even_plan ["length", "block", "joint", "levels", "step"] f (PySem.W.fnOf "even_plan" "even_plan" (defArgs s_even_plan) (defBody s_even_plan) (defScope s_even_plan) .none kV dc pm an cd ct) := by
  have F := fun_mk (st := s_even_plan) lk c k
  exact ⟨F, PySem.W.mg_of X G a, F.binds (ps := ["length", "block", "joint", "levels", "step"]) fun _ _ _ _ _ _ us hl => match us, hl with | [_, _, _, _, _], _ => rfl⟩
theorem mkD_smallest {K : PySem.W.Frag} {h : Heap} {mg : Str → Option Value} (X : K.In h) (G : h.Ns mainGlobals mg) {f : Addr} {od an : Option Addr} {sl : Array (Option Value)} {oc kV dc pm cd ct : Value} (a : PySem.W.nsIn K mainGlobals "smallest" = some (some (.ref f))) (lk : K.lookup f = some ⟨oc, od, .func (PySem.W.fnOf "smallest" "smallest" (defArgs s_smallest) (defBody s_smallest) (defScope s_smallest) .none kV dc pm an cd ct), sl⟩) (c : PySem.W.codeIn K cd "smallest" = true) (k : PySem.W.keepIn K (.ref f) = true) : Dn K mg "smallest" s_smallest ["sound", "plans"] f (PySem.W.fnOf "smallest" "smallest" (defArgs s_smallest) (defBody s_smallest) (defScope s_smallest) .none kV dc pm an cd ct) := by
  have F := fun_mk (st := s_smallest) lk c k
  exact ⟨F, PySem.W.mg_of X G a, F.binds (ps := ["sound", "plans"]) fun _ _ _ _ _ _ us hl => match us, hl with | [_, _], _ => rfl⟩
theorem mkD_check_plans {K : PySem.W.Frag} {h : Heap} {mg : Str → Option Value} (X : K.In h) (G : h.Ns mainGlobals mg) {f : Addr} {od an : Option Addr} {sl : Array (Option Value)} {oc kV dc pm cd ct : Value} (a : PySem.W.nsIn K mainGlobals "check_plans" = some (some (.ref f))) (lk : K.lookup f = some ⟨oc, od, .func (PySem.W.fnOf "check_plans" "check_plans" (defArgs s_check_plans) (defBody s_check_plans) (defScope s_check_plans) .none kV dc pm an cd ct), sl⟩) (c : PySem.W.codeIn K cd "check_plans" = true) (k : PySem.W.keepIn K (.ref f) = true) : Dn K mg "check_plans" s_check_plans ["plans", "length"] f (PySem.W.fnOf "check_plans" "check_plans" (defArgs s_check_plans) (defBody s_check_plans) (defScope s_check_plans) .none kV dc pm an cd ct) := by
  have F := fun_mk (st := s_check_plans) lk c k
  exact ⟨F, PySem.W.mg_of X G a, F.binds (ps := ["plans", "length"]) fun _ _ _ _ _ _ us hl => match us, hl with | [_, _], _ => rfl⟩
theorem mkD_pool {K : PySem.W.Frag} {h : Heap} {mg : Str → Option Value} (X : K.In h) (G : h.Ns mainGlobals mg) {f : Addr} {od an : Option Addr} {sl : Array (Option Value)} {oc kV dc pm cd ct : Value} (a : PySem.W.nsIn K mainGlobals "_law_pool" = some (some (.ref f))) (lk : K.lookup f = some ⟨oc, od, .func (PySem.W.fnOf "_law_pool" "_law_pool" (defArgs s_pool) (defBody s_pool) (defScope s_pool) .none kV dc pm an cd ct), sl⟩) (c : PySem.W.codeIn K cd "_law_pool" = true) (k : PySem.W.keepIn K (.ref f) = true) : Dn K mg "_law_pool" s_pool ["_law_script", "_law_k"] f (PySem.W.fnOf "_law_pool" "_law_pool" (defArgs s_pool) (defBody s_pool) (defScope s_pool) .none kV dc pm an cd ct) := by
  have F := fun_mk (st := s_pool) lk c k
  exact ⟨F, PySem.W.mg_of X G a, F.binds (ps := ["_law_script", "_law_k"]) fun _ _ _ _ _ _ us hl => match us, hl with | [_, _], _ => rfl⟩
theorem mkD_take {K : PySem.W.Frag} {h : Heap} {mg : Str → Option Value} (X : K.In h) (G : h.Ns mainGlobals mg) {f : Addr} {od an : Option Addr} {sl : Array (Option Value)} {oc kV dc pm cd ct : Value} (a : PySem.W.nsIn K mainGlobals "_law_take" = some (some (.ref f))) (lk : K.lookup f = some ⟨oc, od, .func (PySem.W.fnOf "_law_take" "_law_take" (defArgs s_take) (defBody s_take) (defScope s_take) .none kV dc pm an cd ct), sl⟩) (c : PySem.W.codeIn K cd "_law_take" = true) (k : PySem.W.keepIn K (.ref f) = true) : Dn K mg "_law_take" s_take ["_law_pool_here", "_law_many"] f (PySem.W.fnOf "_law_take" "_law_take" (defArgs s_take) (defBody s_take) (defScope s_take) .none kV dc pm an cd ct) := by
  have F := fun_mk (st := s_take) lk c k
  exact ⟨F, PySem.W.mg_of X G a, F.binds (ps := ["_law_pool_here", "_law_many"]) fun _ _ _ _ _ _ us hl => match us, hl with | [_, _], _ => rfl⟩
theorem mkD_sound {K : PySem.W.Frag} {h : Heap} {mg : Str → Option Value} (X : K.In h) (G : h.Ns mainGlobals mg) {f : Addr} {od an : Option Addr} {sl : Array (Option Value)} {oc kV dc pm cd ct : Value} (a : PySem.W.nsIn K mainGlobals "_law_sound" = some (some (.ref f))) (lk : K.lookup f = some ⟨oc, od, .func (PySem.W.fnOf "_law_sound" "_law_sound" (defArgs s_sound) (defBody s_sound) (defScope s_sound) .none kV dc pm an cd ct), sl⟩) (c : PySem.W.codeIn K cd "_law_sound" = true) (k : PySem.W.keepIn K (.ref f) = true) : Dn K mg "_law_sound" s_sound ["_law_pool_here", "_law_most", "_law_size"] f (PySem.W.fnOf "_law_sound" "_law_sound" (defArgs s_sound) (defBody s_sound) (defScope s_sound) .none kV dc pm an cd ct) := by
  have F := fun_mk (st := s_sound) lk c k
  exact ⟨F, PySem.W.mg_of X G a, F.binds (ps := ["_law_pool_here", "_law_most", "_law_size"]) fun _ _ _ _ _ _ us hl => match us, hl with | [_, _, _], _ => rfl⟩
theorem mkD_plan {K : PySem.W.Frag} {h : Heap} {mg : Str → Option Value} (X : K.In h) (G : h.Ns mainGlobals mg) {f : Addr} {od an : Option Addr} {sl : Array (Option Value)} {oc kV dc pm cd ct : Value} (a : PySem.W.nsIn K mainGlobals "_law_plan" = some (some (.ref f))) (lk : K.lookup f = some ⟨oc, od, .func (PySem.W.fnOf "_law_plan" "_law_plan" (defArgs s_plan) (defBody s_plan) (defScope s_plan) .none kV dc pm an cd ct), sl⟩) (c : PySem.W.codeIn K cd "_law_plan" = true) (k : PySem.W.keepIn K (.ref f) = true) : Dn K mg "_law_plan" s_plan ["_law_pool_here", "_law_length", "_law_most", "_law_steps"] f (PySem.W.fnOf "_law_plan" "_law_plan" (defArgs s_plan) (defBody s_plan) (defScope s_plan) .none kV dc pm an cd ct) := by
  have F := fun_mk (st := s_plan) lk c k
  exact ⟨F, PySem.W.mg_of X G a, F.binds (ps := ["_law_pool_here", "_law_length", "_law_most", "_law_steps"]) fun _ _ _ _ _ _ us hl => match us, hl with | [_, _, _, _], _ => rfl⟩
theorem mkD_even {K : PySem.W.Frag} {h : Heap} {mg : Str → Option Value} (X : K.In h) (G : h.Ns mainGlobals mg) {f : Addr} {od an : Option Addr} {sl : Array (Option Value)} {oc kV dc pm cd ct : Value} (a : PySem.W.nsIn K mainGlobals "_law_even" = some (some (.ref f))) (lk : K.lookup f = some ⟨oc, od, .func (PySem.W.fnOf "_law_even" "_law_even" (defArgs s_even) (defBody s_even) (defScope s_even) .none kV dc pm an cd ct), sl⟩) (c : PySem.W.codeIn K cd "_law_even" = true) (k : PySem.W.keepIn K (.ref f) = true) : Dn K mg "_law_even" s_even ["_law_length", "_law_block", "_law_joint", "_law_levels", "_law_step"] f (PySem.W.fnOf "_law_even" "_law_even" (defArgs s_even) (defBody s_even) (defScope s_even) .none kV dc pm an cd ct) := by
  have F := fun_mk (st := s_even) lk c k
  exact ⟨F, PySem.W.mg_of X G a, F.binds (ps := ["_law_length", "_law_block", "_law_joint", "_law_levels", "_law_step"]) fun _ _ _ _ _ _ us hl => match us, hl with | [_, _, _, _, _], _ => rfl⟩
theorem mkD_said {K : PySem.W.Frag} {h : Heap} {mg : Str → Option Value} (X : K.In h) (G : h.Ns mainGlobals mg) {f : Addr} {od an : Option Addr} {sl : Array (Option Value)} {oc kV dc pm cd ct : Value} (a : PySem.W.nsIn K mainGlobals "_law_said" = some (some (.ref f))) (lk : K.lookup f = some ⟨oc, od, .func (PySem.W.fnOf "_law_said" "_law_said" (defArgs s_said) (defBody s_said) (defScope s_said) .none kV dc pm an cd ct), sl⟩) (c : PySem.W.codeIn K cd "_law_said" = true) (k : PySem.W.keepIn K (.ref f) = true) : Dn K mg "_law_said" s_said ["_law_length", "_law_block", "_law_joint", "_law_levels", "_law_step"] f (PySem.W.fnOf "_law_said" "_law_said" (defArgs s_said) (defBody s_said) (defScope s_said) .none kV dc pm an cd ct) := by
  have F := fun_mk (st := s_said) lk c k
  exact ⟨F, PySem.W.mg_of X G a, F.binds (ps := ["_law_length", "_law_block", "_law_joint", "_law_levels", "_law_step"]) fun _ _ _ _ _ _ us hl => match us, hl with | [_, _, _, _, _], _ => rfl⟩
theorem all_mk {l : PySem.W.OpenLaw} {w : World} {K : PySem.W.Frag} {h : Heap} {mg : Str → Option Value} {fa : Addr} (X : K.In h) (G : h.Ns mainGlobals mg) (hfa : mg "law" = some (.ref fa))
    {f_is_integer : Addr} {fd_is_integer : FuncData}
    {f_is_within : Addr} {fd_is_within : FuncData}
    {f_check_integer : Addr} {fd_check_integer : FuncData}
    {f_check_within : Addr} {fd_check_within : FuncData}
    {f_check_items : Addr} {fd_check_items : FuncData}
    {f_check_sound : Addr} {fd_check_sound : FuncData}
    {f_check_block : Addr} {fd_check_block : FuncData}
    {f_is_joint : Addr} {fd_is_joint : FuncData}
    {f_fold_pair : Addr} {fd_fold_pair : FuncData}
    {f_unfold_pair : Addr} {fd_unfold_pair : FuncData}
    {f_check_pair : Addr} {fd_check_pair : FuncData}
    {f_folded : Addr} {fd_folded : FuncData}
    {f_turned : Addr} {fd_turned : FuncData}
    {f_check_joints : Addr} {fd_check_joints : FuncData}
    {f_is_placed_joint : Addr} {fd_is_placed_joint : FuncData}
    {f_has_room : Addr} {fd_has_room : FuncData}
    {f_split_levels : Addr} {fd_split_levels : FuncData}
    {f_split_once : Addr} {fd_split_once : FuncData}
    {f_coarse_count : Addr} {fd_coarse_count : FuncData}
    {f_quantized : Addr} {fd_quantized : FuncData}
    {f_is_table : Addr} {fd_is_table : FuncData}
    {f_is_tables : Addr} {fd_is_tables : FuncData}
    {f_parameter : Addr} {fd_parameter : FuncData}
    {f_table_behind : Addr} {fd_table_behind : FuncData}
    {f_code_number : Addr} {fd_code_number : FuncData}
    {f_number_with : Addr} {fd_number_with : FuncData}
    {f_code_bits : Addr} {fd_code_bits : FuncData}
    {f_write_numbers : Addr} {fd_write_numbers : FuncData}
    {f_read_numbers : Addr} {fd_read_numbers : FuncData}
    {f_check_coding : Addr} {fd_check_coding : FuncData}
    {f_read_code : Addr} {fd_read_code : FuncData}
    {f_mark_of : Addr} {fd_mark_of : FuncData}
    {f_is_record : Addr} {fd_is_record : FuncData}
    {f_is_state : Addr} {fd_is_state : FuncData}
    {f_is_frame : Addr} {fd_is_frame : FuncData}
    {f_is_layout : Addr} {fd_is_layout : FuncData}
    {f_is_bits : Addr} {fd_is_bits : FuncData}
    {f_record_size : Addr} {fd_record_size : FuncData}
    {f_read_frame : Addr} {fd_read_frame : FuncData}
    {f_placed_joints : Addr} {fd_placed_joints : FuncData}
    {f_check_records : Addr} {fd_check_records : FuncData}
    {f_read_frames : Addr} {fd_read_frames : FuncData}
    {f_encode kw_encode : Addr} {od_encode an_encode : Option Addr} {sl_encode : Array (Option Value)} {oc_encode dc_encode pm_encode cd_encode ct_encode : Value} {tk_encode_states : Tok}
    {f_check_plan : Addr} {fd_check_plan : FuncData}
    {f_coded_records : Addr} {fd_coded_records : FuncData}
    {f_coded_frame : Addr} {fd_coded_frame : FuncData}
    {f_even_plan : Addr} {fd_even_plan : FuncData}
    {f_smallest : Addr} {fd_smallest : FuncData}
    {f_check_plans : Addr} {fd_check_plans : FuncData}
    {f_pool : Addr} {fd_pool : FuncData}
    {f_take : Addr} {fd_take : FuncData}
    {f_sound : Addr} {fd_sound : FuncData}
    {f_plan : Addr} {fd_plan : FuncData}
    {f_even : Addr} {fd_even : FuncData}
    {f_said : Addr} {fd_said : FuncData}
    {f_law : Addr} {od_law an_law : Option Addr} {sl_law : Array (Option Value)} {oc_law kV_law dc_law pm_law cd_law ct_law : Value}
    {t_BLOCK_LIMIT : Tok}
    {t_COUNT_LIMIT : Tok}
    {t_SHAPE_LIMIT : Tok}
    {t_WIDTH_LIMIT : Tok}
    {t_LEVEL_LIMIT : Tok}
    {t_STEP_LIMIT : Tok}
    {t_MARK_MODULUS : Tok}
    {t_HALVED_COUNT : Tok}
    {t_LONG_FORM : Tok}
    {t_MARK_FACTOR : Tok}
    {t_FRAME_ITEMS : Tok}
    {t_STATES_LIMIT : Tok}
    {t_LENGTH_LIMIT : Tok}
    {t_STATE_SIZE : Tok}
    {t_FRAME_SIZE : Tok}
    (D_is_integer : Dn K mg "is_integer" s_is_integer ["value"] f_is_integer fd_is_integer)
    (D_is_within : Dn K mg "is_within" s_is_within ["value", "low", "high"] f_is_within fd_is_within)
    (D_check_integer : Dn K mg "check_integer" s_check_integer ["value"] f_check_integer fd_check_integer)
    (D_check_within : Dn K mg "check_within" s_check_within ["value", "low", "high"] f_check_within fd_check_within)
    (D_check_items : Dn K mg "check_items" s_check_items ["values"] f_check_items fd_check_items)
    (D_check_sound : Dn K mg "check_sound" s_check_sound ["values"] f_check_sound fd_check_sound)
    (D_check_block : Dn K mg "check_block" s_check_block ["values", "least"] f_check_block fd_check_block)
    (D_is_joint : Dn K mg "is_joint" s_is_joint ["value"] f_is_joint fd_is_joint)
    (D_fold_pair : Dn K mg "fold_pair" s_fold_pair ["shape", "a", "b"] f_fold_pair fd_fold_pair)
    (D_unfold_pair : Dn K mg "unfold_pair" s_unfold_pair ["shape", "a", "b"] f_unfold_pair fd_unfold_pair)
    (D_check_pair : Dn K mg "check_pair" s_check_pair ["shape", "a", "b"] f_check_pair fd_check_pair)
    (D_folded : Dn K mg "folded" s_folded ["values", "joints"] f_folded fd_folded)
    (D_turned : Dn K mg "turned" s_turned ["values", "joints", "turn"] f_turned fd_turned)
    (D_check_joints : Dn K mg "check_joints" s_check_joints ["joints", "length"] f_check_joints fd_check_joints)
    (D_is_placed_joint : Dn K mg "is_placed_joint" s_is_placed_joint ["value"] f_is_placed_joint fd_is_placed_joint)
    (D_has_room : Dn K mg "has_room" s_has_room ["item", "before", "width_before", "length"] f_has_room fd_has_room)
    (D_split_levels : Dn K mg "split_levels" s_split_levels ["values", "levels"] f_split_levels fd_split_levels)
    (D_split_once : Dn K mg "split_once" s_split_once ["values"] f_split_once fd_split_once)
    (D_coarse_count : Dn K mg "coarse_count" s_coarse_count ["length", "levels"] f_coarse_count fd_coarse_count)
    (D_quantized : Dn K mg "quantized" s_quantized ["value", "step"] f_quantized fd_quantized)
    (D_is_table : Dn K mg "is_table" s_is_table ["value"] f_is_table fd_is_table)
    (D_is_tables : Dn K mg "is_tables" s_is_tables ["value"] f_is_tables fd_is_tables)
    (D_parameter : Dn K mg "parameter" s_parameter ["table"] f_parameter fd_parameter)
    (D_table_behind : Dn K mg "table_behind" s_table_behind ["table", "code"] f_table_behind fd_table_behind)
    (D_code_number : Dn K mg "code_number" s_code_number ["number"] f_code_number fd_code_number)
    (D_number_with : Dn K mg "number_with" s_number_with ["code"] f_number_with fd_number_with)
    (D_code_bits : Dn K mg "code_bits" s_code_bits ["code", "k"] f_code_bits fd_code_bits)
    (D_write_numbers : Dn K mg "write_numbers" s_write_numbers ["numbers", "coarse", "tables"] f_write_numbers fd_write_numbers)
    (D_read_numbers : Dn K mg "read_numbers" s_read_numbers ["bits", "length", "coarse", "tables"] f_read_numbers fd_read_numbers)
    (D_check_coding : Dn K mg "check_coding" s_check_coding ["length", "coarse", "tables"] f_check_coding fd_check_coding)
    (D_read_code : Dn K mg "read_code" s_read_code ["bits", "place", "k"] f_read_code fd_read_code)
    (D_mark_of : Dn K mg "mark_of" s_mark_of ["numbers"] f_mark_of fd_mark_of)
    (D_is_record : Dn K mg "is_record" s_is_record ["value"] f_is_record fd_is_record)
    (D_is_state : Dn K mg "is_state" s_is_state ["value"] f_is_state fd_is_state)
    (D_is_frame : Dn K mg "is_frame" s_is_frame ["value"] f_is_frame fd_is_frame)
    (D_is_layout : Dn K mg "is_layout" s_is_layout ["value"] f_is_layout fd_is_layout)
    (D_is_bits : Dn K mg "is_bits" s_is_bits ["value"] f_is_bits fd_is_bits)
    (D_record_size : Dn K mg "record_size" s_record_size ["record"] f_record_size fd_record_size)
    (D_read_frame : Dn K mg "read_frame" s_read_frame ["record", "tables"] f_read_frame fd_read_frame)
    (D_placed_joints : Dn K mg "placed_joints" s_placed_joints ["lengths", "joints"] f_placed_joints fd_placed_joints)
    (D_check_records : Dn K mg "check_records" s_check_records ["records"] f_check_records fd_check_records)
    (D_read_frames : Dn K mg "read_frames" s_read_frames ["records"] f_read_frames fd_read_frames)
    (a_encode : PySem.W.nsIn K mainGlobals "encode" = some (some (.ref f_encode))) (l_encode : K.lookup f_encode = some ⟨oc_encode, od_encode, .func (PySem.W.fnOf "encode" "encode" (defArgs s_encode) (defBody s_encode) (defScope s_encode) .none (.ref kw_encode) dc_encode pm_encode an_encode cd_encode ct_encode), sl_encode⟩) (c_encode : PySem.W.codeIn K cd_encode "encode" = true) (k_encode : PySem.W.keepIn K (.ref f_encode) = true)
    (n_encode_states : PySem.W.nsIn K kw_encode "states" = some (some (.int 0 tk_encode_states)))
    (D_check_plan : Dn K mg "check_plan" s_check_plan ["plan", "length"] f_check_plan fd_check_plan)
    (D_coded_records : Dn K mg "coded_records" s_coded_records ["sound", "plan", "states"] f_coded_records fd_coded_records)
    (D_coded_frame : Dn K mg "coded_frame" s_coded_frame ["values", "layout", "tables"] f_coded_frame fd_coded_frame)
    (D_even_plan : Dn K mg "even_plan" s_even_plan ["length", "block", "joint", "levels", "step"] f_even_plan fd_even_plan)
    (D_smallest : Dn K mg "smallest" s_smallest ["sound", "plans"] f_smallest fd_smallest)
    (D_check_plans : Dn K mg "check_plans" s_check_plans ["plans", "length"] f_check_plans fd_check_plans)
    (D_pool : Dn K mg "_law_pool" s_pool ["_law_script", "_law_k"] f_pool fd_pool)
    (D_take : Dn K mg "_law_take" s_take ["_law_pool_here", "_law_many"] f_take fd_take)
    (D_sound : Dn K mg "_law_sound" s_sound ["_law_pool_here", "_law_most", "_law_size"] f_sound fd_sound)
    (D_plan : Dn K mg "_law_plan" s_plan ["_law_pool_here", "_law_length", "_law_most", "_law_steps"] f_plan fd_plan)
    (D_even : Dn K mg "_law_even" s_even ["_law_length", "_law_block", "_law_joint", "_law_levels", "_law_step"] f_even fd_even)
    (D_said : Dn K mg "_law_said" s_said ["_law_length", "_law_block", "_law_joint", "_law_levels", "_law_step"] f_said fd_said)
    (a_law : PySem.W.nsIn K mainGlobals "law" = some (some (.ref f_law))) (l_law : K.lookup f_law = some ⟨oc_law, od_law, .func (PySem.W.fnOf "law" "law" (defArgs s_law) (defBody s_law) (defScope s_law) .none kV_law dc_law pm_law an_law cd_law ct_law), sl_law⟩) (c_law : PySem.W.codeIn K cd_law "law" = true) (k_law : PySem.W.keepIn K (.ref f_law) = true)
    (a_BLOCK_LIMIT : PySem.W.nsIn K mainGlobals "BLOCK_LIMIT" = some (some (.int 64 t_BLOCK_LIMIT)))
    (a_COUNT_LIMIT : PySem.W.nsIn K mainGlobals "COUNT_LIMIT" = some (some (.int 15 t_COUNT_LIMIT)))
    (a_SHAPE_LIMIT : PySem.W.nsIn K mainGlobals "SHAPE_LIMIT" = some (some (.int 3 t_SHAPE_LIMIT)))
    (a_WIDTH_LIMIT : PySem.W.nsIn K mainGlobals "WIDTH_LIMIT" = some (some (.int 8 t_WIDTH_LIMIT)))
    (a_LEVEL_LIMIT : PySem.W.nsIn K mainGlobals "LEVEL_LIMIT" = some (some (.int 5 t_LEVEL_LIMIT)))
    (a_STEP_LIMIT : PySem.W.nsIn K mainGlobals "STEP_LIMIT" = some (some (.int 64 t_STEP_LIMIT)))
    (a_MARK_MODULUS : PySem.W.nsIn K mainGlobals "MARK_MODULUS" = some (some (.int 9973 t_MARK_MODULUS)))
    (a_HALVED_COUNT : PySem.W.nsIn K mainGlobals "HALVED_COUNT" = some (some (.int 8 t_HALVED_COUNT)))
    (a_LONG_FORM : PySem.W.nsIn K mainGlobals "LONG_FORM" = some (some (.int 20 t_LONG_FORM)))
    (a_MARK_FACTOR : PySem.W.nsIn K mainGlobals "MARK_FACTOR" = some (some (.int 31 t_MARK_FACTOR)))
    (a_FRAME_ITEMS : PySem.W.nsIn K mainGlobals "FRAME_ITEMS" = some (some (.int 7 t_FRAME_ITEMS)))
    (a_STATES_LIMIT : PySem.W.nsIn K mainGlobals "STATES_LIMIT" = some (some (.int 1000 t_STATES_LIMIT)))
    (a_LENGTH_LIMIT : PySem.W.nsIn K mainGlobals "LENGTH_LIMIT" = some (some (.int 20000 t_LENGTH_LIMIT)))
    (a_STATE_SIZE : PySem.W.nsIn K mainGlobals "STATE_SIZE" = some (some (.int 80 t_STATE_SIZE)))
    (a_FRAME_SIZE : PySem.W.nsIn K mainGlobals "FRAME_SIZE" = some (some (.int 40 t_FRAME_SIZE)))
    {a_START t0 t1 a_HARD : Addr} {oS o0 o1 oH : Option Addr} {nS n0 n1 nH : Nat} {qS q0 q1 qH : Array (Option Value)} {b0 b1 d0 d1 bH dH : Tok} (zS : PySem.W.nsIn K mainGlobals "START" = some (some (.ref a_START))) (lS : K.lookup a_START = some ⟨.type "tuple", oS, .seq #[.ref t0, .ref t1] nS, qS⟩) (lt0 : K.lookup t0 = some ⟨.type "tuple", o0, .seq #[.int 2 b0, .int 1 d0] n0, q0⟩) (lt1 : K.lookup t1 = some ⟨.type "tuple", o1, .seq #[.int 2 b1, .int 1 d1] n1, q1⟩)
    (zH : PySem.W.nsIn K mainGlobals "HARD" = some (some (.ref a_HARD))) (lH : K.lookup a_HARD = some ⟨.type "tuple", oH, .seq #[.int 0 bH, .int 0 dH] nH, qH⟩)
    {a_COEFFICIENTS ct0 ct1 ct2 ct3 : Addr} {oC co0 co1 co2 co3 : Option Addr} {nC cn0 cn1 cn2 cn3 : Nat} {qC cq0 cq1 cq2 cq3 : Array (Option Value)} {cb0 cb1 cb2 cb3 cd0 cd1 cd2 cd3 : Tok} (zC : PySem.W.nsIn K mainGlobals "COEFFICIENTS" = some (some (.ref a_COEFFICIENTS))) (lC : K.lookup a_COEFFICIENTS = some ⟨.type "tuple", oC, .seq #[.ref ct0, .ref ct1, .ref ct2, .ref ct3] nC, qC⟩)
    (l0 : K.lookup ct0 = some ⟨.type "tuple", co0, .seq #[.int (-1) cb0, .int 2 cd0] cn0, cq0⟩) (l1 : K.lookup ct1 = some ⟨.type "tuple", co1, .seq #[.int (-2) cb1, .int 3 cd1] cn1, cq1⟩)
    (l2 : K.lookup ct2 = some ⟨.type "tuple", co2, .seq #[.int 1 cb2, .int (-2) cd2] cn2, cq2⟩) (l3 : K.lookup ct3 = some ⟨.type "tuple", co3, .seq #[.int 2 cb3, .int (-3) cd3] cn3, cq3⟩)
     (z_repr : PySem.W.nsIn K mainGlobals "repr" = some none)
     (z_sum : PySem.W.nsIn K mainGlobals "sum" = some none)
    (z_int : PySem.W.nsIn K mainGlobals "int" = some none)
    (z_bool : PySem.W.nsIn K mainGlobals "bool" = some none)
    (z_str : PySem.W.nsIn K mainGlobals "str" = some none)
    (z_list : PySem.W.nsIn K mainGlobals "list" = some none)
    (z_tuple : PySem.W.nsIn K mainGlobals "tuple" = some none)
    (z_len : PySem.W.nsIn K mainGlobals "len" = some none)
    (z_abs : PySem.W.nsIn K mainGlobals "abs" = some none)
    (z_max : PySem.W.nsIn K mainGlobals "max" = some none)
    (z_min : PySem.W.nsIn K mainGlobals "min" = some none)
    (z_range : PySem.W.nsIn K mainGlobals "range" = some none)
    (z_zip : PySem.W.nsIn K mainGlobals "zip" = some none)
    (z_isinstance : PySem.W.nsIn K mainGlobals "isinstance" = some none)
    (z_enumerate : PySem.W.nsIn K mainGlobals "enumerate" = some none)
    (z_reversed : PySem.W.nsIn K mainGlobals "reversed" = some none)
    {C_Stream : Addr} (x_Stream : PySem.W.nsIn K mainGlobals "Stream" = some (some (.ref C_Stream))) (pg_Stream : PySem.W.plainGet K C_Stream Str.empty = true) (hd_Stream : PySem.W.hasDictIn K C_Stream = true) (po_Stream : PySem.W.plainOver K C_Stream = true) (sa_Stream : PySem.W.findIn K (.ref C_Stream) "__setattr__" = some (some (.builtin "object.__setattr__"))) (mk_Stream : PySem.W.makesIn K C_Stream = true) (kc_Stream : PySem.W.keepIn K (.ref C_Stream) = true)
    (na_Stream_held : PySem.W.findIn K (.ref C_Stream) "held" = some none)
    (na_Stream_read : PySem.W.findIn K (.ref C_Stream) "read" = some none)
    {C_JoinError C_InvalidNumber C_InvalidJoint : Addr}
    (x_JoinError : PySem.W.nsIn K mainGlobals "JoinError" = some (some (.ref C_JoinError)))
    (x_InvalidNumber : PySem.W.nsIn K mainGlobals "InvalidNumber" = some (some (.ref C_InvalidNumber)))
    (x_InvalidJoint : PySem.W.nsIn K mainGlobals "InvalidJoint" = some (some (.ref C_InvalidJoint)))
    {N_InvalidNumber fI_InvalidNumber : Addr} {nm_InvalidNumber qn_InvalidNumber : Str} {bs_InvalidNumber : List Value} {sn_InvalidNumber : List Str} {sb_InvalidNumber : List Value} {ab_InvalidNumber : Bool} {co_InvalidNumber : Option Bool} {dd_InvalidNumber : Option Addr} {m0_InvalidNumber m1_InvalidNumber m2_InvalidNumber m3_InvalidNumber m5_InvalidNumber : Option Value} {odi_InvalidNumber ani_InvalidNumber : Option Addr} {sli_InvalidNumber : Array (Option Value)} {oci_InvalidNumber kVi_InvalidNumber dci_InvalidNumber pmi_InvalidNumber cdi_InvalidNumber cti_InvalidNumber : Value}
    (xl_InvalidNumber : K.lookup C_InvalidNumber = some (PySem.excClassObj nm_InvalidNumber qn_InvalidNumber C_InvalidNumber N_InvalidNumber bs_InvalidNumber [.ref C_JoinError, .type "ValueError", .type "Exception", .type "BaseException", .type "object"] true sn_InvalidNumber sb_InvalidNumber ab_InvalidNumber co_InvalidNumber dd_InvalidNumber m0_InvalidNumber m1_InvalidNumber m2_InvalidNumber m3_InvalidNumber m5_InvalidNumber "ValueError.__new__"))
    (sa_InvalidNumber : PySem.W.findIn K (.ref C_InvalidNumber) "__setattr__" = some (some (.builtin "object.__setattr__")))
    (ga_InvalidNumber : PySem.W.findIn K (.ref C_InvalidNumber) "__getattribute__" = some (some (.builtin "BaseException.__getattribute__")))
    (gg_InvalidNumber : PySem.W.findIn K (.ref C_InvalidNumber) "__getattr__" = some none)
    (nf_InvalidNumber : PySem.W.findIn K (.ref C_InvalidNumber) "value" = some none)
    (ic_InvalidNumber : PySem.W.findIn K (.ref C_InvalidNumber) "__init__" = some (some (.ref fI_InvalidNumber)))
    (ti_InvalidNumber : PySem.W.typeIn K (.ref fI_InvalidNumber) = some (.type "function"))
    (cac_InvalidNumber : PySem.W.findIn K (.ref C_InvalidNumber) "__class__" = some (some (.builtin "object.__class__")))
    (cmc_InvalidNumber : PySem.W.mroIn K C_InvalidNumber (.type "object") = some true)
    (kc_InvalidNumber : PySem.W.keepIn K (.ref C_InvalidNumber) = true)
    (sB_InvalidNumber : PySem.W.subIn K (.ref C_InvalidNumber) (.type "BaseException") = some true)
    (tc_InvalidNumber : PySem.W.typeIn K (.ref C_InvalidNumber) = some (.type "type"))
    (hd_InvalidNumber : PySem.W.hasDictIn K C_InvalidNumber = true)
    (ss_InvalidNumber : PySem.W.subIn K (.ref C_InvalidNumber) (.ref C_InvalidNumber) = some true)
    (li_InvalidNumber : K.lookup fI_InvalidNumber = some ⟨oci_InvalidNumber, odi_InvalidNumber, .func (PySem.W.fnOf "__init__" "InvalidNumber.__init__" (defArgs s_init_InvalidNumber) (defBody s_init_InvalidNumber) (defScope s_init_InvalidNumber) .none kVi_InvalidNumber dci_InvalidNumber pmi_InvalidNumber ani_InvalidNumber cdi_InvalidNumber cti_InvalidNumber), sli_InvalidNumber⟩)
    (ci_InvalidNumber : PySem.W.codeIn K cdi_InvalidNumber "InvalidNumber.__init__" = true)
    (ki_InvalidNumber : PySem.W.keepIn K (.ref fI_InvalidNumber) = true)
    {N_InvalidJoint fI_InvalidJoint : Addr} {nm_InvalidJoint qn_InvalidJoint : Str} {bs_InvalidJoint : List Value} {sn_InvalidJoint : List Str} {sb_InvalidJoint : List Value} {ab_InvalidJoint : Bool} {co_InvalidJoint : Option Bool} {dd_InvalidJoint : Option Addr} {m0_InvalidJoint m1_InvalidJoint m2_InvalidJoint m3_InvalidJoint m5_InvalidJoint : Option Value} {odi_InvalidJoint ani_InvalidJoint : Option Addr} {sli_InvalidJoint : Array (Option Value)} {oci_InvalidJoint kVi_InvalidJoint dci_InvalidJoint pmi_InvalidJoint cdi_InvalidJoint cti_InvalidJoint : Value}
    (xl_InvalidJoint : K.lookup C_InvalidJoint = some (PySem.excClassObj nm_InvalidJoint qn_InvalidJoint C_InvalidJoint N_InvalidJoint bs_InvalidJoint [.ref C_JoinError, .type "ValueError", .type "Exception", .type "BaseException", .type "object"] true sn_InvalidJoint sb_InvalidJoint ab_InvalidJoint co_InvalidJoint dd_InvalidJoint m0_InvalidJoint m1_InvalidJoint m2_InvalidJoint m3_InvalidJoint m5_InvalidJoint "ValueError.__new__"))
    (sa_InvalidJoint : PySem.W.findIn K (.ref C_InvalidJoint) "__setattr__" = some (some (.builtin "object.__setattr__")))
    (ga_InvalidJoint : PySem.W.findIn K (.ref C_InvalidJoint) "__getattribute__" = some (some (.builtin "BaseException.__getattribute__")))
    (gg_InvalidJoint : PySem.W.findIn K (.ref C_InvalidJoint) "__getattr__" = some none)
    (nf_InvalidJoint : PySem.W.findIn K (.ref C_InvalidJoint) "value" = some none)
    (ic_InvalidJoint : PySem.W.findIn K (.ref C_InvalidJoint) "__init__" = some (some (.ref fI_InvalidJoint)))
    (ti_InvalidJoint : PySem.W.typeIn K (.ref fI_InvalidJoint) = some (.type "function"))
    (cac_InvalidJoint : PySem.W.findIn K (.ref C_InvalidJoint) "__class__" = some (some (.builtin "object.__class__")))
    (cmc_InvalidJoint : PySem.W.mroIn K C_InvalidJoint (.type "object") = some true)
    (kc_InvalidJoint : PySem.W.keepIn K (.ref C_InvalidJoint) = true)
    (sB_InvalidJoint : PySem.W.subIn K (.ref C_InvalidJoint) (.type "BaseException") = some true)
    (tc_InvalidJoint : PySem.W.typeIn K (.ref C_InvalidJoint) = some (.type "type"))
    (hd_InvalidJoint : PySem.W.hasDictIn K C_InvalidJoint = true)
    (ss_InvalidJoint : PySem.W.subIn K (.ref C_InvalidJoint) (.ref C_InvalidJoint) = some true)
    (li_InvalidJoint : K.lookup fI_InvalidJoint = some ⟨oci_InvalidJoint, odi_InvalidJoint, .func (PySem.W.fnOf "__init__" "InvalidJoint.__init__" (defArgs s_init_InvalidJoint) (defBody s_init_InvalidJoint) (defScope s_init_InvalidJoint) .none kVi_InvalidJoint dci_InvalidJoint pmi_InvalidJoint ani_InvalidJoint cdi_InvalidJoint cti_InvalidJoint), sli_InvalidJoint⟩)
    (ci_InvalidJoint : PySem.W.codeIn K cdi_InvalidJoint "InvalidJoint.__init__" = true)
    (ki_InvalidJoint : PySem.W.keepIn K (.ref fI_InvalidJoint) = true)
    (w_InvalidJoint_InvalidNumber : PySem.W.subIn K (.ref C_InvalidJoint) (.ref C_InvalidNumber) = some false)
    (ca_Stream : PySem.W.findIn K (.ref C_Stream) "__class__" = some (some (.builtin "object.__class__"))) (cm_Stream : PySem.W.mroIn K C_Stream (.type "object") = some true)
    (cn : PySem.W.specialIn K (.builtin "object.__class__") "__get__" = some (some (.builtin "getset_descriptor.__get__"))) (ct : PySem.W.takesIn K (.builtin "object.__class__") = some true)
    {f_Stream___init__ : Addr} {od_Stream___init__ an_Stream___init__ : Option Addr} {sl_Stream___init__ : Array (Option Value)} {oc_Stream___init__ kV_Stream___init__ dc_Stream___init__ pm_Stream___init__ cd_Stream___init__ ct_Stream___init__ : Value}
    (at_Stream___init__ : PySem.W.findIn K (.ref C_Stream) "__init__" = some (some (.ref f_Stream___init__))) (if_Stream___init__ : PySem.W.isFn K (.ref f_Stream___init__) = true)
    (l_Stream___init__ : K.lookup f_Stream___init__ = some ⟨oc_Stream___init__, od_Stream___init__, .func (PySem.W.fnOf "__init__" "Stream.__init__" (defArgs s_Stream___init__) (defBody s_Stream___init__) (defScope s_Stream___init__) .none kV_Stream___init__ dc_Stream___init__ pm_Stream___init__ an_Stream___init__ cd_Stream___init__ ct_Stream___init__), sl_Stream___init__⟩) (c_Stream___init__ : PySem.W.codeIn K cd_Stream___init__ "Stream.__init__" = true) (k_Stream___init__ : PySem.W.keepIn K (.ref f_Stream___init__) = true)
    {f_Stream___eq__ : Addr} {od_Stream___eq__ an_Stream___eq__ : Option Addr} {sl_Stream___eq__ : Array (Option Value)} {oc_Stream___eq__ kV_Stream___eq__ dc_Stream___eq__ pm_Stream___eq__ cd_Stream___eq__ ct_Stream___eq__ : Value}
    (at_Stream___eq__ : PySem.W.findIn K (.ref C_Stream) "__eq__" = some (some (.ref f_Stream___eq__))) (if_Stream___eq__ : PySem.W.isFn K (.ref f_Stream___eq__) = true)
    (l_Stream___eq__ : K.lookup f_Stream___eq__ = some ⟨oc_Stream___eq__, od_Stream___eq__, .func (PySem.W.fnOf "__eq__" "Stream.__eq__" (defArgs s_Stream___eq__) (defBody s_Stream___eq__) (defScope s_Stream___eq__) .none kV_Stream___eq__ dc_Stream___eq__ pm_Stream___eq__ an_Stream___eq__ cd_Stream___eq__ ct_Stream___eq__), sl_Stream___eq__⟩) (c_Stream___eq__ : PySem.W.codeIn K cd_Stream___eq__ "Stream.__eq__" = true) (k_Stream___eq__ : PySem.W.keepIn K (.ref f_Stream___eq__) = true)
    {f_Stream_records : Addr} {od_Stream_records an_Stream_records : Option Addr} {sl_Stream_records : Array (Option Value)} {oc_Stream_records kV_Stream_records dc_Stream_records pm_Stream_records cd_Stream_records ct_Stream_records : Value}
    {p_Stream_records : Addr} {rs_Stream_records : List Value} (at_Stream_records : PySem.W.findIn K (.ref C_Stream) "records" = some (some (.ref p_Stream_records))) (gt_Stream_records : PySem.W.specialIn K (.ref p_Stream_records) "__get__" = some (some (.builtin "property.__get__"))) (tk_Stream_records : PySem.W.takesIn K (.ref p_Stream_records) = some true) (rc_Stream_records : PySem.W.recIn K p_Stream_records "property" = some (.ref f_Stream_records :: rs_Stream_records))
    (l_Stream_records : K.lookup f_Stream_records = some ⟨oc_Stream_records, od_Stream_records, .func (PySem.W.fnOf "records" "Stream.records" (defArgs s_Stream_records) (defBody s_Stream_records) (defScope s_Stream_records) .none kV_Stream_records dc_Stream_records pm_Stream_records an_Stream_records cd_Stream_records ct_Stream_records), sl_Stream_records⟩) (c_Stream_records : PySem.W.codeIn K cd_Stream_records "Stream.records" = true) (k_Stream_records : PySem.W.keepIn K (.ref f_Stream_records) = true)
    {f_Stream_size : Addr} {od_Stream_size an_Stream_size : Option Addr} {sl_Stream_size : Array (Option Value)} {oc_Stream_size kV_Stream_size dc_Stream_size pm_Stream_size cd_Stream_size ct_Stream_size : Value}
    (at_Stream_size : PySem.W.findIn K (.ref C_Stream) "size" = some (some (.ref f_Stream_size))) (if_Stream_size : PySem.W.isFn K (.ref f_Stream_size) = true)
    (l_Stream_size : K.lookup f_Stream_size = some ⟨oc_Stream_size, od_Stream_size, .func (PySem.W.fnOf "size" "Stream.size" (defArgs s_Stream_size) (defBody s_Stream_size) (defScope s_Stream_size) .none kV_Stream_size dc_Stream_size pm_Stream_size an_Stream_size cd_Stream_size ct_Stream_size), sl_Stream_size⟩) (c_Stream_size : PySem.W.codeIn K cd_Stream_size "Stream.size" = true) (k_Stream_size : PySem.W.keepIn K (.ref f_Stream_size) = true)
    : ∃ fd : FuncData, (∀ (s : Shared) (v : Value), BindsTo s fd ⟨[v], []⟩ [("_law_script", v)]) ∧ ∀ base : Heap, K.In base → base.Ns mainGlobals mg → FnOk l.prog w K mg base CX0 13 fa fd ["_law_script"] (spLaw K) := by
  have e := hfa.symm.trans (PySem.W.mg_of X G a_law)
  cases e
  have bi : Bi mg := ⟨PySem.W.mg_none_of X G z_int, PySem.W.mg_none_of X G z_bool, PySem.W.mg_none_of X G z_str, PySem.W.mg_none_of X G z_list, PySem.W.mg_none_of X G z_tuple, PySem.W.mg_none_of X G z_len, PySem.W.mg_none_of X G z_abs, PySem.W.mg_none_of X G z_max, PySem.W.mg_none_of X G z_min, PySem.W.mg_none_of X G z_range, PySem.W.mg_none_of X G z_zip, PySem.W.mg_none_of X G z_isinstance, PySem.W.mg_none_of X G z_enumerate, PySem.W.mg_none_of X G z_reversed⟩
  have F_encode := fun_mk (st := s_encode) l_encode c_encode k_encode
  have FD_encode : FunD K "encode" "encode" (defArgs s_encode) (defBody s_encode) (defScope s_encode) [] [("states", V.int 0)] f_encode _ := ⟨⟨_, _, _, _, _, _, _, _, _, _, rfl, l_encode, c_encode, .inl ⟨rfl, rfl⟩, .inr ⟨kw_encode, rfl, fun q hq => by
    rw [List.mem_singleton.mp hq]
    exact ⟨_, n_encode_states, ⟨_, rfl⟩⟩⟩⟩, k_encode⟩
  have D_encode : Kn K mg "encode" s_encode ["sound", "plan", "states"] 2 ["states"] [.int 0] f_encode _ := ⟨F_encode, PySem.W.mg_of X G a_encode, FD_encode.binds0 (ps := ["sound", "plan", "states"]) 2 (fun z => nomatch z) rfl (fun D doc pm an cdv ct us ks h1 h2 => by
      obtain ⟨x1, x2, rfl⟩ := len2 h1
      obtain ⟨y1, rfl⟩ := len1 h2
      exact ⟨_, _, _, _, _, _, rfl, rfl, rfl⟩), ⟨fun s us ws X h1 h2 => by
      obtain ⟨x1, x2, rfl⟩ := len2 h1
      obtain ⟨y1, rfl⟩ := len1 h2
      exact .of_eq rfl, fun r1 r2 => r1.append r2⟩⟩
  have F_law := fun_mk (st := s_law) l_law c_law k_law
  have D_law : Dn K mg "law" s_law ["_law_script"] _ _ := ⟨F_law, PySem.W.mg_of X G a_law, F_law.binds (ps := ["_law_script"]) fun _ _ _ _ _ _ us hl => match us, hl with | [_], _ => rfl⟩
  have TC_Stream : StmC K mg C_Stream := ⟨⟨pg_Stream, hd_Stream, po_Stream, sa_Stream⟩, PySem.W.mg_of X G x_Stream, mk_Stream, kc_Stream, na_Stream_held, na_Stream_read⟩
  have F_Stream___init__ := fun_mk (st := s_Stream___init__) l_Stream___init__ c_Stream___init__ k_Stream___init__
  have D_Stream___init__ : Mn K C_Stream "__init__" "Stream.__init__" s_Stream___init__ ["self", "records"] _ _ := ⟨F_Stream___init__, ⟨at_Stream___init__, if_Stream___init__, k_Stream___init__⟩, F_Stream___init__.binds (ps := ["self", "records"]) fun _ _ _ _ _ _ us hl => match us, hl with | [_, _], _ => rfl⟩
  have F_Stream___eq__ := fun_mk (st := s_Stream___eq__) l_Stream___eq__ c_Stream___eq__ k_Stream___eq__
  have D_Stream___eq__ : Mn K C_Stream "__eq__" "Stream.__eq__" s_Stream___eq__ ["self", "other"] _ _ := ⟨F_Stream___eq__, ⟨at_Stream___eq__, if_Stream___eq__, k_Stream___eq__⟩, F_Stream___eq__.binds (ps := ["self", "other"]) fun _ _ _ _ _ _ us hl => match us, hl with | [_, _], _ => rfl⟩
  have F_Stream_records := fun_mk (st := s_Stream_records) l_Stream_records c_Stream_records k_Stream_records
  have D_Stream_records : Pn K C_Stream "records" "Stream.records" s_Stream_records ["self"] p_Stream_records _ _ := ⟨F_Stream_records, ⟨at_Stream_records, gt_Stream_records, tk_Stream_records, rs_Stream_records, rc_Stream_records⟩, F_Stream_records.binds (ps := ["self"]) fun _ _ _ _ _ _ us hl => match us, hl with | [_], _ => rfl⟩
  have F_Stream_size := fun_mk (st := s_Stream_size) l_Stream_size c_Stream_size k_Stream_size
  have D_Stream_size : Mn K C_Stream "size" "Stream.size" s_Stream_size ["self"] _ _ := ⟨F_Stream_size, ⟨at_Stream_size, if_Stream_size, k_Stream_size⟩, F_Stream_size.binds (ps := ["self"]) fun _ _ _ _ _ _ us hl => match us, hl with | [_], _ => rfl⟩
  have F_init_InvalidNumber := fun_mk (st := s_init_InvalidNumber) li_InvalidNumber ci_InvalidNumber ki_InvalidNumber
  have B_init_InvalidNumber := F_init_InvalidNumber.binds (ps := ["self", "value"]) fun _ _ _ _ _ _ us hl => match us, hl with | [_, _], _ => rfl
  have E_InvalidNumber : EC K mg "InvalidNumber" "value" C_InvalidNumber fI_InvalidNumber := ec_mk (PySem.W.mg_of X G x_InvalidNumber) xl_InvalidNumber rfl sa_InvalidNumber ga_InvalidNumber gg_InvalidNumber nf_InvalidNumber ic_InvalidNumber ti_InvalidNumber cac_InvalidNumber cn ct cmc_InvalidNumber kc_InvalidNumber sB_InvalidNumber tc_InvalidNumber hd_InvalidNumber ss_InvalidNumber
  have F_init_InvalidJoint := fun_mk (st := s_init_InvalidJoint) li_InvalidJoint ci_InvalidJoint ki_InvalidJoint
  have B_init_InvalidJoint := F_init_InvalidJoint.binds (ps := ["self", "value"]) fun _ _ _ _ _ _ us hl => match us, hl with | [_, _], _ => rfl
  have E_InvalidJoint : EC K mg "InvalidJoint" "value" C_InvalidJoint fI_InvalidJoint := ec_mk (PySem.W.mg_of X G x_InvalidJoint) xl_InvalidJoint rfl sa_InvalidJoint ga_InvalidJoint gg_InvalidJoint nf_InvalidJoint ic_InvalidJoint ti_InvalidJoint cac_InvalidJoint cn ct cmc_InvalidJoint kc_InvalidJoint sB_InvalidJoint tc_InvalidJoint hd_InvalidJoint ss_InvalidJoint
  have g_JoinError := PySem.W.mg_of X G x_JoinError
  have g_InvalidNumber := PySem.W.mg_of X G x_InvalidNumber
  have g_InvalidJoint := PySem.W.mg_of X G x_InvalidJoint
  have m_InvalidJoint_InvalidNumber := PySem.W.exm_ref sB_InvalidNumber hd_InvalidNumber tc_InvalidNumber w_InvalidJoint_InvalidNumber
  refine ⟨PySem.W.fnOf "law" "law" (defArgs s_law) (defBody s_law) (defScope s_law) .none kV_law dc_law pm_law an_law cd_law ct_law, fun s v => .of_eq rfl, fun base _ _ => ?_⟩
  have hSt := tupV_K (xs := [.ref t0, .ref t1]) lS (Nat.le_of_ble_eq_true rfl) (.cons rfl (.cons rfl .nil))
  have hS0 := tupV_K (xs := [.int 2, .int 1]) lt0 (Nat.le_of_ble_eq_true rfl) (.cons ⟨_, rfl⟩ (.cons ⟨_, rfl⟩ .nil))
  have hS1 := tupV_K (xs := [.int 2, .int 1]) lt1 (Nat.le_of_ble_eq_true rfl) (.cons ⟨_, rfl⟩ (.cons ⟨_, rfl⟩ .nil))
  have hHd := tupV_K (xs := [.int 0, .int 0]) lH (Nat.le_of_ble_eq_true rfl) (.cons ⟨_, rfl⟩ (.cons ⟨_, rfl⟩ .nil))
  have hCo := seqT_K (xs := [.ref ct0, .ref ct1, .ref ct2, .ref ct3]) lC (Nat.le_of_ble_eq_true rfl) (.cons rfl (.cons rfl (.cons rfl (.cons rfl .nil))))
  have hC0 := seqT_K (xs := [.int (-1), .int 2]) l0 (Nat.le_of_ble_eq_true rfl) (.cons ⟨_, rfl⟩ (.cons ⟨_, rfl⟩ .nil))
  have hC1 := seqT_K (xs := [.int (-2), .int 3]) l1 (Nat.le_of_ble_eq_true rfl) (.cons ⟨_, rfl⟩ (.cons ⟨_, rfl⟩ .nil))
  have hC2 := seqT_K (xs := [.int 1, .int (-2)]) l2 (Nat.le_of_ble_eq_true rfl) (.cons ⟨_, rfl⟩ (.cons ⟨_, rfl⟩ .nil))
  have hC3 := seqT_K (xs := [.int 2, .int (-3)]) l3 (Nat.le_of_ble_eq_true rfl) (.cons ⟨_, rfl⟩ (.cons ⟨_, rfl⟩ .nil))
  have T_InvalidNumber : ErrK l.prog w K mg base "InvalidNumber" "value" C_InvalidNumber := ⟨_, _, E_InvalidNumber, ok_init_InvalidNumber F_init_InvalidNumber E_InvalidNumber, B_init_InvalidNumber⟩
  have T_InvalidJoint : ErrK l.prog w K mg base "InvalidJoint" "value" C_InvalidJoint := ⟨_, _, E_InvalidJoint, ok_init_InvalidJoint F_init_InvalidJoint E_InvalidJoint, B_init_InvalidJoint⟩
  have G_is_integer := ok_is_integer (P := l.prog) (w := w) (base := base) D_is_integer bi     
  have G_is_within := ok_is_within (P := l.prog) (w := w) (base := base) D_is_within bi G_is_integer D_is_integer    
  have G_is_joint := ok_is_joint (P := l.prog) (w := w) (base := base) D_is_joint bi G_is_within D_is_within    ⟨_, PySem.W.mg_of X G a_WIDTH_LIMIT⟩ ⟨_, PySem.W.mg_of X G a_SHAPE_LIMIT⟩
  have G_is_table := ok_is_table (P := l.prog) (w := w) (base := base) D_is_table bi G_is_integer D_is_integer G_is_within D_is_within    ⟨_, PySem.W.mg_of X G a_COUNT_LIMIT⟩
  have G_is_tables := ok_is_tables (P := l.prog) (w := w) (base := base) D_is_tables bi G_is_table D_is_table    
  have G_is_bits := ok_is_bits (P := l.prog) (w := w) (base := base) D_is_bits bi     
  have G_is_layout := ok_is_layout (P := l.prog) (w := w) (base := base) D_is_layout bi G_is_within D_is_within G_is_joint D_is_joint    ⟨_, PySem.W.mg_of X G a_BLOCK_LIMIT⟩ ⟨_, PySem.W.mg_of X G a_LEVEL_LIMIT⟩ ⟨_, PySem.W.mg_of X G a_STEP_LIMIT⟩
  have G_is_frame := ok_is_frame (P := l.prog) (w := w) (base := base) D_is_frame bi G_is_layout D_is_layout G_is_within D_is_within G_is_bits D_is_bits    ⟨_, PySem.W.mg_of X G a_FRAME_ITEMS⟩ ⟨_, PySem.W.mg_of X G a_MARK_MODULUS⟩
  have G_is_state := ok_is_state (P := l.prog) (w := w) (base := base) D_is_state bi G_is_tables D_is_tables    
  have G_is_record := ok_is_record (P := l.prog) (w := w) (base := base) D_is_record bi G_is_state D_is_state G_is_frame D_is_frame    
  have G_check_records := ok_check_records (P := l.prog) (w := w) (base := base) D_check_records bi G_is_record D_is_record    
  have G_check_within := ok_check_within (P := l.prog) (w := w) (base := base) D_check_within bi G_is_within D_is_within    
  have G_check_integer := ok_check_integer (P := l.prog) (w := w) (base := base) D_check_integer bi G_is_integer D_is_integer    
  have G_check_items := ok_check_items (P := l.prog) (w := w) (base := base) D_check_items bi G_is_integer D_is_integer    
  have G_check_block := ok_check_block (P := l.prog) (w := w) (base := base) D_check_block bi G_check_items D_check_items    ⟨_, PySem.W.mg_of X G a_BLOCK_LIMIT⟩
  have G_coarse_count := ok_coarse_count (P := l.prog) (w := w) (base := base) D_coarse_count bi G_check_within D_check_within    ⟨_, PySem.W.mg_of X G a_BLOCK_LIMIT⟩ ⟨_, PySem.W.mg_of X G a_LEVEL_LIMIT⟩
  have G_parameter := ok_parameter (P := l.prog) (w := w) (base := base) D_parameter bi G_is_table D_is_table    
  have G_table_behind := ok_table_behind (P := l.prog) (w := w) (base := base) D_table_behind bi     ⟨_, PySem.W.mg_of X G a_COUNT_LIMIT⟩ ⟨_, PySem.W.mg_of X G a_HALVED_COUNT⟩
  have G_code_number := ok_code_number (P := l.prog) (w := w) (base := base) D_code_number bi     
  have G_number_with := ok_number_with (P := l.prog) (w := w) (base := base) D_number_with bi     
  have G_read_code := ok_read_code (P := l.prog) (w := w) (base := base) D_read_code bi     ⟨_, PySem.W.mg_of X G a_LONG_FORM⟩
  have G_check_coding := ok_check_coding (P := l.prog) (w := w) (base := base) D_check_coding bi G_check_within D_check_within G_is_tables D_is_tables    
  have G_read_numbers := ok_read_numbers (P := l.prog) (w := w) (base := base) D_read_numbers bi G_check_within D_check_within G_check_coding D_check_coding G_parameter D_parameter G_read_code D_read_code G_number_with D_number_with G_table_behind D_table_behind    ⟨_, PySem.W.mg_of X G a_BLOCK_LIMIT⟩
  have G_mark_of := ok_mark_of (P := l.prog) (w := w) (base := base) D_mark_of bi G_check_block D_check_block G_code_number D_code_number    ⟨_, PySem.W.mg_of X G a_MARK_FACTOR⟩ ⟨_, PySem.W.mg_of X G a_MARK_MODULUS⟩
  have G_read_frame := ok_read_frame (P := l.prog) (w := w) (base := base) D_read_frame bi G_read_numbers D_read_numbers G_coarse_count D_coarse_count G_mark_of D_mark_of    
  have G_read_frames := ok_read_frames (P := l.prog) (w := w) (base := base) D_read_frames bi G_read_frame D_read_frame    (PySem.W.mg_of X G zS) hSt hS0 hS1 (PySem.W.mg_of X G zH) hHd
  have G_Stream___init__ := ok_Stream___init__ (P := l.prog) (w := w) (base := base) D_Stream___init__ bi G_check_records D_check_records G_read_frames D_read_frames  TC_Stream  
  have G_check_pair := ok_check_pair (P := l.prog) (w := w) (base := base) D_check_pair bi G_check_within D_check_within G_check_integer D_check_integer    ⟨_, PySem.W.mg_of X G a_SHAPE_LIMIT⟩
  have G_fold_pair := ok_fold_pair (P := l.prog) (w := w) (base := base) D_fold_pair bi G_check_pair D_check_pair    (PySem.W.mg_of X G zC) hCo hC0 hC1 hC2 hC3
  have G_unfold_pair := ok_unfold_pair (P := l.prog) (w := w) (base := base) D_unfold_pair bi G_check_pair D_check_pair    (PySem.W.mg_of X G zC) hCo hC0 hC1 hC2 hC3
  have G_check_sound := ok_check_sound (P := l.prog) (w := w) (base := base) D_check_sound bi G_check_items D_check_items    
  have G_is_placed_joint := ok_is_placed_joint (P := l.prog) (w := w) (base := base) D_is_placed_joint bi G_is_integer D_is_integer G_is_joint D_is_joint    
  have G_has_room := ok_has_room (P := l.prog) (w := w) (base := base) D_has_room bi     
  have G_check_joints := ok_check_joints (P := l.prog) (w := w) (base := base) D_check_joints bi G_is_placed_joint D_is_placed_joint G_has_room D_has_room    
  have G_turned_fold_pair := ok_turned (P := l.prog) (w := w) (base := base) (g := f_fold_pair) D_turned bi G_check_sound D_check_sound G_check_joints D_check_joints G_fold_pair D_fold_pair.F.kp D_fold_pair.b
  have G_turned_unfold_pair := ok_turned (P := l.prog) (w := w) (base := base) (g := f_unfold_pair) D_turned bi G_check_sound D_check_sound G_check_joints D_check_joints G_unfold_pair D_unfold_pair.F.kp D_unfold_pair.b
  have G_placed_joints := ok_placed_joints (P := l.prog) (w := w) (base := base) D_placed_joints bi     
  have G_folded := ok_folded (P := l.prog) (w := w) (base := base) D_folded bi G_turned_fold_pair D_turned D_fold_pair
  have G_split_once := ok_split_once (P := l.prog) (w := w) (base := base) D_split_once bi     
  have G_split_levels := ok_split_levels (P := l.prog) (w := w) (base := base) D_split_levels bi G_check_block D_check_block G_check_within D_check_within G_split_once D_split_once    ⟨_, PySem.W.mg_of X G a_LEVEL_LIMIT⟩
  have G_quantized := ok_quantized (P := l.prog) (w := w) (base := base) D_quantized bi G_check_integer D_check_integer G_check_within D_check_within    ⟨_, PySem.W.mg_of X G a_STEP_LIMIT⟩
  have G_code_bits := ok_code_bits (P := l.prog) (w := w) (base := base) D_code_bits bi     ⟨_, PySem.W.mg_of X G a_LONG_FORM⟩
  have G_write_numbers := ok_write_numbers (P := l.prog) (w := w) (base := base) D_write_numbers bi G_check_block D_check_block G_check_coding D_check_coding G_code_number D_code_number G_code_bits D_code_bits G_parameter D_parameter G_table_behind D_table_behind    
  have G_check_plan := ok_check_plan (P := l.prog) (w := w) (base := base) D_check_plan bi G_is_layout D_is_layout    (PySem.W.mg_of X G zS) hSt hS0 hS1 (PySem.W.mg_of X G zH) hHd
  have G_coded_frame := ok_coded_frame (P := l.prog) (w := w) (base := base) D_coded_frame bi G_split_levels D_split_levels G_quantized D_quantized G_write_numbers D_write_numbers G_coarse_count D_coarse_count G_mark_of D_mark_of    
  have G_coded_records := ok_coded_records (P := l.prog) (w := w) (base := base) D_coded_records bi G_folded D_folded G_placed_joints D_placed_joints G_coded_frame D_coded_frame    (PySem.W.mg_of X G zS) hSt hS0 hS1 (PySem.W.mg_of X G zH) hHd
  have G_encode := ok_encode (P := l.prog) (w := w) (base := base) D_encode bi G_check_sound D_check_sound G_check_plan D_check_plan G_check_within D_check_within G_coded_records D_coded_records G_Stream___init__ D_Stream___init__  TC_Stream  ⟨_, PySem.W.mg_of X G a_STATES_LIMIT⟩
  have G_Stream___eq__ := ok_Stream___eq__ (P := l.prog) (w := w) (base := base) D_Stream___eq__ bi   TC_Stream  ca_Stream cm_Stream cn ct
  have G_check_within_X := ok_check_within_X (P := l.prog) (w := w) (base := base) D_check_within bi G_is_within D_is_within   T_InvalidNumber 
  have G_even_plan := ok_even_plan (P := l.prog) (w := w) (base := base) D_even_plan bi G_check_within D_check_within G_is_joint D_is_joint G_check_within_X  T_InvalidJoint ⟨_, PySem.W.mg_of X G a_LENGTH_LIMIT⟩ ⟨_, PySem.W.mg_of X G a_BLOCK_LIMIT⟩ ⟨_, PySem.W.mg_of X G a_LEVEL_LIMIT⟩ ⟨_, PySem.W.mg_of X G a_STEP_LIMIT⟩ (PySem.W.mg_of X G zH) hHd
  have G_record_size := ok_record_size (P := l.prog) (w := w) (base := base) D_record_size bi     ⟨_, PySem.W.mg_of X G a_STATE_SIZE⟩ ⟨_, PySem.W.mg_of X G a_FRAME_SIZE⟩
  have G_Stream_size := ok_Stream_size (P := l.prog) (w := w) (base := base) D_Stream_size bi G_record_size D_record_size  TC_Stream  (PySem.W.mg_none_of X G z_sum)
  have G_Stream_records := ok_Stream_records (P := l.prog) (w := w) (base := base) D_Stream_records bi   TC_Stream  
  have G_check_plans := ok_check_plans (P := l.prog) (w := w) (base := base) D_check_plans bi G_check_plan D_check_plan    
  have G_smallest := ok_smallest (P := l.prog) (w := w) (base := base) D_smallest bi G_check_sound D_check_sound G_check_plans D_check_plans G_encode D_encode G_Stream_size D_Stream_size  TC_Stream  
  have G_take := ok_take (P := l.prog) (w := w) (base := base) D_take bi     
  have G_pool := ok_pool (P := l.prog) (w := w) (base := base) D_pool bi     
  have G_sound := ok_sound (P := l.prog) (w := w) (base := base) D_sound bi G_take D_take    
  have G_plan := ok_plan (P := l.prog) (w := w) (base := base) D_plan bi G_take D_take    
  have G_even := ok_even (P := l.prog) (w := w) (base := base) D_even bi     
  have G_said := ok_said (P := l.prog) (w := w) (base := base) D_said bi G_even_plan D_even_plan   T_InvalidNumber T_InvalidJoint m_InvalidJoint_InvalidNumber (PySem.W.mg_none_of X G z_repr)
  exact ok_law D_law bi G_pool D_pool G_take D_take G_sound D_sound G_plan D_plan G_even D_even G_said D_said G_even_plan D_even_plan G_encode D_encode G_smallest D_smallest G_record_size D_record_size G_Stream_records D_Stream_records G_Stream_size D_Stream_size G_Stream___eq__ D_Stream___eq__  TC_Stream  (PySem.W.mg_none_of X G z_repr) (PySem.W.mg_none_of X G z_sum)
end Z
open PySem PySem.W PyProof.Rows
set_option maxHeartbeats 0 in
theorem PySem.Challenge.cw_framejoins_k27_even_plans_and_choices_holds : PySem.Challenge.rw_framejoins_k27_even_plans_and_choices.Holds := by
  w_on; refine headTop ?_
  k_fill
  refine L2.walk_of (l := PySem.Challenge.rw_framejoins_k27_even_plans_and_choices) (n := 63) (k := 13) (x := "_law_script") (CX := fun _ => L2.CX0) (sp := fun w => Z.spLaw _) rfl (by decide) rfl ⟨rfl, by decide, by decide⟩ (fun w h Y => PySem.W.kIn_of Y) ?F (fun _ _ a ns hl _ hS => ⟨a, ns, rfl, hS, hl, fun _ => rfl⟩) (fun _ _ _ _ _ h => h)
  case F =>
    intro w mg fa h KX G hmg
    refine' Z.all_mk KX G hmg (Z.mkD_is_integer KX G ?a_is_integer ?l_is_integer ?c_is_integer ?k_is_integer) (Z.mkD_is_within KX G ?a_is_within ?l_is_within ?c_is_within ?k_is_within) (Z.mkD_check_integer KX G ?a_check_integer ?l_check_integer ?c_check_integer ?k_check_integer) (Z.mkD_check_within KX G ?a_check_within ?l_check_within ?c_check_within ?k_check_within) (Z.mkD_check_items KX G ?a_check_items ?l_check_items ?c_check_items ?k_check_items) (Z.mkD_check_sound KX G ?a_check_sound ?l_check_sound ?c_check_sound ?k_check_sound) (Z.mkD_check_block KX G ?a_check_block ?l_check_block ?c_check_block ?k_check_block) (Z.mkD_is_joint KX G ?a_is_joint ?l_is_joint ?c_is_joint ?k_is_joint) (Z.mkD_fold_pair KX G ?a_fold_pair ?l_fold_pair ?c_fold_pair ?k_fold_pair) (Z.mkD_unfold_pair KX G ?a_unfold_pair ?l_unfold_pair ?c_unfold_pair ?k_unfold_pair) (Z.mkD_check_pair KX G ?a_check_pair ?l_check_pair ?c_check_pair ?k_check_pair) (Z.mkD_folded KX G ?a_folded ?l_folded ?c_folded ?k_folded) (Z.mkD_turned KX G ?a_turned ?l_turned ?c_turned ?k_turned) (Z.mkD_check_joints KX G ?a_check_joints ?l_check_joints ?c_check_joints ?k_check_joints) (Z.mkD_is_placed_joint KX G ?a_is_placed_joint ?l_is_placed_joint ?c_is_placed_joint ?k_is_placed_joint) (Z.mkD_has_room KX G ?a_has_room ?l_has_room ?c_has_room ?k_has_room) (Z.mkD_split_levels KX G ?a_split_levels ?l_split_levels ?c_split_levels ?k_split_levels) (Z.mkD_split_once KX G ?a_split_once ?l_split_once ?c_split_once ?k_split_once) (Z.mkD_coarse_count KX G ?a_coarse_count ?l_coarse_count ?c_coarse_count ?k_coarse_count) (Z.mkD_quantized KX G ?a_quantized ?l_quantized ?c_quantized ?k_quantized) (Z.mkD_is_table KX G ?a_is_table ?l_is_table ?c_is_table ?k_is_table) (Z.mkD_is_tables KX G ?a_is_tables ?l_is_tables ?c_is_tables ?k_is_tables) (Z.mkD_parameter KX G ?a_parameter ?l_parameter ?c_parameter ?k_parameter) (Z.mkD_table_behind KX G ?a_table_behind ?l_table_behind ?c_table_behind ?k_table_behind) (Z.mkD_code_number KX G ?a_code_number ?l_code_number ?c_code_number ?k_code_number) (Z.mkD_number_with KX G ?a_number_with ?l_number_with ?c_number_with ?k_number_with) (Z.mkD_code_bits KX G ?a_code_bits ?l_code_bits ?c_code_bits ?k_code_bits) (Z.mkD_write_numbers KX G ?a_write_numbers ?l_write_numbers ?c_write_numbers ?k_write_numbers) (Z.mkD_read_numbers KX G ?a_read_numbers ?l_read_numbers ?c_read_numbers ?k_read_numbers) (Z.mkD_check_coding KX G ?a_check_coding ?l_check_coding ?c_check_coding ?k_check_coding) (Z.mkD_read_code KX G ?a_read_code ?l_read_code ?c_read_code ?k_read_code) (Z.mkD_mark_of KX G ?a_mark_of ?l_mark_of ?c_mark_of ?k_mark_of) (Z.mkD_is_record KX G ?a_is_record ?l_is_record ?c_is_record ?k_is_record) (Z.mkD_is_state KX G ?a_is_state ?l_is_state ?c_is_state ?k_is_state) (Z.mkD_is_frame KX G ?a_is_frame ?l_is_frame ?c_is_frame ?k_is_frame) (Z.mkD_is_layout KX G ?a_is_layout ?l_is_layout ?c_is_layout ?k_is_layout) (Z.mkD_is_bits KX G ?a_is_bits ?l_is_bits ?c_is_bits ?k_is_bits) (Z.mkD_record_size KX G ?a_record_size ?l_record_size ?c_record_size ?k_record_size) (Z.mkD_read_frame KX G ?a_read_frame ?l_read_frame ?c_read_frame ?k_read_frame) (Z.mkD_placed_joints KX G ?a_placed_joints ?l_placed_joints ?c_placed_joints ?k_placed_joints) (Z.mkD_check_records KX G ?a_check_records ?l_check_records ?c_check_records ?k_check_records) (Z.mkD_read_frames KX G ?a_read_frames ?l_read_frames ?c_read_frames ?k_read_frames) ?a_encode ?l_encode ?c_encode ?k_encode ?n_encode_states (Z.mkD_check_plan KX G ?a_check_plan ?l_check_plan ?c_check_plan ?k_check_plan) (Z.mkD_coded_records KX G ?a_coded_records ?l_coded_records ?c_coded_records ?k_coded_records) (Z.mkD_coded_frame KX G ?a_coded_frame ?l_coded_frame ?c_coded_frame ?k_coded_frame) (Z.mkD_even_plan KX G ?a_even_plan ?l_even_plan ?c_even_plan ?k_even_plan) (Z.mkD_smallest KX G ?a_smallest ?l_smallest ?c_smallest ?k_smallest) (Z.mkD_check_plans KX G ?a_check_plans ?l_check_plans ?c_check_plans ?k_check_plans) (Z.mkD_pool KX G ?a_pool ?l_pool ?c_pool ?k_pool) (Z.mkD_take KX G ?a_take ?l_take ?c_take ?k_take) (Z.mkD_sound KX G ?a_sound ?l_sound ?c_sound ?k_sound) (Z.mkD_plan KX G ?a_plan ?l_plan ?c_plan ?k_plan) (Z.mkD_even KX G ?a_even ?l_even ?c_even ?k_even) (Z.mkD_said KX G ?a_said ?l_said ?c_said ?k_said) ?a_law ?l_law ?c_law ?k_law ?a_BLOCK_LIMIT ?a_COUNT_LIMIT ?a_SHAPE_LIMIT ?a_WIDTH_LIMIT ?a_LEVEL_LIMIT ?a_STEP_LIMIT ?a_MARK_MODULUS ?a_HALVED_COUNT ?a_LONG_FORM ?a_MARK_FACTOR ?a_FRAME_ITEMS ?a_STATES_LIMIT ?a_LENGTH_LIMIT ?a_STATE_SIZE ?a_FRAME_SIZE ?zS ?lS ?lt0 ?lt1 ?zH ?lH ?zC ?lC ?l0 ?l1 ?l2 ?l3 ?z_repr ?z_sum ?z_int ?z_bool ?z_str ?z_list ?z_tuple ?z_len ?z_abs ?z_max ?z_min ?z_range ?z_zip ?z_isinstance ?z_enumerate ?z_reversed ?x_Stream ?pg_Stream ?hd_Stream ?po_Stream ?sa_Stream ?mk_Stream ?kc_Stream ?na_Stream_held ?na_Stream_read ?x_JoinError ?x_InvalidNumber ?x_InvalidJoint ?xl_InvalidNumber ?sa_InvalidNumber ?ga_InvalidNumber ?gg_InvalidNumber ?nf_InvalidNumber ?ic_InvalidNumber ?ti_InvalidNumber ?cac_InvalidNumber ?cmc_InvalidNumber ?kc_InvalidNumber ?sB_InvalidNumber ?tc_InvalidNumber ?hd_InvalidNumber ?ss_InvalidNumber ?li_InvalidNumber ?ci_InvalidNumber ?ki_InvalidNumber ?xl_InvalidJoint ?sa_InvalidJoint ?ga_InvalidJoint ?gg_InvalidJoint ?nf_InvalidJoint ?ic_InvalidJoint ?ti_InvalidJoint ?cac_InvalidJoint ?cmc_InvalidJoint ?kc_InvalidJoint ?sB_InvalidJoint ?tc_InvalidJoint ?hd_InvalidJoint ?ss_InvalidJoint ?li_InvalidJoint ?ci_InvalidJoint ?ki_InvalidJoint ?w_InvalidJoint_InvalidNumber ?ca_Stream ?cm_Stream ?cn ?ct ?at_Stream___init__ ?if_Stream___init__ ?l_Stream___init__ ?c_Stream___init__ ?k_Stream___init__ ?at_Stream___eq__ ?if_Stream___eq__ ?l_Stream___eq__ ?c_Stream___eq__ ?k_Stream___eq__ ?at_Stream_records ?gt_Stream_records ?tk_Stream_records ?rc_Stream_records ?l_Stream_records ?c_Stream_records ?k_Stream_records ?at_Stream_size ?if_Stream_size ?l_Stream_size ?c_Stream_size ?k_Stream_size
    (case a_is_integer => as_aux_lemma => k_is); (case l_is_integer => as_aux_lemma => k_is); (case c_is_integer => as_aux_lemma => k_is); (case k_is_integer => as_aux_lemma => k_is); (case a_is_within => as_aux_lemma => k_is); (case l_is_within => as_aux_lemma => k_is); (case c_is_within => as_aux_lemma => k_is); (case k_is_within => as_aux_lemma => k_is); (case a_check_integer => as_aux_lemma => k_is); (case l_check_integer => as_aux_lemma => k_is); (case c_check_integer => as_aux_lemma => k_is); (case k_check_integer => as_aux_lemma => k_is); (case a_check_within => as_aux_lemma => k_is); (case l_check_within => as_aux_lemma => k_is); (case c_check_within => as_aux_lemma => k_is); (case k_check_within => as_aux_lemma => k_is); (case a_check_items => as_aux_lemma => k_is); (case l_check_items => as_aux_lemma => k_is); (case c_check_items => as_aux_lemma => k_is); (case k_check_items => as_aux_lemma => k_is); (case a_check_sound => as_aux_lemma => k_is); (case l_check_sound => as_aux_lemma => k_is); (case c_check_sound => as_aux_lemma => k_is); (case k_check_sound => as_aux_lemma => k_is); (case a_check_block => as_aux_lemma => k_is); (case l_check_block => as_aux_lemma => k_is); (case c_check_block => as_aux_lemma => k_is); (case k_check_block => as_aux_lemma => k_is); (case a_is_joint => as_aux_lemma => k_is); (case l_is_joint => as_aux_lemma => k_is); (case c_is_joint => as_aux_lemma => k_is); (case k_is_joint => as_aux_lemma => k_is); (case a_fold_pair => as_aux_lemma => k_is); (case l_fold_pair => as_aux_lemma => k_is); (case c_fold_pair => as_aux_lemma => k_is); (case k_fold_pair => as_aux_lemma => k_is); (case a_unfold_pair => as_aux_lemma => k_is); (case l_unfold_pair => as_aux_lemma => k_is); (case c_unfold_pair => as_aux_lemma => k_is); (case k_unfold_pair => as_aux_lemma => k_is); (case a_check_pair => as_aux_lemma => k_is); (case l_check_pair => as_aux_lemma => k_is); (case c_check_pair => as_aux_lemma => k_is); (case k_check_pair => as_aux_lemma => k_is); (case a_folded => as_aux_lemma => k_is); (case l_folded => as_aux_lemma => k_is); (case c_folded => as_aux_lemma => k_is); (case k_folded => as_aux_lemma => k_is); (case a_turned => as_aux_lemma => k_is); (case l_turned => as_aux_lemma => k_is); (case c_turned => as_aux_lemma => k_is); (case k_turned => as_aux_lemma => k_is); (case a_check_joints => as_aux_lemma => k_is); (case l_check_joints => as_aux_lemma => k_is); (case c_check_joints => as_aux_lemma => k_is); (case k_check_joints => as_aux_lemma => k_is); (case a_is_placed_joint => as_aux_lemma => k_is); (case l_is_placed_joint => as_aux_lemma => k_is); (case c_is_placed_joint => as_aux_lemma => k_is); (case k_is_placed_joint => as_aux_lemma => k_is); (case a_has_room => as_aux_lemma => k_is); (case l_has_room => as_aux_lemma => k_is); (case c_has_room => as_aux_lemma => k_is); (case k_has_room => as_aux_lemma => k_is); (case a_split_levels => as_aux_lemma => k_is); (case l_split_levels => as_aux_lemma => k_is); (case c_split_levels => as_aux_lemma => k_is); (case k_split_levels => as_aux_lemma => k_is); (case a_split_once => as_aux_lemma => k_is); (case l_split_once => as_aux_lemma => k_is); (case c_split_once => as_aux_lemma => k_is); (case k_split_once => as_aux_lemma => k_is); (case a_coarse_count => as_aux_lemma => k_is); (case l_coarse_count => as_aux_lemma => k_is); (case c_coarse_count => as_aux_lemma => k_is); (case k_coarse_count => as_aux_lemma => k_is); (case a_quantized => as_aux_lemma => k_is); (case l_quantized => as_aux_lemma => k_is); (case c_quantized => as_aux_lemma => k_is); (case k_quantized => as_aux_lemma => k_is); (case a_is_table => as_aux_lemma => k_is); (case l_is_table => as_aux_lemma => k_is); (case c_is_table => as_aux_lemma => k_is); (case k_is_table => as_aux_lemma => k_is); (case a_is_tables => as_aux_lemma => k_is); (case l_is_tables => as_aux_lemma => k_is); (case c_is_tables => as_aux_lemma => k_is); (case k_is_tables => as_aux_lemma => k_is); (case a_parameter => as_aux_lemma => k_is); (case l_parameter => as_aux_lemma => k_is); (case c_parameter => as_aux_lemma => k_is); (case k_parameter => as_aux_lemma => k_is); (case a_table_behind => as_aux_lemma => k_is); (case l_table_behind => as_aux_lemma => k_is); (case c_table_behind => as_aux_lemma => k_is); (case k_table_behind => as_aux_lemma => k_is); (case a_code_number => as_aux_lemma => k_is); (case l_code_number => as_aux_lemma => k_is); (case c_code_number => as_aux_lemma => k_is); (case k_code_number => as_aux_lemma => k_is); (case a_number_with => as_aux_lemma => k_is); (case l_number_with => as_aux_lemma => k_is); (case c_number_with => as_aux_lemma => k_is); (case k_number_with => as_aux_lemma => k_is); (case a_code_bits => as_aux_lemma => k_is); (case l_code_bits => as_aux_lemma => k_is); (case c_code_bits => as_aux_lemma => k_is); (case k_code_bits => as_aux_lemma => k_is); (case a_write_numbers => as_aux_lemma => k_is); (case l_write_numbers => as_aux_lemma => k_is); (case c_write_numbers => as_aux_lemma => k_is); (case k_write_numbers => as_aux_lemma => k_is); (case a_read_numbers => as_aux_lemma => k_is); (case l_read_numbers => as_aux_lemma => k_is); (case c_read_numbers => as_aux_lemma => k_is); (case k_read_numbers => as_aux_lemma => k_is); (case a_check_coding => as_aux_lemma => k_is); (case l_check_coding => as_aux_lemma => k_is); (case c_check_coding => as_aux_lemma => k_is); (case k_check_coding => as_aux_lemma => k_is); (case a_read_code => as_aux_lemma => k_is); (case l_read_code => as_aux_lemma => k_is); (case c_read_code => as_aux_lemma => k_is); (case k_read_code => as_aux_lemma => k_is); (case a_mark_of => as_aux_lemma => k_is); (case l_mark_of => as_aux_lemma => k_is); (case c_mark_of => as_aux_lemma => k_is); (case k_mark_of => as_aux_lemma => k_is); (case a_is_record => as_aux_lemma => k_is); (case l_is_record => as_aux_lemma => k_is); (case c_is_record => as_aux_lemma => k_is); (case k_is_record => as_aux_lemma => k_is); (case a_is_state => as_aux_lemma => k_is); (case l_is_state => as_aux_lemma => k_is); (case c_is_state => as_aux_lemma => k_is); (case k_is_state => as_aux_lemma => k_is); (case a_is_frame => as_aux_lemma => k_is); (case l_is_frame => as_aux_lemma => k_is); (case c_is_frame => as_aux_lemma => k_is); (case k_is_frame => as_aux_lemma => k_is); (case a_is_layout => as_aux_lemma => k_is); (case l_is_layout => as_aux_lemma => k_is); (case c_is_layout => as_aux_lemma => k_is); (case k_is_layout => as_aux_lemma => k_is); (case a_is_bits => as_aux_lemma => k_is); (case l_is_bits => as_aux_lemma => k_is); (case c_is_bits => as_aux_lemma => k_is); (case k_is_bits => as_aux_lemma => k_is); (case a_record_size => as_aux_lemma => k_is); (case l_record_size => as_aux_lemma => k_is); (case c_record_size => as_aux_lemma => k_is); (case k_record_size => as_aux_lemma => k_is); (case a_read_frame => as_aux_lemma => k_is); (case l_read_frame => as_aux_lemma => k_is); (case c_read_frame => as_aux_lemma => k_is); (case k_read_frame => as_aux_lemma => k_is); (case a_placed_joints => as_aux_lemma => k_is); (case l_placed_joints => as_aux_lemma => k_is); (case c_placed_joints => as_aux_lemma => k_is); (case k_placed_joints => as_aux_lemma => k_is); (case a_check_records => as_aux_lemma => k_is); (case l_check_records => as_aux_lemma => k_is); (case c_check_records => as_aux_lemma => k_is); (case k_check_records => as_aux_lemma => k_is); (case a_read_frames => as_aux_lemma => k_is); (case l_read_frames => as_aux_lemma => k_is); (case c_read_frames => as_aux_lemma => k_is); (case k_read_frames => as_aux_lemma => k_is); (case a_encode => as_aux_lemma => k_is); (case l_encode => as_aux_lemma => k_is); (case c_encode => as_aux_lemma => k_is); (case k_encode => as_aux_lemma => k_is); (case n_encode_states => as_aux_lemma => k_is); (case a_check_plan => as_aux_lemma => k_is); (case l_check_plan => as_aux_lemma => k_is); (case c_check_plan => as_aux_lemma => k_is); (case k_check_plan => as_aux_lemma => k_is); (case a_coded_records => as_aux_lemma => k_is); (case l_coded_records => as_aux_lemma => k_is); (case c_coded_records => as_aux_lemma => k_is); (case k_coded_records => as_aux_lemma => k_is); (case a_coded_frame => as_aux_lemma => k_is); (case l_coded_frame => as_aux_lemma => k_is); (case c_coded_frame => as_aux_lemma => k_is); (case k_coded_frame => as_aux_lemma => k_is); (case a_even_plan => as_aux_lemma => k_is); (case l_even_plan => as_aux_lemma => k_is); (case c_even_plan => as_aux_lemma => k_is); (case k_even_plan => as_aux_lemma => k_is); (case a_smallest => as_aux_lemma => k_is); (case l_smallest => as_aux_lemma => k_is); (case c_smallest => as_aux_lemma => k_is); (case k_smallest => as_aux_lemma => k_is); (case a_check_plans => as_aux_lemma => k_is); (case l_check_plans => as_aux_lemma => k_is); (case c_check_plans => as_aux_lemma => k_is); (case k_check_plans => as_aux_lemma => k_is); (case a_pool => as_aux_lemma => k_is); (case l_pool => as_aux_lemma => k_is); (case c_pool => as_aux_lemma => k_is); (case k_pool => as_aux_lemma => k_is); (case a_take => as_aux_lemma => k_is); (case l_take => as_aux_lemma => k_is); (case c_take => as_aux_lemma => k_is); (case k_take => as_aux_lemma => k_is); (case a_sound => as_aux_lemma => k_is); (case l_sound => as_aux_lemma => k_is); (case c_sound => as_aux_lemma => k_is); (case k_sound => as_aux_lemma => k_is); (case a_plan => as_aux_lemma => k_is); (case l_plan => as_aux_lemma => k_is); (case c_plan => as_aux_lemma => k_is); (case k_plan => as_aux_lemma => k_is); (case a_even => as_aux_lemma => k_is); (case l_even => as_aux_lemma => k_is); (case c_even => as_aux_lemma => k_is); (case k_even => as_aux_lemma => k_is); (case a_said => as_aux_lemma => k_is); (case l_said => as_aux_lemma => k_is); (case c_said => as_aux_lemma => k_is); (case k_said => as_aux_lemma => k_is); (case a_law => as_aux_lemma => k_is); (case l_law => as_aux_lemma => k_is); (case c_law => as_aux_lemma => k_is); (case k_law => as_aux_lemma => k_is); (case a_BLOCK_LIMIT => as_aux_lemma => k_is); (case a_COUNT_LIMIT => as_aux_lemma => k_is); (case a_SHAPE_LIMIT => as_aux_lemma => k_is); (case a_WIDTH_LIMIT => as_aux_lemma => k_is); (case a_LEVEL_LIMIT => as_aux_lemma => k_is); (case a_STEP_LIMIT => as_aux_lemma => k_is); (case a_MARK_MODULUS => as_aux_lemma => k_is); (case a_HALVED_COUNT => as_aux_lemma => k_is); (case a_LONG_FORM => as_aux_lemma => k_is); (case a_MARK_FACTOR => as_aux_lemma => k_is); (case a_FRAME_ITEMS => as_aux_lemma => k_is); (case a_STATES_LIMIT => as_aux_lemma => k_is); (case a_LENGTH_LIMIT => as_aux_lemma => k_is); (case a_STATE_SIZE => as_aux_lemma => k_is); (case a_FRAME_SIZE => as_aux_lemma => k_is); (case zS => as_aux_lemma => k_is); (case lS => as_aux_lemma => k_is); (case lt0 => as_aux_lemma => k_is); (case lt1 => as_aux_lemma => k_is); (case zH => as_aux_lemma => k_is); (case lH => as_aux_lemma => k_is); (case zC => as_aux_lemma => k_is); (case lC => as_aux_lemma => k_is); (case l0 => as_aux_lemma => k_is); (case l1 => as_aux_lemma => k_is); (case l2 => as_aux_lemma => k_is); (case l3 => as_aux_lemma => k_is); (case z_repr => as_aux_lemma => k_is); (case z_sum => as_aux_lemma => k_is); (case z_int => as_aux_lemma => k_is); (case z_bool => as_aux_lemma => k_is); (case z_str => as_aux_lemma => k_is); (case z_list => as_aux_lemma => k_is); (case z_tuple => as_aux_lemma => k_is); (case z_len => as_aux_lemma => k_is); (case z_abs => as_aux_lemma => k_is); (case z_max => as_aux_lemma => k_is); (case z_min => as_aux_lemma => k_is); (case z_range => as_aux_lemma => k_is); (case z_zip => as_aux_lemma => k_is); (case z_isinstance => as_aux_lemma => k_is); (case z_enumerate => as_aux_lemma => k_is); (case z_reversed => as_aux_lemma => k_is); (case x_Stream => as_aux_lemma => k_is); (case pg_Stream => as_aux_lemma => k_is); (case hd_Stream => as_aux_lemma => k_is); (case po_Stream => as_aux_lemma => k_is); (case sa_Stream => as_aux_lemma => k_is); (case mk_Stream => as_aux_lemma => k_is); (case kc_Stream => as_aux_lemma => k_is); (case na_Stream_held => as_aux_lemma => k_is); (case na_Stream_read => as_aux_lemma => k_is); (case x_JoinError => as_aux_lemma => k_is); (case x_InvalidNumber => as_aux_lemma => k_is); (case x_InvalidJoint => as_aux_lemma => k_is); (case xl_InvalidNumber => as_aux_lemma => k_is); (case sa_InvalidNumber => as_aux_lemma => k_is); (case ga_InvalidNumber => as_aux_lemma => k_is); (case gg_InvalidNumber => as_aux_lemma => k_is); (case nf_InvalidNumber => as_aux_lemma => k_is); (case ic_InvalidNumber => as_aux_lemma => k_is); (case ti_InvalidNumber => as_aux_lemma => k_is); (case cac_InvalidNumber => as_aux_lemma => k_is); (case cmc_InvalidNumber => as_aux_lemma => k_is); (case kc_InvalidNumber => as_aux_lemma => k_is); (case sB_InvalidNumber => as_aux_lemma => k_is); (case tc_InvalidNumber => as_aux_lemma => k_is); (case hd_InvalidNumber => as_aux_lemma => k_is); (case ss_InvalidNumber => as_aux_lemma => k_is); (case li_InvalidNumber => as_aux_lemma => k_is); (case ci_InvalidNumber => as_aux_lemma => k_is); (case ki_InvalidNumber => as_aux_lemma => k_is); (case xl_InvalidJoint => as_aux_lemma => k_is); (case sa_InvalidJoint => as_aux_lemma => k_is); (case ga_InvalidJoint => as_aux_lemma => k_is); (case gg_InvalidJoint => as_aux_lemma => k_is); (case nf_InvalidJoint => as_aux_lemma => k_is); (case ic_InvalidJoint => as_aux_lemma => k_is); (case ti_InvalidJoint => as_aux_lemma => k_is); (case cac_InvalidJoint => as_aux_lemma => k_is); (case cmc_InvalidJoint => as_aux_lemma => k_is); (case kc_InvalidJoint => as_aux_lemma => k_is); (case sB_InvalidJoint => as_aux_lemma => k_is); (case tc_InvalidJoint => as_aux_lemma => k_is); (case hd_InvalidJoint => as_aux_lemma => k_is); (case ss_InvalidJoint => as_aux_lemma => k_is); (case li_InvalidJoint => as_aux_lemma => k_is); (case ci_InvalidJoint => as_aux_lemma => k_is); (case ki_InvalidJoint => as_aux_lemma => k_is); (case w_InvalidJoint_InvalidNumber => as_aux_lemma => k_is); (case ca_Stream => as_aux_lemma => k_is); (case cm_Stream => as_aux_lemma => k_is); (case cn => as_aux_lemma => k_is); (case ct => as_aux_lemma => k_is); (case at_Stream___init__ => as_aux_lemma => k_is); (case if_Stream___init__ => as_aux_lemma => k_is); (case l_Stream___init__ => as_aux_lemma => k_is); (case c_Stream___init__ => as_aux_lemma => k_is); (case k_Stream___init__ => as_aux_lemma => k_is); (case at_Stream___eq__ => as_aux_lemma => k_is); (case if_Stream___eq__ => as_aux_lemma => k_is); (case l_Stream___eq__ => as_aux_lemma => k_is); (case c_Stream___eq__ => as_aux_lemma => k_is); (case k_Stream___eq__ => as_aux_lemma => k_is); (case at_Stream_records => as_aux_lemma => k_is); (case gt_Stream_records => as_aux_lemma => k_is); (case tk_Stream_records => as_aux_lemma => k_is); (case rc_Stream_records => as_aux_lemma => k_is); (case l_Stream_records => as_aux_lemma => k_is); (case c_Stream_records => as_aux_lemma => k_is); (case k_Stream_records => as_aux_lemma => k_is); (case at_Stream_size => as_aux_lemma => k_is); (case if_Stream_size => as_aux_lemma => k_is); (case l_Stream_size => as_aux_lemma => k_is); (case c_Stream_size => as_aux_lemma => k_is); (case k_Stream_size => as_aux_lemma => k_is)
