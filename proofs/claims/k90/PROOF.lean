import PyProof.Rows.All
import Wide.All
import OpenK.AllK
import Wide.FinOn
import HandS.ForExc
import HandS.ForMost
import HandS.IsInst
import HandS.Style
import HandS.Zip
import HandS.RevRange
import HandS.Lambda
import HandS.TryOnly
import HandS.TryMany
import HandS.ExcOwn
import HandS.ExcInit
import HandS.ExcField
import HandS.ExcIs
import HandS.EndTab
import HandS.CallLocal
import KE.KExcIs
import KE.KNestM
import KE.IntBitsLaws
import HandS.WideBits
import KE.GoesEnum
import KE.GoesMore
import HandS.Codes
import HandS.Conv
import HandS.IntHex
import PyProof.FString3
import PyProof.StrOps2
import KE.IntText
import HandS.StrMore
import HandS.FStr
import HandS.Flt
import HandS.Property
import HandS.List
import HandS.TupAny
import HandS.Wide
import HandS.SortInts
import HandS.Dict
import HandS.OwnEq
import HandS.Defaults
import HandS.MakeKwOnly
import PyProof.ReprRoads
import PyProof.ReprLen
import PyProof.Rows.RegStrFacts
import KE.KExcInit
import PyProof.ExcBaseAll.IndexError
import PyProof.ExcBaseAll.LookupError
import PyProof.ExcBaseAll.OverflowError
import PyProof.ExcBaseAll.RuntimeError
import HandS.RaiseMore
import PySem.Challenge.RW_framejoins_k90_error_classes
set_option Elab.async false
set_option linter.all false
set_option maxRecDepth 100000
set_option maxHeartbeats 4000000
section
open PySem PySem.W PyProof.Rows
set_option maxHeartbeats 0 in
open_top headTop for PySem.Challenge.rw_framejoins_k90_error_classes
end
namespace Z
def Lt1 (P : Prop) : Prop := P
theorem lt_eq {P : Prop} (h : P) : Lt1 P = True := eq_true h
theorem lt_out {P : Prop} (h : Lt1 P) : P := h
open PySem PySem.Spec PyProof.Rows L2
def rLen (K : PySem.W.Frag) : List V → Hp → VK → Prop := fun xs H Q => ∃ x n, xs = [x] ∧ LenV K x H n ∧ Q (.int n) H
def rAbs : List V → Hp → VK → Prop := fun xs H Q => ∃ i, xs = [.int i] ∧ Q (.int (if i < 0 then -i else i)) H
def rMax2 : List V → Hp → VK → Prop := fun xs H Q => ∃ i j, xs = [.int i, .int j] ∧ Q (.int (if j > i then j else i)) H
def rMin2 : List V → Hp → VK → Prop := fun xs H Q => ∃ i j, xs = [.int i, .int j] ∧ Q (.int (if j < i then j else i)) H
def rToInt : List V → Hp → VK → Prop := fun xs H Q => (∃ i, xs = [.int i] ∧ Q (.int i) H) ∨ ∃ k, xs = [.bl k] ∧ Q (.int (if k then 1 else 0)) H
def rToList (K : PySem.W.Frag) : List V → Hp → VK → Prop := fun xs H Q => ∃ p ys, xs = [.ref p] ∧ (SqL K H p ys ∨ SqT K H p ys) ∧ ∀ l, H l = none → Q (.ref l) (upd H l (.lst ys))
section
variable {X : Cx}
theorem cLen : CallR X (.builtin "len") (rLen X.K) := call_len
theorem cMax (hc : X.calm = true) : CallR X (.builtin "max") rMax2 := call_max2 hc
theorem cMin (hc : X.calm = true) : CallR X (.builtin "min") rMin2 := call_min2 hc
theorem cInt : CallR X (.type "int") rToInt := call_int1
end
/-- the values by position and by keyword, put in the parameters' order -/
def kg {α : Type} (m n : Nat) (idx : List Nat) (us ws : List α) : List α := if us.length = m ∧ ws.length = n then idx.filterMap (fun i => (us ++ ws)[i]?) else []
section
variable {X : Cx} {K : PySem.W.Frag} {σ : L2.St} {H : Hp} {Q : VK} {n : L2.St → Hp → Prop} {r : VK} {b c : L2.St → Hp → Prop} {ta tb tc te : TE} {tA tB1 : TT} {t u : TS} {v : V}
theorem rd_seq (h : t ⟨u ⟨n, r, b, c⟩, r, b, c⟩ σ H) : tSeq t u ⟨n, r, b, c⟩ σ H := h
theorem rd_start {D : Ends} {σ σ' : L2.St} (e : σ' = σ) (h : t D σ H) : t D σ' H := e ▸ h
theorem rd_next (h : n σ H) : tNext ⟨n, r, b, c⟩ σ H := h
theorem rd_asg {g : TG} (h : te σ H fun x H1 => g x σ H1 n) : tAsg te g ⟨n, r, b, c⟩ σ H := h
theorem rd_gname {i : Nat} {Q : L2.St → Hp → Prop} (h : Q (σ.set i (some v)) H) : gName i v σ H Q := h
theorem rd_gsub {to ti : TE} {s : TSet} {Q : L2.St → Hp → Prop} (h : to σ H fun o H1 => ti σ H1 fun i H2 => s o i v H2 fun H3 => Q σ H3) : gSub to ti s v σ H Q := h
theorem rd_ret (h : te σ H r) : tRet te ⟨n, r, b, c⟩ σ H := h
theorem rd_retn (h : r .non H) : tRetN ⟨n, r, b, c⟩ σ H := h
theorem rd_ifs (h : tA σ H fun d H1 => if d = true then t ⟨n, r, b, c⟩ σ H1 else u ⟨n, r, b, c⟩ σ H1) : tIfS tA t u ⟨n, r, b, c⟩ σ H := h
theorem rd_drop (h : te σ H fun _ H1 => n σ H1) : tDrop te ⟨n, r, b, c⟩ σ H := h
theorem rd_par {i j : Nat} {ts : TA} (h : ts σ H fun vs H1 => ∃ v w, vs = [v, w] ∧ n ((σ.set i (some v)).set j (some w)) H1) : tPar i j ts ⟨n, r, b, c⟩ σ H := h
theorem rd_par3 {i j l : Nat} {ts : TA} (h : ts σ H fun vs H1 => ∃ u v w, vs = [u, v, w] ∧ n (((σ.set i (some u)).set j (some v)).set l (some w)) H1) : tPar3 i j l ts ⟨n, r, b, c⟩ σ H := h
theorem rd_two {v w : V} {P : V → V → Prop} (h : P v w) : ∃ a b, [v, w] = [a, b] ∧ P a b := ⟨v, w, rfl, h⟩
theorem rd_three {u v w : V} {P : V → V → V → Prop} (h : P u v w) : ∃ a b c, [u, v, w] = [a, b, c] ∧ P a b c := ⟨u, v, w, rfl, h⟩
theorem rd_var {i : Nat} (e : σ[i]? = some (some v)) (h : Q v H) : tVar i σ H Q := ⟨v, e, h⟩
theorem rd_c (h : Q v H) : tC v σ H Q := h
theorem rd_op {o : R2} (h : ta σ H fun x H1 => tb σ H1 fun y H2 => o x y H2 Q) : tOp o ta tb σ H Q := h
theorem rd_un {o : V → Hp → VK → Prop} (h : ta σ H fun x H1 => o x H1 Q) : tUn o ta σ H Q := h
theorem rd_i0 {g : Int → Int → V} {i j : Int} (h : Q (g i j) H) : rI0 g (.int i) (.int j) H Q := ⟨i, j, rfl, rfl, h⟩
theorem rd_i {C : Int → Int → Prop} {g : Int → Int → V} {i j : Int} (hC : C i j) (h : Q (g i j) H) : rI C g (.int i) (.int j) H Q := ⟨i, j, rfl, rfl, hC, h⟩
theorem rd_u {g : Int → V} {i : Int} (h : Q (g i) H) : rU g (.int i) H Q := ⟨i, rfl, h⟩
theorem rd_eq {x y : V} (e : scal x y = true) (h : Q (.bl (decide (x = y))) H) : rEq x y H Q := ⟨e, h⟩
theorem rd_ne {x y : V} (e : scal x y = true) (h : Q (.bl (!decide (x = y))) H) : rNe x y H Q := ⟨e, h⟩
theorem rd_test {q : Bool → Hp → Prop} (h : te σ H fun x H' => ∃ k, x = .bl k ∧ q k H') : tTest te σ H q := h
theorem rd_b {q : Bool → Hp → Prop} (h : te σ H fun x H' => ∃ k, x = .bl k ∧ q k H') : tB te σ H q := h
theorem rd_bl {k : Bool} {P : Bool → Prop} (h : P k) : ∃ d, V.bl k = .bl d ∧ P d := ⟨k, rfl, h⟩
theorem rd_not {q : Bool → Hp → Prop} (h : tA σ H fun d H1 => q (!d) H1) : tNot tA σ H q := h
theorem rd_and {q : Bool → Hp → Prop} (h : tA σ H fun d H1 => if d = true then tB1 σ H1 q else q false H1) : tAnd tA tB1 σ H q := h
theorem rd_or {q : Bool → Hp → Prop} (h : tA σ H fun d H1 => if d = true then q true H1 else tB1 σ H1 q) : tOr tA tB1 σ H q := h
theorem rd_andV (h : ta σ H fun x H1 => ∃ c, x = .bl c ∧ if c = true then tb σ H1 Q else Q (.bl false) H1) : tAndV ta tb σ H Q := h
theorem rd_orV (h : ta σ H fun x H1 => ∃ c, x = .bl c ∧ if c = true then Q (.bl true) H1 else tb σ H1 Q) : tOrV ta tb σ H Q := h
theorem rd_notV (h : ta σ H fun x H1 => ∃ c, x = .bl c ∧ Q (.bl (!c)) H1) : tNotV ta σ H Q := h
theorem rd_if (h : tA σ H fun d H1 => if d = true then ta σ H1 Q else tb σ H1 Q) : tIf tA ta tb σ H Q := h
theorem rd_chain {o o' : R2} (h : ta σ H fun x H1 => tb σ H1 fun y H2 => o x y H2 fun z H3 => ∃ k, z = .bl k ∧ if k = true then tc σ H3 fun w' H4 => o' y w' H4 Q else Q (.bl false) H3) : tChain o o' ta tb tc σ H Q := h
theorem rd_call {sp : Sp} {dvs : List V} {E : XK} {ts : TA} (h : ts σ H fun vs H1 => sp (vs ++ dvs) H1 Q E) : tCall sp dvs E ts σ H Q := h
theorem rd_callK {sp : Sp} {gV : List V → List V → List V} {E : XK} {ts tk : TA} (h : ts σ H fun vs H1 => tk σ H1 fun zs H2 => sp (gV vs zs) H2 Q E) : tCallK sp gV E ts tk σ H Q := h
theorem rd_cb {rr : List V → Hp → VK → Prop} {ts : TA} (h : ts σ H fun vs H1 => rr vs H1 Q) : tCB rr ts σ H Q := h
theorem rd_cons {tr : TA} {q : List V → Hp → Prop} (h : te σ H fun x H1 => tr σ H1 fun xs H2 => q (x :: xs) H2) : tCons te tr σ H q := h
theorem rd_nil {q : List V → Hp → Prop} (h : q [] H) : tNil σ H q := h
theorem rd_tup {ts : TA} (h : ts σ H fun xs H1 => xs.length ≤ sizeLine ∧ ∀ p, H1 p = none → Q (.ref p) (upd H1 p (.tup xs))) : tTup ts σ H Q := h
theorem rd_lst {ts : TA} (h : ts σ H fun xs H1 => xs.length ≤ sizeLine ∧ ∀ p, H1 p = none → Q (.ref p) (upd H1 p (.lst xs))) : tLst ts σ H Q := h
theorem rd_int {i : Int} (h : Q (.int i) H) : rToInt [.int i] H Q := .inl ⟨i, rfl, h⟩
theorem rd_intb {k : Bool} (h : Q (.int (if k then 1 else 0)) H) : rToInt [.bl k] H Q := .inr ⟨k, rfl, h⟩
theorem rd_abs {i : Int} (h : Q (.int (if i < 0 then -i else i)) H) : rAbs [.int i] H Q := ⟨i, rfl, h⟩
theorem rd_max {i j : Int} (h : Q (.int (if j > i then j else i)) H) : rMax2 [.int i, .int j] H Q := ⟨i, j, rfl, h⟩
theorem rd_min {i j : Int} (h : Q (.int (if j < i then j else i)) H) : rMin2 [.int i, .int j] H Q := ⟨i, j, rfl, h⟩
theorem rd_lenL {p : Addr} {xs : List V} (e : SqL K H p xs) (h : Q (.int xs.length) H) : rLen K [.ref p] H Q := ⟨.ref p, xs.length, rfl, .inl ⟨xs, e, rfl⟩, h⟩
theorem rd_lenT {p : Addr} {xs : List V} (e : SqT K H p xs) (h : Q (.int xs.length) H) : rLen K [.ref p] H Q := ⟨.ref p, xs.length, rfl, .inr ⟨xs, e, rfl⟩, h⟩
theorem rd_ixL {p : Addr} {xs : List V} {i : Int} {v : V} (e : SqL K H p xs) (a : atI xs i = some v) (h : Q v H) : rIxL K (.ref p) (.int i) H Q := ⟨p, xs, i, v, rfl, rfl, e, a, h⟩
theorem rd_ixT {p : Addr} {xs : List V} {i : Int} {v : V} (e : SqT K H p xs) (a : atI xs i = some v) (h : Q v H) : rIxT K (.ref p) (.int i) H Q := ⟨p, xs, i, v, rfl, rfl, e, a, h⟩
theorem rd_setL {p : Addr} {xs : List V} {i : Int} {j : Nat} {v : V} {q : Hp → Prop} (e : H p = some (.lst xs)) (a : ixN xs.length i = some j) (h : q (upd H p (.lst (xs.set j v)))) : rSetL (.ref p) (.int i) v H q := ⟨p, xs, i, j, rfl, rfl, e, a, h⟩
theorem rd_listL {p : Addr} {xs : List V} (e : SqL K H p xs) (h : ∀ l, H l = none → Q (.ref l) (upd H l (.lst xs))) : rToList K [.ref p] H Q := ⟨p, xs, rfl, .inl e, h⟩
theorem rd_iteD {p : Prop} [Decidable p] {A B : Prop} (h1 : p → A) (h2 : ¬ p → B) : if decide p = true then A else B := by
  by_cases h : p
  · rw [if_pos (decide_eq_true h)]; exact h1 h
  · rw [decide_eq_false h, if_neg Bool.false_ne_true]; exact h2 h
theorem iteNT {A B : Prop} (h : B) : if (!true) = true then A else B := iteF h
theorem iteNF {A B : Prop} (h : A) : if (!false) = true then A else B := iteT h
theorem rd_isi {x c : V} {t' u' : Value} {d : Bool} (k : ClsV c u') (ty : TyX K H x t') (e : PySem.W.kitOne K t' u' = some d) (h : Q (.bl d) H) : rIsi K [x, c] H Q := ⟨x, c, t', u', d, rfl, k, ty, e, h⟩
theorem isi_int_int {i : Int} (h : Q (.bl true) H) : rIsi K [.int i, .ty "int"] H Q := rd_isi (.ty "int") (.base (.int i)) (kit_ty (by decide +kernel)) h
theorem isi_int_bool {i : Int} (h : Q (.bl false) H) : rIsi K [.int i, .ty "bool"] H Q := rd_isi (.ty "bool") (.base (.int i)) (kit_ty (by decide +kernel)) h
theorem isi_int_str {i : Int} (h : Q (.bl false) H) : rIsi K [.int i, .ty "str"] H Q := rd_isi (.ty "str") (.base (.int i)) (kit_ty (by decide +kernel)) h
theorem isi_int_list {i : Int} (h : Q (.bl false) H) : rIsi K [.int i, .ty "list"] H Q := rd_isi (.ty "list") (.base (.int i)) (kit_ty (by decide +kernel)) h
theorem isi_int_tuple {i : Int} (h : Q (.bl false) H) : rIsi K [.int i, .ty "tuple"] H Q := rd_isi (.ty "tuple") (.base (.int i)) (kit_ty (by decide +kernel)) h
theorem isi_bl_int {i : Bool} (h : Q (.bl true) H) : rIsi K [.bl i, .ty "int"] H Q := rd_isi (.ty "int") (.base (.bl i)) (kit_ty (by decide +kernel)) h
theorem isi_bl_bool {i : Bool} (h : Q (.bl true) H) : rIsi K [.bl i, .ty "bool"] H Q := rd_isi (.ty "bool") (.base (.bl i)) (kit_ty (by decide +kernel)) h
theorem isi_bl_str {i : Bool} (h : Q (.bl false) H) : rIsi K [.bl i, .ty "str"] H Q := rd_isi (.ty "str") (.base (.bl i)) (kit_ty (by decide +kernel)) h
theorem isi_bl_list {i : Bool} (h : Q (.bl false) H) : rIsi K [.bl i, .ty "list"] H Q := rd_isi (.ty "list") (.base (.bl i)) (kit_ty (by decide +kernel)) h
theorem isi_bl_tuple {i : Bool} (h : Q (.bl false) H) : rIsi K [.bl i, .ty "tuple"] H Q := rd_isi (.ty "tuple") (.base (.bl i)) (kit_ty (by decide +kernel)) h
theorem isi_non_int  (h : Q (.bl false) H) : rIsi K [.non, .ty "int"] H Q := rd_isi (.ty "int") (.base .non) (kit_ty (by decide +kernel)) h
theorem isi_non_bool  (h : Q (.bl false) H) : rIsi K [.non, .ty "bool"] H Q := rd_isi (.ty "bool") (.base .non) (kit_ty (by decide +kernel)) h
theorem isi_non_str  (h : Q (.bl false) H) : rIsi K [.non, .ty "str"] H Q := rd_isi (.ty "str") (.base .non) (kit_ty (by decide +kernel)) h
theorem isi_non_list  (h : Q (.bl false) H) : rIsi K [.non, .ty "list"] H Q := rd_isi (.ty "list") (.base .non) (kit_ty (by decide +kernel)) h
theorem isi_non_tuple  (h : Q (.bl false) H) : rIsi K [.non, .ty "tuple"] H Q := rd_isi (.ty "tuple") (.base .non) (kit_ty (by decide +kernel)) h
theorem isi_str_int {z : Str} (h : Q (.bl false) H) : rIsi K [.str z, .ty "int"] H Q := rd_isi (.ty "int") (.base (.str z)) (kit_ty (by decide +kernel)) h
theorem isi_str_bool {z : Str} (h : Q (.bl false) H) : rIsi K [.str z, .ty "bool"] H Q := rd_isi (.ty "bool") (.base (.str z)) (kit_ty (by decide +kernel)) h
theorem isi_str_str {z : Str} (h : Q (.bl true) H) : rIsi K [.str z, .ty "str"] H Q := rd_isi (.ty "str") (.base (.str z)) (kit_ty (by decide +kernel)) h
theorem isi_str_list {z : Str} (h : Q (.bl false) H) : rIsi K [.str z, .ty "list"] H Q := rd_isi (.ty "list") (.base (.str z)) (kit_ty (by decide +kernel)) h
theorem isi_str_tuple {z : Str} (h : Q (.bl false) H) : rIsi K [.str z, .ty "tuple"] H Q := rd_isi (.ty "tuple") (.base (.str z)) (kit_ty (by decide +kernel)) h
theorem isi_lst_int {p : Addr} {xs : List V} (hp : H p = some (.lst xs)) (h : Q (.bl false) H) : rIsi K [.ref p, .ty "int"] H Q := rd_isi (.ty "int") (.base (.lst hp)) (kit_ty (by decide +kernel)) h
theorem isi_lst_bool {p : Addr} {xs : List V} (hp : H p = some (.lst xs)) (h : Q (.bl false) H) : rIsi K [.ref p, .ty "bool"] H Q := rd_isi (.ty "bool") (.base (.lst hp)) (kit_ty (by decide +kernel)) h
theorem isi_lst_str {p : Addr} {xs : List V} (hp : H p = some (.lst xs)) (h : Q (.bl false) H) : rIsi K [.ref p, .ty "str"] H Q := rd_isi (.ty "str") (.base (.lst hp)) (kit_ty (by decide +kernel)) h
theorem isi_lst_list {p : Addr} {xs : List V} (hp : H p = some (.lst xs)) (h : Q (.bl true) H) : rIsi K [.ref p, .ty "list"] H Q := rd_isi (.ty "list") (.base (.lst hp)) (kit_ty (by decide +kernel)) h
theorem isi_lst_tuple {p : Addr} {xs : List V} (hp : H p = some (.lst xs)) (h : Q (.bl false) H) : rIsi K [.ref p, .ty "tuple"] H Q := rd_isi (.ty "tuple") (.base (.lst hp)) (kit_ty (by decide +kernel)) h
theorem isi_tup_int {p : Addr} {xs : List V} (hp : H p = some (.tup xs)) (h : Q (.bl false) H) : rIsi K [.ref p, .ty "int"] H Q := rd_isi (.ty "int") (.base (.tup hp)) (kit_ty (by decide +kernel)) h
theorem isi_tup_bool {p : Addr} {xs : List V} (hp : H p = some (.tup xs)) (h : Q (.bl false) H) : rIsi K [.ref p, .ty "bool"] H Q := rd_isi (.ty "bool") (.base (.tup hp)) (kit_ty (by decide +kernel)) h
theorem isi_tup_str {p : Addr} {xs : List V} (hp : H p = some (.tup xs)) (h : Q (.bl false) H) : rIsi K [.ref p, .ty "str"] H Q := rd_isi (.ty "str") (.base (.tup hp)) (kit_ty (by decide +kernel)) h
theorem isi_tup_list {p : Addr} {xs : List V} (hp : H p = some (.tup xs)) (h : Q (.bl false) H) : rIsi K [.ref p, .ty "list"] H Q := rd_isi (.ty "list") (.base (.tup hp)) (kit_ty (by decide +kernel)) h
theorem isi_tup_tuple {p : Addr} {xs : List V} (hp : H p = some (.tup xs)) (h : Q (.bl true) H) : rIsi K [.ref p, .ty "tuple"] H Q := rd_isi (.ty "tuple") (.base (.tup hp)) (kit_ty (by decide +kernel)) h
theorem rd_for1 {ts : TA} {g : TG} {tb' : TS} {D : Ends} (h : ts σ H fun vs H1 => ∃ j : Int, vs = [.int j] ∧ -(2 ^ 62) ≤ j ∧ j < 2 ^ 62 ∧ (∃ W : Nat → Nat → L2.St → Hp → Prop, (∃ m, W 0 m σ H1) ∧ ∀ i m σ H, W i m σ H →
      ((Itr 0 j.toNat).stop i H ∧ D.nx σ H) ∨ ((Itr 0 j.toNat).go i H ∧ ∃ N : L2.St → Hp → Prop, (∀ σ' H', N σ' H' → ∃ m', m' < m ∧ W (i + 1) m' σ' H') ∧ ∀ x H', (Itr 0 j.toNat).yld i H x H' → g x σ H' fun σ2 H2 => tb' { D with nx := N, ct := N, bk := D.nx } σ2 H2))) : tFor (iRng1 ts) g tb' D σ H := h
theorem rd_all {n m : Nat} {P : Addr → Prop} (h1 : n ≤ m) (h : ∀ p, H p = none → P p) : n ≤ m ∧ ∀ p, H p = none → P p := ⟨h1, h⟩
theorem rd_ixP {p : Addr} {xs : List V} {i : Int} (Pm : V → Prop) (e : SqL K H p xs) (h0 : 0 ≤ i) (h1 : i < xs.length) (hP : ∀ v ∈ xs, Pm v) (h : ∀ v, Pm v → Q v H) : rIxL K (.ref p) (.int i) H Q := by
  obtain ⟨j, rfl⟩ : ∃ j : Nat, i = (j : Int) := ⟨i.toNat, by omega⟩
  have hj : j < xs.length := by omega
  have g : xs[j]? = some xs[j] := List.getElem?_eq_getElem hj
  exact ⟨p, xs, (j : Int), xs[j], rfl, rfl, e, atI_nat g, h _ (hP _ (List.getElem_mem hj))⟩
theorem rd_gtup {a : Addr} {xs : List V} {k : Nat} {ts : TGs} {q : L2.St → Hp → Prop} (e : SqT K H a xs) (l : xs.length = k) (h : ts xs σ H q) : gTup K k ts (.ref a) σ H q := ⟨a, xs, rfl, e, l, h⟩
theorem rd_gcons {g : TG} {ts : TGs} {v : V} {vs : List V} {q : L2.St → Hp → Prop} (h : g v σ H fun σ' H' => ts vs σ' H' q) : gCons g ts (v :: vs) σ H q := ⟨v, vs, rfl, h⟩
theorem rd_gnil {q : L2.St → Hp → Prop} (h : q σ H) : gNil [] σ H q := ⟨rfl, h⟩
def LpW (J : It) (g : TG) (tb : TS) (D : Ends) (σ : L2.St) (H1 : Hp) : Prop := ∃ W : Nat → Nat → L2.St → Hp → Prop, (∃ m, W 0 m σ H1) ∧ ∀ i m σ H, W i m σ H →
      (J.stop i H ∧ D.nx σ H) ∨ (J.go i H ∧ ∃ N : L2.St → Hp → Prop, (∀ σ' H', N σ' H' → ∃ m', m' < m ∧ W (i + 1) m' σ' H') ∧ ∀ x H', J.yld i H x H' → g x σ H' fun σ2 H2 => tb { D with nx := N, ct := N, bk := D.nx } σ2 H2)
theorem rd_forT {g : TG} {tb' : TS} {D : Ends} (h : te σ H fun x H1 => ∃ a, x = .ref a ∧ (∃ xs, SqT K H1 a xs) ∧ LpW (Itt K a) g tb' D σ H1) : tFor (iTup K te) g tb' D σ H := h
theorem rd_forL {g : TG} {tb' : TS} {D : Ends} (h : te σ H fun x H1 => ∃ a, x = .ref a ∧ (∃ xs, SqL K H1 a xs) ∧ LpW (Itl K a) g tb' D σ H1) : tFor (iList K te) g tb' D σ H := h
theorem rd_for2 {ts : TA} {g : TG} {tb' : TS} {D : Ends} (h : ts σ H fun vs H1 => ∃ i j : Int, vs = [.int i, .int j] ∧ (-(2 ^ 62) ≤ i ∧ i < 2 ^ 62 ∧ -(2 ^ 62) ≤ j ∧ j < 2 ^ 62) ∧ LpW (Itr i (j - i).toNat) g tb' D σ H1) : tFor (iRng2 ts) g tb' D σ H := h
theorem rd_n2 {i j : Int} {A : Int → Int → Prop} (h1 : -(2 ^ 62) ≤ i ∧ i < 2 ^ 62 ∧ -(2 ^ 62) ≤ j ∧ j < 2 ^ 62) (h : A i j) : ∃ k l : Int, [V.int i, V.int j] = [V.int k, V.int l] ∧ (-(2 ^ 62) ≤ k ∧ k < 2 ^ 62 ∧ -(2 ^ 62) ≤ l ∧ l < 2 ^ 62) ∧ A k l := ⟨i, j, rfl, h1, h⟩
theorem dp_ints : ∀ ns : List Int, DpAll K H (ns.map V.int) (ns.map PyData.int)
  | [] => .nil
  | n :: r => .cons (.int n) (dp_ints r)
theorem rd_neT2 {p q : Addr} {a b c d : Int} (hp : SqT K H p [.int a, .int b]) (hq : SqT K H q [.int c, .int d]) (e1 : a = c) (e2 : b = d) (h : Q (.bl false) H) : rNeD K (.ref p) (.ref q) H Q := by
  subst e1 e2
  exact ⟨_, _, .tup hp (dp_ints [a, b]), .tup hq (dp_ints [a, b]), rfl, rfl, by
    have e : PyData.eqv (.tuple ([a, b].map PyData.int)) (.tuple ([a, b].map PyData.int)) = true := by simp [PyData.eqv, PyData.eqvAll]
    rw [e]
    exact h⟩
def rIsN : R2 := fun x y H Q => y = .non ∧ Q (.bl (decide (x = .non))) H
theorem rd_isN {x : V} (h : Q (.bl (decide (x = .non))) H) : rIsN x .non H Q := ⟨rfl, h⟩
theorem rd_one {v : V} {P : V → Prop} (h : P v) : ∃ a, [v] = [a] ∧ P a := ⟨v, rfl, h⟩
theorem rd_n1 {j : Int} {A : Int → Prop} (h1 : -(2 ^ 62) ≤ j) (h2 : j < 2 ^ 62) (h : A j) : ∃ k : Int, [V.int j] = [V.int k] ∧ -(2 ^ 62) ≤ k ∧ k < 2 ^ 62 ∧ A k := ⟨j, rfl, h1, h2, h⟩
end
theorem look_same {H H' : Hp} {a : Addr} {u : HO} (s : Same H H') (h : H a = some u) : H' a = some u := s a u h
theorem look_new {H : Hp} {p a : Addr} {o u : HO} (hp : H p = none) (h : H a = some u) : upd H p o a = some u := by rw [upd_ne (ne_of_none h hp)]; exact h
/-- all but the object at p stay -/
def Kp (p : Addr) (H H' : Hp) : Prop := ∀ a o, a ≠ p → H a = some o → H' a = some o
theorem Kp.refl {p : Addr} {H : Hp} : Kp p H H := fun _ _ _ h => h
theorem Kp.trans {p : Addr} {H H1 H2 : Hp} (a : Kp p H H1) (b : Kp p H1 H2) : Kp p H H2 := fun c o n h => b c o n (a c o n h)
theorem Kp.of {p : Addr} {H H' : Hp} (s : Same H H') : Kp p H H' := fun a o _ h => s a o h
theorem same_new {H : Hp} {p : Addr} {o : HO} (h : H p = none) : Same H (upd H p o) := fun b x e => look_new h e
theorem Kp.new {p q : Addr} {H : Hp} {o : HO} (h : H q = none) : Kp p H (upd H q o) := .of (same_new h)
theorem Kp.at {p : Addr} {H : Hp} {o : HO} : Kp p H (upd H p o) := fun a x n h => by rw [upd_ne n]; exact h
theorem same_kp {p : Addr} {H0 H H' : Hp} (s : Same H0 H) (n : H0 p = none) (k : Kp p H H') : Same H0 H' := fun a o h => k a o (ne_of_none h n) (s a o h)
theorem sqL_new {K : PySem.W.Frag} {p a : Addr} {H : Hp} {o : HO} {xs : List V} (n : H p = none) (h : SqL K H a xs) : SqL K (upd H p o) a xs := (same_new n).seq h
theorem sqL_same {K : PySem.W.Frag} {a : Addr} {H H' : Hp} {xs : List V} (s : Same H H') (h : SqL K H a xs) : SqL K H' a xs := s.seq h
theorem by_all {K : PySem.W.Frag} {a : Addr} {xs : List V} {H : Hp} (h : ∀ H, SqT K H a xs) : SqT K H a xs := h H
def Pool (H : Hp) (p : Addr) : Prop := ∃ x y : Int, H p = some (.lst [.int x, .int y]) ∧ 0 ≤ x ∧ 0 ≤ y ∧ y < 2147483647
theorem look_kp {p a : Addr} {H H' : Hp} {u : HO} (k : Kp p H H') (n : a ≠ p) (h : H a = some u) : H' a = some u := k a u n h
theorem Pool.ne {H : Hp} {p a : Addr} (h : Pool H p) (n : H a = none) : a ≠ p := by
  obtain ⟨x, y, e, _⟩ := h
  exact (ne_of_none e n).symm
theorem Pool.ne' {H : Hp} {p a : Addr} (n : H a = none) (h : Pool H p) : a ≠ p := h.ne n
theorem Pool.new {H : Hp} {p q : Addr} {o : HO} (h : Pool H p) (n : H q = none) : Pool (upd H q o) p := by
  obtain ⟨x, y, e, r⟩ := h
  exact ⟨x, y, look_new n e, r⟩
theorem Pool.same {H H' : Hp} {p : Addr} (h : Pool H p) (s : Same H H') : Pool H' p := by
  obtain ⟨x, y, e, r⟩ := h
  exact ⟨x, y, s _ _ e, r⟩
theorem Pool.same' {H H' : Hp} {p : Addr} (s : Same H H') (h : Pool H p) : Pool H' p := h.same s
theorem Pool.new' {H : Hp} {p q : Addr} {o : HO} (n : H q = none) (h : Pool H p) : Pool (upd H q o) p := h.new n
def spTake : Sp := fun vs H Q _ => ∃ (p : Addr) (m : Int), vs = [.ref p, .int m] ∧ Pool H p ∧ 0 < m ∧ m < 1073741824 ∧ ∀ r H', 0 ≤ r → r < m → Pool H' p → Kp p H H' → Q (.int r) H'
theorem use_take {p : Addr} {m : Int} {H : Hp} {Q : VK} {E : XK} (h1 : Pool H p) (h2 : 0 < m) (h3 : m < 1073741824) (q : ∀ r H', 0 ≤ r → r < m → Pool H' p → Kp p H H' → Q (.int r) H') : spTake ([.ref p, .int m] ++ []) H Q E := ⟨p, m, rfl, h1, h2, h3, q⟩
def spPool (K : PySem.W.Frag) : Sp := fun vs H Q _ => ∃ (a : Addr) (ns : List Int) (k : Int), vs = [.ref a, .int k] ∧ SqL K H a (ns.map V.int) ∧ ns.length ≤ 63 ∧ 0 ≤ k ∧ k < 64 ∧ ∀ p H', H p = none → Same H H' → Pool H' p → Q (.ref p) H'
theorem use_pool {K : PySem.W.Frag} {a : Addr} {ns : List Int} {k : Int} {H : Hp} {Q : VK} {E : XK} (h1 : SqL K H a (ns.map V.int)) (h2 : ns.length ≤ 63) (h3 : 0 ≤ k) (h4 : k < 64) (q : ∀ p H', H p = none → Same H H' → Pool H' p → Q (.ref p) H') : spPool K ([.ref a, .int k] ++ []) H Q E := ⟨a, ns, k, rfl, h1, h2, h3, h4, q⟩
def spNumber : Sp := fun vs H Q _ => ∃ (p : Addr), vs = [.ref p] ∧ Pool H p ∧ ∀ r H', r.natAbs < 10 ^ 55 → Pool H' p → Kp p H H' → Q (.int r) H'
theorem use_number {p : Addr} {H : Hp} {Q : VK} {E : XK} (h1 : Pool H p) (q : ∀ r H', r.natAbs < 10 ^ 55 → Pool H' p → Kp p H H' → Q (.int r) H') : spNumber ([.ref p] ++ []) H Q E := ⟨p, rfl, h1, q⟩
def isI : V → Bool
  | .int _ => true
  | _ => false
def TyV (H : Hp) : V → Prop
  | .non => True
  | .bl _ => True
  | .int _ => True
  | .str _ => True
  | .ref a => (∃ xs, H a = some (.lst xs)) ∨ ∃ xs, H a = some (.tup xs)
  | _ => False
def spIsI : Sp := fun vs H Q _ => ∃ x, vs = [x] ∧ TyV H x ∧ Q (.bl (isI x)) H
theorem use_isi_int {i : Int} {H : Hp} {Q : VK} {E : XK} (q : Q (.bl true) H) : spIsI ([.int i] ++ []) H Q E := ⟨_, rfl, trivial, q⟩
def inI (x : V) (lo hi : Int) : Bool := match x with
  | .int i => decide (lo ≤ i ∧ i ≤ hi)
  | _ => false
def spWithin : Sp := fun vs H Q _ => ∃ x lo hi, vs = [x, .int lo, .int hi] ∧ TyV H x ∧ Q (.bl (inI x lo hi)) H
theorem use_within_int {i lo hi : Int} {H : Hp} {Q : VK} {E : XK} (q : Q (.bl (decide (lo ≤ i ∧ i ≤ hi))) H) : spWithin ([.int i, .int lo, .int hi] ++ []) H Q E := ⟨_, lo, hi, rfl, trivial, q⟩
def spCkI : Sp := fun vs H Q _ => ∃ i, vs = [.int i] ∧ Q .non H
theorem use_cki {i : Int} {H : Hp} {Q : VK} {E : XK} (q : Q .non H) : spCkI ([.int i] ++ []) H Q E := ⟨_, rfl, q⟩
def spCkW : Sp := fun vs H Q _ => ∃ i lo hi, vs = [.int i, .int lo, .int hi] ∧ lo ≤ i ∧ i ≤ hi ∧ Q .non H
theorem use_ckw {i lo hi : Int} {H : Hp} {Q : VK} {E : XK} (h1 : lo ≤ i) (h2 : i ≤ hi) (q : Q .non H) : spCkW ([.int i, .int lo, .int hi] ++ []) H Q E := ⟨_, _, _, rfl, h1, h2, q⟩
def spQuant : Sp := fun vs H Q _ => ∃ v s, vs = [.int v, .int s] ∧ 1 ≤ s ∧ s ≤ 64 ∧ Q (.int ((2 * v + s) / (2 * s))) H
theorem use_quant {v s : Int} {H : Hp} {Q : VK} {E : XK} (h1 : 1 ≤ s) (h2 : s ≤ 64) (q : Q (.int ((2 * v + s) / (2 * s))) H) : spQuant ([.int v, .int s] ++ []) H Q E := ⟨v, s, rfl, h1, h2, q⟩
theorem use_quantK {v s : Int} {H : Hp} {Q : VK} {E : XK} (h1 : 1 ≤ s) (h2 : s ≤ 64) (q : Q (.int ((2 * v + s) / (2 * s))) H) : spQuant (kg 0 2 [1, 0] [] [.int s, .int v]) H Q E := ⟨v, s, rfl, h1, h2, q⟩
def cC (s : Int) : Int := if s = 0 then -1 else if s = 1 then -2 else if s = 2 then 1 else 2
def cD (s : Int) : Int := if s = 0 then 2 else if s = 1 then 3 else if s = 2 then -2 else -3
def foldP (s a b : Int) : Int × Int :=
  (a + (cC s * b + 2) / 4 + (cC s * (b + (cD s * (a + (cC s * b + 2) / 4) + 2) / 4) + 2) / 4, b + (cD s * (a + (cC s * b + 2) / 4) + 2) / 4)
def unfoldP (s a b : Int) : Int × Int :=
  (a - (cC s * b + 2) / 4 - (cC s * (b - (cD s * (a - (cC s * b + 2) / 4) + 2) / 4) + 2) / 4, b - (cD s * (a - (cC s * b + 2) / 4) + 2) / 4)
theorem unfold_fold (s a b : Int) : unfoldP s (foldP s a b).1 (foldP s a b).2 = (a, b) := by
  unfold unfoldP foldP
  dsimp only
  rw [Int.add_sub_cancel, Int.add_sub_cancel, Int.add_sub_cancel]
theorem fold_unfold (s a b : Int) : foldP s (unfoldP s a b).1 (unfoldP s a b).2 = (a, b) := by
  unfold unfoldP foldP
  dsimp only
  rw [Int.sub_add_cancel, Int.sub_add_cancel, Int.sub_add_cancel]
def spPair (f : Int → Int → Int → Int × Int) : Sp := fun vs H Q _ => ∃ s a b, vs = [.int s, .int a, .int b] ∧ 0 ≤ s ∧ s < 4 ∧ ∀ p, H p = none → Q (.ref p) (upd H p (.tup [.int (f s a b).1, .int (f s a b).2]))
theorem use_pair {f : Int → Int → Int → Int × Int} {s a b : Int} {H : Hp} {Q : VK} {E : XK} (h1 : 0 ≤ s) (h2 : s < 4) (q : ∀ p, H p = none → Q (.ref p) (upd H p (.tup [.int (f s a b).1, .int (f s a b).2]))) : spPair f ([.int s, .int a, .int b] ++ []) H Q E := ⟨s, a, b, rfl, h1, h2, q⟩
def spCkP : Sp := fun vs H Q _ => ∃ s a b, vs = [.int s, .int a, .int b] ∧ 0 ≤ s ∧ s < 4 ∧ Q .non H
theorem use_ckp {s a b : Int} {H : Hp} {Q : VK} {E : XK} (h1 : 0 ≤ s) (h2 : s < 4) (q : Q .non H) : spCkP ([.int s, .int a, .int b] ++ []) H Q E := ⟨s, a, b, rfl, h1, h2, q⟩
def spLFold : Sp := fun vs H Q _ => ∃ s a b, vs = [.int s, .int a, .int b] ∧ 0 ≤ s ∧ s < 4 ∧ ∀ p H', Same H H' → H' p = some (.tup [.int (foldP s a b).1, .int (foldP s a b).2]) → Q (.ref p) H'
theorem use_lfold {s a b : Int} {H : Hp} {Q : VK} {E : XK} (h1 : 0 ≤ s) (h2 : s < 4) (q : ∀ p H', Same H H' → H' p = some (.tup [.int (foldP s a b).1, .int (foldP s a b).2]) → Q (.ref p) H') : spLFold ([.int s, .int a, .int b] ++ []) H Q E := ⟨s, a, b, rfl, h1, h2, q⟩
def spIsPair : Sp := fun vs H Q _ => ∃ p x y, vs = [.ref p] ∧ H p = some (.tup [.int x, .int y]) ∧ Q (.bl true) H
theorem use_ispair {p : Addr} {x y : Int} {H : Hp} {Q : VK} {E : XK} (h : H p = some (.tup [.int x, .int y])) (q : Q (.bl true) H) : spIsPair ([.ref p] ++ []) H Q E := ⟨p, x, y, rfl, h, q⟩
theorem look_upd {H : Hp} {p a : Addr} {o u : HO} (n : a ≠ p) (h : H a = some u) : upd H p o a = some u := by rw [upd_ne n]; exact h
def Kp2 (p q : Addr) (H H' : Hp) : Prop := ∀ a o, a ≠ p → a ≠ q → H a = some o → H' a = some o
theorem Kp2.refl {p q : Addr} {H : Hp} : Kp2 p q H H := fun _ _ _ _ h => h
theorem Kp2.trans {p q : Addr} {H H1 H2 : Hp} (a : Kp2 p q H H1) (b : Kp2 p q H1 H2) : Kp2 p q H H2 := fun c o n m h => b c o n m (a c o n m h)
theorem Kp2.ofK {p q : Addr} {H H' : Hp} (k : Kp p H H') : Kp2 p q H H' := fun a o n _ h => k a o n h
theorem Kp2.ofS {p q : Addr} {H H' : Hp} (k : Same H H') : Kp2 p q H H' := fun a o _ _ h => k a o h
theorem Kp2.new {p q r : Addr} {H : Hp} {o : HO} (h : H r = none) : Kp2 p q H (upd H r o) := .ofS (same_new h)
theorem Kp2.at {p q : Addr} {H : Hp} {o : HO} : Kp2 p q H (upd H q o) := fun a x _ n h => by rw [upd_ne n]; exact h
theorem close_turn {p : Addr} {H H1 H2 H3 : Hp} (s : Same H H1) (n : H1 p = none) (s2 : Same H1 H2) (k : Kp p H2 H3) : Same H H3 := same_kp (s.trans s2) (s.free n) k
def spLaw (K : PySem.W.Frag) : Sp := fun vs H Q _ => ∃ (a : Addr) (ns : List Int), vs = [.ref a] ∧ SqL K H a (ns.map V.int) ∧ ns.length ≤ 63 ∧ ∀ H', Q (.bl true) H'
theorem if_no {c : Bool} {A B : Prop} (h : c = false) (q : B) : if c = true then A else B := by rw [h]; exact iteF q
theorem if_yes {c : Bool} {A B : Prop} (h : c = true) (q : A) : if c = true then A else B := by rw [h]; exact iteT q
theorem if_noD {p : Prop} [Decidable p] {A B : Prop} (h : ¬ p) (q : B) : if decide p = true then A else B := if_no (decide_eq_false h) q
theorem if_yesD {p : Prop} [Decidable p] {A B : Prop} (h : p) (q : A) : if decide p = true then A else B := if_yes (decide_eq_true h) q
theorem if_noN {p : Prop} [Decidable p] {A B : Prop} (h : p) (q : B) : if (!decide p) = true then A else B := if_no (by rw [decide_eq_true h]; rfl) q
theorem canLay_ints : ∀ ns : List Int, PyData.canLayAll0 (ns.map PyData.int) = true
  | [] => rfl
  | n :: r => by
    show (PyData.canLay0 (.int n) && PyData.canLayAll0 (r.map PyData.int)) = true
    rw [canLay_ints r]
    rfl
theorem depth_ints : ∀ ns : List Int, PyData.depthAll (ns.map PyData.int) = 0
  | [] => rfl
  | n :: r => by
    show max (PyData.depth (.int n)) (PyData.depthAll (r.map PyData.int)) = 0
    rw [depth_ints r]
    rfl
theorem shaped_ints (ns : List Int) : SeqAt.shaped (.list (ns.map PyData.int)) = true := by
  show (PyData.canLayAll0 (ns.map PyData.int) && decide (PyData.depthAll (ns.map PyData.int) + 1 ≤ 64)) = true
  rw [canLay_ints, depth_ints]
  rfl
theorem eqv_ints : ∀ ns ms : List Int, PyData.eqvAll (ns.map PyData.int) (ms.map PyData.int) = decide (ns = ms)
  | [], [] => by simp [PyData.eqvAll]
  | [], m :: r => by simp [PyData.eqvAll]
  | n :: r, [] => by simp [PyData.eqvAll]
  | n :: r, m :: t => by
    show (PyData.eqv (.int n) (.int m) && PyData.eqvAll (r.map PyData.int) (t.map PyData.int)) = decide (n :: r = m :: t)
    rw [eqv_ints r t]
    show ((n == m) && decide (r = t)) = decide (n :: r = m :: t)
    by_cases h : n = m
    · subst h
      simp
    · have e : (n == m) = false := by simpa using h
      rw [e, Bool.false_and]
      exact (decide_eq_false fun z => h (List.cons.inj z).1).symm
section
variable {K : PySem.W.Frag} {H : Hp} {Q : VK} {p q : Addr} {ns ms : List Int}
theorem rd_neL (hp : SqL K H p (ns.map V.int)) (hq : SqL K H q (ms.map V.int)) (h : Q (.bl (!decide (ns = ms))) H) : rNeD K (.ref p) (.ref q) H Q :=
  ⟨_, _, .lst hp (dp_ints ns), .lst hq (dp_ints ms), shaped_ints ns, shaped_ints ms, by
    rw [show PyData.eqv (.list (ns.map PyData.int)) (.list (ms.map PyData.int)) = decide (ns = ms) by rw [← eqv_ints]; simp only [PyData.eqv]]
    exact h⟩
theorem rd_eqL (hp : SqL K H p (ns.map V.int)) (hq : SqL K H q (ms.map V.int)) (h : Q (.bl (decide (ns = ms))) H) : rEqD K (.ref p) (.ref q) H Q :=
  ⟨_, _, .lst hp (dp_ints ns), .lst hq (dp_ints ms), shaped_ints ns, shaped_ints ms, by
    rw [show PyData.eqv (.list (ns.map PyData.int)) (.list (ms.map PyData.int)) = decide (ns = ms) by rw [← eqv_ints]; simp only [PyData.eqv]]
    exact h⟩
theorem rd_neN (hp : SqL K H p (ns.map V.int)) (hq : SqL K H q []) (h : Q (.bl (!decide (ns = []))) H) : rNeD K (.ref p) (.ref q) H Q := rd_neL (ms := []) hp hq h
end
section
variable {K : PySem.W.Frag} {σ : L2.St} {H : Hp} {Q : VK} {g : TG} {tb : TS} {D : Ends}
theorem rd_forE {ts : TA} (h : ts σ H fun vs H1 => ∃ a xs, vs = [.ref a] ∧ SqL K H1 a xs ∧ LpW (Ite K a) g tb D σ H1) : tFor (iEnum K ts) g tb D σ H := h
theorem rd_forZ {ts : TA} (h : ts σ H fun vs H1 => ∃ a b xs ys, vs = [.ref a, .ref b] ∧ ((SqL K H1 a xs ∧ SqL K H1 b ys ∧ LpW (Itz K a b) g tb D σ H1) ∨ (SqT K H1 a xs ∧ SqT K H1 b ys ∧ LpW (RZ.ItzT K a b) g tb D σ H1))) : tFor (RZ.iZipA K ts) g tb D σ H := h
def LcW (J : It) (g : TG) (tt : TT) (te : TE) (vs : List Nat) (Q : VK) (σ : L2.St) (H1 : Hp) (D : Addr) : Prop := ∃ W : Nat → Nat → Hp → Prop, (∃ m, W 0 m (upd H1 D (.lst []))) ∧ ∀ i m H, W i m H →
  (J.stop i H ∧ Q (.ref D) H) ∨ (J.go i H ∧ ∃ Nx : Hp → Prop, (∀ H', Nx H' → ∃ m', m' < m ∧ W (i + 1) m' H') ∧ ∀ x H', J.yld i H x H' → g x (wipe σ vs) H' fun σ2 H2 => wipe σ2 vs = wipe σ vs ∧ tt σ2 H2 fun b H3 =>
    if b = true then te σ2 H3 fun y H4 => ∃ acc, H4 D = some (.lst acc) ∧ acc.length < sizeLine ∧ Nx (upd H4 D (.lst (acc ++ [y]))) else Nx H3)
theorem rd_lc1 {ts : TA} {tt : TT} {te : TE} {vs : List Nat} (h : ts σ H fun us H1 => ∃ j : Int, us = [.int j] ∧ -(2 ^ 62) ≤ j ∧ j < 2 ^ 62 ∧ ∀ D, H1 D = none → LcW (Itr 0 j.toNat) g tt te vs Q σ H1 D) : tLc (iRng1 ts) g tt te vs σ H Q := h
theorem rd_yes {σ : L2.St} {H : Hp} {A B : Hp → Prop} (h : A H) : tYes σ H fun b H3 => if b = true then A H3 else B H3 := by
  show if true = true then A H else B H
  rw [if_pos rfl]
  exact h
theorem kp_app {p D : Addr} {H1 H H' : Hp} {o : HO} (hD : H1 D = none) (k : Kp p H1 H) (k2 : Kp p H H') : Kp p H1 (upd H' D o) := fun a x n e => by
  rw [upd_ne (ne_of_none e hD)]
  exact k2 a x n (k a x n e)
theorem rd_lcD {J : It} {tt : TT} {te : TE} {vs : List Nat} (h : ∀ D, H D = none → LcW J g tt te vs Q σ H D) : ∀ D, H D = none → LcW J g tt te vs Q σ H D := h
theorem lc_numbers {vs : List Nat} {i k : Nat} {p D : Addr} {n : Nat} {H1 : Hp} (hσ : ∀ v, ((wipe σ vs).set k (some v))[i]? = some (some (.ref p))) (hw : ∀ v, wipe ((wipe σ vs).set k (some v)) vs = wipe σ vs) (hP : Pool H1 p) (hD : H1 D = none) (hn : n ≤ 1000)
    (q : ∀ (ns : List Int) H', ns.length = n → (∀ z ∈ ns, z.natAbs < 10 ^ 55) → Pool H' p → Kp p H1 H' → H' D = some (.lst (ns.map V.int)) → Q (.ref D) H') :
    LcW (Itr 0 n) (gName k) tYes (tCall spNumber [] E0 (tCons (tVar i) tNil)) vs Q σ H1 D := by
  have hDp : D ≠ p := hP.ne hD
  refine lc_range (Pv := fun j H => ∃ ns : List Int, ns.length = j ∧ (∀ z ∈ ns, z.natAbs < 10 ^ 55) ∧ Pool H p ∧ Kp p H1 H ∧ H D = some (.lst (ns.map V.int))) ⟨[], rfl, List.forall_mem_nil _, hP.new hD, Kp.new hD, upd_same⟩ (fun j H hj hI => ?_) (fun H hI => ?_)
  · obtain ⟨ns, hl, hb, hP', hK, hd⟩ := hI
    refine ⟨hw _, rd_yes ?_⟩
    refine rd_call (rd_cons (rd_var (hσ _) (rd_nil (use_number hP' fun r H' hr hP2 hK2 => ?_))))
    refine ⟨_, hK2 _ _ hDp hd, ?_, ns ++ [r], ?_, ?_, ?_, kp_app hD hK hK2, ?_⟩
    · rw [List.length_map]
      exact small1000 (by omega)
    · rw [List.length_append, hl]
      rfl
    · intro z hz
      rcases List.mem_append.mp hz with hz | hz
      · exact hb z hz
      · rw [List.mem_singleton.mp hz]
        exact hr
    · obtain ⟨x, y, e, r⟩ := hP2
      exact ⟨x, y, by rw [upd_ne hDp.symm]; exact e, r⟩
    · rw [upd_same, List.map_append]
      rfl
  · obtain ⟨ns, hl, hb, hP', hK, hd⟩ := hI
    exact q ns H hl hb hP' hK hd
end
def scalarV : V → Bool
  | .non => true
  | .bl _ => true
  | .int _ => true
  | .str _ => true
  | _ => false
def LstV (K : PySem.W.Frag) (H : Hp) (a : Addr) (xs : List V) : Prop := SqL K H a xs ∧ TyX K H (.ref a) (.type "list")
def TupV (K : PySem.W.Frag) (H : Hp) (a : Addr) (xs : List V) : Prop := SqT K H a xs ∧ TyX K H (.ref a) (.type "tuple")
def SmV (K : PySem.W.Frag) (H : Hp) : Nat → V → V → Prop
  | 0, x, y => x = y ∧ scalarV x = true
  | n + 1, x, y => (x = y ∧ scalarV x = true) ∨ (∃ a b xs ys, x = .ref a ∧ y = .ref b ∧ LstV K H a xs ∧ LstV K H b ys ∧ xs.length = ys.length ∧ ∀ (i : Nat) x y, xs[i]? = some x → ys[i]? = some y → SmV K H n x y) ∨
      ∃ a b xs ys, x = .ref a ∧ y = .ref b ∧ TupV K H a xs ∧ TupV K H b ys ∧ xs.length = ys.length ∧ ∀ (i : Nat) x y, xs[i]? = some x → ys[i]? = some y → SmV K H n x y
theorem LstV.of {K : PySem.W.Frag} {H : Hp} {a : Addr} {xs : List V} (h : H a = some (.lst xs)) : LstV K H a xs := ⟨SqL.of h, .base (.lst h)⟩
theorem TupV.of {K : PySem.W.Frag} {H : Hp} {a : Addr} {xs : List V} (h : H a = some (.tup xs)) : TupV K H a xs := ⟨SqT.of h, .base (.tup h)⟩
section
variable {K : PySem.W.Frag} {H H' : Hp}
theorem tyo_same {x : V} {t : Value} (s : Same H H') (h : TyOf K H x t) : TyOf K H' x t := by
  cases h with
  | non => exact .non
  | bl x => exact .bl x
  | int i => exact .int i
  | str x => exact .str x
  | flt x => exact .flt x
  | lst e => exact .lst (s _ _ e)
  | frz e => exact .frz (s _ _ e)
  | tup e => exact .tup (s _ _ e)
  | dK e => exact .dK (s _ _ e)
  | dT e => exact .dT (s _ _ e)
  | ins e cl ha hn htk hm => exact .ins (s _ _ e) cl ha hn htk hm
theorem tyx_same {x : V} {t : Value} (s : Same H H') (h : TyX K H x t) : TyX K H' x t := by
  cases h with
  | base b => exact .base (tyo_same s b)
  | byt b => exact .byt b
  | set e => exact .set (s _ _ e)
  | kList e c => exact .kList e c
  | kTuple e c => exact .kTuple e c
  | kDict e c => exact .kDict e c
  | fTuple e => exact .fTuple (s _ _ e)
  | fDict e => exact .fDict (s _ _ e)
theorem LstV.same {a : Addr} {xs : List V} (s : Same H H') (h : LstV K H a xs) : LstV K H' a xs := ⟨s.seq h.1, tyx_same s h.2⟩
theorem same_seqT {a : Addr} {xs : List V} (s : Same H H') (h : SqT K H a xs) : SqT K H' a xs := by
  rcases h with (h | ⟨o, h⟩) | h
  · exact .inl (.inl (s _ _ h))
  · exact .inl (.inr ⟨o, s _ _ h⟩)
  · exact .inr h
theorem TupV.same {a : Addr} {xs : List V} (s : Same H H') (h : TupV K H a xs) : TupV K H' a xs := ⟨same_seqT s h.1, tyx_same s h.2⟩
theorem SmV.same (s : Same H H') : ∀ (n : Nat) {x y : V}, SmV K H n x y → SmV K H' n x y
  | 0, _, _, h => h
  | n + 1, x, y, h => by
    rcases h with h | ⟨a, b, xs, ys, e1, e2, h1, h2, l, h⟩ | ⟨a, b, xs, ys, e1, e2, h1, h2, l, h⟩
    · exact .inl h
    · exact .inr (.inl ⟨a, b, xs, ys, e1, e2, h1.same s, h2.same s, l, fun i x y a b => SmV.same s n (h i x y a b)⟩)
    · exact .inr (.inr ⟨a, b, xs, ys, e1, e2, h1.same s, h2.same s, l, fun i x y a b => SmV.same s n (h i x y a b)⟩)
theorem sm_ints {p q : Addr} {ns : List Int} (hp : H p = some (.lst (ns.map V.int))) (hq : H q = some (.lst (ns.map V.int))) : SmV K H 1 (.ref p) (.ref q) :=
  .inr (.inl ⟨p, q, _, _, rfl, rfl, .of hp, .of hq, rfl, fun i x y e1 e2 => by
    rw [e1] at e2
    have e := Option.some.inj e2
    subst e
    rw [List.getElem?_map] at e1
    cases g : ns[i]? with
    | none => rw [g] at e1; cases e1
    | some z => rw [g] at e1; cases e1; exact ⟨rfl, rfl⟩⟩)
end
theorem sm_sc {K : PySem.W.Frag} {H : Hp} {x : V} (h : scalarV x = true) : ∀ {n : Nat}, SmV K H n x x
  | 0 => ⟨rfl, h⟩
  | _ + 1 => .inl ⟨rfl, h⟩
def spSame (K : PySem.W.Frag) (n : Nat) : Sp := fun vs H Q _ => ∃ x y, vs = [x, y] ∧ SmV K H n x y ∧ ∀ H', Same H H' → Q (.bl true) H'
theorem use_same {K : PySem.W.Frag} {n : Nat} {x y : V} {H : Hp} {Q : VK} {E : XK} (h : SmV K H n x y) (q : ∀ H', Same H H' → Q (.bl true) H') : spSame K n ([x, y] ++ []) H Q E := ⟨x, y, rfl, h, q⟩
def spItems (K : PySem.W.Frag) : Sp := fun vs H Q _ => ∃ (a : Addr) (ns : List Int), vs = [.ref a] ∧ SqL K H a (ns.map V.int) ∧ ∀ H', Same H H' → Q .non H'
theorem use_items {K : PySem.W.Frag} {a : Addr} {ns : List Int} {H : Hp} {Q : VK} {E : XK} (h : SqL K H a (ns.map V.int)) (q : ∀ H', Same H H' → Q .non H') : spItems K ([.ref a] ++ []) H Q E := ⟨a, ns, rfl, h, q⟩
def spBlock : Sp := fun vs H Q _ => ∃ (a : Addr) (ns : List Int) (least : Int), vs = [.ref a, .int least] ∧ H a = some (.lst (ns.map V.int)) ∧ least ≤ ns.length ∧ ns.length ≤ 64 ∧ ∀ H', Same H H' → Q .non H'
theorem use_block {a : Addr} {ns : List Int} {least : Int} {H : Hp} {Q : VK} {E : XK} (h : H a = some (.lst (ns.map V.int))) (h1 : least ≤ ns.length) (h2 : ns.length ≤ 64) (q : ∀ H', Same H H' → Q .non H') : spBlock ([.ref a, .int least] ++ []) H Q E := ⟨a, ns, least, rfl, h, h1, h2, q⟩
def codeU (n : Int) : Int := if n ≥ 0 then 2 * n else -2 * n - 1
def spCode : Sp := fun vs H Q _ => ∃ n, vs = [.int n] ∧ Q (.int (codeU n)) H
theorem use_code {n : Int} {H : Hp} {Q : VK} {E : XK} (q : Q (.int (codeU n)) H) : spCode ([.int n] ++ []) H Q E := ⟨n, rfl, q⟩
def markF (ns : List Int) : Int := ns.foldl (fun m n => (m * 31 + codeU n) % 9973) 1
def spMark : Sp := fun vs H Q _ => ∃ (a : Addr) (ns : List Int), vs = [.ref a] ∧ H a = some (.lst (ns.map V.int)) ∧ ns.length ≤ 64 ∧ ∀ H', Same H H' → Q (.int (markF ns)) H'
theorem use_mark {a : Addr} {ns : List Int} {H : Hp} {Q : VK} {E : XK} (h : H a = some (.lst (ns.map V.int))) (h2 : ns.length ≤ 64) (q : ∀ H', Same H H' → Q (.int (markF ns)) H') : spMark ([.ref a] ++ []) H Q E := ⟨a, ns, rfl, h, h2, q⟩
def jx (u v : V) : Bool := match u, v with
  | .int w, .int t => decide (0 < w) || decide (t = 0)
  | _, _ => false
def jt (u v : V) : Bool := inI u 0 8 && (inI v 0 3 && jx u v)
inductive JR (H : Hp) : V → Bool → Prop where
  | flat {x : V} (h : scalarV x = true) : JR H x false
  | lst {a : Addr} {xs : List V} (h : H a = some (.lst xs)) : JR H (.ref a) false
  | tupn {a : Addr} {xs : List V} (h : H a = some (.tup xs)) (n : xs.length ≠ 2) : JR H (.ref a) false
  | tup2 {a : Addr} {u v : V} (h : H a = some (.tup [u, v])) (hu : TyV H u) (hv : TyV H v) : JR H (.ref a) (jt u v)
def spS : List Int → List Int
  | a :: b :: r => ((a + b) / 2) :: spS r
  | r => r
def spD : List Int → List Int
  | a :: b :: r => (a - b) :: spD r
  | _ => []
/-- behind i levels: the sums, and the differences -/
def lvS (ns : List Int) : Nat → List Int
  | 0 => ns
  | i + 1 => spS (lvS ns i)
def lvR (ns : List Int) : Nat → List Int
  | 0 => []
  | i + 1 => spD (lvS ns i) ++ lvR ns i
def splitL (ns : List Int) (i : Nat) : List Int := lvS ns i ++ lvR ns i
theorem rg2 (n : Nat) (h : n ≤ 64) : RgC 0 ((n : Int) - 1) 2 (n / 2) := by
  have hs : Builtin.Range.rangeSize 0 ((n : Int) - 1) 2 = ((n / 2 : Nat) : Int) := by
    unfold Builtin.Range.rangeSize
    rw [if_pos (by decide)]
    split <;> omega
  refine ⟨by decide, by decide, ?_, hs⟩
  unfold Builtin.Range.small
  rw [hs]
  simp only [Builtin.Range.rangeFitsLong, Bool.and_eq_true, Bool.or_eq_true, decide_eq_true_eq, beq_iff_eq, show ((2 : Int) > 0) by decide, if_true]
  omega
section
variable {K : PySem.W.Frag} {σ : L2.St} {H : Hp} {Q : VK} {g : TG} {tb : TS} {D : Ends}
theorem rd_for3 {ts : TA} (h : ts σ H fun vs H1 => ∃ (i j c : Int) (n : Nat), vs = [.int i, .int j, .int c] ∧ RgC i j c n ∧ LpW (Itc i c n) g tb D σ H1) : tFor (iRng3 ts) g tb D σ H := h
theorem rd_n3 {n : Nat} {A : Int → Int → Int → Nat → Prop} (h : n ≤ 64) (q : A 0 ((n : Int) - 1) 2 (n / 2)) : ∃ (i j c : Int) (k : Nat), [V.int 0, V.int ((n : Int) - 1), V.int 2] = [.int i, .int j, .int c] ∧ RgC i j c k ∧ A i j c k := ⟨_, _, _, _, rfl, rg2 n h, q⟩
theorem rd_catL {a b : Addr} {xs ys : List Int} (h1 : H a = some (.lst (xs.map V.int))) (h2 : H b = some (.lst (ys.map V.int))) (n : xs.length + ys.length ≤ 1000) (q : ∀ p, H p = none → Q (.ref p) (upd H p (.lst ((xs ++ ys).map V.int)))) : rCat (.ref a) (.ref b) H Q :=
  ⟨a, b, _, _, rfl, rfl, h1, h2, by rw [List.length_map, List.length_map]; exact Nat.le_of_lt (small1000 n), fun p hp => by rw [← List.map_append]; exact q p hp⟩
theorem rd_appI {a : Addr} {xs : List Int} {z : Int} (h : H a = some (.lst (xs.map V.int))) (n : xs.length ≤ 1000) (q : Q .non (upd H a (.lst ((xs ++ [z]).map V.int)))) : rAppend (.ref a) [.int z] H Q :=
  ⟨a, _, _, rfl, rfl, h, by rw [List.length_map]; exact small1000 n, by rw [List.map_append] at q; exact q⟩
theorem rd_sl {te : TE} {tl th : TO} {r : V → Option Int → Option Int → Hp → VK → Prop} (h : te σ H fun x H1 => tl σ H1 fun l H2 => th σ H2 fun u H3 => r x l u H3 Q) : L2.tSl r te tl th σ H Q := h
theorem rd_part {te : TE} {q : Option Int → Hp → Prop} (h : te σ H fun x H1 => ∃ i, x = .int i ∧ q (some i) H1) : tPart te σ H q := h
theorem rd_nopart {q : Option Int → Hp → Prop} (h : q none H) : tNoPart σ H q := h
theorem rd_oneI {i : Int} {P : Int → Prop} (h : P i) : ∃ j, V.int i = .int j ∧ P j := ⟨i, rfl, h⟩
theorem rd_bm {m : V → List V → Hp → VK → Prop} {to : TE} {ts : TA} (h : to σ H fun x H1 => tyV K "list" x H1 ∧ ts σ H1 fun xs H2 => m x xs H2 Q) : tBM K "list" m to ts σ H Q := h
theorem rd_tyL {a : Addr} {xs : List V} {P : Prop} (h : H a = some (.lst xs)) (q : P) : tyV K "list" (.ref a) H ∧ P := ⟨.inl ⟨rfl, _, .inl (.inl h)⟩, q⟩
end
def spOnce (K : PySem.W.Frag) : Sp := fun vs H Q _ => ∃ (a : Addr) (ns : List Int), vs = [.ref a] ∧ SqL K H a (ns.map V.int) ∧ ns.length ≤ 64 ∧ ∀ p s d H', Same H H' → H' p = some (.tup [.ref s, .ref d]) → H' s = some (.lst ((spS ns).map V.int)) → H' d = some (.lst ((spD ns).map V.int)) → H s = none → Q (.ref p) H'
theorem use_once {K : PySem.W.Frag} {a : Addr} {ns : List Int} {H : Hp} {Q : VK} {E : XK} (h : SqL K H a (ns.map V.int)) (n : ns.length ≤ 64) (q : ∀ p s d H', Same H H' → H' p = some (.tup [.ref s, .ref d]) → H' s = some (.lst ((spS ns).map V.int)) → H' d = some (.lst ((spD ns).map V.int)) → H s = none → Q (.ref p) H') : spOnce K ([.ref a] ++ []) H Q E := ⟨a, ns, rfl, h, n, q⟩
def spSplit : Sp := fun vs H Q _ => ∃ (a : Addr) (ns : List Int) (k : Int), vs = [.ref a, .int k] ∧ H a = some (.lst (ns.map V.int)) ∧ 1 ≤ ns.length ∧ ns.length ≤ 64 ∧ 0 ≤ k ∧ k ≤ 5 ∧ ∀ p H', H p = none → Same H H' → H' p = some (.lst ((splitL ns k.toNat).map V.int)) → Q (.ref p) H'
theorem use_split {a : Addr} {ns : List Int} {k : Int} {H : Hp} {Q : VK} {E : XK} (h : H a = some (.lst (ns.map V.int))) (h1 : 1 ≤ ns.length) (h2 : ns.length ≤ 64) (h3 : 0 ≤ k) (h4 : k ≤ 5) (q : ∀ p H', H p = none → Same H H' → H' p = some (.lst ((splitL ns k.toNat).map V.int)) → Q (.ref p) H') : spSplit ([.ref a, .int k] ++ []) H Q E := ⟨a, ns, k, rfl, h, h1, h2, h3, h4, q⟩
theorem use_splitK {a : Addr} {ns : List Int} {k : Int} {H : Hp} {Q : VK} {E : XK} (h : H a = some (.lst (ns.map V.int))) (h1 : 1 ≤ ns.length) (h2 : ns.length ≤ 64) (h3 : 0 ≤ k) (h4 : k ≤ 5) (q : ∀ p H', H p = none → Same H H' → H' p = some (.lst ((splitL ns k.toNat).map V.int)) → Q (.ref p) H') : spSplit (kg 0 2 [1, 0] [] [.int k, .ref a]) H Q E := ⟨a, ns, k, rfl, h, h1, h2, h3, h4, q⟩
def jn : List Int → List Int → List Int
  | s :: S, d :: D => (s - d / 2 + d) :: (s - d / 2) :: jn S D
  | S, _ => S
/-- how many are coarse -/
def cc (n : Nat) : Nat → Nat
  | 0 => n
  | i + 1 => (cc n i + 1) / 2
/-- the values when j of m levels are joined -/
def wv (ns : List Int) (m : Nat) : Nat → List Int
  | 0 => ns.take (cc ns.length m)
  | j + 1 => jn (wv ns m j) ((ns.drop (cc ns.length (m - j))).take (cc ns.length (m - (j + 1)) - cc ns.length (m - j)))
def joinL (ns : List Int) (m : Nat) : List Int := wv ns m m
section
variable {K : PySem.W.Frag} {σ : L2.St} {H : Hp} {Q : VK} {g : TG} {tb : TS} {D : Ends}
theorem rd_forV {te : TE} (h : te σ H fun x H1 => ∃ n, x = .int n ∧ (-(2 ^ 62) ≤ (0 : Int) ∧ (0 : Int) < 2 ^ 62 ∧ -(2 ^ 62) ≤ n ∧ n < 2 ^ 62 ∧ LpW (Itc (0 + (((n - 0).toNat : Nat) : Int) - 1) (-1) (n - 0).toNat) g tb D σ H1)) : tFor (iRevR (tRg1 te)) g tb D σ H := h
theorem rd_nV {n : Int} {P : Prop} (h1 : -(2 ^ 62) ≤ n) (h2 : n < 2 ^ 62) (q : P) : -(2 ^ 62) ≤ (0 : Int) ∧ (0 : Int) < 2 ^ 62 ∧ -(2 ^ 62) ≤ n ∧ n < 2 ^ 62 ∧ P := ⟨by decide, by decide, h1, h2, q⟩
end
def spJoin1 : Sp := fun vs H Q _ => ∃ (s d : Addr) (S D : List Int), vs = [.ref s, .ref d] ∧ H s = some (.lst (S.map V.int)) ∧ H d = some (.lst (D.map V.int)) ∧ D.length ≤ S.length ∧ S.length ≤ 64 ∧ ∀ p H', Same H H' → H p = none → H' p = some (.lst ((jn S D).map V.int)) → Q (.ref p) H'
theorem use_join1 {s d : Addr} {S D : List Int} {H : Hp} {Q : VK} {E : XK} (h1 : H s = some (.lst (S.map V.int))) (h2 : H d = some (.lst (D.map V.int))) (h3 : D.length ≤ S.length) (h4 : S.length ≤ 64) (q : ∀ p H', Same H H' → H p = none → H' p = some (.lst ((jn S D).map V.int)) → Q (.ref p) H') : spJoin1 ([.ref s, .ref d] ++ []) H Q E := ⟨s, d, S, D, rfl, h1, h2, h3, h4, q⟩
def spJoin : Sp := fun vs H Q _ => ∃ (a : Addr) (ns : List Int) (k : Int), vs = [.ref a, .int k] ∧ H a = some (.lst (ns.map V.int)) ∧ 1 ≤ ns.length ∧ ns.length ≤ 64 ∧ 0 ≤ k ∧ k ≤ 5 ∧ ∀ p H', H p = none → Same H H' → H' p = some (.lst ((joinL ns k.toNat).map V.int)) → Q (.ref p) H'
theorem use_join {a : Addr} {ns : List Int} {k : Int} {H : Hp} {Q : VK} {E : XK} (h : H a = some (.lst (ns.map V.int))) (h1 : 1 ≤ ns.length) (h2 : ns.length ≤ 64) (h3 : 0 ≤ k) (h4 : k ≤ 5) (q : ∀ p H', H p = none → Same H H' → H' p = some (.lst ((joinL ns k.toNat).map V.int)) → Q (.ref p) H') : spJoin ([.ref a, .int k] ++ []) H Q E := ⟨a, ns, k, rfl, h, h1, h2, h3, h4, q⟩
theorem use_joinK {a : Addr} {ns : List Int} {k : Int} {H : Hp} {Q : VK} {E : XK} (h : H a = some (.lst (ns.map V.int))) (h1 : 1 ≤ ns.length) (h2 : ns.length ≤ 64) (h3 : 0 ≤ k) (h4 : k ≤ 5) (q : ∀ p H', H p = none → Same H H' → H' p = some (.lst ((joinL ns k.toNat).map V.int)) → Q (.ref p) H') : spJoin (kg 0 2 [1, 0] [] [.int k, .ref a]) H Q E := ⟨a, ns, k, rfl, h, h1, h2, h3, h4, q⟩
def spInts : Sp := fun vs H Q _ => ∃ (a : Addr) (ns : List Int) (n : Int), vs = [.ref a, .int n] ∧ H a = some (.lst (ns.map V.int)) ∧ (ns.length : Int) = n ∧ Q (.bl true) H
theorem use_ints {a : Addr} {ns : List Int} {n : Int} {H : Hp} {Q : VK} {E : XK} (h : H a = some (.lst (ns.map V.int))) (h1 : (ns.length : Int) = n) (q : Q (.bl true) H) : spInts ([.ref a, .int n] ++ []) H Q E := ⟨a, ns, n, rfl, h, h1, q⟩
section
variable {K : PySem.W.Frag} {σ : L2.St} {H : Hp} {Q : VK} {g : TG}
theorem rd_lcL {ti te : TE} {tt : TT} {vs : List Nat} (h : ti σ H fun x H1 => ∃ a, x = .ref a ∧ (∃ xs, SqL K H1 a xs) ∧ ∀ D, H1 D = none → LcW (Itl K a) g tt te vs Q σ H1 D) : tLc (iList K ti) g tt te vs σ H Q := h
end
structure Dn (K : PySem.W.Frag) (mg : Str → Option Value) (x : Str) (st : Stmt) (ps : List Str) (f : Addr) (fd : FuncData) : Prop where
  F : Fun K x x st f fd
  g : mg x = some (.ref f)
  b : Binds K fd ps []
structure Bi (mg : Str → Option Value) : Prop where
  int_ : mg "int" = none
  bool_ : mg "bool" = none
  str_ : mg "str" = none
  list_ : mg "list" = none
  tuple_ : mg "tuple" = none
  len_ : mg "len" = none
  abs_ : mg "abs" = none
  max_ : mg "max" = none
  min_ : mg "min" = none
  range_ : mg "range" = none
  zip_ : mg "zip" = none
  isinstance_ : mg "isinstance" = none
  enumerate_ : mg "enumerate" = none
  reversed_ : mg "reversed" = none
end Z
namespace Z
open PySem PySem.Spec PyProof.Rows L2
theorem mk_heap {H : Hp} {a d : Addr} {o1 o2 o3 o4 : HO} (ha : H a = none) (hd : d ≠ a) : upd (del (upd (upd (upd H a o1) d o2) a o3) a) d o4 = upd H d o4 := by
  funext b
  by_cases h1 : b = d
  · subst h1; rw [upd_same, upd_same]
  · rw [upd_ne h1, upd_ne h1]
    by_cases h2 : b = a
    · subst h2; rw [del_same, ha]
    · rw [del_ne h2, upd_ne h2, upd_ne h1, upd_ne h2]
/-- an own error class C, its name x, its one field f, its __init__ at fI -/
structure EC (K : PySem.W.Frag) (mg : Str → Option Value) (x f : Str) (C fI : Addr) : Prop where
  o : OexC K C
  xf : XfC K C
  ec : ExcC K C
  g : mg x = some (.ref C)
  noF : PySem.W.findIn K (.ref C) f = some none
  te : PySem.W.exmOne K (.ref C) (.ref C) = some true
  iC : PySem.W.findIn K (.ref C) "__init__" = some (some (.ref fI))
  tI : PySem.W.typeIn K (.ref fI) = some (.type "function")
def spInit (K : PySem.W.Frag) (C : Addr) (f : Str) : Sp := fun vs H Q _ => ∃ (a : Addr) (v : V), vs = [.ref a, v] ∧ H a = some (exo a C none) ∧ ∀ dx, H dx = none → dx ≠ a → Q .non (upd (upd H dx (exd dx [(f, v)])) a (exo a C (some dx)))
/-- the reading of raise C(e) -/
def tRaiseX (K : PySem.W.Frag) (C : Addr) (f : Str) (W : WX) (ta : TA) : TS := fun _ σ H => tMkO C (spInit K C f) [] ta σ H fun cls d H' => W cls d σ H'
section
variable {K : PySem.W.Frag} {σ : L2.St} {H : Hp} {C : Addr} {f : Str} {W : WX} {ta : TA} {D : Ends}
theorem rd_raiseX (h : ta σ H fun vs H1 => ∃ v, vs = [v] ∧ ∀ d, H1 d = none → W (.ref C) (some d) σ (upd H1 d (.xd [(f, v)]))) (hm : ∀ {q q' : List V → Hp → Prop}, (∀ vs H, q vs H → q' vs H) → ta σ H q → ta σ H q') : tRaiseX K C f W ta D σ H := by
  refine hm (fun vs H1 h => ?_) h
  obtain ⟨v, rfl, h⟩ := h
  refine ⟨by simp, fun a ha => ⟨a, v, rfl, upd_same, fun dx hdx hne => ⟨rfl, dx, [(f, v)], upd_same, ?_, ?_, ?_⟩⟩⟩
  · rw [upd_ne hne, upd_same]
  · rw [upd_ne hne] at hdx
    exact hdx
  · rw [mk_heap ha hne]
    rw [upd_ne hne] at hdx
    exact h dx hdx
theorem rd_raise1 {te : TE} (h : te σ H fun v H1 => ∀ d, H1 d = none → W (.ref C) (some d) σ (upd H1 d (.xd [(f, v)]))) (hm : ∀ {q q' : V → Hp → Prop}, (∀ v H, q v H → q' v H) → te σ H q → te σ H q') : tRaiseX K C f W (tCons te tNil) D σ H :=
  rd_raiseX (hm (fun v H1 z => ⟨v, rfl, z⟩) h) fun {q q'} hq hh => hm (fun v H1 z => hq _ _ z) hh
theorem rd_raiseV {i : Nat} {v : V} (e : σ[i]? = some (some v)) (h : ∀ d, H d = none → W (.ref C) (some d) σ (upd H d (.xd [(f, v)]))) : tRaiseX K C f W (tCons (tVar i) tNil) D σ H :=
  rd_raise1 ⟨v, e, h⟩ fun hq ⟨v, e, z⟩ => ⟨v, e, hq _ _ z⟩
theorem rd_raiseC {v : V} (h : ∀ d, H d = none → W (.ref C) (some d) σ (upd H d (.xd [(f, v)]))) : tRaiseX K C f W (tCons (tC v) tNil) D σ H := rd_raise1 (te := tC v) h fun hq z => hq _ _ z
end
/-- how an error leaves: of the class C, the field f holding v -/
def Err (C : Addr) (f : Str) (v : V) (H : Hp) (E : XK) : Prop := ∀ d H', Same H H' → H d = none → H' d = some (.xd [(f, v)]) → E (.ref C) (some d) H'
theorem Err.now {C : Addr} {f : Str} {v : V} {H : Hp} {E : XK} (h : Err C f v H E) : ∀ d, H d = none → E (.ref C) (some d) (upd H d (.xd [(f, v)])) := fun d n => h d _ (same_new n) n upd_same
theorem Err.same {C : Addr} {f : Str} {v : V} {H H' : Hp} {E : XK} (s : Same H H') (h : Err C f v H E) : Err C f v H' E := fun d H2 s2 n e => h d H2 (s.trans s2) (s.free n) e
/-- an own error class with its own __init__, ready to be made -/
def ErrK (P : Program) (w : World) (K : PySem.W.Frag) (mg : Str → Option Value) (base : Heap) (x f : Str) (C : Addr) : Prop :=
  ∃ (fI : Addr) (fd : FuncData), EC K mg x f C fI ∧ FnOk P w K mg base CX0 1 fI fd ["self", f] (spInit K C f) ∧ Binds K fd ["self", f] []
section
variable {P : Program} {w : World} {K : PySem.W.Frag} {mg : Str → Option Value} {base : Heap} {x f : Str} {C : Addr}
theorem ErrK.g (T : ErrK P w K mg base x f C) : mg x = some (.ref C) := let ⟨_, _, t, _⟩ := T; t.g
theorem ErrK.xf (T : ErrK P w K mg base x f C) : XfC K C := let ⟨_, _, t, _⟩ := T; t.xf
theorem ErrK.ec (T : ErrK P w K mg base x f C) : ExcC K C := let ⟨_, _, t, _⟩ := T; t.ec
theorem ErrK.noF (T : ErrK P w K mg base x f C) : PySem.W.findIn K (.ref C) f = some none := let ⟨_, _, t, _⟩ := T; t.noF
end
open LamX
def KpN (p : Addr) (H H' : Hp) : Prop := ∀ b o, b ≠ p → H b = some o → (∀ ps, o ≠ .tbl ps) → H' b = some o
section
variable {p q : Addr} {H H' H1 H2 : Hp} {o u : HO}
theorem KpN.refl : KpN p H H := fun _ _ _ h _ => h
theorem KpN.trans (a : KpN p H H1) (b : KpN p H1 H2) : KpN p H H2 := fun c o n h t => b c o n (a c o n h t) t
theorem KpN.ofK (k : Kp p H H') : KpN p H H' := fun a o n h _ => k a o n h
theorem KpN.of (s : Same H H') : KpN p H H' := fun a o _ h _ => s a o h
theorem KpN.ofN (s : ExtN H H') : KpN p H H' := fun a o _ h t => s a o h t
theorem KpN.new (h : H q = none) : KpN p H (upd H q o) := .of (same_new h)
theorem KpN.at : KpN p H (upd H p o) := .ofK Kp.at
theorem lst_ntbl {xs : List V} : ∀ ps, HO.lst xs ≠ .tbl ps := fun _ z => nomatch z
theorem tup_ntbl {xs : List V} : ∀ ps, HO.tup xs ≠ .tbl ps := fun _ z => nomatch z
theorem look_extL {a : Addr} {xs : List V} (s : ExtN H H') (h : H a = some (.lst xs)) : H' a = some (.lst xs) := s _ _ h lst_ntbl
theorem look_extT {a : Addr} {xs : List V} (s : ExtN H H') (h : H a = some (.tup xs)) : H' a = some (.tup xs) := s _ _ h tup_ntbl
theorem Pool.ext (s : ExtN H H') (h : Pool H p) : Pool H' p := by
  obtain ⟨x, y, e, r⟩ := h
  exact ⟨x, y, s _ _ e lst_ntbl, r⟩
theorem Tabs.same {T : List (Addr × Str)} (s : Same H H') (t : Tabs T H) : Tabs T H' := t.ext fun b o h => s b o h
theorem Tabs.new {T : List (Addr × Str)} (n : H q = none) (t : Tabs T H) : Tabs T (upd H q o) := t.ext fun b o h => same_new n b o h
theorem codeO_lst {c : Addr} {q : Str} {xs : List V} : CodeO c q ≠ .lst xs := fun z => by
  unfold CodeO at z
  cases z
theorem Tabs.kp {T : List (Addr × Str)} (hp : Pool H p) (k : Kp p H H') (t : Tabs T H) : Tabs T H' := fun e he => by
  obtain ⟨x, y, hl, _⟩ := hp
  obtain ⟨ps, h1, h2, h3⟩ := t e he
  refine ⟨ps, k _ _ (fun z => by rw [z, hl] at h1; cases h1) h1, h2, fun pos cv hc => ?_⟩
  obtain ⟨c, e1, e2⟩ := h3 pos cv hc
  exact ⟨c, e1, k _ _ (fun z => by rw [z, hl] at e2; exact codeO_lst (Option.some.inj e2).symm) e2⟩
end
def DV (p : Addr) (H : Hp) (v : V) : Prop := scalarV v = true ∨ ∃ a xs, v = .ref a ∧ a ≠ p ∧ (H a = some (.lst xs) ∨ H a = some (.tup xs)) ∧ ∀ x ∈ xs, scalarV x = true
section
variable {p : Addr} {H H' : Hp} {v : V} {K : PySem.W.Frag}
theorem DV.ty (h : DV p H v) : TyV H v := by
  rcases h with h | ⟨a, xs, rfl, _, h | h, _⟩
  · cases v <;> first | exact True.intro | exact Bool.noConfusion h
  · exact .inl ⟨xs, h⟩
  · exact .inr ⟨xs, h⟩
theorem DV.sm (h : DV p H v) : SmV K H 1 v v := by
  rcases h with h | ⟨a, xs, rfl, _, h | h, s⟩
  · exact .inl ⟨rfl, h⟩
  · exact .inr (.inl ⟨a, a, xs, xs, rfl, rfl, .of h, .of h, rfl, fun i x y e1 e2 => by
      rw [e1] at e2
      exact ⟨Option.some.inj e2, s x (List.mem_of_getElem? e1)⟩⟩)
  · exact .inr (.inr ⟨a, a, xs, xs, rfl, rfl, .of h, .of h, rfl, fun i x y e1 e2 => by
      rw [e1] at e2
      exact ⟨Option.some.inj e2, s x (List.mem_of_getElem? e1)⟩⟩)
theorem DV.sc (h : scalarV v = true) : DV p H v := .inl h
theorem DV.lst {a : Addr} {xs : List V} (n : a ≠ p) (h : H a = some (.lst xs)) (s : ∀ x ∈ xs, scalarV x = true) : DV p H (.ref a) := .inr ⟨a, xs, rfl, n, .inl h, s⟩
theorem DV.tup {a : Addr} {xs : List V} (n : a ≠ p) (h : H a = some (.tup xs)) (s : ∀ x ∈ xs, scalarV x = true) : DV p H (.ref a) := .inr ⟨a, xs, rfl, n, .inr h, s⟩
end
/-- what the error that told caught becomes: a list of flags and of its field -/
def ErL (C : Addr) (f : Str) (L : V → List V) (Q : VK) : XK := fun cls d H' => cls = .ref C ∧ ∃ dd v, d = some dd ∧ H' dd = some (.xd [(f, v)]) ∧ ∀ p H'', Same H' H'' → H' p = none → H'' p = some (.lst (L v)) → Q (.ref p) H''
/-- try: a() / except C as e: return [.., e.f] / return None -/
def TTnone (C : Addr) (f : Str) (L : V → List V) : (XK → Hp → VK → Prop) → Hp → VK → Prop := fun tl H Q => tl (ErL C f L Q) H (fun _ H' => Q .non H')
section
variable {K : PySem.W.Frag}
theorem kit_ref {C J : Addr} {b : Bool} (s : PySem.W.subIn K (.ref C) (.ref J) = some b) (n : C ≠ J) (i : PySem.W.isClsIn K J = true) (t : PySem.W.typeIn K (.ref J) = some (.type "type")) : PySem.W.kitOne K (.ref C) (.ref J) = some b := by
  unfold PySem.W.kitOne
  rw [if_neg (by simpa using n)]
  have i' : (PySem.W.clsIn K J).isSome = true := i
  show (if ((PySem.W.clsIn K J).isSome && PySem.W.typeIn K (.ref J) == some (.type "type")) = true then PySem.W.subIn K (.ref C) (.ref J) else none) = some b
  rw [i', t]
  exact s
theorem kit_type {C : Addr} {T : String} {b : Bool} (s : PySem.W.subIn K (.ref C) (.type T) = some b) (m : PySem.W.kitMeta T = true := by decide +kernel) : PySem.W.kitOne K (.ref C) (.type T) = some b := by
  unfold PySem.W.kitOne
  rw [if_neg (by simp)]
  show (if PySem.W.kitMeta T = true then PySem.W.subIn K (.ref C) (.type T) else none) = some b
  rw [if_pos m]
  exact s
end
section
variable {X : Cx} {K : PySem.W.Frag} {σ : L2.St} {H : Hp} {Q : VK} {D : Ends} {n : L2.St → Hp → Prop} {r : VK} {b c : L2.St → Hp → Prop}
theorem rd_xf {C a : Addr} {cls : Value} {d : Option Addr} {f : Str} {te : TE} (h : te σ H fun x H1 => x = .ref a ∧ cls = .ref C ∧ ∃ (dd : Addr) (fs : List (Str × V)) (v : V), d = some dd ∧ H1 dd = some (.xd fs) ∧ fs.lookup f = some v ∧ Q v H1) : tXf a cls d C f te σ H Q := h
theorem rd_lam {T : List (Addr × Str)} {TT : (XK → Hp → VK → Prop) → Hp → VK → Prop} {t : XK → TE} (h1 : Tabs T H) (h2 : ∀ H1, ExtN H H1 → Tabs T H1 → TT (fun E H' Q' => t E σ H' Q') H1 Q) : tLam T TT t σ H Q := ⟨h1, h2⟩
theorem rd_told {C : Addr} {f : Str} {L : V → List V} {tl : XK → Hp → VK → Prop} (h : tl (ErL C f L Q) H (fun _ H' => Q .non H')) : TTnone C f L tl H Q := h
theorem rd_catG {a b : Addr} {xs ys : List V} (h1 : H a = some (.lst xs)) (h2 : H b = some (.lst ys)) (n : xs.length + ys.length ≤ 1000) (q : ∀ p, H p = none → Q (.ref p) (upd H p (.lst (xs ++ ys)))) : rCat (.ref a) (.ref b) H Q :=
  ⟨a, b, _, _, rfl, rfl, h1, h2, Nat.le_of_lt (small1000 n), fun p hp => q p hp⟩
end
end Z
namespace Z
open PySem PySem.Spec PyProof.Rows L2
def geZ : V → Bool
  | .int i => decide (0 ≤ i)
  | _ => false
def tt (u v : V) : Bool := isI u && (geZ u && inI v 1 15)
inductive TR (H : Hp) : V → Bool → Prop where
  | flat {x : V} (h : scalarV x = true) : TR H x false
  | lst {a : Addr} {xs : List V} (h : H a = some (.lst xs)) : TR H (.ref a) false
  | tupn {a : Addr} {xs : List V} (h : H a = some (.tup xs)) (n : xs.length ≠ 2) : TR H (.ref a) false
  | tup2 {a : Addr} {u v : V} (h : H a = some (.tup [u, v])) (hu : TyV H u) (hv : TyV H v) : TR H (.ref a) (tt u v)
inductive TSR (H : Hp) : V → Bool → Prop where
  | flat {x : V} (h : scalarV x = true) : TSR H x false
  | lst {a : Addr} {xs : List V} (h : H a = some (.lst xs)) : TSR H (.ref a) false
  | tupn {a : Addr} {xs : List V} (h : H a = some (.tup xs)) (n : xs.length ≠ 2) : TSR H (.ref a) false
  | tup2 {a : Addr} {u v : V} {b1 b2 : Bool} (h : H a = some (.tup [u, v])) (hu : TR H u b1) (hv : TR H v b2) : TSR H (.ref a) (b1 && b2)
/-- the parameter of a table -/
def par (t c : Int) : Nat := Builtin.Int.intBits ((if 1 > (t + c - 1) / c then 1 else (t + c - 1) / c) - 1)
/-- drawn rows: drawn values, their numbers not too long -/
def smallV : V → Prop
  | .int i => i.natAbs < 10 ^ 58
  | _ => True
def RV (p : Addr) (H : Hp) (v : V) : Prop := scalarV v = true ∨ ∃ a xs, v = .ref a ∧ a ≠ p ∧ (H a = some (.lst xs) ∨ H a = some (.tup xs)) ∧ (∀ x ∈ xs, scalarV x = true) ∧ ∀ x ∈ xs, smallV x
section
variable {p : Addr} {H H' : Hp} {v : V}
theorem RV.lst {a : Addr} {xs : List V} (n : a ≠ p) (h : H a = some (.lst xs)) (s : ∀ x ∈ xs, scalarV x = true) (t : ∀ x ∈ xs, smallV x) : RV p H (.ref a) := .inr ⟨a, xs, rfl, n, .inl h, s, t⟩
theorem RV.tup {a : Addr} {xs : List V} (n : a ≠ p) (h : H a = some (.tup xs)) (s : ∀ x ∈ xs, scalarV x = true) (t : ∀ x ∈ xs, smallV x) : RV p H (.ref a) := .inr ⟨a, xs, rfl, n, .inr h, s, t⟩
theorem RV.ne {a : Addr} (h : RV p H (.ref a)) : a ≠ p := by
  rcases h with h | ⟨b, xs, e, n, _⟩
  · exact Bool.noConfusion h
  · cases e
    exact n
end
end Z
namespace Z
open PySem PySem.Spec PyProof.Rows L2
/-- joints: place, width, shape -/
abbrev Jo := Nat × Nat × Nat
/-- the steps of a folding: shape, left, right -/
def prs1 (j : Jo) (i : Nat) : List (Nat × Nat × Nat) := (List.range i).map fun i => (j.2.2, j.1 - 1 - i, j.1 + i)
def prs (js : List Jo) : List (Nat × Nat × Nat) := js.flatMap fun j => prs1 j j.2.1
def stp (f : Int → Int → Int → Int × Int) (xs : List Int) (t : Nat × Nat × Nat) : List Int := (xs.set t.2.1 (f t.1 (xs.getD t.2.1 0) (xs.getD t.2.2 0)).1).set t.2.2 (f t.1 (xs.getD t.2.1 0) (xs.getD t.2.2 0)).2
def turnL (f : Int → Int → Int → Int × Int) (xs : List Int) (js : List Jo) : List Int := (prs js).foldl (stp f) xs
/-- the joints have room: behind the place b of a joint of the width wb, in a list of n values -/
def Rm (n : Nat) : Nat → Nat → List Jo → Prop
  | _, _, [] => True
  | b, wb, j :: r => b < j.1 ∧ j.1 < n ∧ b + wb + j.2.1 ≤ j.1 ∧ j.1 + j.2.1 ≤ n ∧ j.2.1 ≤ 8 ∧ j.2.2 ≤ 3 ∧ (j.2.1 = 0 → j.2.2 = 0) ∧ Rm n j.1 j.2.1 r
/-- the place that is folded with a place -/
def prt : List Jo → Nat → Option Nat
  | [], _ => none
  | j :: r, k => if j.1 ≤ k + j.2.1 ∧ k < j.1 + j.2.1 then some (2 * j.1 - 1 - k) else prt r k
def JsAt (H : Hp) (vs : List V) (js : List Jo) : Prop := vs.length = js.length ∧ ∀ (i : Nat) (v : V), vs[i]? = some v → ∃ (j : Jo) (a q : Addr), js[i]? = some j ∧ v = .ref a ∧ H a = some (.tup [.int (j.1 : Nat), .ref q]) ∧ H q = some (.tup [.int (j.2.1 : Nat), .int (j.2.2 : Nat)])
theorem JsAt.kp {p : Addr} {H H' : Hp} {vs : List V} {js : List Jo} (k : Kp p H H') (hp : ∃ xs, H p = some (.lst xs)) (h : JsAt H vs js) : JsAt H' vs js := ⟨h.1, fun i v e => by
  obtain ⟨j, a, q, e1, e2, e3, e4⟩ := h.2 i v e
  obtain ⟨xs, hp⟩ := hp
  exact ⟨j, a, q, e1, e2, k _ _ (fun z => by rw [z, hp] at e3; cases e3) e3, k _ _ (fun z => by rw [z, hp] at e4; cases e4) e4⟩⟩
theorem JsAt.same {H H' : Hp} {vs : List V} {js : List Jo} (k : Same H H') (h : JsAt H vs js) : JsAt H' vs js := ⟨h.1, fun i v e => by
  obtain ⟨j, a, q, e1, e2, e3, e4⟩ := h.2 i v e
  exact ⟨j, a, q, e1, e2, k _ _ e3, k _ _ e4⟩⟩
def spSound : Sp := fun vs H Q _ => ∃ (a : Addr) (ns : List Int), vs = [.ref a] ∧ H a = some (.lst (ns.map V.int)) ∧ ∀ H', Same H H' → Q .non H'
theorem use_sound {a : Addr} {ns : List Int} {H : Hp} {Q : VK} {E : XK} (h : H a = some (.lst (ns.map V.int))) (q : ∀ H', Same H H' → Q .non H') : spSound ([.ref a] ++ []) H Q E := ⟨a, ns, rfl, h, q⟩
def spFolds (f : Int → Int → Int → Int × Int) : Sp := fun vs H Q _ => ∃ (a b : Addr) (xs : List Int) (refs : List V) (js : List Jo), vs = [.ref a, .ref b] ∧ H a = some (.lst (xs.map V.int)) ∧ H b = some (.lst refs) ∧ JsAt H refs js ∧ Rm xs.length 0 0 js ∧ xs.length ≤ 10000 ∧
  ∀ p H', H p = none → Same H H' → H' p = some (.lst ((turnL f xs js).map V.int)) → Q (.ref p) H'
theorem use_folds {f : Int → Int → Int → Int × Int} {a b : Addr} {xs : List Int} {refs : List V} {js : List Jo} {H : Hp} {Q : VK} {E : XK} (h1 : H a = some (.lst (xs.map V.int))) (h2 : H b = some (.lst refs)) (h3 : JsAt H refs js) (h4 : Rm xs.length 0 0 js) (h5 : xs.length ≤ 10000)
    (q : ∀ p H', H p = none → Same H H' → H' p = some (.lst ((turnL f xs js).map V.int)) → Q (.ref p) H') : spFolds f ([.ref a, .ref b] ++ []) H Q E := ⟨a, b, xs, refs, js, rfl, h1, h2, h3, h4, h5, q⟩
theorem rd_callL {σ : L2.St} {H : Hp} {Q : VK} {i : Nat} {f : Addr} {sp : Sp} {dvs : List V} {E : XK} {t : TA} (e : σ[i]? = some (some (.ref f))) (h : t σ H fun vs H1 => sp (vs ++ dvs) H1 Q E) : tCallL i f sp dvs E t σ H Q := ⟨e, h⟩
def spLJoints : Sp := fun vs H Q _ => ∃ (p : Addr) (n : Nat), vs = [.ref p, .int (n : Nat)] ∧ Pool H p ∧ n ≤ 100 ∧ ∀ D H' refs js, H D = none → H' D = some (.lst refs) → JsAt H' refs js → Rm n 0 0 js → Pool H' p → Kp p H H' → Q (.ref D) H'
theorem use_ljoints {p : Addr} {n : Nat} {H : Hp} {Q : VK} {E : XK} (h : Pool H p) (hn : n ≤ 100) (q : ∀ D H' refs js, H D = none → H' D = some (.lst refs) → JsAt H' refs js → Rm n 0 0 js → Pool H' p → Kp p H H' → Q (.ref D) H') : spLJoints ([.ref p, .int (n : Nat)] ++ []) H Q E := ⟨p, n, rfl, h, hn, q⟩
def optV : Option Nat → V
  | some m => .int (m : Nat)
  | none => .non
def spPartner : Sp := fun vs H Q _ => ∃ (b : Addr) (refs : List V) (js : List Jo) (n k : Nat), vs = [.ref b, .int (k : Nat)] ∧ H b = some (.lst refs) ∧ JsAt H refs js ∧ Rm n 0 0 js ∧ Q (optV (prt js k)) H
theorem use_partner {b : Addr} {refs : List V} {js : List Jo} {n k : Nat} {H : Hp} {Q : VK} {E : XK} (h1 : H b = some (.lst refs)) (h2 : JsAt H refs js) (h3 : Rm n 0 0 js) (q : Q (optV (prt js k)) H) : spPartner ([.ref b, .int (k : Nat)] ++ []) H Q E := ⟨b, refs, js, n, k, rfl, h1, h2, h3, q⟩
theorem JsAt.new' {q : Addr} {H : Hp} {o : HO} {vs : List V} {js : List Jo} (n : H q = none) (h : JsAt H vs js) : JsAt (upd H q o) vs js := h.same (same_new n)
theorem JsAt.same' {H H' : Hp} {vs : List V} {js : List Jo} (s : Same H H') (h : JsAt H vs js) : JsAt H' vs js := h.same s
theorem JsAt.at' {q : Addr} {xs : List V} {H : Hp} {o : HO} {vs : List V} {js : List Jo} (n : H q = some (.lst xs)) (h : JsAt H vs js) : JsAt (upd H q o) vs js := h.kp Kp.at ⟨_, n⟩
def KpL (l : List Addr) (H H' : Hp) : Prop := ∀ a o, a ∉ l → H a = some o → H' a = some o
section
variable {l : List Addr} {p q : Addr} {H H' H1 H2 : Hp} {o : HO}
theorem KpL.refl : KpL l H H := fun _ _ _ h => h
theorem KpL.trans (a : KpL l H H1) (b : KpL l H1 H2) : KpL l H H2 := fun c o n h => b c o n (a c o n h)
theorem KpL.ofS (s : Same H H') : KpL l H H' := fun a o _ h => s a o h
theorem KpL.ofK (m : p ∈ l) (k : Kp p H H') : KpL l H H' := fun a o n h => k a o (fun z => n (by rw [z]; exact m)) h
theorem KpL.new (n : H q = none) : KpL l H (upd H q o) := .ofS (same_new n)
theorem KpL.at (m : q ∈ l) : KpL l H (upd H q o) := fun a x n h => by
  have ne : a ≠ q := fun z => n (by rw [z]; exact m)
  rw [upd_ne ne]
  exact h
theorem KpL.mono {m : List Addr} (h : ∀ a ∈ l, a ∈ m) (k : KpL l H H') : KpL m H H' := fun a o n e => k a o (fun z => n (h a z)) e
theorem KpL.free (k : KpL l H H') (n : H' q = none) (m : q ∉ l) : H q = none := by
  cases e : H q with
  | none => rfl
  | some o => rw [k _ _ m e] at n; cases n
end
end Z
namespace Z
open PySem PySem.Spec PyProof.Rows L2
/-- the tuple at a, each item in a new pair -/
def IteT (K : PySem.W.Frag) (a : Addr) : It :=
  ⟨fun i H => ∃ (xs : List V) (x : V), SqT K H a xs ∧ xs[i]? = some x, fun i H v H' => ∃ T x, v = .ref T ∧ H T = none ∧ H' = upd H T (.tup [.int (i : Nat), x]) ∧ ∀ xs, SqT K H a xs → xs[i]? = some x, fun i H => ∃ xs : List V, SqT K H a xs ∧ xs.length = i⟩
def iEnumA (K : PySem.W.Frag) (ta : TA) : TI := fun σ H R => ta σ H fun vs H1 => ∃ a xs, vs = [.ref a] ∧ ((SqL K H1 a xs ∧ R (Ite K a) H1) ∨ (SqT K H1 a xs ∧ R (IteT K a) H1))
def iSeq (K : PySem.W.Frag) (tl : TE) : TI := fun σ H R => tl σ H fun x H1 => ∃ a xs, x = .ref a ∧ ((SqL K H1 a xs ∧ R (Itl K a) H1) ∨ (SqT K H1 a xs ∧ R (Itt K a) H1))
def LT (H : Hp) (a : Addr) (xs : List V) : Prop := H a = some (.lst xs) ∨ H a = some (.tup xs)
section
variable {K : PySem.W.Frag} {σ : L2.St} {H H' : Hp} {Q : VK} {g : TG} {tb : TS} {D : Ends} {a : Addr} {xs : List V}
theorem LT.same (s : Same H H') (h : LT H a xs) : LT H' a xs := h.imp (s _ _) (s _ _)
theorem LT.same' (s : Same H H') (h : LT H a xs) : LT H' a xs := h.same s
theorem LT.new' {q : Addr} {o : HO} (n : H q = none) (h : LT H a xs) : LT (upd H q o) a xs := h.same (same_new n)
theorem LT.l (h : H a = some (.lst xs)) : LT H a xs := .inl h
theorem LT.t (h : H a = some (.tup xs)) : LT H a xs := .inr h
theorem LT.ne {q : Addr} (h : LT H a xs) (n : H q = none) : a ≠ q := by
  rcases h with h | h
  · exact ne_of_none h n
  · exact ne_of_none h n
theorem rd_lenA (h : LT H a xs) (q : Q (.int xs.length) H) : rLen K [.ref a] H Q := by
  rcases h with h | h
  · exact rd_lenL (SqL.of h) q
  · exact rd_lenT (SqT.of h) q
theorem rd_listA (h : LT H a xs) (q : ∀ l, H l = none → Q (.ref l) (upd H l (.lst xs))) : rToList K [.ref a] H Q := by
  rcases h with h | h
  · exact ⟨a, xs, rfl, .inl (SqL.of h), q⟩
  · exact ⟨a, xs, rfl, .inr (SqT.of h), q⟩
theorem rd_forEA {ts : TA} (h : ts σ H fun vs H1 => ∃ a xs, vs = [.ref a] ∧ ((SqL K H1 a xs ∧ LpW (Ite K a) g tb D σ H1) ∨ (SqT K H1 a xs ∧ LpW (IteT K a) g tb D σ H1))) : tFor (iEnumA K ts) g tb D σ H := h
theorem rd_forS {te : TE} (h : te σ H fun x H1 => ∃ a xs, x = .ref a ∧ ((SqL K H1 a xs ∧ LpW (Itl K a) g tb D σ H1) ∨ (SqT K H1 a xs ∧ LpW (Itt K a) g tb D σ H1))) : tFor (iSeq K te) g tb D σ H := h
end
def rToTup (K : PySem.W.Frag) : List V → Hp → VK → Prop := fun xs H Q => ∃ p ys, xs = [.ref p] ∧ ((SqL K H p ys ∧ ∀ l, H l = none → Q (.ref l) (upd H l (.tup ys))) ∨ (SqT K H p ys ∧ Q (.ref p) H))
theorem rd_tupL {K : PySem.W.Frag} {H : Hp} {Q : VK} {p : Addr} {xs : List V} (h : SqL K H p xs) (q : ∀ l, H l = none → Q (.ref l) (upd H l (.tup xs))) : rToTup K [.ref p] H Q := ⟨p, xs, rfl, .inl ⟨h, q⟩⟩
def spItemsA : Sp := fun vs H Q _ => ∃ (a : Addr) (ns : List Int), vs = [.ref a] ∧ LT H a (ns.map V.int) ∧ ∀ H', Same H H' → Q .non H'
theorem use_itemsA {a : Addr} {ns : List Int} {H : Hp} {Q : VK} {E : XK} (h : LT H a (ns.map V.int)) (q : ∀ H', Same H H' → Q .non H') : spItemsA ([.ref a] ++ []) H Q E := ⟨a, ns, rfl, h, q⟩
def spSoundA : Sp := spItemsA
theorem use_soundA {a : Addr} {ns : List Int} {H : Hp} {Q : VK} {E : XK} (h : LT H a (ns.map V.int)) (q : ∀ H', Same H H' → Q .non H') : spSoundA ([.ref a] ++ []) H Q E := ⟨a, ns, rfl, h, q⟩
def spFoldsA (f : Int → Int → Int → Int × Int) : Sp := fun vs H Q _ => ∃ (a b : Addr) (xs : List Int) (refs : List V) (js : List Jo), vs = [.ref a, .ref b] ∧ LT H a (xs.map V.int) ∧ LT H b refs ∧ JsAt H refs js ∧ Rm xs.length 0 0 js ∧ xs.length ≤ 10000 ∧
  ∀ p H', H p = none → Same H H' → H' p = some (.lst ((turnL f xs js).map V.int)) → Q (.ref p) H'
theorem use_foldsA {f : Int → Int → Int → Int × Int} {a b : Addr} {xs : List Int} {refs : List V} {js : List Jo} {H : Hp} {Q : VK} {E : XK} (h1 : LT H a (xs.map V.int)) (h2 : LT H b refs) (h3 : JsAt H refs js) (h4 : Rm xs.length 0 0 js) (h5 : xs.length ≤ 10000)
    (q : ∀ p H', H p = none → Same H H' → H' p = some (.lst ((turnL f xs js).map V.int)) → Q (.ref p) H') : spFoldsA f ([.ref a, .ref b] ++ []) H Q E := ⟨a, b, xs, refs, js, rfl, h1, h2, h3, h4, h5, q⟩
theorem use_foldsAK {f : Int → Int → Int → Int × Int} {a b : Addr} {xs : List Int} {refs : List V} {js : List Jo} {H : Hp} {Q : VK} {E : XK} (h1 : LT H a (xs.map V.int)) (h2 : LT H b refs) (h3 : JsAt H refs js) (h4 : Rm xs.length 0 0 js) (h5 : xs.length ≤ 10000)
    (q : ∀ p H', H p = none → Same H H' → H' p = some (.lst ((turnL f xs js).map V.int)) → Q (.ref p) H') : spFoldsA f (kg 0 2 [1, 0] [] [.ref b, .ref a]) H Q E := ⟨a, b, xs, refs, js, rfl, h1, h2, h3, h4, h5, q⟩
end Z
namespace Z
open PySem PySem.Spec PyProof.Rows L2
/-- the last k binary digits of u, as signs -/
def lowB (u : Nat) : Nat → List Nat
  | 0 => []
  | k + 1 => lowB (u / 2) k ++ [48 + u % 2]
theorem lowB_length (u : Nat) : ∀ k, (lowB u k).length = k
  | 0 => rfl
  | k + 1 => by
    show (lowB (u / 2) k ++ [48 + u % 2]).length = k + 1
    rw [List.length_append, lowB_length (u / 2) k]
    rfl
/-- how many binary digits -/
def nb (u : Nat) : Nat := if u = 0 then 1 else Nat.log2 u + 1
/-- the binary digits, as Python writes them -/
def binB (u : Nat) : List Nat := lowB u (nb u)
theorem binB_length (u : Nat) : (binB u).length = nb u := lowB_length _ _
/-- the bits of a code number -/
def encB (u k : Nat) : List Nat := if u / 2 ^ k < 20 then List.replicate (u / 2 ^ k) 49 ++ [48] ++ lowB u k else List.replicate (19 + nb u) 49 ++ [48] ++ binB u
abbrev Tb := Int × Int
def tbB (t : Tb) (u : Nat) : Tb := if t.2 + 1 > 15 then ((t.1 + (u : Int)) / 2, 8) else (t.1 + (u : Int), t.2 + 1)
def uOf (n : Int) : Nat := (codeU n).toNat
def wst (ns : List Int) (first : Nat) (T : Tb × Tb) : Nat → List (List Nat) × (Tb × Tb)
  | 0 => ([], T)
  | i + 1 =>
    let s := wst ns first T i
    let u := uOf (ns.getD i 0)
    if i < first then (s.1 ++ [encB u (par s.2.1.1 s.2.1.2)], (tbB s.2.1 u, s.2.2)) else (s.1 ++ [encB u (par s.2.2.1 s.2.2.2)], (s.2.1, tbB s.2.2 u))
/-- a table in its limits, its total at most m -/
def TbOk (m : Int) (t : Tb) : Prop := 0 ≤ t.1 ∧ t.1 ≤ m ∧ 1 ≤ t.2 ∧ t.2 ≤ 15
theorem TbOk.mono {m n : Int} {t : Tb} (h : TbOk m t) (e : m ≤ n) : TbOk n t := ⟨h.1, Int.le_trans h.2.1 e, h.2.2⟩
end Z
namespace Z
open PySem PySem.Spec PyProof.Rows L2
open SX (S S_len S_cat S_inj)
section
open PySem.Builtin PySem.Builtin.Str PySem.Builtin.Int PySem.Builtin.Float
theorem eb : Str.ofString "b" = S [98] := by rfl
end
end Z
namespace Z
open PySem PySem.Spec PyProof.Rows L2
open SX (S S_len S_cat S_inj)
def rAddT : R2 := fun x y H Q => ∃ a b : List Nat, x = .str (S a) ∧ y = .str (S b) ∧ a.length + b.length ≤ 16777216 ∧ Q (.str (S (a ++ b))) H
/-- a text, so many times -/
def repL (l : List Nat) (n : Nat) : List Nat := (List.replicate n l).flatten
theorem repL_one (c n : Nat) : repL [c] n = List.replicate n c := by
  induction n with
  | zero => rfl
  | succ n ih =>
    unfold repL at ih ⊢
    rw [List.replicate_succ, List.flatten_cons, ih]
    rfl
def rMulT : R2 := fun x y H Q => ∃ (a : List Nat) (k : Int), x = .str (S a) ∧ y = .int k ∧ -1000000 ≤ k ∧ k ≤ 1000000 ∧ a.length * k.toNat ≤ 1000000 ∧ Q (.str (S (repL a k.toNat))) H
theorem e_empty : Str.ofString "" = S [] := by rfl
theorem e_0 : Str.ofString "0" = S [48] := by rfl
theorem e_1 : Str.ofString "1" = S [49] := by rfl
theorem e_01 : Str.ofString "01" = S [48, 49] := by rfl
section
variable {X : Cx}
def tFmtB (te ts : TE) : TE := fun σ H Q => te σ H fun x H1 => ts σ H1 fun y H2 => ∃ n : Nat, x = .int (n : Int) ∧ y = .str (S [98]) ∧ nb n ≤ 16777216 ∧ Q (.str (S (binB n))) H2
end
theorem joinL_flat : ∀ ys : List (List Nat), TL.joinL [] ys = ys.flatten
  | [] => rfl
  | [p] => (List.append_nil p).symm
  | p :: q :: r => by
    show p ++ ([] ++ TL.joinL [] (q :: r)) = p ++ (q :: r).flatten
    rw [joinL_flat (q :: r)]
    rfl
def rJoin (K : PySem.W.Frag) : V → List V → Hp → VK → Prop := fun x xs H Q => ∃ a p, ∃ ys : List Str, x = .str a ∧ xs = [.ref p] ∧ (SqL K H p (ys.map V.str) ∨ SqT K H p (ys.map V.str)) ∧
    (ys.map (·.length)).sum + ys.length * a.length ≤ 16777216 ∧ Q (.str (Txt.join a ys)) H
section
variable {K : PySem.W.Frag} {σ : L2.St} {H : Hp} {Q : VK}
theorem rd_addT {a b : List Nat} {x y : Str} (e1 : x = S a) (e2 : y = S b) (hl : a.length + b.length ≤ 16777216) (h : Q (.str (S (a ++ b))) H) : rAddT (.str x) (.str y) H Q := ⟨a, b, congrArg V.str e1, congrArg V.str e2, hl, h⟩
theorem rd_mulT {c : Nat} {x : Str} {k : Nat} (e1 : x = S [c]) (hl : k ≤ 1000000) (h : Q (.str (S (List.replicate k c))) H) : rMulT (.str x) (.int (k : Int)) H Q :=
  ⟨[c], (k : Int), congrArg V.str e1, rfl, by omega, by omega, by rw [Int.toNat_natCast]; show 1 * k ≤ _; omega, by rw [Int.toNat_natCast, repL_one]; exact h⟩
theorem rd_lenS {l : List Nat} (hl : l.length ≤ 16777216) (h : Q (.int (l.length : Nat)) H) : rLen K [.str (S l)] H Q := ⟨.str (S l), l.length, rfl, ⟨by rw [S_len]; exact hl, (S_len l).symm⟩, h⟩
theorem rd_slSF {l : List Nat} {k : Nat} (hl : l.length ≤ 16777216) (h : Q (.str (S (l.drop k))) H) : C8.rSlX (.str (S l)) (some (k : Int)) none H Q := ⟨S l, rfl, by rw [S_len]; exact hl, by rw [SX.slice_from (by omega), Int.toNat_natCast]; exact h⟩
theorem rd_slST {l : List Nat} {k : Nat} (hl : l.length ≤ 16777216) (h : Q (.str (S (l.take k))) H) : C8.rSlX (.str (S l)) none (some (k : Int)) H Q := ⟨S l, rfl, by rw [S_len]; exact hl, by rw [SX.slice_to (by omega), Int.toNat_natCast]; exact h⟩
theorem rd_joinS {p : Addr} {ls : List (List Nat)} {x : Str} (e : x = S []) (hp : SqL K H p (ls.map fun l => V.str (S l))) (hl : ls.flatten.length ≤ 16777216) (h : Q (.str (S ls.flatten)) H) : rJoin K (.str x) [.ref p] H Q := by
  refine ⟨S [], p, ls.map S, congrArg V.str e, rfl, .inl ?_, ?_, ?_⟩
  · rw [List.map_map]
    exact hp
  · rw [SX.lens]
    show _ + _ * 0 ≤ _
    rw [Nat.mul_zero, Nat.add_zero, ← List.length_flatten]
    exact hl
  · rw [SX.join_S, joinL_flat]
    exact h
theorem rd_fmtb {te ts : TE} (h : te σ H fun x H1 => ts σ H1 fun y H2 => ∃ n : Nat, x = .int (n : Int) ∧ y = .str (S [98]) ∧ nb n ≤ 16777216 ∧ Q (.str (S (binB n))) H2) : tFmtB te ts σ H Q := h
theorem rd_fmtn {n : Nat} {x : Str} {P : Nat → Prop} (e : x = S [98]) (hl : nb n ≤ 16777216) (h : P n) : ∃ m : Nat, V.int (n : Int) = .int (m : Int) ∧ V.str x = .str (S [98]) ∧ nb m ≤ 16777216 ∧ P m := ⟨n, rfl, congrArg V.str e, hl, h⟩
theorem rd_ixS {l : List Nat} {x : Str} {i c : Nat} (e : x = S l) (hl : l.length ≤ 16777216) (a : l[i]? = some c) (h : Q (.str (S [c])) H) : rIxS (.str x) (.int (i : Int)) H Q := ⟨S l, (i : Int), c, congrArg V.str e, rfl, by rw [S_len]; exact hl, atI_nat a, h⟩
theorem rd_bmS {m : V → List V → Hp → VK → Prop} {to : TE} {ts : TA} (h : to σ H fun x H1 => tyV K "str" x H1 ∧ ts σ H1 fun xs H2 => m x xs H2 Q) : tBM K "str" m to ts σ H Q := h
theorem rd_tyS {x : Str} {P : Prop} (q : P) : tyV K "str" (.str x) H ∧ P := ⟨rfl, q⟩
end
end Z
namespace Z
open PySem PySem.Spec PyProof.Rows L2
open SX (S S_len S_cat S_inj)
def LK (H H' : Hp) : Prop := ∀ b o, H b = some o → (∀ xs, o ≠ .lst xs) → H' b = some o
section
variable {K : PySem.W.Frag} {H H' H1 : Hp} {a q : Addr} {xs : List V} {o : HO}
theorem LK.refl : LK H H := fun _ _ h _ => h
theorem LK.trans (h : LK H H') (k : LK H' H1) : LK H H1 := fun b o e n => k b o (h b o e n) n
theorem LK.of (s : Same H H') : LK H H' := fun b o e _ => s b o e
theorem LK.new (n : H q = none) : LK H (upd H q o) := .of (same_new n)
theorem LK.at {ys : List V} (n : H q = some (.lst ys)) : LK H (upd H q o) := fun b x e nl => by
  have nb : b ≠ q := fun z => by
    rw [z, n] at e
    exact nl ys (Option.some.inj e).symm
  rw [upd_ne nb]
  exact e
theorem LK.pool {p : Addr} (h : Pool H p) (k : Kp p H H') : LK H H' := fun b x e nl => k b x (fun z => by
  obtain ⟨y1, y2, e2, _⟩ := h
  rw [z, e2] at e
  exact nl _ (Option.some.inj e).symm) e
theorem LK.seqT (s : LK H H') (h : SqT K H a xs) : SqT K H' a xs := by
  rcases h with (h | ⟨o, h⟩) | h
  · exact .inl (.inl (s _ _ h fun _ z => nomatch z))
  · exact .inl (.inr ⟨o, s _ _ h fun _ z => nomatch z⟩)
  · exact .inr h
theorem LK.tyo {t : Value} (ht : t = .type "tuple") (s : LK H H') (h : TyOf K H (.ref a) t) : TyOf K H' (.ref a) t := by
  cases h with
  | lst e => exact absurd ht (by decide)
  | frz e => exact .frz (s _ _ e fun _ z => nomatch z)
  | tup e => exact .tup (s _ _ e fun _ z => nomatch z)
  | dK e => exact .dK (s _ _ e fun _ z => nomatch z)
  | dT e => exact .dT (s _ _ e fun _ z => nomatch z)
  | ins e cl ha hn htk hm => exact .ins (s _ _ e fun _ z => nomatch z) cl ha hn htk hm
theorem LK.tyx (s : LK H H') (h : TyX K H (.ref a) (.type "tuple")) : TyX K H' (.ref a) (.type "tuple") := by
  generalize ht : (Value.type "tuple") = t at h ⊢
  cases h with
  | base b => exact .base (s.tyo ht.symm b)
  | set e => exact .set (s _ _ e fun _ z => nomatch z)
  | kList e c => exact .kList e c
  | kTuple e c => exact .kTuple e c
  | kDict e c => exact .kDict e c
  | fTuple e => exact .fTuple (s _ _ e fun _ z => nomatch z)
  | fDict e => exact .fDict (s _ _ e fun _ z => nomatch z)
theorem TupV.lk (s : LK H H') (h : TupV K H a xs) : TupV K H' a xs := ⟨s.seqT h.1, s.tyx h.2⟩
end
def TbV (K : PySem.W.Frag) (H : Hp) (r : Addr) (t : Tb) : Prop := TupV K H r [.int t.1, .int t.2]
def TbsV (K : PySem.W.Frag) (H : Hp) (a : Addr) (T : Tb × Tb) : Prop := ∃ r0 r1, TupV K H a [.ref r0, .ref r1] ∧ TbV K H r0 T.1 ∧ TbV K H r1 T.2
section
variable {K : PySem.W.Frag} {H H' : Hp} {a p : Addr} {t : Tb} {T : Tb × Tb}
theorem TbV.lk (s : LK H H') (h : TbV K H a t) : TbV K H' a t := TupV.lk s h
theorem TbsV.lk (s : LK H H') (h : TbsV K H a T) : TbsV K H' a T := let ⟨r0, r1, h0, h1, h2⟩ := h; ⟨r0, r1, h0.lk s, h1.lk s, h2.lk s⟩
theorem TbV.of (h : H a = some (.tup [.int t.1, .int t.2])) : TbV K H a t := TupV.of h
def spStart (K : PySem.W.Frag) : Sp := fun vs H Q _ => ∃ p, vs = [.ref p] ∧ Pool H p ∧ ∀ a T H', H a = none → TbsV K H' a T → TbOk (10 ^ 56) T.1 → TbOk (10 ^ 56) T.2 → Pool H' p → Kp p H H' → Q (.ref a) H'
end
theorem use_start {K : PySem.W.Frag} {p : Addr} {H : Hp} {Q : VK} {E : XK} (h : Pool H p) (q : ∀ a T H', H a = none → TbsV K H' a T → TbOk (10 ^ 56) T.1 → TbOk (10 ^ 56) T.2 → Pool H' p → Kp p H H' → Q (.ref a) H') : spStart K ([.ref p] ++ []) H Q E := ⟨p, rfl, h, q⟩
theorem shr_nat (u k : Nat) : ((u : Int) / 2 ^ ((k : Int)).toNat) = ((u / 2 ^ k : Nat) : Int) := by
  rw [Int.toNat_natCast]
  norm_cast
theorem rd_shr {u k : Nat} {H : Hp} {Q : VK} (h : Q (.int ((u / 2 ^ k : Nat) : Int)) H) : rI (fun _ j => 0 ≤ j) (fun i j => V.int (i / 2 ^ j.toNat)) (.int (u : Int)) (.int (k : Int)) H Q := ⟨(u : Int), (k : Int), rfl, rfl, by omega, by show Q (V.int ((u : Int) / 2 ^ ((k : Int)).toNat)) H; rw [shr_nat]; exact h⟩
theorem rd_bit {m : Nat} {H : Hp} {Q : VK} (h : Q (.str (S [48 + m % 2])) H) : rIxS (.str (Str.ofString "01")) (.int ((m : Int) % 2)) H Q := by
  rcases (show m % 2 = 0 ∨ m % 2 = 1 by omega) with e | e
  · rw [e] at h
    have e2 : (m : Int) % 2 = ((0 : Nat) : Int) := by omega
    rw [e2]
    exact rd_ixS e_01 (by decide) rfl h
  · rw [e] at h
    have e2 : (m : Int) % 2 = ((1 : Nat) : Int) := by omega
    rw [e2]
    exact rd_ixS e_01 (by decide) rfl h
end Z
namespace Z
open PySem PySem.Spec PyProof.Rows L2
open SX (S S_len S_cat S_inj)
section
open PySem.NumText PySem.Calls Hx
def IsB (c : Nat) : Prop := c = 48 ∨ c = 49
end
end Z
namespace Z
open PySem PySem.Spec PyProof.Rows L2
open SX (S S_len S_cat S_inj)
def bitsOf (z : Str) : Bool := decide (V.str (Txt.stripChars z (S [48, 49])) = V.str (Str.ofString ""))
inductive BitR (H : Hp) : V → Bool → Prop where
  | str {z : Str} (h : z.length ≤ 1000) : BitR H (.str z) (bitsOf z)
  | non : BitR H .non false
  | int {i : Int} : BitR H (.int i) false
  | lst {a : Addr} {xs : List V} (h : H a = some (.lst xs)) : BitR H (.ref a) false
def layB (ln : V) (b : Bool) (lv st : V) : Bool := (inI ln 1 64 && b) && (inI lv 0 5 && inI st 1 64)
def frB (v0 ln : V) (b : Bool) (lv st mk : V) (c : Bool) : Bool := decide (v0 = V.str (Str.ofString "frame")) && (layB ln b lv st && (inI mk 0 9972 && c))
inductive RecR (H : Hp) : V → Bool → Prop where
  | flat {x : V} (h : scalarV x = true) : RecR H x false
  | lst {a : Addr} {xs : List V} (h : H a = some (.lst xs)) : RecR H (.ref a) false
  | tupn {a : Addr} {xs : List V} (h : H a = some (.tup xs)) (n : xs.length ≠ 2) (m : xs.length ≠ 7) : RecR H (.ref a) false
  | st {a : Addr} {s : Str} {v : V} {b : Bool} (h : H a = some (.tup [.str s, v])) (hv : TSR H v b) : RecR H (.ref a) (decide (V.str s = V.str (Str.ofString "state")) && b)
  | fr {a : Addr} {v0 ln jt lv st mk bt : V} {b c : Bool} (h : H a = some (.tup [v0, ln, jt, lv, st, mk, bt])) (h0 : scalarV v0 = true) (hl : TyV H ln) (hj : JR H jt b) (h3 : TyV H lv) (h4 : TyV H st) (h5 : TyV H mk) (hb : BitR H bt c) : RecR H (.ref a) (frB v0 ln b lv st mk c)
section
variable {H H' : Hp} {x : V} {b : Bool}
theorem tyv_same (s : Same H H') (h : TyV H x) : TyV H' x := by
  cases x with
  | ref a =>
    rcases h with ⟨xs, h⟩ | ⟨xs, h⟩
    · exact .inl ⟨xs, s _ _ h⟩
    · exact .inr ⟨xs, s _ _ h⟩
  | _ => exact h
theorem JR.same (s : Same H H') (h : JR H x b) : JR H' x b := by
  cases h with
  | flat h => exact .flat h
  | lst h => exact .lst (s _ _ h)
  | tupn h n => exact .tupn (s _ _ h) n
  | tup2 h hu hv => exact .tup2 (s _ _ h) (tyv_same s hu) (tyv_same s hv)
theorem TR.same (s : Same H H') (h : TR H x b) : TR H' x b := by
  cases h with
  | flat h => exact .flat h
  | lst h => exact .lst (s _ _ h)
  | tupn h n => exact .tupn (s _ _ h) n
  | tup2 h hu hv => exact .tup2 (s _ _ h) (tyv_same s hu) (tyv_same s hv)
theorem TSR.same (s : Same H H') (h : TSR H x b) : TSR H' x b := by
  cases h with
  | flat h => exact .flat h
  | lst h => exact .lst (s _ _ h)
  | tupn h n => exact .tupn (s _ _ h) n
  | tup2 h hu hv => exact .tup2 (s _ _ h) (hu.same s) (hv.same s)
theorem BitR.same (s : Same H H') (h : BitR H x b) : BitR H' x b := by
  cases h with
  | str h => exact .str h
  | non => exact .non
  | int => exact .int
  | lst h => exact .lst (s _ _ h)
theorem RecR.same (s : Same H H') (h : RecR H x b) : RecR H' x b := by
  cases h with
  | flat h => exact .flat h
  | lst h => exact .lst (s _ _ h)
  | tupn h n m => exact .tupn (s _ _ h) n m
  | st h hv => exact .st (s _ _ h) (hv.same s)
  | fr h h0 hl hj h3 h4 h5 hb => exact .fr (s _ _ h) h0 (tyv_same s hl) (hj.same s) (tyv_same s h3) (tyv_same s h4) (tyv_same s h5) (hb.same s)
end
inductive GR (H : Hp) (a : Addr) : Nat → Prop where
  | st {v : V} (h : H a = some (.tup [.str (Str.ofString "state"), v])) (hv : TSR H v true) : GR H a 80
  | fr {ln lv st mk : Int} {jt : V} {l : List Nat} (h : H a = some (.tup [.str (Str.ofString "frame"), .int ln, jt, .int lv, .int st, .int mk, .str (S l)])) (hj : JR H jt true) (h1 : inI (.int ln) 1 64 = true) (h2 : inI (.int lv) 0 5 = true) (h3 : inI (.int st) 1 64 = true) (h4 : inI (.int mk) 0 9972 = true) (hl : l.length ≤ 1000) (hb : ∀ c ∈ l, IsB c) : GR H a (40 + l.length)
theorem GR.same {H H' : Hp} {a : Addr} {n : Nat} (s : Same H H') (h : GR H a n) : GR H' a n := by
  cases h with
  | st h hv => exact .st (s _ _ h) (hv.same s)
  | fr h hj h1 h2 h3 h4 hl hb => exact .fr (s _ _ h) (hj.same s) h1 h2 h3 h4 hl hb
theorem GR.tup {H : Hp} {a : Addr} {n : Nat} (h : GR H a n) : ∃ xs, H a = some (.tup xs) := by
  cases h with
  | st h _ => exact ⟨_, h⟩
  | fr h _ _ _ _ _ _ _ => exact ⟨_, h⟩
/-- what spoils a frame at a place -/
def Bad (H : Hp) : Nat → V → Prop
  | 0, v => scalarV v = true ∧ v ≠ V.str (Str.ofString "frame")
  | 1, v => TyV H v ∧ inI v 1 64 = false
  | 2, v => JR H v false
  | 3, v => TyV H v ∧ inI v 0 5 = false
  | 4, v => TyV H v ∧ inI v 1 64 = false
  | 5, v => TyV H v ∧ inI v 0 9972 = false
  | 6, v => BitR H v false
  | _, _ => False
theorem Bad.same {H H' : Hp} (s : Same H H') : ∀ {n : Nat} {v : V}, Bad H n v → Bad H' n v
  | 0, _, h => h
  | 1, _, h => ⟨tyv_same s h.1, h.2⟩
  | 2, _, h => JR.same s h
  | 3, _, h => ⟨tyv_same s h.1, h.2⟩
  | 4, _, h => ⟨tyv_same s h.1, h.2⟩
  | 5, _, h => ⟨tyv_same s h.1, h.2⟩
  | 6, _, h => BitR.same s h
  | _ + 7, _, h => h
def frL (j : Addr) : List V := [.str (Str.ofString "frame"), .int 4, .ref j, .int 2, .int 1, .int 7, .str (Str.ofString "010")]
def msk (p : Addr) (H : Hp) : Hp := fun a => if a = p then none else H a
section
variable {p a : Addr} {H H' : Hp} {o : HO}
theorem msk_same (s : Same H H') : Same (msk p H) (msk p H') := fun b x e => by
  unfold msk at e ⊢
  split at e
  · cases e
  · rename_i n
    rw [if_neg n]
    exact s _ _ e
end
/-- the tables and the frame of the law's bad records -/
def OS (p tl fr j : Addr) (xs : List V) (G : Hp) : Prop := msk p G tl = some (.lst xs) ∧ xs.length ≤ 20 ∧ (∀ v ∈ xs, TSR (msk p G) v false) ∧ msk p G fr = some (.lst (frL j)) ∧ msk p G j = some (.tup [.int 1, .int 2])
theorem OS.same {p tl fr j : Addr} {xs : List V} {G G' : Hp} (s : Same G G') (h : OS p tl fr j xs G) : OS p tl fr j xs G' := ⟨msk_same s _ _ h.1, h.2.1, fun v hv => (h.2.2.1 v hv).same (msk_same s), msk_same s _ _ h.2.2.2.1, msk_same s _ _ h.2.2.2.2⟩
def Fld (G : Hp) (i : Nat) (v : V) : Prop := ∃ a xs, v = .ref a ∧ G a = some (.lst xs) ∧ xs.length ≤ 10 ∧ ∀ x ∈ xs, Bad G i x
theorem Fld.same {G G' : Hp} (s : Same G G') {i : Nat} {v : V} (h : Fld G i v) : Fld G' i v := let ⟨a, xs, e, e1, n, b⟩ := h; ⟨a, xs, e, s _ _ e1, n, fun x hx => (b x hx).same s⟩
def FldL (G : Hp) (fs : List V) : Prop := ∀ (i : Nat) v, fs[i]? = some v → Fld G i v
theorem FldL.same {G G' : Hp} (s : Same G G') {fs : List V} (h : FldL G fs) : FldL G' fs := fun i v e => (h i v e).same s
theorem FldL.app {G : Hp} {fs ys : List V} (h : FldL G fs) (k : ∀ (i : Nat) v, ys[i]? = some v → Fld G (fs.length + i) v) : FldL G (fs ++ ys) := fun i v e => by
  by_cases c : i < fs.length
  · rw [List.getElem?_append_left c] at e
    exact h i v e
  · rw [List.getElem?_append_right (by omega)] at e
    have z := k _ v e
    rw [show fs.length + (i - fs.length) = i by omega] at z
    exact z
theorem FldL.nil {G : Hp} : FldL G [] := fun i v e => by simp at e
theorem mm_nat2 (n c : Nat) (hc : 1 ≤ c) : (if (if (n : Int) < (c : Int) then (n : Int) else (c : Int)) > 1 then (if (n : Int) < (c : Int) then (n : Int) else (c : Int)) else 1).toNat ≤ c := by
  split
  · split <;> omega
  · omega
end Z
namespace Z
open PySem PySem.Spec PyProof.Rows L2
/-- told: what the errors of a call become, and what its end becomes -/
def ErM (L : List (Addr × Str × (V → List V))) (Q : VK) : XK := fun cls d H' => ∃ e ∈ L, ErL e.1 e.2.1 e.2.2 Q cls d H'
def TTm (L : List (Addr × Str × (V → List V))) (Fin : V → Hp → VK → Prop) : (XK → Hp → VK → Prop) → Hp → VK → Prop := fun tl H Q => ∀ Qn : VK, (∀ v H', Fin v H' Q → Qn v H') → tl (ErM L Q) H Qn
theorem rd_toldM {L : List (Addr × Str × (V → List V))} {Fin : V → Hp → VK → Prop} {tl : XK → Hp → VK → Prop} {H : Hp} {Q : VK} (h : ∀ Qn : VK, (∀ v H', Fin v H' Q → Qn v H') → tl (ErM L Q) H Qn) : TTm L Fin tl H Q := h
/-- the first item that is no integer -/
inductive IT (H : Hp) (xs : List V) : Option Nat → Prop where
  | bad {i : Nat} {v : V} (b : ∀ j, j < i → ∃ z, xs[j]? = some (.int z)) (e : xs[i]? = some v) (n : isI v = false) (t : ∀ x ∈ xs, TyV H x) : IT H xs (some i)
  | good {ns : List Int} (e : xs = ns.map V.int) : IT H xs none
theorem tyvS {H H' : Hp} {v : V} (s : Same H H') (h : TyV H v) : TyV H' v := by
  cases v with
  | ref a => exact h.elim (fun ⟨xs, e⟩ => .inl ⟨xs, s _ _ e⟩) fun ⟨xs, e⟩ => .inr ⟨xs, s _ _ e⟩
  | _ => exact h
theorem IT.same {H H' : Hp} {xs : List V} {o : Option Nat} (s : Same H H') (h : IT H xs o) : IT H' xs o := by
  cases h with
  | bad b e n t => exact .bad b e n fun x hx => tyvS s (t x hx)
  | good e => exact .good e
theorem IT.at {H : Hp} {xs : List V} {o : Option Nat} {i : Nat} {v : V} (h : IT H xs o) (e : xs[i]? = some v) (hi : ∀ k, o = some k → i ≤ k) : (o = some i ∧ isI v = false ∧ TyV H v) ∨ (∃ z, v = .int z) ∧ ∀ k, o = some k → i + 1 ≤ k := by
  cases h with
  | @bad k u b eu n t =>
    have hk := hi k rfl
    by_cases hik : i = k
    · subst hik
      rw [e] at eu
      cases eu
      exact .inl ⟨rfl, n, t v (List.mem_of_getElem? e)⟩
    · obtain ⟨z, hz⟩ := b i (by omega)
      rw [e] at hz
      cases hz
      exact .inr ⟨⟨z, rfl⟩, fun k' e' => by cases e'; omega⟩
  | @good ns eu =>
    subst eu
    rw [List.getElem?_map] at e
    cases g : ns[i]? with
    | none => rw [g] at e; cases e
    | some z => rw [g] at e; cases e; exact .inr ⟨⟨z, rfl⟩, fun k' e' => nomatch e'⟩
theorem IT.len {H : Hp} {xs : List V} {o : Option Nat} (h : IT H xs o) (hi : ∀ k, o = some k → xs.length ≤ k) : o = none := by
  cases h with
  | bad b e n t => exact absurd (hi _ rfl) (Nat.not_le.mpr (List.getElem?_eq_some_iff.mp e).1)
  | good e => rfl
/-- what a block check says of a value -/
inductive BR (H : Hp) : V → Option V → Prop where
  | flat {x : V} (h : scalarV x = true) : BR H x (some .non)
  | tup {a : Addr} {xs : List V} (h : H a = some (.tup xs)) : BR H (.ref a) (some .non)
  | size {a : Addr} {xs : List V} (h : H a = some (.lst xs)) (n : ¬ (1 ≤ xs.length ∧ xs.length ≤ 64)) (m : xs.length ≤ 1000) : BR H (.ref a) (some .non)
  | item {a : Addr} {xs : List V} {o : Option Nat} (h : H a = some (.lst xs)) (n1 : 1 ≤ xs.length) (n2 : xs.length ≤ 64) (t : IT H xs o) : BR H (.ref a) (o.map fun i => .int (i : Nat))
theorem BR.same {H H' : Hp} {x : V} {o : Option V} (s : Same H H') (h : BR H x o) : BR H' x o := by
  cases h with
  | flat h => exact .flat h
  | tup h => exact .tup (s _ _ h)
  | size h n m => exact .size (s _ _ h) n m
  | item h n1 n2 t => exact .item (s _ _ h) n1 n2 (t.same s)
theorem BR.fine {H : Hp} {x : V} (h : BR H x none) : ∃ (a : Addr) (ns : List Int), x = .ref a ∧ H a = some (.lst (ns.map V.int)) ∧ 1 ≤ ns.length ∧ ns.length ≤ 64 := by
  obtain ⟨o, ho, h⟩ : ∃ o : Option V, o = none ∧ BR H x o := ⟨_, rfl, h⟩
  cases h with
  | flat _ => cases ho
  | tup _ => cases ho
  | size _ _ _ => cases ho
  | @item a xs o h n1 n2 t =>
    cases t with
    | bad _ _ _ _ => cases ho
    | @good ns e =>
      subst e
      rw [List.length_map] at n1 n2
      exact ⟨a, ns, rfl, h, n1, n2⟩
theorem BR.ty {H : Hp} {x : V} {o : Option V} (h : BR H x o) : TyV H x := by
  cases h with
  | flat h => cases x <;> first | exact True.intro | exact Bool.noConfusion h
  | tup h => exact .inr ⟨_, h⟩
  | size h _ _ => exact .inl ⟨_, h⟩
  | item h _ _ _ => exact .inl ⟨_, h⟩
def scOk : V → Bool
  | .non => true
  | .bl _ => true
  | .int _ => true
  | .str s => PyData.strOk s
  | _ => false
theorem scOk.sc {v : V} (h : scOk v = true) : scalarV v = true := by cases v <;> first | rfl | exact Bool.noConfusion h
def EV (l : List Addr) (H : Hp) (v : V) : Prop := scOk v = true ∨ ∃ a xs, v = .ref a ∧ a ∉ l ∧ (H a = some (.lst xs) ∨ H a = some (.tup xs)) ∧ ∀ x ∈ xs, scOk x = true
def KpLN (l : List Addr) (H H' : Hp) : Prop := ∀ a o, a ∉ l → H a = some o → (∀ ps, o ≠ .tbl ps) → H' a = some o
section
variable {l : List Addr} {p q : Addr} {H H' H1 H2 : Hp} {o : HO} {v : V} {K : PySem.W.Frag}
theorem nm_cons {a b : Addr} {m : List Addr} (h : a ≠ b) (k : a ∉ m) : a ∉ b :: m := fun z => (List.mem_cons.mp z).elim h k
theorem ne_new {a b : Addr} {u : HO} (h : H a = none) (k : H b = some u) : a ≠ b := fun z => by rw [z, k] at h; cases h
theorem KpLN.refl : KpLN l H H := fun _ _ _ h _ => h
theorem KpLN.trans (a : KpLN l H H1) (b : KpLN l H1 H2) : KpLN l H H2 := fun c o n h t => b c o n (a c o n h t) t
theorem KpLN.ofL (k : KpL l H H') : KpLN l H H' := fun a o n h _ => k a o n h
theorem KpLN.of (s : Same H H') : KpLN l H H' := fun a o _ h _ => s a o h
theorem KpLN.ofN (s : LamX.ExtN H H') : KpLN l H H' := fun a o _ h t => s a o h t
theorem KpLN.ofK (m : p ∈ l) (k : Kp p H H') : KpLN l H H' := .ofL (KpL.ofK m k)
theorem KpLN.new (n : H q = none) : KpLN l H (upd H q o) := .of (same_new n)
theorem KpLN.at (m : q ∈ l) : KpLN l H (upd H q o) := .ofL (KpL.at m)
theorem EV.kp (k : KpLN l H H') (h : EV l H v) : EV l H' v := by
  rcases h with h | ⟨a, xs, e, n, h | h, s⟩
  · exact .inl h
  · exact .inr ⟨a, xs, e, n, .inl (k _ _ n h lst_ntbl), s⟩
  · exact .inr ⟨a, xs, e, n, .inr (k _ _ n h tup_ntbl), s⟩
theorem EV.set {xs : List V} {j : Nat} {S : Addr} {u : HO} (h : ∀ x ∈ xs, EV l H x) (hv : EV l H v) (m : S ∈ l) : ∀ x ∈ xs.set j v, EV l (upd H S u) x := fun x hx => by
  have k : KpLN l H (upd H S u) := .at m
  rcases List.mem_or_eq_of_mem_set hx with hx | rfl
  · exact (h x hx).kp k
  · exact hv.kp k
theorem EV.ty (h : EV l H v) : TyV H v := by
  rcases h with h | ⟨a, xs, rfl, _, h | h, _⟩
  · cases v <;> first | exact True.intro | exact Bool.noConfusion h
  · exact .inl ⟨xs, h⟩
  · exact .inr ⟨xs, h⟩
theorem EV.sm (h : EV l H v) : SmV K H 1 v v := by
  rcases h with h | ⟨a, xs, rfl, _, h | h, s⟩
  · exact .inl ⟨rfl, scOk.sc h⟩
  · exact .inr (.inl ⟨a, a, xs, xs, rfl, rfl, .of h, .of h, rfl, fun i x y e1 e2 => by
      rw [e1] at e2
      exact ⟨Option.some.inj e2, scOk.sc (s x (List.mem_of_getElem? e1))⟩⟩)
  · exact .inr (.inr ⟨a, a, xs, xs, rfl, rfl, .of h, .of h, rfl, fun i x y e1 e2 => by
      rw [e1] at e2
      exact ⟨Option.some.inj e2, scOk.sc (s x (List.mem_of_getElem? e1))⟩⟩)
theorem EV.sc (h : scOk v = true) : EV l H v := .inl h
theorem EV.lst {a : Addr} {xs : List V} (n : a ∉ l) (h : H a = some (.lst xs)) (s : ∀ x ∈ xs, scOk x = true) : EV l H (.ref a) := .inr ⟨a, xs, rfl, n, .inl h, s⟩
theorem EV.tup {a : Addr} {xs : List V} (n : a ∉ l) (h : H a = some (.tup xs)) (s : ∀ x ∈ xs, scOk x = true) : EV l H (.ref a) := .inr ⟨a, xs, rfl, n, .inr h, s⟩
def spOddE : Sp := fun vs H Q _ => ∃ (p : Addr), vs = [.ref p] ∧ Pool H p ∧ ∀ v H', EV [p] H' v → Pool H' p → Kp p H H' → Q v H'
theorem use_oddE {Q : VK} {E : XK} (h : Pool H p) (q : ∀ v H', EV [p] H' v → Pool H' p → Kp p H H' → Q v H') : spOddE ([.ref p] ++ []) H Q E := ⟨p, rfl, h, q⟩
end
def GV (p : Addr) (H : Hp) (xs : List V) (x : V) : Prop := (∃ a, x = .ref a ∧ a ≠ p ∧ H a = some (.lst xs)) ∨ scalarV x = true ∨ ∃ a ys, x = .ref a ∧ a ≠ p ∧ H a = some (.tup ys)
section
variable {p S : Addr} {H H' H1 H2 H3 : Hp} {xs ys : List V} {x : V} {o : Option V} {T : List (Addr × Str)}
theorem GV.kp (k : KpLN [p] H H') (h : GV p H xs x) : GV p H' xs x := by
  rcases h with ⟨a, e, n, h⟩ | h | ⟨a, ys, e, n, h⟩
  · exact .inl ⟨a, e, n, k _ _ (nm_cons n List.not_mem_nil) h lst_ntbl⟩
  · exact .inr (.inl h)
  · exact .inr (.inr ⟨a, ys, e, n, k _ _ (nm_cons n List.not_mem_nil) h tup_ntbl⟩)
theorem tyvE (s : LamX.ExtN H H') (h : TyV H x) : TyV H' x := by
  cases x with
  | ref a => exact h.elim (fun ⟨xs, e⟩ => .inl ⟨xs, s _ _ e lst_ntbl⟩) fun ⟨xs, e⟩ => .inr ⟨xs, s _ _ e tup_ntbl⟩
  | _ => exact h
theorem BR.ext (s : LamX.ExtN H H') (h : BR H x o) : BR H' x o := by
  cases h with
  | flat h => exact .flat h
  | tup h => exact .tup (s _ _ h tup_ntbl)
  | size h n m => exact .size (s _ _ h lst_ntbl) n m
  | item h n1 n2 t =>
    refine .item (s _ _ h lst_ntbl) n1 n2 ?_
    cases t with
    | bad b e n t => exact .bad b e n fun x hx => tyvE s (t x hx)
    | good e => exact .good e
theorem KpLN.drop {l : List Addr} (k : KpLN (S :: l) H H') (n : H S = none) : KpLN l H H' := fun a o m h t => k a o (nm_cons (fun z => by rw [z, n] at h; cases h) m) h t
theorem extN_same (s : Same H H') : LamX.ExtN H H' := .of fun b o e => s b o e
end
end Z
namespace Z
open PySem PySem.Spec PyProof.Rows L2
def PV (l : List Addr) (H : Hp) : Nat → V → Prop
  | 0, v => scOk v = true
  | n + 1, v => scOk v = true ∨ ∃ a xs, v = .ref a ∧ a ∉ l ∧ LT H a xs ∧ ∀ x ∈ xs, PV l H n x
section
variable {l : List Addr} {p q S : Addr} {H H' : Hp} {v : V} {K : PySem.W.Frag}
theorem LT.kpln {a : Addr} {xs : List V} (k : KpLN l H H') (n : a ∉ l) (h : LT H a xs) : LT H' a xs := h.imp (fun e => k _ _ n e lst_ntbl) fun e => k _ _ n e tup_ntbl
theorem PV.kp (k : KpLN l H H') : ∀ {n : Nat} {v : V}, PV l H n v → PV l H' n v
  | 0, _, h => h
  | n + 1, v, h => by
    rcases h with h | ⟨a, xs, e, m, h, s⟩
    · exact .inl h
    · exact .inr ⟨a, xs, e, m, h.kpln k m, fun x hx => PV.kp k (s x hx)⟩
theorem PV.up : ∀ {n : Nat} {v : V}, PV l H n v → PV l H (n + 1) v
  | 0, _, h => .inl h
  | n + 1, v, h => by
    rcases h with h | ⟨a, xs, e, k, h, t⟩
    · exact .inl h
    · exact .inr ⟨a, xs, e, k, h, fun x hx => (t x hx).up⟩
theorem PV.tup {n : Nat} {a : Addr} {xs : List V} (m : a ∉ l) (h : H a = some (.tup xs)) (s : ∀ x ∈ xs, PV l H n x) : PV l H (n + 1) (.ref a) := .inr ⟨a, xs, rfl, m, .inr h, s⟩
theorem PV.lst {n : Nat} {a : Addr} {xs : List V} (m : a ∉ l) (h : H a = some (.lst xs)) (s : ∀ x ∈ xs, PV l H n x) : PV l H (n + 1) (.ref a) := .inr ⟨a, xs, rfl, m, .inl h, s⟩
theorem PV.ty : ∀ {n : Nat} {v : V}, PV l H n v → TyV H v
  | 0, v, h => by cases v <;> first | exact True.intro | exact Bool.noConfusion h
  | n + 1, v, h => by
    rcases h with h | ⟨a, xs, rfl, m, h | h, s⟩
    · cases v <;> first | exact True.intro | exact Bool.noConfusion h
    · exact .inl ⟨xs, h⟩
    · exact .inr ⟨xs, h⟩
theorem PV.set {n : Nat} {xs : List V} {j : Nat} {u : HO} (h : ∀ x ∈ xs, PV l H n x) (hv : PV l H n v) (m : S ∈ l) : ∀ x ∈ xs.set j v, PV l (upd H S u) n x := fun x hx => by
  have k : KpLN l H (upd H S u) := .at m
  rcases List.mem_or_eq_of_mem_set hx with hx | rfl
  · exact (h x hx).kp k
  · exact hv.kp k
theorem PV.app {n : Nat} {xs : List V} {u : HO} (h : ∀ x ∈ xs, PV l H n x) (hv : PV l H n v) (m : S ∈ l) : ∀ x ∈ xs ++ [v], PV l (upd H S u) n x := fun x hx => by
  have k : KpLN l H (upd H S u) := .at m
  rcases List.mem_append.mp hx with hx | hx
  · exact (h x hx).kp k
  · rw [List.mem_singleton.mp hx]; exact hv.kp k
end
inductive SR (H : Hp) (n : Nat) : V → Option V → Prop where
  | flat {x : V} (h : scalarV x = true) : SR H n x (some .non)
  | seq {a : Addr} {xs : List V} {o : Option Nat} (h : LT H a xs) (e : xs.length = n) (m : n ≤ 1000) (t : IT H xs o) : SR H n (.ref a) (o.map fun i => .int (i : Nat))
inductive PJ (H : Hp) : V → Option (Int × Int × Int) → Prop where
  | flat {x : V} (h : scalarV x = true) : PJ H x none
  | lst {a : Addr} {xs : List V} (h : H a = some (.lst xs)) : PJ H (.ref a) none
  | tupn {a : Addr} {xs : List V} (h : H a = some (.tup xs)) (n : xs.length ≠ 2) : PJ H (.ref a) none
  | noi {a : Addr} {u v : V} (h : H a = some (.tup [u, v])) (t : TyV H u) (n : isI u = false) : PJ H (.ref a) none
  | noj {a : Addr} {i : Int} {v : V} (h : H a = some (.tup [.int i, v])) (t : JR H v false) : PJ H (.ref a) none
  | good {a b : Addr} {i w s : Int} (h : H a = some (.tup [.int i, .ref b])) (g : H b = some (.tup [.int w, .int s])) (t : jt (.int w) (.int s) = true) : PJ H (.ref a) (some (i, w, s))
inductive All2 {α β : Type} (R : α → β → Prop) : List α → List β → Prop where
  | nil : All2 R [] []
  | cons {a : α} {b : β} {as : List α} {bs : List β} (h : R a b) (t : All2 R as bs) : All2 R (a :: as) (b :: bs)
theorem All2.imp {α β : Type} {R S : α → β → Prop} (f : ∀ a b, R a b → S a b) {as : List α} {bs : List β} (h : All2 R as bs) : All2 S as bs := by
  induction h with
  | nil => exact .nil
  | cons h _ ih => exact .cons (f _ _ h) ih
theorem All2.len {α β : Type} {R : α → β → Prop} {as : List α} {bs : List β} (h : All2 R as bs) : as.length = bs.length := by
  induction h with
  | nil => rfl
  | cons _ _ ih => exact congrArg (· + 1) ih
def rmB (n : Nat) (l b : Int) (i w : Int) : Bool := decide (l < i ∧ i < n ∧ l + b + w ≤ i ∧ i + w ≤ n)
/-- the first item that can not stand -/
def jb (n : Nat) : Nat → Int → Int → List (Option (Int × Int × Int)) → Option Nat
  | _, _, _, [] => none
  | k, _, _, none :: _ => some k
  | k, l, b, some (i, w, s) :: r => if rmB n l b i w then jb n (k + 1) i w r else some k
inductive JP (H : Hp) (n : Nat) : V → Option V → Prop where
  | flat {x : V} (h : scalarV x = true) : JP H n x (some .non)
  | seq {a : Addr} {xs : List V} {ps : List (Option (Int × Int × Int))} (h : LT H a xs) (m : xs.length ≤ 1000) (t : All2 (PJ H) xs ps) : JP H n (.ref a) ((jb n 0 0 0 ps).map fun i => .int (i : Nat))
section
variable {H H' : Hp} {n : Nat} {x : V} {o : Option V}
theorem jr_ext (s : LamX.ExtN H H') {b : Bool} (h : JR H x b) : JR H' x b := by
  cases h with
  | flat h => exact .flat h
  | lst h => exact .lst (s _ _ h lst_ntbl)
  | tupn h n => exact .tupn (s _ _ h tup_ntbl) n
  | tup2 h u v => exact .tup2 (s _ _ h tup_ntbl) (tyvE s u) (tyvE s v)
theorem pj_ext (s : LamX.ExtN H H') {j : Option (Int × Int × Int)} (h : PJ H x j) : PJ H' x j := by
  cases h with
  | flat h => exact .flat h
  | lst h => exact .lst (s _ _ h lst_ntbl)
  | tupn h n => exact .tupn (s _ _ h tup_ntbl) n
  | noi h t n => exact .noi (s _ _ h tup_ntbl) (tyvE s t) n
  | noj h t => exact .noj (s _ _ h tup_ntbl) (jr_ext s t)
  | good h g t => exact .good (s _ _ h tup_ntbl) (s _ _ g tup_ntbl) t
theorem lt_ext {a : Addr} {xs : List V} (s : LamX.ExtN H H') (h : LT H a xs) : LT H' a xs := h.imp (fun e => s _ _ e lst_ntbl) fun e => s _ _ e tup_ntbl
theorem it_ext {xs : List V} {o : Option Nat} (s : LamX.ExtN H H') (h : IT H xs o) : IT H' xs o := by
  cases h with
  | bad b e n t => exact .bad b e n fun x hx => tyvE s (t x hx)
  | good e => exact .good e
theorem SR.ext (s : LamX.ExtN H H') (h : SR H n x o) : SR H' n x o := by
  cases h with
  | flat h => exact .flat h
  | seq h e m t => exact .seq (lt_ext s h) e m (it_ext s t)
theorem JP.ext (s : LamX.ExtN H H') (h : JP H n x o) : JP H' n x o := by
  cases h with
  | flat h => exact .flat h
  | seq h m t => exact .seq (lt_ext s h) m (t.imp fun _ _ => pj_ext s)
theorem SR.same (s : Same H H') (h : SR H n x o) : SR H' n x o := h.ext (extN_same s)
theorem JP.same (s : Same H H') (h : JP H n x o) : JP H' n x o := h.ext (extN_same s)
theorem jt_nat {w s : Int} (h : jt (.int w) (.int s) = true) : ∃ a b : Nat, w = (a : Int) ∧ s = (b : Int) ∧ a ≤ 8 ∧ b ≤ 3 ∧ (a = 0 → b = 0) := by
  unfold jt at h
  simp only [Bool.and_eq_true, jx, Bool.or_eq_true, decide_eq_true_eq, inI] at h
  obtain ⟨h1, h2, h3⟩ := h
  exact ⟨w.toNat, s.toNat, by omega, by omega, by omega, by omega, by omega⟩
/-- no item is refused: they are joints with room -/
theorem jb_none : ∀ (ps : List (Option (Int × Int × Int))) (xs : List V) (k l b : Nat), All2 (PJ H) xs ps → jb n k (l : Int) (b : Int) ps = none → ∃ js : List Jo, JsAt H xs js ∧ Rm n l b js
  | _, _, k, l, b, .nil, _ => ⟨[], ⟨rfl, fun i v e => by simp at e⟩, True.intro⟩
  | none :: _, _, k, l, b, .cons _ _, h => by cases h
  | some (i, w, s) :: r, x :: xs, k, l, b, .cons hp t, h => by
    have h' : (if rmB n l b i w then jb n (k + 1) i w r else some k) = none := h
    by_cases c : rmB n l b i w = true
    · rw [if_pos c] at h'
      have c := of_decide_eq_true c
      cases hp with
      | @good a q _ _ _ e1 e2 ht =>
        obtain ⟨w', s', rfl, rfl, w8, s3, w0⟩ := jt_nat ht
        obtain ⟨i', rfl⟩ : ∃ i' : Nat, i = (i' : Int) := ⟨i.toNat, by omega⟩
        obtain ⟨js, hj, hr⟩ := jb_none r xs (k + 1) i' w' t h'
        refine ⟨(i', w', s') :: js, ⟨congrArg (· + 1) hj.1, fun m v e => ?_⟩, ?_⟩
        · cases m with
          | zero => cases e; exact ⟨(i', w', s'), a, q, rfl, rfl, e1, e2⟩
          | succ m => exact hj.2 m v e
        · exact ⟨by dsimp only; omega, by dsimp only; omega, by dsimp only; omega, by dsimp only; omega, w8, s3, w0, hr⟩
    · rw [if_neg c] at h'
      cases h'
end
theorem SR.fine {H : Hp} {n : Nat} {x : V} (h : SR H n x none) : ∃ (a : Addr) (ns : List Int), x = .ref a ∧ LT H a (ns.map V.int) ∧ ns.length = n ∧ n ≤ 1000 := by
  obtain ⟨o, ho, h⟩ : ∃ o : Option V, o = none ∧ SR H n x o := ⟨_, rfl, h⟩
  cases h with
  | flat _ => cases ho
  | @seq a xs o h e m t =>
    cases t with
    | bad _ _ _ _ => cases ho
    | @good ns e2 =>
      subst e2
      exact ⟨a, ns, rfl, h, by rw [← e, List.length_map], m⟩
theorem JP.fine {H : Hp} {n : Nat} {x : V} (h : JP H n x none) : ∃ (a : Addr) (refs : List V) (js : List Jo), x = .ref a ∧ LT H a refs ∧ JsAt H refs js ∧ Rm n 0 0 js := by
  obtain ⟨o, ho, h⟩ : ∃ o : Option V, o = none ∧ JP H n x o := ⟨_, rfl, h⟩
  cases h with
  | flat _ => cases ho
  | @seq a xs ps hL m t =>
    cases g : jb n 0 0 0 ps with
    | some k => rw [g] at ho; cases ho
    | none =>
      obtain ⟨js, h1, h2⟩ := jb_none ps xs 0 0 0 t g
      exact ⟨a, xs, js, rfl, hL, h1, h2⟩
def GQ (p : Addr) (H : Hp) (xs : List V) (x : V) : Prop := (∃ a, x = .ref a ∧ a ≠ p ∧ LT H a xs) ∨ scalarV x = true
section
variable {p : Addr} {H H' : Hp} {xs : List V} {x : V} {m : Nat}
theorem GQ.kp (k : KpLN [p] H H') (h : GQ p H xs x) : GQ p H' xs x := h.imp (fun ⟨a, e, n, h⟩ => ⟨a, e, n, h.kpln k (nm_cons n List.not_mem_nil)⟩) id
end
end Z
namespace Z
open PySem PySem.Spec PyProof.Rows L2
open SX (S S_len S_cat S_inj)
inductive BZ (H : Hp) (n : Nat) : V → Option V → Prop where
  | flat {x : V} (h : scalarV x = true) : BZ H n x (some .non)
  | tup {a : Addr} {xs : List V} (h : H a = some (.tup xs)) : BZ H n (.ref a) (some .non)
  | size {a : Addr} {xs : List V} (h : H a = some (.lst xs)) (e : xs.length = n) (c : 64 < n) (m : n ≤ 1000) : BZ H n (.ref a) (some .non)
  | item {a : Addr} {xs : List V} {o : Option Nat} (h : H a = some (.lst xs)) (e : xs.length = n) (c : n ≤ 64) (t : IT H xs o) : BZ H n (.ref a) (o.map fun i => .int (i : Nat))
section
variable {H H' : Hp} {n : Nat} {x v : V} {o : Option V} {b : Bool} {p : Addr}
theorem BZ.ext (s : LamX.ExtN H H') (h : BZ H n x o) : BZ H' n x o := by
  cases h with
  | flat h => exact .flat h
  | tup h => exact .tup (s _ _ h tup_ntbl)
  | size h e c m => exact .size (s _ _ h lst_ntbl) e c m
  | item h e c t => exact .item (s _ _ h lst_ntbl) e c (it_ext s t)
theorem it_move {xs : List V} {o : Option Nat} (t : ∀ y ∈ xs, TyV H' y) (h : IT H xs o) : IT H' xs o := by
  cases h with
  | bad b e n _ => exact .bad b e n t
  | good e => exact .good e
/-- the pool may be drawn from -/
theorem BZ.kp (k : KpLN [p] H H') (q : ∀ a, x = .ref a → a ≠ p) (t : ∀ a xs, x = .ref a → H a = some (.lst xs) → ∀ y ∈ xs, PV [p] H 1 y) (h : BZ H n x o) : BZ H' n x o := by
  cases h with
  | flat h => exact .flat h
  | @tup a xs h => exact .tup (k _ _ (nm_cons (q a rfl) List.not_mem_nil) h tup_ntbl)
  | @size a xs h e c m => exact .size (k _ _ (nm_cons (q a rfl) List.not_mem_nil) h lst_ntbl) e c m
  | @item a xs o h e c i => exact .item (k _ _ (nm_cons (q a rfl) List.not_mem_nil) h lst_ntbl) e c (it_move (fun y hy => ((t a xs rfl h y hy).kp k).ty) i)
theorem BZ.fine (h : BZ H n x none) : ∃ (a : Addr) (ns : List Int), x = .ref a ∧ H a = some (.lst (ns.map V.int)) ∧ ns.length = n ∧ n ≤ 64 := by
  obtain ⟨o, ho, h⟩ : ∃ o : Option V, o = none ∧ BZ H n x o := ⟨_, rfl, h⟩
  cases h with
  | flat _ => cases ho
  | tup _ => cases ho
  | size _ _ _ _ => cases ho
  | @item a xs o hL e c t =>
    cases t with
    | bad _ _ _ _ => cases ho
    | @good ns e2 =>
      subst e2
      exact ⟨a, ns, rfl, hL, by rw [← e, List.length_map], c⟩
def TbsH (H : Hp) (a : Addr) (T : Tb × Tb) : Prop := ∃ r0 r1, H a = some (.tup [.ref r0, .ref r1]) ∧ H r0 = some (.tup [.int T.1.1, .int T.1.2]) ∧ H r1 = some (.tup [.int T.2.1, .int T.2.2])
def StQ (H : Hp) (v : V) (b : Bool) : Prop := TSR H v b ∧ (b = true → ∃ a T, v = .ref a ∧ TbsH H a T ∧ TbOk (10 ^ 56) T.1 ∧ TbOk (10 ^ 56) T.2)
theorem tr_ext (s : LamX.ExtN H H') (h : TR H v b) : TR H' v b := by
  cases h with
  | flat h => exact .flat h
  | lst h => exact .lst (s _ _ h lst_ntbl)
  | tupn h n => exact .tupn (s _ _ h tup_ntbl) n
  | tup2 h hu hv => exact .tup2 (s _ _ h tup_ntbl) (tyvE s hu) (tyvE s hv)
theorem tsr_ext (s : LamX.ExtN H H') (h : TSR H v b) : TSR H' v b := by
  cases h with
  | flat h => exact .flat h
  | lst h => exact .lst (s _ _ h lst_ntbl)
  | tupn h n => exact .tupn (s _ _ h tup_ntbl) n
  | tup2 h hu hv => exact .tup2 (s _ _ h tup_ntbl) (tr_ext s hu) (tr_ext s hv)
theorem StQ.ext (s : LamX.ExtN H H') (h : StQ H v b) : StQ H' v b := ⟨tsr_ext s h.1, fun z => by
  obtain ⟨a, T, e, ⟨r0, r1, h0, h1, h2⟩, o1, o2⟩ := h.2 z
  exact ⟨a, T, e, ⟨r0, r1, s _ _ h0 tup_ntbl, s _ _ h1 tup_ntbl, s _ _ h2 tup_ntbl⟩, o1, o2⟩⟩
theorem PV.mem {m : Nat} {a : Addr} {xs : List V} (h : PV [p] H (m + 1) (.ref a)) (e : H a = some (.tup xs)) : a ≠ p ∧ ∀ x ∈ xs, PV [p] H m x := by
  rcases h with h | ⟨c, ys, e1, n, h, s⟩
  · exact Bool.noConfusion h
  · cases e1
    rcases h with h | h
    · rw [h] at e; cases e
    · rw [h] at e; cases e; exact ⟨fun z => n (by rw [z]; exact List.mem_singleton.mpr rfl), s⟩
theorem PV.memL {m : Nat} {a : Addr} (h : PV [p] H (m + 1) (.ref a)) : a ≠ p := by
  rcases h with h | ⟨c, ys, e1, n, h, s⟩
  · exact Bool.noConfusion h
  · cases e1
    exact fun z => n (by rw [z]; exact List.mem_singleton.mpr rfl)
theorem tr_kp (k : KpLN [p] H H') (g : PV [p] H 1 v) (h : TR H v b) : TR H' v b := by
  cases h with
  | flat h => exact .flat h
  | lst h => exact .lst (k _ _ (nm_cons g.memL List.not_mem_nil) h lst_ntbl)
  | tupn h n => exact .tupn (k _ _ (nm_cons g.memL List.not_mem_nil) h tup_ntbl) n
  | @tup2 a u v h hu hv =>
    obtain ⟨n, s⟩ := g.mem h
    exact .tup2 (k _ _ (nm_cons n List.not_mem_nil) h tup_ntbl) ((s u (by simp)).kp k).ty ((s v (by simp)).kp k).ty
theorem StQ.kp (k : KpLN [p] H H') (g : PV [p] H 2 v) (h : StQ H v b) : StQ H' v b := by
  obtain ⟨h, q⟩ := h
  refine ⟨?_, fun z => ?_⟩
  · cases h with
    | flat h => exact .flat h
    | lst h => exact .lst (k _ _ (nm_cons g.memL List.not_mem_nil) h lst_ntbl)
    | tupn h n => exact .tupn (k _ _ (nm_cons g.memL List.not_mem_nil) h tup_ntbl) n
    | @tup2 a u v _ _ h hu hv =>
      obtain ⟨n, s⟩ := g.mem h
      exact .tup2 (k _ _ (nm_cons n List.not_mem_nil) h tup_ntbl) (tr_kp k (s u (by simp)) hu) (tr_kp k (s v (by simp)) hv)
  · obtain ⟨a, T, rfl, ⟨r0, r1, h0, h1, h2⟩, o1, o2⟩ := q z
    obtain ⟨n, s⟩ := g.mem h0
    have n0 := (s _ (by simp : V.ref r0 ∈ [V.ref r0, V.ref r1])).mem h1
    have n1 := (s _ (by simp : V.ref r1 ∈ [V.ref r0, V.ref r1])).mem h2
    exact ⟨a, T, rfl, ⟨r0, r1, k _ _ (nm_cons n List.not_mem_nil) h0 tup_ntbl, k _ _ (nm_cons n0.1 List.not_mem_nil) h1 tup_ntbl, k _ _ (nm_cons n1.1 List.not_mem_nil) h2 tup_ntbl⟩, o1, o2⟩
theorem PV.sm {K : PySem.W.Frag} {l : List Addr} : ∀ {n : Nat} {v : V}, PV l H n v → SmV K H n v v
  | 0, _, h => ⟨rfl, scOk.sc h⟩
  | n + 1, v, h => by
    rcases h with h | ⟨a, xs, rfl, m, h | h, s⟩
    · exact .inl ⟨rfl, scOk.sc h⟩
    · exact .inr (.inl ⟨a, a, xs, xs, rfl, rfl, .of h, .of h, rfl, fun i x y e1 e2 => by
        rw [e1] at e2
        cases e2
        exact (s x (List.mem_of_getElem? e1)).sm⟩)
    · exact .inr (.inr ⟨a, a, xs, xs, rfl, rfl, .of h, .of h, rfl, fun i x y e1 e2 => by
        rw [e1] at e2
        cases e2
        exact (s x (List.mem_of_getElem? e1)).sm⟩)
end
def TxR (v : V) : Prop := scalarV v = true ∧ ∀ s, v = .str s → ∃ l : List Nat, s = S l ∧ (∀ c ∈ l, IsB c) ∧ l.length ≤ 100
theorem TbOk.up {m m' : Int} {t : Tb} (h : TbOk m t) (l : m ≤ m') : TbOk m' t := ⟨h.1, by have := h.2.1; omega, h.2.2⟩
def SmallL (H : Hp) (x : V) : Prop := ∀ (a : Addr) (ns : List Int), x = .ref a → H a = some (.lst (ns.map V.int)) → ∀ z ∈ ns, z.natAbs < 10 ^ 55
def LV (p : Addr) (H : Hp) (v : V) : Prop := scalarV v = true ∨ ∃ a xs, v = .ref a ∧ a ≠ p ∧ LT H a xs ∧ xs.length ≤ 66 ∧ (∀ x ∈ xs, PV [p] H 1 x) ∧ ∀ z : Int, V.int z ∈ xs → z.natAbs < 10 ^ 55
section
variable {p : Addr} {H H' : Hp} {v : V}
theorem LV.kp (k : KpLN [p] H H') (h : LV p H v) : LV p H' v := by
  rcases h with h | ⟨a, xs, e, n, h, l, s, z⟩
  · exact .inl h
  · exact .inr ⟨a, xs, e, n, h.kpln k (nm_cons n List.not_mem_nil), l, fun x hx => (s x hx).kp k, z⟩
theorem LV.ne (h : LV p H v) : ∀ a, v = .ref a → a ≠ p := fun a e => by
  rcases h with h | ⟨c, xs, e2, n, _⟩
  · rw [e] at h; exact Bool.noConfusion h
  · rw [e] at e2; cases e2; exact n
theorem LV.small (h : LV p H v) : SmallL H v := fun a ns e e2 z hz => by
  rcases h with h | ⟨c, ys, e3, n, h, l, s, q⟩
  · rw [e] at h; exact Bool.noConfusion h
  · rw [e] at e3; cases e3
    rcases h with h | h
    · rw [h] at e2; cases e2; exact q z (List.mem_map.mpr ⟨z, hz, rfl⟩)
    · rw [h] at e2; cases e2
end
theorem SmallL.ext {H H' : Hp} {x : V} (o : Option V) {n : Nat} (s : LamX.ExtN H H') (b : BZ H n x o) (h : SmallL H x) : SmallL H' x := fun a ns e e2 => by
  refine h a ns e ?_
  cases b with
  | flat f => rw [e] at f; exact Bool.noConfusion f
  | tup f => cases e; rw [s _ _ f tup_ntbl] at e2; cases e2
  | size f _ _ _ => cases e; rw [s _ _ f lst_ntbl] at e2; rw [f]; exact e2
  | item f _ _ _ => cases e; rw [s _ _ f lst_ntbl] at e2; rw [f]; exact e2
section
variable {o : Option V} {m n : Nat} {s f t e : V} {b : Bool} {H : Hp} {x : V}
theorem BZ.le (h : BZ H n x o) (ho : o = none) : n ≤ 64 := by
  subst ho
  obtain ⟨_, _, _, _, _, l⟩ := h.fine
  exact l
theorem TxR.of {v : V} (h : v = .non ∨ (∃ i, v = .int i) ∨ ∃ l : List Nat, v = .str (S l) ∧ (∀ c ∈ l, IsB c) ∧ l.length ≤ 100) : TxR v := by
  rcases h with rfl | ⟨i, rfl⟩ | ⟨l, rfl, h1, h2⟩
  · exact ⟨rfl, fun s e => nomatch e⟩
  · exact ⟨rfl, fun s e => nomatch e⟩
  · exact ⟨rfl, fun s e => ⟨l, (V.str.inj e).symm, h1, h2⟩⟩
end
end Z
namespace Z
open PySem PySem.Spec PyProof.Rows L2
open SX (S S_len S_cat S_inj)
/-- length, width, shape, levels, step -/
abbrev Hd := Nat × Nat × Nat × Nat × Nat
def HdAt (H : Hp) (h : Addr) (j : Addr) (d : Hd) : Prop := H h = some (.tup [.int (d.1 : Nat), .ref j, .int (d.2.2.2.1 : Nat), .int (d.2.2.2.2 : Nat)]) ∧ H j = some (.tup [.int (d.2.1 : Nat), .int (d.2.2.1 : Nat)])
def HdOk (d : Hd) : Prop := 1 ≤ d.1 ∧ d.1 ≤ 64 ∧ d.2.1 ≤ 8 ∧ d.2.2.1 ≤ 3 ∧ (d.2.1 = 0 → d.2.2.1 = 0) ∧ d.2.2.2.1 ≤ 5 ∧ 1 ≤ d.2.2.2.2 ∧ d.2.2.2.2 ≤ 64
/-- the bits of a frame -/
def bitsF (d : Hd) (ns : List Int) (T : Tb × Tb) : List Nat := (wst ns (cc d.1 d.2.2.2.1) T ns.length).1.flatten
def nextF (d : Hd) (ns : List Int) (T : Tb × Tb) : Tb × Tb := (wst ns (cc d.1 d.2.2.2.1) T ns.length).2
def FrAt (H : Hp) (r : Addr) (j : Addr) (d : Hd) (ns : List Int) (T : Tb × Tb) : Prop := H r = some (.tup [.str (Str.ofString "frame"), .int (d.1 : Nat), .ref j, .int (d.2.2.2.1 : Nat), .int (d.2.2.2.2 : Nat), .int (markF ns), .str (S (bitsF d ns T))])
/-- frames that follow each other: the width at the left end of the first, at the right end of the last -/
def Ch : Nat → List Hd → Nat → Prop
  | l, [], e => l = e
  | l, d :: r, e => HdOk d ∧ l + d.2.1 ≤ d.1 ∧ Ch d.2.1 r e
def HdsAt (H : Hp) (refs : List V) (hs : List Hd) : Prop := All2 (fun v d => ∃ h j, v = .ref h ∧ HdAt H h j d) refs hs
theorem HdAt.lk {H H' : Hp} {h j : Addr} {d : Hd} (s : LK H H') (k : HdAt H h j d) : HdAt H' h j d := ⟨s _ _ k.1 (fun _ z => nomatch z), s _ _ k.2 (fun _ z => nomatch z)⟩
theorem HdsAt.lk {H H' : Hp} {refs : List V} {hs : List Hd} (s : LK H H') (k : HdsAt H refs hs) : HdsAt H' refs hs := k.imp fun _ _ ⟨h, j, e, q⟩ => ⟨h, j, e, q.lk s⟩
theorem All2.app {α β : Type} {R : α → β → Prop} {as : List α} {bs : List β} {a : α} {b : β} (h : All2 R as bs) (k : R a b) : All2 R (as ++ [a]) (bs ++ [b]) := by
  induction h with
  | nil => exact .cons k .nil
  | cons h _ ih => exact .cons h ih
inductive Rc where
  | st (T : Tb × Tb)
  | fr (d : Hd) (ns : List Int) (T : Tb × Tb)
def TkOk (T : Tb × Tb) : Prop := TbOk (10 ^ 50) T.1 ∧ TbOk (10 ^ 50) T.2
def RcAt (K : PySem.W.Frag) (H : Hp) (v : V) : Rc → Prop
  | .st T => ∃ a t, v = .ref a ∧ H a = some (.tup [.str (Str.ofString "state"), .ref t]) ∧ TbsV K H t T
  | .fr d ns T => ∃ a j, v = .ref a ∧ FrAt H a j d ns T ∧ H j = some (.tup [.int (d.2.1 : Nat), .int (d.2.2.1 : Nat)])
theorem RcAt.lk {K : PySem.W.Frag} {H H' : Hp} {v : V} (s : LK H H') : ∀ {r : Rc}, RcAt K H v r → RcAt K H' v r
  | .st T, ⟨a, t, e, h, q⟩ => ⟨a, t, e, s _ _ h (fun _ z => nomatch z), q.lk s⟩
  | .fr d ns T, ⟨a, j, e, h, q⟩ => ⟨a, j, e, s _ _ h (fun _ z => nomatch z), s _ _ q (fun _ z => nomatch z)⟩
def RcsAt (K : PySem.W.Frag) (H : Hp) (vs : List V) (rs : List Rc) : Prop := All2 (RcAt K H) vs rs
theorem RcsAt.lk {K : PySem.W.Frag} {H H' : Hp} {vs : List V} {rs : List Rc} (s : LK H H') (h : RcsAt K H vs rs) : RcsAt K H' vs rs := h.imp fun _ _ q => q.lk s
/-- a row of the index: record, place, frame, left joint, origin -/
abbrev Rw := Nat × Nat × Hd × (Nat × Nat) × Nat
structure Run where
  i : Nat
  pl : Nat
  lj : Nat × Nat
  o : Nat
  rows : List Rw
def stpR (s : Run) : Rc → Run
  | .st _ => ⟨s.i + 1, s.pl, s.lj, s.i, s.rows⟩
  | .fr d _ _ => ⟨s.i + 1, s.pl + d.1, (d.2.1, d.2.2.1), s.o, s.rows ++ [(s.i, s.pl, d, s.lj, s.o)]⟩
def runR (rs : List Rc) : Run := rs.foldl stpR ⟨0, 0, (0, 0), 0, []⟩
def JtAt (H : Hp) (j : Addr) (x : Nat × Nat) : Prop := H j = some (.tup [.int (x.1 : Nat), .int (x.2 : Nat)])
def RwAt (H : Hp) (v : V) (r : Rw) : Prop := ∃ a jl j, v = .ref a ∧ H a = some (.tup [.int (r.1 : Nat), .int (r.2.1 : Nat), .int (r.2.2.1.1 : Nat), .ref jl, .ref j, .int (r.2.2.1.2.2.2.1 : Nat), .int (r.2.2.1.2.2.2.2 : Nat), .int (r.2.2.2.2 : Nat)]) ∧ JtAt H jl r.2.2.2.1 ∧ JtAt H j (r.2.2.1.2.1, r.2.2.1.2.2.1)
theorem RwAt.lk {H H' : Hp} {v : V} {r : Rw} (s : LK H H') (h : RwAt H v r) : RwAt H' v r := by
  obtain ⟨a, jl, j, e, h1, h2, h3⟩ := h
  exact ⟨a, jl, j, e, s _ _ h1 (fun _ z => nomatch z), s _ _ h2 (fun _ z => nomatch z), s _ _ h3 (fun _ z => nomatch z)⟩
def RwsAt (H : Hp) (vs : List V) (rs : List Rw) : Prop := All2 (RwAt H) vs rs
theorem RwsAt.lk {H H' : Hp} {vs : List V} {rs : List Rw} (s : LK H H') (h : RwsAt H vs rs) : RwsAt H' vs rs := h.imp fun _ _ q => q.lk s
/-- what is kept of the frames -/
def blkF (kf : Hd → List Int → List Int) : List Rc → List (List Int)
  | [] => []
  | .st _ :: r => blkF kf r
  | .fr d ns _ :: r => kf d ns :: blkF kf r
abbrev kfB : Hd → List Int → List Int := fun d ns => joinL (ns.map (· * (d.2.2.2.2 : Int))) d.2.2.2.1
def BksAt (l : List Addr) (H : Hp) (vs : List V) (bs : List (List Int)) : Prop := All2 (fun v b => ∃ a, v = .ref a ∧ a ∉ l ∧ H a = some (.lst (b.map V.int))) vs bs
theorem BksAt.kp {l : List Addr} {H H' : Hp} {vs : List V} {bs : List (List Int)} (k : KpL l H H') (h : BksAt l H vs bs) : BksAt l H' vs bs := h.imp fun _ _ ⟨a, e, n, q⟩ => ⟨a, e, n, k _ _ n q⟩
/-- records that can be read one after the other: from tables and a width at the left, to tables and a width -/
def Vd : Tb × Tb → Nat → List Rc → Tb × Tb → Nat → Prop
  | T, l, [], T2, l2 => T = T2 ∧ l = l2
  | _, l, .st T' :: r, T2, l2 => TkOk T' ∧ Vd T' l r T2 l2
  | T, l, .fr d ns T0 :: r, T2, l2 => T0 = T ∧ HdOk d ∧ l + d.2.1 ≤ d.1 ∧ ns.length = d.1 ∧ (∀ z ∈ ns, z.natAbs ≤ 10 ^ 45) ∧ TkOk T ∧ Vd (nextF d ns T) d.2.1 r T2 l2
def T0 : Tb × Tb := ((2, 1), (2, 1))
/-- what the writing of a stream keeps -/
structure SI (kf : Hd → List Int → List Int) (K : PySem.W.Frag) (p R W B : Addr) (H : Hp) (refs rws bks : List V) (rs : List Rc) (T : Tb × Tb) (jl : Addr) (lj : Nat × Nat) (o pl n : Nat) : Prop where
  eR : H R = some (.lst refs)
  eW : H W = some (.lst rws)
  eB : H B = some (.lst bks)
  rc : RcsAt K H refs rs
  rw : RwsAt H rws (runR rs).rows
  bk : BksAt [p, R, W, B] H bks (blkF kf rs)
  vd : Vd T0 0 rs T lj.1
  jt : JtAt H jl lj
  r1 : (runR rs).lj = lj
  r2 : (runR rs).pl = pl
  r3 : (runR rs).o = o
  ln : refs.length = rs.length
  le : rs.length ≤ n
  po : Pool H p
  nRp : R ≠ p
  nWp : W ≠ p
  nBp : B ≠ p
  nRW : R ≠ W
  nRB : R ≠ B
  nWB : W ≠ B
section
variable {kf : Hd → List Int → List Int} {K : PySem.W.Frag} {p R W B jl : Addr} {H H' : Hp} {refs rws bks : List V} {rs : List Rc} {T : Tb × Tb} {lj : Nat × Nat} {o pl n : Nat}
theorem JtAt.lk {j : Addr} {x : Nat × Nat} (s : LK H H') (h : JtAt H j x) : JtAt H' j x := s _ _ h fun _ z => nomatch z
theorem SI.kp (h : SI kf K p R W B H refs rws bks rs T jl lj o pl n) (k : Kp p H H') (hP : Pool H' p) : SI kf K p R W B H' refs rws bks rs T jl lj o pl n :=
  have lk := LK.pool h.po k
  { h with eR := k _ _ h.nRp h.eR, eW := k _ _ h.nWp h.eW, eB := k _ _ h.nBp h.eB, rc := h.rc.lk lk, rw := h.rw.lk lk, bk := h.bk.kp (KpL.ofK List.mem_cons_self k), jt := h.jt.lk lk, po := hP }
theorem SI.new {q : Addr} {u : HO} (h : SI kf K p R W B H refs rws bks rs T jl lj o pl n) (nq : H q = none) : SI kf K p R W B (upd H q u) refs rws bks rs T jl lj o pl n := h.kp (Kp.new nq) (h.po.new nq)
theorem SI.same (h : SI kf K p R W B H refs rws bks rs T jl lj o pl n) (s : Same H H') : SI kf K p R W B H' refs rws bks rs T jl lj o pl n := h.kp (fun a x _ e => s a x e) (h.po.same s)
end
theorem SI.up {kf : Hd → List Int → List Int} {K : PySem.W.Frag} {p R W B jl : Addr} {H : Hp} {refs rws bks : List V} {rs : List Rc} {T : Tb × Tb} {lj : Nat × Nat} {o pl n m : Nat} (h : SI kf K p R W B H refs rws bks rs T jl lj o pl n) (k : n ≤ m) : SI kf K p R W B H refs rws bks rs T jl lj o pl m := { h with le := Nat.le_trans h.le k }
end Z
namespace Z
open PySem PySem.Spec PyProof.Rows L2
open SX (S S_len S_cat S_inj)
/-- a record that is valid -/
def RcOk : Rc → Prop
  | .st T => TkOk T
  | .fr d ns T => HdOk d ∧ ns.length = d.1 ∧ (∀ z ∈ ns, z.natAbs ≤ 10 ^ 45) ∧ TkOk T
/-- index, place, head, left joint, numbers, tables -/
abbrev Fm := Nat × Nat × Hd × (Nat × Nat) × List Int × (Tb × Tb)
def frR : Nat → Nat → (Nat × Nat) → List Rc → List Fm
  | _, _, _, [] => []
  | i, pl, lj, .st _ :: r => frR (i + 1) pl lj r
  | i, pl, lj, .fr d ns T :: r => (i, pl, d, lj, ns, T) :: frR (i + 1) (pl + d.1) (d.2.1, d.2.2.1) r
def JtV (K : PySem.W.Frag) (H : Hp) (j : Addr) (x : Nat × Nat) : Prop := TupV K H j [.int (x.1 : Nat), .int (x.2 : Nat)]
theorem JtAt.v {K : PySem.W.Frag} {H : Hp} {j : Addr} {x : Nat × Nat} (h : JtAt H j x) : JtV K H j x := TupV.of h
theorem JtV.lk {K : PySem.W.Frag} {H H' : Hp} {j : Addr} {x : Nat × Nat} (s : LK H H') (h : JtV K H j x) : JtV K H' j x := TupV.lk s h
def FmAt (K : PySem.W.Frag) (l : List Addr) (H : Hp) (v : V) (f : Fm) : Prop := ∃ a b jl j m t q, v = .ref a ∧ H a = some (.tup [.ref b, .ref m, .ref t, .ref q]) ∧ H b = some (.tup [.int (f.1 : Nat), .int (f.2.1 : Nat), .int (f.2.2.1.1 : Nat), .ref jl, .ref j]) ∧ JtV K H jl f.2.2.2.1 ∧ JtAt H j (f.2.2.1.2.1, f.2.2.1.2.2.1) ∧
  m ∉ l ∧ H m = some (.lst (f.2.2.2.2.1.map V.int)) ∧ TbsV K H t f.2.2.2.2.2 ∧ TbsV K H q (nextF f.2.2.1 f.2.2.2.2.1 f.2.2.2.2.2)
theorem FmAt.kp {K : PySem.W.Frag} {l : List Addr} {H H' : Hp} {v : V} {f : Fm} (s : LK H H') (k : KpL l H H') (h : FmAt K l H v f) : FmAt K l H' v f := by
  obtain ⟨a, b, jl, j, m, t, q, e, h1, h2, h3, h4, h5, h6, h7, h8⟩ := h
  exact ⟨a, b, jl, j, m, t, q, e, s _ _ h1 (fun _ z => nomatch z), s _ _ h2 (fun _ z => nomatch z), h3.lk s, h4.lk s, h5, k _ _ h5 h6, h7.lk s, h8.lk s⟩
theorem FmAt.same {K : PySem.W.Frag} {l : List Addr} {H H' : Hp} {v : V} {f : Fm} (s : Same H H') (h : FmAt K l H v f) : FmAt K l H' v f := h.kp (.of s) (.ofS s)
def FmsAt (K : PySem.W.Frag) (l : List Addr) (H : Hp) (vs : List V) (fs : List Fm) : Prop := All2 (FmAt K l H) vs fs
theorem Vd.ok : ∀ {rs : List Rc} {T : Tb × Tb} {l : Nat} {T2 : Tb × Tb} {l2 : Nat}, Vd T l rs T2 l2 → ∀ r ∈ rs, RcOk r
  | [], _, _, _, _, _, r, h => absurd h List.not_mem_nil
  | .st T' :: rs, _, _, _, _, ⟨h, q⟩, r, hm => by
    rcases List.mem_cons.mp hm with rfl | hm
    · exact h
    · exact Vd.ok q r hm
  | .fr d ns T' :: rs, _, _, _, _, ⟨e, h2, h3, h4, h5, h6, q⟩, r, hm => by
    rcases List.mem_cons.mp hm with rfl | hm
    · subst e; exact ⟨h2, h4, h5, h6⟩
    · exact Vd.ok q r hm
structure FI (K : PySem.W.Frag) (F : Addr) (H0 H : Hp) (rs : List Rc) (Te : Tb × Tb) (i : Nat) (fms : List V) (dn : List Fm) (t : Addr) (T : Tb × Tb) (pl : Nat) (jl : Addr) (lj : Nat × Nat) : Prop where
  eF : H F = some (.lst fms)
  nF : H0 F = none
  fm : FmsAt K [F] H fms dn
  sp : frR 0 0 (0, 0) rs = dn ++ frR i pl lj (rs.drop i)
  vd : Vd T lj.1 (rs.drop i) Te 0
  jt : JtV K H jl lj
  j0 : lj.1 = 0 → lj.2 = 0
  tb : TbsV K H t T
  sm : Same H0 H
  le : dn.length ≤ i
section
variable {K : PySem.W.Frag} {F t jl : Addr} {H0 H H' : Hp} {rs : List Rc} {Te T : Tb × Tb} {i pl : Nat} {fms : List V} {dn : List Fm} {lj : Nat × Nat}
theorem FI.same (h : FI K F H0 H rs Te i fms dn t T pl jl lj) (s : Same H H') : FI K F H0 H' rs Te i fms dn t T pl jl lj :=
  { h with eF := s _ _ h.eF, fm := h.fm.imp fun _ _ q => q.same s, jt := h.jt.lk (.of s), tb := h.tb.lk (.of s), sm := h.sm.trans s }
theorem FI.len (h : FI K F H0 H rs Te i fms dn t T pl jl lj) : fms.length ≤ i := by rw [h.fm.len]; exact h.le
theorem FI.st (h : FI K F H0 H rs Te i fms dn t T pl jl lj) {T' : Tb × Tb} {r : List Rc} (e : rs.drop i = .st T' :: r) (e' : rs.drop (i + 1) = r) {t' : Addr} (ht : TbsV K H t' T') : FI K F H0 H rs Te (i + 1) fms dn t' T' pl jl lj := by
  have sp := h.sp
  have vd := h.vd
  rw [e] at sp vd
  exact { h with sp := by rw [e']; exact sp, vd := by rw [e']; exact vd.2, tb := ht, le := Nat.le_succ_of_le h.le }
theorem FI.fr (h : FI K F H0 H rs Te i fms dn t T pl jl lj) {d : Hd} {ns : List Int} {T0 : Tb × Tb} {r : List Rc} (e : rs.drop i = .fr d ns T0 :: r) (e' : rs.drop (i + 1) = r) {v : V} {q j : Addr} (hv : FmAt K [F] H v (i, pl, d, lj, ns, T)) (hj : JtAt H j (d.2.1, d.2.2.1)) (hq : TbsV K H q (nextF d ns T)) :
    FI K F H0 (upd H F (.lst (fms ++ [v]))) rs Te (i + 1) (fms ++ [v]) (dn ++ [(i, pl, d, lj, ns, T)]) q (nextF d ns T) (pl + d.1) j (d.2.1, d.2.2.1) := by
  have sp := h.sp
  have vd := h.vd
  rw [e] at sp vd
  obtain ⟨rfl, v2, v3, v4, v5, v6, v7⟩ := vd
  have lk : LK H (upd H F (.lst (fms ++ [v]))) := LK.at h.eF
  have kp : KpL [F] H (upd H F (.lst (fms ++ [v]))) := KpL.at (by simp)
  exact { eF := upd_same, nF := h.nF, fm := (h.fm.imp fun _ _ q => q.kp lk kp).app (hv.kp lk kp)
          sp := by rw [e', sp, List.append_assoc]; rfl
          vd := by rw [e']; exact v7
          jt := (hj.lk lk).v, j0 := v2.2.2.2.2.1, tb := hq.lk lk
          sm := fun b o eb => by rw [upd_ne (ne_of_none eb h.nF)]; exact h.sm _ _ eb
          le := by rw [List.length_append]; exact Nat.succ_le_succ h.le }
end
def LKI (H H' : Hp) : Prop := ∀ b o, H b = some o → (∀ xs, o ≠ .lst xs) → (∀ C dx fs, o ≠ .ins C dx fs) → H' b = some o
theorem LK.i {H H' : Hp} (s : LK H H') : LKI H H' := fun b o e n _ => s b o e n
theorem LKI.ofK {x C dx : Addr} {fs : List (Str × V)} {H H' : Hp} (hx : H x = some (.ins C dx fs)) (k : Kp x H H') : LKI H H' := fun b o e _ n => k b o (fun z => by
  rw [z, hx] at e
  exact n _ _ _ (Option.some.inj e).symm) e
def sf (L F : Addr) : List (Str × V) := putF "read" (.ref F) (putF "held" (.ref L) [])
def StmAt (K : PySem.W.Frag) (C : Addr) (H : Hp) (x : Addr) (refs : List V) (rs : List Rc) : Prop := ∃ dx L F fms Te, H x = some (.ins C dx (sf L F)) ∧ H L = some (.lst refs) ∧ refs.length ≤ 400 ∧ RcsAt K H refs rs ∧ Vd T0 0 rs Te 0 ∧ H F = some (.lst fms) ∧ FmsAt K [] H fms (frR 0 0 (0, 0) rs)
theorem StmAt.same {K : PySem.W.Frag} {C x : Addr} {H H' : Hp} {refs : List V} {rs : List Rc} (s : Same H H') (h : StmAt K C H x refs rs) : StmAt K C H' x refs rs := by
  obtain ⟨dx, L, F, fms, Te, h1, h2, h3, h4, h5, h6, h7⟩ := h
  exact ⟨dx, L, F, fms, Te, s _ _ h1, s _ _ h2, h3, h4.lk (.of s), h5, s _ _ h6, h7.imp fun _ _ q => q.same s⟩
def BlAt (K : PySem.W.Frag) (H : Hp) (b : Addr) (f : Fm) : Prop := ∃ jl j, H b = some (.tup [.int (f.1 : Nat), .int (f.2.1 : Nat), .int (f.2.2.1.1 : Nat), .ref jl, .ref j]) ∧ JtV K H jl f.2.2.2.1 ∧ JtAt H j (f.2.2.1.2.1, f.2.2.1.2.2.1)
def rowsF : Nat → Nat → (Nat × Nat) → Nat → List Rc → List Rw
  | _, _, _, _, [] => []
  | i, pl, lj, _, .st _ :: r => rowsF (i + 1) pl lj i r
  | i, pl, lj, o, .fr d _ _ :: r => (i, pl, d, lj, o) :: rowsF (i + 1) (pl + d.1) (d.2.1, d.2.2.1) o r
def RwV (K : PySem.W.Frag) (H : Hp) (v : V) (r : Rw) : Prop := ∃ a jl j, v = .ref a ∧ H a = some (.tup [.int (r.1 : Nat), .int (r.2.1 : Nat), .int (r.2.2.1.1 : Nat), .ref jl, .ref j, .int (r.2.2.1.2.2.2.1 : Nat), .int (r.2.2.1.2.2.2.2 : Nat), .int (r.2.2.2.2 : Nat)]) ∧ JtV K H jl r.2.2.2.1 ∧ JtAt H j (r.2.2.1.2.1, r.2.2.1.2.2.1)
theorem RwV.lk {K : PySem.W.Frag} {H H' : Hp} {v : V} {r : Rw} (s : LK H H') (h : RwV K H v r) : RwV K H' v r := by
  obtain ⟨a, jl, j, e, h1, h2, h3⟩ := h
  exact ⟨a, jl, j, e, s _ _ h1 (fun _ z => nomatch z), h2.lk s, h3.lk s⟩
theorem RwAt.v {K : PySem.W.Frag} {H : Hp} {v : V} {r : Rw} (h : RwAt H v r) : RwV K H v r := by
  obtain ⟨a, jl, j, e, h1, h2, h3⟩ := h
  exact ⟨a, jl, j, e, h1, h2.v, h3⟩
def RwsV (K : PySem.W.Frag) (H : Hp) (vs : List V) (rs : List Rw) : Prop := All2 (RwV K H) vs rs
structure II (K : PySem.W.Frag) (D : Addr) (H0 H : Hp) (rs : List Rc) (i : Nat) (idx : List V) (dn : List Rw) (fd : List Fm) (pl : Nat) (lj : Nat × Nat) (o : Nat) : Prop where
  eD : H D = some (.lst idx)
  nD : H0 D = none
  ix : RwsV K H idx dn
  s1 : rowsF 0 0 (0, 0) 0 rs = dn ++ rowsF i pl lj o (rs.drop i)
  s2 : frR 0 0 (0, 0) rs = fd ++ frR i pl lj (rs.drop i)
  ln : dn.length = fd.length
  sm : Same H0 H
  le : dn.length ≤ i
section
variable {K : PySem.W.Frag} {D : Addr} {H0 H H' : Hp} {rs : List Rc} {i pl o : Nat} {idx : List V} {dn : List Rw} {fd : List Fm} {lj : Nat × Nat}
theorem II.same (h : II K D H0 H rs i idx dn fd pl lj o) (s : Same H H') : II K D H0 H' rs i idx dn fd pl lj o :=
  { h with eD := s _ _ h.eD, ix := h.ix.imp fun _ _ q => q.lk (.of s), sm := h.sm.trans s }
theorem II.len (h : II K D H0 H rs i idx dn fd pl lj o) : idx.length ≤ i := by rw [h.ix.len]; exact h.le
theorem II.st (h : II K D H0 H rs i idx dn fd pl lj o) {T' : Tb × Tb} {r : List Rc} (e : rs.drop i = .st T' :: r) (e' : rs.drop (i + 1) = r) : II K D H0 H rs (i + 1) idx dn fd pl lj i := by
  have s1 := h.s1
  have s2 := h.s2
  rw [e] at s1 s2
  exact { h with s1 := by rw [e']; exact s1, s2 := by rw [e']; exact s2, le := Nat.le_succ_of_le h.le }
theorem II.at (h : II K D H0 H rs i idx dn fd pl lj o) {d : Hd} {ns : List Int} {T : Tb × Tb} {r : List Rc} (e : rs.drop i = .fr d ns T :: r) : (frR 0 0 (0, 0) rs)[idx.length]? = some (i, pl, d, lj, ns, T) := by
  have s2 := h.s2
  rw [e] at s2
  rw [s2, h.ix.len, h.ln, List.getElem?_append_right (Nat.le_refl _), Nat.sub_self]
  rfl
theorem II.fr (h : II K D H0 H rs i idx dn fd pl lj o) {d : Hd} {ns : List Int} {T : Tb × Tb} {r : List Rc} (e : rs.drop i = .fr d ns T :: r) (e' : rs.drop (i + 1) = r) {v : V} (hv : RwV K H v (i, pl, d, lj, o)) :
    II K D H0 (upd H D (.lst (idx ++ [v]))) rs (i + 1) (idx ++ [v]) (dn ++ [(i, pl, d, lj, o)]) (fd ++ [(i, pl, d, lj, ns, T)]) (pl + d.1) (d.2.1, d.2.2.1) o := by
  have s1 := h.s1
  have s2 := h.s2
  rw [e] at s1 s2
  have lk : LK H (upd H D (.lst (idx ++ [v]))) := LK.at h.eD
  exact { eD := upd_same, nD := h.nD, ix := (h.ix.imp fun _ _ q => q.lk lk).app (hv.lk lk)
          s1 := by rw [e', s1, List.append_assoc]; rfl
          s2 := by rw [e', s2, List.append_assoc]; rfl
          ln := by rw [List.length_append, List.length_append, h.ln]; rfl
          sm := fun b x eb => by rw [upd_ne (ne_of_none eb h.nD)]; exact h.sm _ _ eb
          le := by rw [List.length_append]; exact Nat.succ_le_succ h.le }
end
theorem RwsAt.v {K : PySem.W.Frag} {H : Hp} {vs : List V} {rs : List Rw} (h : RwsAt H vs rs) : RwsV K H vs rs := h.imp fun _ _ q => q.v
theorem RwsV.lk {K : PySem.W.Frag} {H H' : Hp} {vs : List V} {rs : List Rw} (s : LK H H') (h : RwsV K H vs rs) : RwsV K H' vs rs := h.imp fun _ _ q => q.lk s
end Z
namespace Z
open PySem PySem.Spec PyProof.Rows L2
abbrev Sz := Int × Int
def SzAt (H : Hp) (v : V) (s : Sz) : Prop := ∃ a, v = .ref a ∧ H a = some (.tup [.int s.1, .int s.2])
def SzsAt (H : Hp) (vs : List V) (ss : List Sz) : Prop := All2 (SzAt H) vs ss
def LKT (H H' : Hp) : Prop := ∀ b o, H b = some o → (∀ xs, o ≠ .lst xs) → H' b = some o
theorem SzsAt.lk {H H' : Hp} {vs : List V} {ss : List Sz} (s : LKT H H') (h : SzsAt H vs ss) : SzsAt H' vs ss := h.imp fun _ _ ⟨a, e, q⟩ => ⟨a, e, s _ _ q (fun _ z => nomatch z)⟩
theorem LKT.of {H H' : Hp} (s : Same H H') : LKT H H' := fun b o e _ => s b o e
theorem LKT.new {H : Hp} {q : Addr} {o : HO} (n : H q = none) : LKT H (upd H q o) := .of (same_new n)
theorem LKT.trans {H H1 H2 : Hp} (a : LKT H H1) (b : LKT H1 H2) : LKT H H2 := fun x o e n => b x o (a x o e n) n
theorem LKT.at {H : Hp} {q : Addr} {o : HO} {ys : List V} (n : H q = some (.lst ys)) : LKT H (upd H q o) := fun b x e nl => by
  rw [upd_ne (fun z => by rw [z, n] at e; cases e; exact nl _ rfl)]
  exact e
theorem SzsAt.same {H H' : Hp} {vs : List V} {ss : List Sz} (s : Same H H') (h : SzsAt H vs ss) : SzsAt H' vs ss := h.lk (.of s)
end Z
namespace Z
open PySem PySem.Spec PyProof.Rows L2
def rend (r : Rw) : Nat := r.2.1 + r.2.2.1.1
def lenW (rows : List Rw) : Nat := match rows.getLast? with
  | none => 0
  | some r => rend r
structure RwO (r : Rw) : Prop where
  o : r.2.2.2.2 ≤ r.1
  l1 : 1 ≤ r.2.2.1.1
  l2 : r.2.2.1.1 ≤ 64
  w : r.2.2.1.2.1 ≤ 8
  v : r.2.2.2.1.1 ≤ 8
structure RunO (s : Run) : Prop where
  each : ∀ r ∈ s.rows, RwO r ∧ r.1 < s.i ∧ r.2.2.2.2 ≤ s.o ∧ rend r ≤ s.pl
  asc : s.rows.Pairwise fun a b => a.1 < b.1 ∧ a.2.2.2.2 ≤ b.2.2.2.2
  last : lenW s.rows = s.pl
  oi : s.o ≤ s.i
  pl : s.pl ≤ 64 * s.rows.length
  lj : s.lj.1 ≤ 8
  le : s.rows.length ≤ s.i
end Z
namespace Z
open PySem PySem.Spec PyProof.Rows L2
theorem RwV.same {K : PySem.W.Frag} {H H' : Hp} {v : V} {r : Rw} (s : Same H H') (h : RwV K H v r) : RwV K H' v r := h.lk (.of s)
theorem RwsV.same {K : PySem.W.Frag} {H H' : Hp} {vs : List V} {rs : List Rw} (s : Same H H') (h : RwsV K H vs rs) : RwsV K H' vs rs := h.imp fun _ _ q => q.same s
/-- rows that stand in order -/
structure RowsO (rows : List Rw) : Prop where
  each : ∀ r ∈ rows, RwO r ∧ r.1 < 40
  asc : rows.Pairwise fun a b => a.1 < b.1 ∧ a.2.2.2.2 ≤ b.2.2.2.2
theorem RunO.rows {s : Run} (h : RunO s) (i : s.i ≤ 40) : RowsO s.rows := ⟨fun r hr => ⟨(h.each r hr).1, by have := (h.each r hr).2.1; omega⟩, h.asc⟩
end Z
namespace Z
open PySem PySem.Spec PyProof.Rows L2
/-- length, width, shape of frames that follow each other -/
abbrev Fw := Nat × Nat × Nat
def plJ : Nat → List Fw → List Jo
  | _, [] => []
  | p, f :: r => (p + f.1, f.2.1, f.2.2) :: plJ (p + f.1) r
def totW (fs : List Fw) : Nat := (fs.map (·.1)).sum
def fwR : List Rc → List Fw
  | [] => []
  | .st _ :: r => fwR r
  | .fr d _ _ :: r => (d.1, d.2.1, d.2.2.1) :: fwR r
def bkF (f : Fm) : List Int := kfB f.2.2.1 f.2.2.2.2.1
def BsAt (H : Hp) (vs : List V) (bs : List (List Int)) : Prop := All2 (fun v b => ∃ q, v = .ref q ∧ H q = some (.lst (b.map V.int))) vs bs
theorem BsAt.same {H H' : Hp} {vs : List V} {bs : List (List Int)} (s : Same H H') (h : BsAt H vs bs) : BsAt H' vs bs := h.imp fun _ _ ⟨q, e, h⟩ => ⟨q, e, s _ _ h⟩
def JfAt (H : Hp) (vs : List V) (fs : List Fw) : Prop := All2 (fun v f => ∃ j, v = .ref j ∧ JtAt H j (f.2.1, f.2.2)) vs fs
theorem JfAt.same {H H' : Hp} {vs : List V} {fs : List Fw} (s : Same H H') (h : JfAt H vs fs) : JfAt H' vs fs := h.imp fun _ _ ⟨q, e, h⟩ => ⟨q, e, s _ _ h⟩
theorem JsAt.drop {H : Hp} {vs : List V} {js : List Jo} (h : JsAt H vs js) : JsAt H vs.dropLast js.dropLast := ⟨by rw [List.length_dropLast, List.length_dropLast, h.1], fun i v e => by
  have hl : i < vs.length - 1 := by
    have := (List.getElem?_eq_some_iff.mp e).1
    rw [List.length_dropLast] at this
    exact this
  rw [List.dropLast_eq_take, List.getElem?_take_of_lt (by omega)] at e
  obtain ⟨j, a, q, e1, e2, e3, e4⟩ := h.2 i v e
  refine ⟨j, a, q, ?_, e2, e3, e4⟩
  rw [List.dropLast_eq_take, List.getElem?_take_of_lt (by rw [← h.1]; omega)]
  exact e1⟩
end Z
namespace Z
open PySem PySem.Spec PyProof.Rows L2
def qL (st : Nat) (vs : List Int) : List Int := vs.map fun v => (2 * v + (st : Int)) / (2 * (st : Int))
/-- the numbers of a frame -/
def nsQ (d : Hd) (vs : List Int) : List Int := qL d.2.2.2.2 (splitL vs d.2.2.2.1)
def stB (g i : Nat) : Bool := decide (0 < g) && (decide (0 < i) && decide (i % g = 0))
def encR (g : Nat) : Nat → Tb × Tb → List Hd → List Int → List Rc
  | _, _, [], _ => []
  | i, T, d :: hs, vs => (if stB g i = true then [Rc.st T] else []) ++ .fr d (nsQ d (vs.take d.1)) T :: encR g (i + 1) (nextF d (nsQ d (vs.take d.1)) T) hs (vs.drop d.1)
def hdW (d : Hd) : Fw := (d.1, d.2.1, d.2.2.1)
def totH (hs : List Hd) : Nat := totW (hs.map hdW)
def plH (hs : List Hd) : List Jo := (plJ 0 (hs.map hdW)).dropLast
def encA (g : Nat) (hs : List Hd) (xs : List Int) : List Rc := encR g 0 T0 hs (turnL foldP xs (plH hs))
/-- what the encoding keeps -/
structure EI (K : PySem.W.Frag) (R : Addr) (H0 H : Hp) (g : Nat) (hs : List Hd) (xs : List Int) (Te : Tb × Tb) (i : Nat) (ws : List V) (dn : List Rc) (t : Addr) (T : Tb × Tb) : Prop where
  eR : H R = some (.lst ws)
  rc : RcsAt K H ws dn
  tb : TbsV K H t T
  le : ws.length ≤ 2 * i
  sp : encA g hs xs = dn ++ encR g i T (hs.drop i) ((turnL foldP xs (plH hs)).drop (totH (hs.take i)))
  vd : ∃ l, Vd T l (encR g i T (hs.drop i) ((turnL foldP xs (plH hs)).drop (totH (hs.take i)))) Te 0
  sm : Same H0 H
theorem EI.same {K : PySem.W.Frag} {R : Addr} {H0 H H' : Hp} {g : Nat} {hs : List Hd} {xs : List Int} {Te : Tb × Tb} {i : Nat} {ws : List V} {dn : List Rc} {t : Addr} {T : Tb × Tb} (h : EI K R H0 H g hs xs Te i ws dn t T) (s : Same H H') : EI K R H0 H' g hs xs Te i ws dn t T :=
  { h with eR := s _ _ h.eR, rc := h.rc.lk (.of s), tb := h.tb.lk (.of s), sm := h.sm.trans s }
end Z
namespace Z
open PySem PySem.Spec PyProof.Rows L2
theorem Ch.all : ∀ {hs : List Hd} {l e : Nat}, Ch l hs e → ∀ d ∈ hs, HdOk d
  | [], _, _, _, d, hd => absurd hd List.not_mem_nil
  | c :: r, l, e, ⟨h1, h2, h3⟩, d, hd => by
    rcases List.mem_cons.mp hd with rfl | hd
    · exact h1
    · exact h3.all d hd
end Z
namespace Z
open PySem PySem.Spec PyProof.Rows L2
open SX (S S_len S_cat S_inj)
def ef (n : Nat) : Nat → Nat
  | 0 => 0
  | k + 1 => if cc n k > 1 then k + 1 else ef n k
def ljE : (Nat × Nat) → List Rc → Nat × Nat
  | lj, [] => lj
  | lj, .st _ :: r => ljE lj r
  | _, .fr d _ _ :: r => ljE (d.2.1, d.2.2.1) r
/-- what the law tells of a frame: its block, numbers, values, the tables before and behind it -/
def TlAt (K : PySem.W.Frag) (l : List Addr) (H : Hp) (v : V) (f : Fm) : Prop := ∃ a b m q t t2 jl j, v = .ref a ∧ a ∉ l ∧ m ∉ l ∧ q ∉ l ∧ H a = some (.lst [.ref b, .ref m, .ref q, .ref t, .ref t2]) ∧
  H b = some (.tup [.int (f.1 : Nat), .int (f.2.1 : Nat), .int (f.2.2.1.1 : Nat), .ref jl, .ref j]) ∧ JtAt H jl f.2.2.2.1 ∧ JtAt H j (f.2.2.1.2.1, f.2.2.1.2.2.1) ∧ H m = some (.lst (f.2.2.2.2.1.map V.int)) ∧ H q = some (.lst ((bkF f).map V.int)) ∧
  TbsV K H t f.2.2.2.2.2 ∧ TbsV K H t2 (nextF f.2.2.1 f.2.2.2.2.1 f.2.2.2.2.2)
theorem TlAt.kp {K : PySem.W.Frag} {l : List Addr} {H H' : Hp} {v : V} {f : Fm} (k : KpL l H H') (lk : LK H H') (h : TlAt K l H v f) : TlAt K l H' v f := by
  obtain ⟨a, b, m, q, t, t2, jl, j, e, n1, n2, n3, h1, h2, h3, h4, h5, h6, h7, h8⟩ := h
  exact ⟨a, b, m, q, t, t2, jl, j, e, n1, n2, n3, k _ _ n1 h1, lk _ _ h2 (fun _ z => nomatch z), lk _ _ h3 (fun _ z => nomatch z), lk _ _ h4 (fun _ z => nomatch z), k _ _ n2 h5, k _ _ n3 h6, h7.lk lk, h8.lk lk⟩
end Z
namespace Z
open PySem PySem.Spec PyProof.Rows L2
structure BI (K : PySem.W.Frag) (p R W S : Addr) (H0 H : Hp) (hrefs : List V) (hs : List Hd) (i m : Nat) (refs tls : List V) (rs : List Rc) (t : Addr) (T : Tb × Tb) (jl : Addr) : Prop where
  eR : H R = some (.lst refs)
  eW : H W = some (.lst tls)
  eS : H S = some (.lst hrefs)
  rc : RcsAt K H refs rs
  vd : Vd T0 0 rs T (ljE (0, 0) rs).1
  tl : All2 (TlAt K [p, R, W] H) tls (frR 0 0 (0, 0) rs)
  tb : TbsV K H t T
  t1 : TbOk (2 * 10 ^ 14 * (i : Int) + 100) T.1
  t2 : TbOk (2 * 10 ^ 14 * (i : Int) + 100) T.2
  jt : JtAt H jl (ljE (0, 0) rs)
  le : refs.length ≤ m
  fw : fwR rs = (hs.take i).map hdW
  po : Pool H p
  hh : HdsAt H hrefs hs
  kp : Kp p H0 H
  nRp : R ≠ p
  nWp : W ≠ p
  nSp : S ≠ p
  nRW : R ≠ W
  nSR : S ≠ R
  nSW : S ≠ W
  nR0 : H0 R = none
  nW0 : H0 W = none
  ch : Ch (ljE (0, 0) rs).1 (hs.drop i) 0
section
variable {K : PySem.W.Frag} {p R W S t jl : Addr} {H0 H H' : Hp} {hrefs refs tls : List V} {hs : List Hd} {i m : Nat} {rs : List Rc} {T : Tb × Tb}
theorem BI.move (h : BI K p R W S H0 H hrefs hs i m refs tls rs t T jl) (k : Kp p H H') (hP : Pool H' p) : BI K p R W S H0 H' hrefs hs i m refs tls rs t T jl :=
  have lk := LK.pool h.po k
  { h with eR := k _ _ h.nRp h.eR, eW := k _ _ h.nWp h.eW, eS := k _ _ h.nSp h.eS, rc := h.rc.lk lk, tl := h.tl.imp fun _ _ z => z.kp (KpL.ofK List.mem_cons_self k) lk
           tb := h.tb.lk lk, jt := lk _ _ h.jt (fun _ z => nomatch z), po := hP, hh := h.hh.lk lk, kp := h.kp.trans k }
theorem BI.same (h : BI K p R W S H0 H hrefs hs i m refs tls rs t T jl) (s : Same H H') : BI K p R W S H0 H' hrefs hs i m refs tls rs t T jl := h.move (fun a x _ e => s a x e) (h.po.same s)
end
end Z
namespace Z
open PySem PySem.Spec PyProof.Rows L2
open SX (S S_len S_cat S_inj)
theorem BlAt.same {K : PySem.W.Frag} {H H' : Hp} {b : Addr} {f : Fm} (s : Same H H') (h : BlAt K H b f) : BlAt K H' b f := by
  obtain ⟨jl, j, h1, h2, h3⟩ := h
  exact ⟨jl, j, s _ _ h1, h2.lk (.of s), s _ _ h3⟩
theorem TlAt.same {K : PySem.W.Frag} {l : List Addr} {H H' : Hp} {v : V} {f : Fm} (s : Same H H') (h : TlAt K l H v f) : TlAt K l H' v f := h.kp (KpL.ofS s) (LK.of s)
end Z
namespace Z
open PySem PySem.Spec PyProof.Rows L2
/-- a def that is called while no text is being made -/
structure FnG (P : Program) (w : World) (K : PySem.W.Frag) (mg : Str → Option Value) (base : Heap) (CX : CXT) (k : Nat) (f : Addr) (fd : FuncData) (ps : List Str) (sp : Sp) : Prop where
  many : ∀ vs H Q E, sp vs H Q E → vs.length = ps.length
  runs : ∀ (A : Around) (stack : List Env) (s : Shared) (H : Hp) (args : Args) (us : List Value) (vs : List V) (Q : VK) (E : XK), Room k A → A.guards = some [] → Env0 P w K mg base A stack s H → BindsTo s fd args (ps.zip us) → Vals vs us →
    sp vs H Q E → codeAny (model P w) A (.call (.ref f) args) (CR CX stack P w H s Q E) s
section
variable {P : Program} {w : World} {K : PySem.W.Frag} {mg : Str → Option Value} {base : Heap} {CX : CXT} {k : Nat} {f : Addr} {fd : FuncData} {ps : List Str} {sp : Sp}
theorem FnG.mono {j : Nat} (F : FnG P w K mg base CX j f fd ps sp) (h : j ≤ k) : FnG P w K mg base CX k f fd ps sp := ⟨F.many, fun A stack s H args us vs Q E r => F.runs A stack s H args us vs Q E (r.mono h)⟩
/-- its body runs so -/
theorem fnG_of {qual x : Str} {st : Stmt} {N : List Str} (F : Fun K x qual st f fd) (S : FnScope N ps (defScope st)) (many : ∀ vs H Q E, sp vs H Q E → vs.length = ps.length)
    (body : ∀ (cdv : Value) (A : Around) (stack : List Env) (s : Shared) (H : Hp) (vs : List V) (Q : VK) (E : XK), Room k (A.deeper (envOfC qual (defScope st) s.heap.objs.size f cdv)) → (A.deeper (envOfC qual (defScope st) s.heap.objs.size f cdv)).guards = some [] → sp vs H Q E →
      ∃ t, PSs (cxOf CX0 P w K mg base N qual (defScope st) f cdv A stack s H E).nox (defBody st) t ∧ t { nx := fun _ H' => Q .non H', rt := Q } (start N vs) H) : FnG P w K mg base CX0 (k + 1) f fd ps sp := by
  obtain ⟨oc, od, kV, doc, pm, an, cdv, ct, osl, rfl, lk, hc⟩ := F.ex
  refine ⟨many, fun A stack s H args us vs Q E room quiet e0 bound rel want => ?_⟩
  have kept : ∀ b o, base.get? b = some o → s.heap.get? b = some o := fun b o e => (e0.bs b o e).1
  have inK : K.In s.heap := e0.mod.kin.keeps kept
  refine codeAny_call_function room.depth (inK _ _ lk) rfl S.co S.gen rfl (PySem.W.codeRec_of inK hc) (bound _ _ _ _ ?_)
  refine wpAny_newFunctionEnv_cells S.kind (fun ⟨n, v⟩ hy => ?_) fun env he s1 x => ?_
  · rcases S.par n (List.of_mem_zip hy).1 with q | q
    · exact .inl q
    · exact .inr ⟨q, PySem.W.cellsFrom_some _ _ _ (.inl q)⟩
  · subst he
    refine ⟨(e0.mod.nolimit.keeps kept).keeps x.toInCall.keep, codeAny_func ?_⟩
    obtain ⟨t, ht, hq⟩ := body cdv A stack s H vs Q E (room.deeper _) quiet want
    have J := inv_start (CX := CX0) (E := E) S room.hd e0 (many _ _ _ _ want) rel x
    refine wpAny_mono (ht.nox.run [] s1 (start N vs) H _ J hq) (fun fl s2 z => ?_) fun _ _ z => z
    rcases fl with _ | _ | _ | u
    · obtain ⟨σ2, H2, J2, q⟩ := z
      exact ⟨.non, H2, J2.os, J2.bare, J2.base, J2.hok, rfl, q⟩
    · obtain ⟨_, _, _, q⟩ := z
      exact q.elim
    · obtain ⟨_, _, _, q⟩ := z
      exact q.elim
    · obtain ⟨v, σ2, H2, J2, rv, q⟩ := z
      exact ⟨v, H2, J2.os, J2.bare, J2.base, J2.hok, rv, q⟩
end
/-- repr(a list or a tuple), no text under way -/
def rRepr (K : PySem.W.Frag) : List V → Hp → VK → Prop := fun xs H Q => ∃ a d, xs = [.ref a] ∧ Dp K H (.ref a) d ∧ d.showable = true ∧ d.hasDict = false ∧ d.depth ≤ 60 ∧ d.shown.length ≤ sizeLine ∧ Q (.str d.shown) H
theorem call_repr {X : Cx} {k : Nat} (hr : Room k X.A) (hq : X.A.guards = some []) : CallR X (.builtin "repr") (rRepr X.K) := by
  intro pins s σ H xs us Q I r h
  obtain ⟨a, d, rfl, hd, h1, h2, h3, h4, q⟩ := h
  obtain ⟨u, rfl, ru⟩ := vals1 r
  obtain ⟨as, rd⟩ := Dp.reads I d _ u hd ru
  cases ru
  have un := hr.units
  exact repr_of_reads' rd h1 (PyData.noDict_hsm h2) hq (by omega) (fun _ _ e => e) (fun h' u tk hk => ⟨.str d.shown, H, I.kept hk, ⟨_, rfl⟩, q⟩) h4
/-- the law's own call -/
theorem law_callQ {P : Program} {w : World} {K : PySem.W.Frag} {mg mb : Str → Option Value} {k : Nat} {g a : Addr} {fd : FuncData} {x : Str} {sp : Sp} {s : Shared} {us : List Value} {ns : List Int} (inK : K.In s.heap) (gl : s.heap.Ns mainGlobals mg) (bl : s.heap.Ns builtinsNs mb)
    (boot : ∀ y : Str, y ≠ "__name__" → mb y = bootBuiltins y) (free : s.heap.NoLimit) (gens : s.gens = #[]) (at_ : s.heap.get? a = some { cls := .type "list", data := .seq us.toArray }) (whole : IntsAre us ns) (few : ns.length ≤ sizeLine) (room : Room k callerA)
    (F : ∀ B : Heap, K.In B → B.Ns mainGlobals mg → FnG P w K mg B CX0 k g fd [x] sp) (bound : ∀ (s : Shared) (u : Value), BindsTo s fd ⟨[u], []⟩ [(x, u)]) (want : ∀ H : Hp, SqL K H a (ns.map V.int) → sp [.ref a] H (fun v _ => v = .bl true) E0) :
    codeAny (model P w) callerA (.call (.ref g) ⟨[.ref a], []⟩) (fun r s' => r = .ok (.ret (.bool true)) ∧ OldK s.heap s'.heap ∧ s'.os = s.os ∧ AllBare s'.gens) s := by
  have rel := vals_ints whole
  have many := whole.length
  obtain ⟨H, frz, sq, hok, one, out⟩ : ∃ H : Hp, (∀ b u, H b = some u → u = .frz { cls := .type "list", data := .seq us.toArray } (.lst (ns.map V.int))) ∧ SqL K H a (ns.map V.int) ∧ HOk P w H s.heap ∧ (∀ b u, H b = some u → b = a) ∧ (H a = none ∨ K.lookup a = none) := by
    rcases lk : K.lookup a with _ | o
    · refine ⟨upd (fun _ => none) a (.frz { cls := .type "list", data := .seq us.toArray } (.lst (ns.map V.int))), fun b u e => ?_, .inl (.inr ⟨_, upd_same⟩), fun b u e => ?_, fun b u e => ?_, .inr rfl⟩
      · by_cases c : b = a
        · subst c
          rw [upd_same] at e
          exact (Option.some.inj e).symm
        · rw [upd_ne c] at e
          cases e
      · by_cases c : b = a
        · subst c
          rw [upd_same] at e
          cases e
          exact ⟨at_, by rw [List.length_map]; exact few, us, _, rel, at_⟩
        · rw [upd_ne c] at e
          cases e
      · by_cases c : b = a
        · exact c
        · rw [upd_ne c] at e
          cases e
    · have same := inK a o lk
      rw [at_] at same
      cases same
      have nil : ∀ (b : Addr) (u : HO), ¬ (fun _ => none : Hp) b = some u := fun b u e => by
        have e : (none : Option HO) = some u := e
        cases e
      exact ⟨fun _ => none, fun b u e => absurd e (nil b u), .inr ⟨_, us.toArray, _, lk, rfl, rfl, rfl, by rw [List.size_toArray, many]; exact few, by simpa using rel⟩, fun b u e => absurd e (nil b u), fun b u e => absurd e (nil b u), .inl rfl⟩
  have hid : ∀ {b : Addr} {o : Obj}, s.heap.get? b = some o → (b = a → H a = none) → (hidT s.heap H).get? b = some o := fun {b o} e c => hidT_get e (by
    rcases z : H b with _ | u
    · rfl
    · have ba := one b u z
      subst ba
      rw [c rfl] at z
      cases z)
  have hidNs : ∀ {b : Addr} {m : Str → Option Value}, s.heap.Ns b m → (hidT s.heap H).Ns b m := fun {b m} ⟨o, es, ep, e, d, r⟩ => ⟨o, es, ep, hid e (fun c => by
    rw [c, at_] at e
    cases e
    have d : Data.seq us.toArray _ = Data.dict es ep := d
    cases d), d, r⟩
  have inB : K.In (hidT s.heap H) := fun b o e => hid (inK b o e) fun c => by
    rcases out with z | z
    · exact z
    · rw [c, z] at e
      cases e
  have e0 : Env0 P w K mg (hidT s.heap H) callerA [] s H := ⟨rfl, ⟨inB, hidNs gl, ⟨mb, hidNs bl, boot⟩, let ⟨m, z1, z2⟩ := free; ⟨m, hidNs z1, z2⟩⟩, fun b o e => of_hidT e, Nat.le_of_eq (hidT_size _ _), trivial, fun b z => absurd z List.not_mem_nil, hok, .of_eq gens⟩
  refine codeAny_mono ((F _ inB (hidNs gl)).runs callerA [] s H ⟨[.ref a], []⟩ [.ref a] [.ref a] _ _ room rfl e0 (bound s (.ref a)) (.cons rfl .nil) (want H sq)) fun r s' z => ?_
  rcases r with e | fl
  · exact (show False from z).elim
  · rcases fl with _ | _ | _ | u
    · exact z.elim
    · exact z.elim
    · exact z.elim
    · obtain ⟨v, H', os, bare, un, hok', rv, rfl⟩ := z
      obtain rfl : u = Value.bool true := rv
      refine ⟨rfl, OldK.of_keep fun b o e => ?_, os, bare⟩
      rcases hb : H b with _ | u
      · exact un.keep b o e hb (fun y => absurd y List.not_mem_nil) (by simp)
      · have y := frz b u hb
        subst y
        have old := (hok b _ hb).1
        have new := (hok' b _ (un.frzs b _ _ hb)).1
        rw [e] at old
        cases old
        exact new
/-- the goal behind the head, from such a promise -/
theorem walk_ofQ {l : PySem.W.OpenLaw} {n k : Nat} {q : Program} {loose : List Str} {XP : (Str → Option Value) → Heap → Prop} {YP : World → Heap → Prop} {d : DefRec} {K : Params → PySem.W.Frag} {sp : World → Sp} {x : Str} (most : l.most = some n) (few : n ≤ sizeLine) (plain : d.params.defaults = []) (room : Room k callerA)
    (inK : ∀ (w : World) (h : Heap), YP w h → (K w.params).In h)
    (F : ∀ (w : World) (mg : Str → Option Value) (fa : Addr) (h : Heap), (K w.params).In h → h.Ns mainGlobals mg → mg d.name = some (.ref fa) →
      ∃ fd : FuncData, (∀ (s : Shared) (u : Value), BindsTo s fd ⟨[u], []⟩ [(x, u)]) ∧ ∀ B : Heap, (K w.params).In B → B.Ns mainGlobals mg → FnG l.prog w (K w.params) mg B CX0 k fa fd [x] (sp w))
    (want : ∀ (w : World) (H : Hp) (a : Addr) (ns : List Int), ns.length ≤ n → SqL (K w.params) H a (ns.map V.int) → sp w [.ref a] H (fun v _ => v = .bl true) E0) : PySem.W.WalkO q loose XP YP l.row.toRowW d [] (fun f us => PySem.call f us) := by
  refine Att.attach_call most plain fun w s₀ s mg mb fa o pm cd doc a us ns G Y _ _ _ hmg at_ whole le gens => ?_
  obtain ⟨fd, bound, hF⟩ := F w mg fa _ (inK w _ Y) G.T.g hmg
  exact law_callQ (inK w _ Y) G.T.g G.T.b G.T.builtins G.T.nolimit gens at_ whole (Nat.le_trans le few) room hF bound fun H sq => want w H a ns le sq
def Sh (n m : Nat) (d : PyData) : Prop := d.showable = true ∧ d.hasDict = false ∧ d.depth ≤ n ∧ d.shown.length ≤ m
theorem Sh.up {n m n' m' : Nat} {d : PyData} (h : Sh n m d) (a : n ≤ n') (b : m ≤ m') : Sh n' m' d := ⟨h.1, h.2.1, Nat.le_trans h.2.2.1 a, Nat.le_trans h.2.2.2 b⟩
theorem Sh.int {i : Int} (h : i.natAbs < 2 ^ 1920) : Sh 0 1921 (.int i) := by
  have l : i.natAbs.log2 < 1920 := by
    by_cases c : i.natAbs = 0
    · rw [c]
      decide
    · exact (Nat.log2_lt c).mpr h
  exact ⟨decide_eq_true l, rfl, Nat.le_refl _, int_text_len_1921 l⟩
theorem sh_all {n m : Nat} : ∀ {ds : List PyData}, (∀ d ∈ ds, Sh n m d) → PyData.showableAll ds = true ∧ PyData.hasDictAll ds = false ∧ PyData.depthAll ds ≤ n ∧ ((PyData.shownAll ds).map (·.length)).sum ≤ ds.length * m ∧ (PyData.shownAll ds).length = ds.length
  | [], _ => ⟨rfl, rfl, Nat.zero_le _, Nat.zero_le _, rfl⟩
  | d :: r, h => by
    obtain ⟨a1, a2, a3, a4, a5⟩ := sh_all (ds := r) fun x hx => h x (List.mem_cons_of_mem _ hx)
    obtain ⟨b1, b2, b3, b4⟩ := h d List.mem_cons_self
    refine ⟨?_, ?_, Nat.max_le.mpr ⟨b3, a3⟩, ?_, congrArg (· + 1) a5⟩
    · show (d.showable && PyData.showableAll r) = true
      rw [b1, a1]
      rfl
    · show (d.hasDict || PyData.hasDictAll r) = false
      rw [b2, a2]
      rfl
    · show d.shown.length + ((PyData.shownAll r).map (·.length)).sum ≤ (r.length + 1) * m
      rw [Nat.add_mul, Nat.one_mul]
      omega
theorem Sh.list {n m k : Nat} {ds : List PyData} (h : ∀ d ∈ ds, Sh n m d) (l : ds.length ≤ k) : Sh (n + 1) (k * (m + 2) + 3) (.list ds) := by
  obtain ⟨a1, a2, a3, a4, a5⟩ := sh_all h
  refine ⟨a1, a2, Nat.succ_le_succ a3, Nat.le_trans (listText_len_le _) ?_⟩
  rw [a5]
  have : ds.length * (m + 2) ≤ k * (m + 2) := Nat.mul_le_mul_right _ l
  rw [Nat.mul_add] at this
  omega
theorem Sh.tup {n m k : Nat} {ds : List PyData} (h : ∀ d ∈ ds, Sh n m d) (l : ds.length ≤ k) : Sh (n + 1) (k * (m + 2) + 3) (.tuple ds) := by
  obtain ⟨a1, a2, a3, a4, a5⟩ := sh_all h
  refine ⟨a1, a2, Nat.succ_le_succ a3, Nat.le_trans (tupleText_len_le _) ?_⟩
  rw [a5]
  have : ds.length * (m + 2) ≤ k * (m + 2) := Nat.mul_le_mul_right _ l
  rw [Nat.mul_add] at this
  omega
def hdD (d : Hd) : PyData := .tuple [.int (d.1 : Nat), .tuple [.int (d.2.1 : Nat), .int (d.2.2.1 : Nat)], .int (d.2.2.2.1 : Nat), .int (d.2.2.2.2 : Nat)]
theorem sh_nat {n : Nat} (h : n ≤ 1000) : Sh 0 1921 (.int (n : Nat)) := .int (Nat.lt_of_le_of_lt (show _ ≤ 1000 by omega) (by decide +kernel))
theorem Sh.hd {d : Hd} (ok : HdOk d) : Sh 2 20000 (hdD d) := by
  obtain ⟨o1, o2, o3, o4, o5, o6, o7, o8⟩ := ok
  refine (Sh.tup (n := 1) (m := 4000) (k := 4) (fun x hx => ?_) (Nat.le_refl _)).up (Nat.le_refl _) (by decide)
  simp only [List.mem_cons, List.not_mem_nil, or_false] at hx
  rcases hx with rfl | rfl | rfl | rfl
  · exact (sh_nat (by omega)).up (by decide) (by decide)
  · refine (Sh.tup (n := 0) (m := 1921) (k := 2) (fun y hy => ?_) (Nat.le_refl _)).up (by decide) (by decide)
    simp only [List.mem_cons, List.not_mem_nil, or_false] at hy
    rcases hy with rfl | rfl
    · exact sh_nat (by omega)
    · exact sh_nat (by omega)
  · exact (sh_nat (by omega)).up (by decide) (by decide)
  · exact (sh_nat (by omega)).up (by decide) (by decide)
theorem rd_repr {K : PySem.W.Frag} {H : Hp} {Q : VK} {a : Addr} {d : PyData} {n m : Nat} (hd : Dp K H (.ref a) d) (h : Sh n m d) (hn : n ≤ 60) (hm : m ≤ 16777216) (q : Q (.str d.shown) H) : rRepr K [.ref a] H Q := ⟨a, d, rfl, hd, h.1, h.2.1, Nat.le_trans h.2.2.1 hn, Nat.le_trans h.2.2.2 (Nat.le_trans hm (by rw [sizeLine_eq]; exact Nat.le_refl _)), q⟩
end Z
namespace Z
open PySem PySem.Spec PyProof.Rows L2 Builtin Builtin.ObjectAttr
/-- how a class whose linearization ends in bm is made: by nw, the maker of some base among bm -/
def MkB (nw : String) (bm : List Value) : Prop := ∃ (B ini : String) (bb : List Value), ExcBaseFacts B nw ini bb ∧ bm.contains (.type B) = true ∧ bm.contains (.type "AttributeError") = false ∧ bm.contains (.type "NameError") = false
theorem MkB.of {B nw ini : String} {bm : List Value} (F : ExcBaseFacts B nw ini bm) : MkB nw bm := ⟨B, ini, bm, F, F.hasB, F.noAttr, F.noName⟩
def kmro : List Value := [.type "KeyError", .type "LookupError", .type "Exception", .type "BaseException", .type "object"]
theorem mkb_KeyError : MkB "LookupError.__new__" kmro := ⟨_, _, _, PySem.F.excBase_LookupError, by decide +kernel, by decide +kernel, by decide +kernel⟩
theorem sto_KeyError : kmro.contains (.type "object") = true ∧ ∀ self : Value, refuseLoop self "__setattr__" kmro = pure () := ⟨by decide +kernel, fun _ => by kernel_rfl⟩
theorem sto_of {B : String} {bm : List Value} (F : StoreFacts B bm "object.__setattr__" "object") : bm.contains (.type "object") = true ∧ ∀ self : Value, refuseLoop self "__setattr__" bm = pure () := ⟨F.hasOwner, F.passes⟩
theorem sto_own {J : Addr} {bm : List Value} (F : bm.contains (.type "object") = true ∧ ∀ self : Value, refuseLoop self "__setattr__" bm = pure ()) : (Value.ref J :: bm).contains (.type "object") = true ∧ ∀ self : Value, refuseLoop self "__setattr__" (.ref J :: bm) = pure () :=
  ⟨by rw [List.contains_cons, F.1, Bool.or_true], fun self => by rw [refuseLoop_ref]; exact F.2 self⟩
section
variable {prog : Program} {w : World} {A : Around} {E : Value → Shared → Prop} {R : Result → Shared → Prop} {hp : Heap} {g : Array GenState} {dr : Drawn} {tk0 : Nat} {os : OsState}
variable {n1 n2 : Str} {C N fI : Addr} {l1 bm bb : List Value} {b1 : Bool} {n3 : List Str} {l2 : List Value} {b2 : Bool} {b3 : Option Bool} {b4 : Option Addr} {m1 m2 m3 m4 m5 : Option Value} {B nw ini : String} {rest : List Value} {kw : List (Str × Value)}
theorem chkE {Q : Unit → Shared → Prop} (F : ExcBaseFacts B nw ini bb) (hB : bm.contains (.type B) = true) (hC : hp.get? C = some (excClassObj n1 n2 C N l1 bm b1 n3 l2 b2 b3 b4 m1 m2 m3 m4 m5 nw)) (q : Q () ⟨hp, g, dr, tk0, os⟩) :
    wpAny (model prog w) A (checkBuiltinCall nw ⟨.ref C :: rest, kw⟩) Q E ⟨hp, g, dr, tk0, os⟩ := by
  have inB : (Value.ref C :: bm).contains (.type B) = true := by rw [List.contains_cons, hB, Bool.or_true]
  have star := F.noStar
  simp only [checkBuiltinCall, F.newKind, F.newSplit, F.newRow]
  repeat (first | refine wpAny_loadPart_at hC ?_ | (refine wpAny_isSubtype_exc hC ?_; rw [inB]) | refine wpAny_staticBase_exc hC ?_ | refine wpAny_madeBy_exc hC ?_ | simp only [bne_self_eq_false, Bool.false_eq_true, if_false] | wp_step)
  exact q
theorem newE (F : ExcBaseFacts B nw ini bb) (hB : bm.contains (.type B) = true) (hA : bm.contains (.type "AttributeError") = false) (hN : bm.contains (.type "NameError") = false) (hC : hp.get? C = some (excClassObj n1 n2 C N l1 bm b1 n3 l2 b2 b3 b4 m1 m2 m3 m4 m5 nw))
    (few : rest.length ≤ sizeLine) (q : R (.ok (.ret (.ref (hp.objs.size + 1)))) ⟨(hp.push (W.kdv_tup rest)).push (HandSPX.excO C hp.objs.size), g, dr, tk0, os⟩) :
    codeAny (model prog w) A (.builtin nw ⟨.ref C :: rest, kw⟩) R ⟨hp, g, dr, tk0, os⟩ := by
  have inB : (Value.ref C :: bm).contains (.type B) = true := by rw [List.contains_cons, hB, Bool.or_true]
  have inA : (Value.ref C :: bm).contains (.type "AttributeError") = false := by rw [List.contains_cons, hA]; rfl
  have inN : (Value.ref C :: bm).contains (.type "NameError") = false := by rw [List.contains_cons, hN]; rfl
  have hends := F.ends
  refine PySem.codeAny_builtinAt F.entry ?_
  unfold Builtin.«BaseException.__new__»
  refine PySem.wpAt_bind ?_
  show PySem.wpAt _ _ _ (stack >>= _) _ _ _
  refine PySem.wpAt_bind (PySem.wpAt_stack fun _ _ => PySem.wpAt_of_wpAny ?_)
  wp_walk
  refine PySem.wpAt_of_wpAny ?_
  rw [F.owner]
  repeat (first | with_reducible refine wpAny_madeHere_exc F.canon hC ?_ | with_reducible refine wpAny_loadPart_at hC ?_ | (with_reducible refine wpAny_isSubtype_exc hC ?_; first | rw [inB] | rw [inA] | rw [inN]) | wp_step)
  show R _ _
  rw [Heap.size_push]
  exact q
theorem tcE {Q : Fin → Shared → Prop} (F : ExcBaseFacts B nw ini bb) (hB : bm.contains (.type B) = true) (hA : bm.contains (.type "AttributeError") = false) (hN : bm.contains (.type "NameError") = false) (hC : hp.get? C = some (excClassObj n1 n2 C N l1 bm b1 n3 l2 b2 b3 b4 m1 m2 m3 m4 m5 nw))
    (li : W.Looks (model prog w) hp (typeLookup (.ref C) "__init__") (some (.ref fI))) (lb : ∀ self, W.Looks (model prog w) hp (bindSpecial (.ref fI) self) (.ref fI, [self])) (few : rest.length ≤ sizeLine)
    (q : codeAny (model prog w) A (.call (.ref fI) ⟨.ref (hp.objs.size + 1) :: rest, kw⟩) (fun r s' => match r with | .ok (.ret v) => v = .none ∧ Q (.done (.ret (.ref (hp.objs.size + 1)))) s' | .ok _ => False | .error e => E e s')
      ⟨(hp.push (W.kdv_tup rest)).push (HandSPX.excO C hp.objs.size), g, dr, tk0, os⟩) : wpAny (model prog w) A (Builtin.«type.__call__» ⟨.ref C :: rest, kw⟩) Q E ⟨hp, g, dr, tk0, os⟩ := by
  repeat (first | with_reducible refine wpAny_loadPart_at hC ?_ | with_reducible refine wpAny_madeBy_exc hC ?_ | wp_step)
  refine codeAny_call_builtin_code (Code.quiet_builtin _ F.quiet) (chkE F hB hC ?_)
  refine newE F hB hA hN hC few ?_
  show wpAny _ _ _ _ _ _
  have kp : ∀ b o, hp.get? b = some o → ((hp.push (W.kdv_tup rest)).push (HandSPX.excO C hp.objs.size)).get? b = some o := fun b o e => Heap.get?_push_of_some _ (Heap.get?_push_of_some _ e)
  have its : ((hp.push (W.kdv_tup rest)).push (HandSPX.excO C hp.objs.size)).get? (hp.objs.size + 1) = some (HandSPX.excO C hp.objs.size) := by heap_get
  have own : (Value.ref C :: bm).contains (.ref C) = true := by simp
  unfold isInstance
  repeat (first | with_reducible refine wpAny_loadPart_at its ?_ | (with_reducible refine wpAny_isSubtype_exc (kp _ _ hC) ?_; rw [own]) | wp_step)
  show wpAny _ _ (typeLookup (.ref C) _) _ _ _
  refine (li.keeps kp).at ?_
  refine wpAny_holding (wpAny_bind (((lb (.ref (hp.objs.size + 1))).keeps kp).at ?_))
  refine wpAny_bind (wpAny_call (codeAny_mono q fun r s' z => ?_))
  rcases r with e | (v | _ | _ | _) <;> first | exact z | exact z.elim | skip
  obtain ⟨rfl, z⟩ := z
  first
    | exact wpAny_pure (wpAny_pure z)
    | (wp_walk; exact z)
theorem callE (F : MkB nw bm) (hC : hp.get? C = some (excClassObj n1 n2 C N l1 bm b1 n3 l2 b2 b3 b4 m1 m2 m3 m4 m5 nw))
    (li : W.Looks (model prog w) hp (typeLookup (.ref C) "__init__") (some (.ref fI))) (lb : ∀ self, W.Looks (model prog w) hp (bindSpecial (.ref fI) self) (.ref fI, [self])) (few : rest.length ≤ sizeLine)
    (q : codeAny (model prog w) (A.under (.builtin "type.__call__" ⟨.ref C :: rest, kw⟩)) (.call (.ref fI) ⟨.ref (hp.objs.size + 1) :: rest, kw⟩) (W.InitBack (hp.objs.size + 1) R) ⟨(hp.push (W.kdv_tup rest)).push (HandSPX.excO C hp.objs.size), g, dr, tk0, os⟩) :
    codeAny (model prog w) A (.call (.ref C) ⟨rest, kw⟩) R ⟨hp, g, dr, tk0, os⟩ := by
  obtain ⟨B, ini, bb, F, hB, hA, hN⟩ := F
  have f1 := tc_lookup
  have f2 := tc_bind (.ref C)
  have f3 := tc_sub
  have ty : (⟨hp, g, dr, tk0, os⟩ : Shared).TypeIs (.ref C) "type" := ⟨_, hC, rfl⟩
  refine codeAny_of_tree ?_
  show wpAny _ _ (callAny (.ref C) _) _ _ _
  repeat (any_goals (first | assumption | with_reducible refine wpAny_loadPart_at hC ?_ | wp_step))
  refine ⟨rfl, ?_⟩
  refine codeAny_call_builtin_at (Code.quiet_builtin _ (by decide +kernel)) entry_typeCall ?_
  have chk : ∀ {Q : Unit → Shared → Prop}, Q () ⟨hp, g, dr, tk0, os⟩ → wpAny (model prog w) A.in1 (checkBuiltinCall "type.__call__" ⟨.ref C :: rest, kw⟩) Q (fun e s' => R (.error e) s') ⟨hp, g, dr, tk0, os⟩ := fun {Q} z => by
    simp only [checkBuiltinCall, tc_kind, tc_split]
    repeat (any_goals (first | assumption | with_reducible refine wpAny_loadPart_at hC ?_ | with_reducible refine wpAny_onRaise ?_ | with_reducible refine wpAny_map ?_ | wp_step))
  refine chk ?_
  refine tcE F hB hA hN hC li lb few ?_
  refine codeAny_mono q fun r s' z => ?_
  rcases r with e | (v | _ | _ | _) <;> exact z
end
/-- what is known of the class at C -/
structure OexV (K : PySem.W.Frag) (C : Addr) (nw : String) (bm : List Value) : Prop where
  fb : MkB nw bm
  fs : bm.contains (.type "object") = true ∧ ∀ self : Value, refuseLoop self "__setattr__" bm = pure ()
  l : ∃ n1 n2 N l1 n3 l2 b1 b2 b3 m1 m2 m3 m4 m5, K.lookup C = some (excClassObj n1 n2 C N l1 bm true n3 l2 b1 b2 b3 m1 m2 m3 m4 m5 nw)
  sa : PySem.W.findIn K (.ref C) "__setattr__" = some (some (.builtin "object.__setattr__"))
  kp : PySem.W.keepIn K (.ref C) = true
/-- a value that is such an error: of the class C, its dict holds fs -/
def ErV (H : Hp) (a C : Addr) (fs : List (Str × V)) : Prop := ∃ d, d ≠ a ∧ H a = some (exo a C (some d)) ∧ H d = some (exd d fs)
section
variable {X : Cx} {C fI : Addr} {nw : String} {bm : List Value} {k : Nat} {fd : FuncData} {ps : List Str} {sp : Sp} {pins : List (Addr × Obj)} {σ : L2.St} {H1 : Hp} {s1 : Shared} {Q : VK} {us : List Value} {vs : List V} {kw : List (Str × Value)} {zs : List V} {ws : List Value}
theorem run_mkV (T : OexV X.K C nw bm) (iC : PySem.W.findIn X.K (.ref C) "__init__" = some (some (.ref fI))) (tI : PySem.W.typeIn X.K (.ref fI) = some (.type "function"))
    (F1 : FnOk X.prog X.w X.K X.mg X.base CX0 k fI fd ps sp) (room : Room (k + 1) X.A) (bd : ∀ s x, X.K.In s.heap → (Value.ref x :: ws).length = ps.length → BindsTo s fd ⟨.ref x :: us, kw⟩ (ps.zip (Value.ref x :: ws))) (I1 : Inv X pins σ H1 s1) (few : us.length ≤ 1000) (rv : Vals vs ws)
    (want : ∀ a, H1 a = none → sp (.ref a :: vs) (upd H1 a (exo a C none)) (fun v H2 => v = .non ∧ Q (.ref a) H2) (fun _ _ _ => False)) : wpAny (model X.prog X.w) X.A (call (.ref C) us kw) (EP X pins σ Q) X.xe s1 := by
  obtain ⟨n1, n2, N, l1, n3, l2, b1, b2, b3, m1, m2, m3, m4, m5, hC⟩ := T.l
  obtain ⟨h0, gs, dr, tk, os⟩ := s1
  have above : h0.objs.size ≤ h0.objs.size + 1 := by omega
  have want := want (h0.objs.size + 1) (I1.hok.fresh above)
  have grow : ∀ b u, h0.get? b = some u → ((h0.push (PySem.W.kdv_tup us)).push (PySem.HandSPX.excO C h0.objs.size)).get? b = some u := fun b u z => Heap.get?_push_of_some _ (Heap.get?_push_of_some _ z)
  have its : ((h0.push (PySem.W.kdv_tup us)).push (PySem.HandSPX.excO C h0.objs.size)).get? (h0.objs.size + 1) = some (PySem.HandSPX.excO C h0.objs.size) := by heap_get
  have I2 := I1.laid (t' := tk) (a := h0.objs.size + 1) (o := exo (h0.objs.size + 1) C none) (h' := (h0.push (PySem.W.kdv_tup us)).push (PySem.HandSPX.excO C h0.objs.size)) grow above (exo_ok its)
  have rv2 : Vals (V.ref (h0.objs.size + 1) :: vs) (Value.ref (h0.objs.size + 1) :: ws) := .cons rfl rv
  have lk : (Value.ref (h0.objs.size + 1) :: ws).length = ps.length := rv2.length.symm.trans (F1.len _ _ _ _ want)
  have run := F1.run (X.A.under (.builtin "type.__call__" ⟨.ref C :: us, kw⟩)) X.stack _ _ ⟨Value.ref (h0.objs.size + 1) :: us, kw⟩ (Value.ref (h0.objs.size + 1) :: ws) _ _ (fun _ _ _ => False) (room.make C us kw) (I2.env0.make C us kw) (bd _ _ I2.kIn lk) rv2 want
  refine wpAny_call (callE T.fb (I1.kIn _ _ hC) (PySem.W.looks_findIn I1.kIn iC) (fun self => PySem.W.bind_fn I1.kIn self tI) (by rw [sizeLine_eq]; omega) (codeAny_mono run fun r s' z => ?_))
  rcases r with er | fl
  · exact z.elim
  · rcases fl with _ | _ | _ | u
    · exact z.elim
    · exact z.elim
    · exact z.elim
    · obtain ⟨v, H2, os2, bare2, un2, hok2, ru, rfl, q⟩ := z
      refine ⟨?_, I2.after ⟨.ref (h0.objs.size + 1), H2, os2, bare2, un2, hok2, rfl, q⟩⟩
      exact ru
end
/-- the class C, its name x, its one field f -/
structure ErC (K : PySem.W.Frag) (mg : Str → Option Value) (x f : Str) (C fI : Addr) (nw : String) (bm : List Value) : Prop where
  o : OexV K C nw bm
  xf : XfC K C
  ec : ExcC K C
  g : mg x = some (.ref C)
  noF : PySem.W.findIn K (.ref C) f = some none
  iC : PySem.W.findIn K (.ref C) "__init__" = some (some (.ref fI))
  tI : PySem.W.typeIn K (.ref fI) = some (.type "function")
/-- ready to be made, by position and by keyword -/
def ErrV (P : Program) (w : World) (K : PySem.W.Frag) (mg : Str → Option Value) (base : Heap) (x f : Str) (C : Addr) : Prop :=
  ∃ (nw : String) (bm : List Value) (fI : Addr) (fd : FuncData), ErC K mg x f C fI nw bm ∧ FnOk P w K mg base CX0 1 fI fd ["self", f] (spInit K C f) ∧ Binds K fd ["self", f] [] ∧ ∀ (s : Shared) (u v : Value), BindsTo s fd ⟨[u], [(f, v)]⟩ [("self", u), (f, v)]
section
variable {P : Program} {w : World} {K : PySem.W.Frag} {mg : Str → Option Value} {base : Heap} {x f : Str} {C : Addr}
theorem ErrV.xf (T : ErrV P w K mg base x f C) : XfC K C := let ⟨_, _, _, _, t, _⟩ := T; t.xf
theorem ErrV.ec (T : ErrV P w K mg base x f C) : ExcC K C := let ⟨_, _, _, _, t, _⟩ := T; t.ec
theorem ErrV.g (T : ErrV P w K mg base x f C) : mg x = some (.ref C) := let ⟨_, _, _, _, t, _⟩ := T; t.g
theorem ErrV.noF (T : ErrV P w K mg base x f C) : PySem.W.findIn K (.ref C) f = some none := let ⟨_, _, _, _, t, _⟩ := T; t.noF
theorem ErrV.kp (T : ErrV P w K mg base x f C) : PySem.W.keepIn K (.ref C) = true := let ⟨_, _, _, _, t, _⟩ := T; t.o.kp
end
/-- a heap that only grew, and the new error in it -/
def NewE (C : Addr) (f : Str) (v : V) (H : Hp) (Q : VK) : Prop := ∀ a H', H a = none → Same H H' → ErV H' a C [(f, v)] → Q (.ref a) H'
/-- C(e) or C(f = e) as a value -/
def tErr (C : Addr) (f : Str) (te : TE) : TE := fun σ H Q => te σ H fun v H1 => ∃ y, [v] = [y] ∧ NewE C f y H1 Q
theorem new_want {K : PySem.W.Frag} {C : Addr} {f : Str} {v : V} {H : Hp} {Q : VK} (q : NewE C f v H Q) : ∀ a, H a = none → spInit K C f (.ref a :: [v]) (upd H a (exo a C none)) (fun u H2 => u = .non ∧ Q (.ref a) H2) (fun _ _ _ => False) := fun a n =>
  ⟨a, v, rfl, upd_same, fun dx nd ne => ⟨rfl, q a _ n (fun b o e => by
    have ba : b ≠ a := ne_of_none e n
    rw [upd_ne ne] at nd
    have bd : b ≠ dx := ne_of_none e nd
    rw [upd_ne ba, upd_ne bd, upd_ne ba]
    exact e) ⟨dx, ne, upd_same, by rw [upd_ne ne, upd_same]⟩⟩⟩
section
variable {X : Cx} {C : Addr} {x f : Str} {e : Expr} {te : TE} {p pos kpos : Pos}
theorem pe_err (T : ErrV X.prog X.w X.K X.mg X.base x f C) (hr : Room 2 X.A) (he : PE X e te) (hg : Gl X x := by rfl)
    (d1 : (x == ("__debug__" : Str)) = false := by decide) (d2 : starEach (e :: []) X.env = (false, eval e X.env) :: starEach [] X.env := by rfl) (d3 : (backTo pos (starEach [] X.env)).any (·.1) = false := by rfl) :
    PE X (.Call (.Name x p) [e] [] pos) (tErr C f te) := by
  obtain ⟨nw, bm, fI, fd, t, F, b, _⟩ := T
  refine ⟨fun pins s σ H Q I h => ?_⟩
  refine wpAny_Call_Name_kw (ld_glob I hg t.g ?_ d1)
  refine PySem.W.callWith_K (h₀ := X.base) I.ok.mod.kin t.o.kp (thn ((pa_cons he pa_nil d2).run pos pins s σ H (fun vs H1 => ∃ v, vs = [v] ∧ NewE C f v H1 Q) I ?_) fun us s1 ⟨vs, H1, I1, r, v, ev, q⟩ => ⟨I1.kIn, ?_⟩) d2 d3
  · exact h
  · subst ev
    obtain ⟨u, rfl, ru⟩ := vals1 r
    exact run_mkV (us := [u]) (ws := [u]) (vs := [v]) t.o t.iC t.tI F hr (fun s y k l => b s [.ref y, u] k rfl) I1 (show 1 ≤ 1000 by decide) r (new_want q)
theorem pe_errK (T : ErrV X.prog X.w X.K X.mg X.base x f C) (hr : Room 2 X.A) (he : PE X e te) (hg : Gl X x := by rfl)
    (hall : (backToKw pos (keywordEach [⟨some f, e, kpos⟩] X.env)).all (·.1.isSome) = true := by rfl) (hks : (backToKw pos (keywordEach [⟨some f, e, kpos⟩] X.env)).filterMap (·.1) = [f] := by rfl)
    (d1 : (x == ("__debug__" : Str)) = false := by decide)
    (d3 : ((backTo pos (starEach [] X.env)).any (·.1) || (backToKw pos (keywordEach [⟨some f, e, kpos⟩] X.env)).any (·.1.isNone)) = false := by rfl) :
    PE X (.Call (.Name x p) [] [⟨some f, e, kpos⟩] pos) (tErr C f te) := by
  obtain ⟨nw, bm, fI, fd, t, F, _, b⟩ := T
  refine ⟨fun pins s σ H Q I h => ?_⟩
  refine wpAny_Call_Name_kw (ld_glob I hg t.g ?_ d1)
  refine PySem.W.callWith_KW0 (h₀ := X.base) I.ok.mod.kin t.o.kp hall ?_ d3
  refine thn ((pk_cons (nm := some f) (kpos := kpos) he pk_nil).run pos pins s σ H (fun vs H1 => ∃ v, vs = [v] ∧ NewE C f v H1 Q) I h) fun ws s2 ⟨vs, H1, I1, r, v, ev, q⟩ => ⟨I1.kIn, ?_⟩
  subst ev
  rw [hks]
  obtain ⟨u, rfl, ru⟩ := vals1 r
  exact run_mkV (us := []) (ws := [u]) (vs := [v]) t.o t.iC t.tI F hr (fun s y k l => b s (.ref y) u) I1 (by decide) r (new_want q)
end
def tErF (K : PySem.W.Frag) (f : Str) (te : TE) : TE := fun σ H Q => te σ H fun x H1 => ∃ (a C : Addr) (fs : List (Str × V)) (v : V), x = .ref a ∧ XfC K C ∧ PySem.W.findIn K (.ref C) f = some none ∧ ErV H1 a C fs ∧ fs.lookup f = some v ∧ Q v H1
theorem pe_erF {X : Cx} {e : Expr} {te : TE} {pos : Pos} {f : Str} (he : PE X e te) (hb : attributeBase e f X.env (eval e X.env) = eval e X.env := by rfl) : PE X (.Attribute e f pos) (tErF X.K f te) := by
  refine ⟨fun pins s σ H Q I h => ?_⟩
  refine attr_of hb (thn (he.run pins s σ H _ I h) fun u s1 ⟨y, H1, I1, ry, a, C, fs, v, ey, xf, no, ⟨d, ne, ha, hd⟩, l, q⟩ => ?_)
  subst ey
  obtain rfl : u = Value.ref a := ry
  obtain ⟨t1, at1⟩ := exo_at I1.hok ha
  obtain ⟨mA, ns, rel⟩ := exd_at I1.hok hd
  obtain ⟨od, ho, hl⟩ := lookIn_ns ns
  obtain ⟨u, hu, ru⟩ := RelO.some_of (v := v) (o := mA f) (by rw [← l]; exact rel f)
  have J : PySem.W.InstAt s1.heap a _ C (some od) := ⟨at1, rfl, rfl, ho⟩
  exact HandSPX.exc_get I1.kIn J xf.ga xf.gg xf.exC (PySem.W.findObj_own xf.hdC no rfl (by rw [hl, hu])) (handed_of ru) ⟨v, H1, I1.tok _, ru, q⟩
def rIsV (K : PySem.W.Frag) : List V → Hp → VK → Prop := fun xs H Q => ∃ (a C : Addr) (fs : List (Str × V)) (c : V) (cv : Value) (b : Bool), xs = [.ref a, c] ∧ ErV H a C fs ∧ ExcC K C ∧ ClsV c cv ∧ PySem.W.kitOne K (.ref C) cv = some b ∧ Q (.bl b) H
theorem call_isV {X : Cx} : CallR X (.builtin "isinstance") (rIsV X.K) := by
  intro pins s σ H xs us Q I r h
  obtain ⟨a, C, fs, c, cv, b, rfl, ⟨d, ne, ha, hd⟩, T, hc, hk, q⟩ := h
  obtain ⟨u1, u2, rfl, r1, r2⟩ := vals2 r
  obtain rfl : u1 = Value.ref a := r1
  obtain rfl := hc.eq r2
  obtain ⟨t1, at1⟩ := exo_at I.hok ha
  obtain ⟨mA, ns, rel⟩ := exd_at I.hok hd
  obtain ⟨od, ho, hl⟩ := lookIn_ns ns
  have J : PySem.W.InstAt s.heap a _ C (some od) := ⟨at1, rfl, rfl, ho⟩
  have hc : (PySem.W.clsIn X.K C).isSome = true := by
    have h5 := T.hd
    unfold PySem.W.hasDictIn at h5
    cases e : PySem.W.clsIn X.K C with
    | none => rw [e] at h5; exact Bool.noConfusion h5
    | some cd => rfl
  exact PySem.W.kia_one (PySem.W.kitx_exc hc T.hg T.hk T.hs T.ha T.hn T.ht T.hm) I.kIn J hk (fun z => nomatch z) fun tk => ⟨.bl b, H, I.kept (t' := tk) fun _ _ z => z, rfl, q⟩
end Z
namespace Z
open PySem PySem.Spec PyProof.Rows L2
def repV : V → Str
  | .non => "None"
  | .bl b => if b then "True" else "False"
  | .int i => toString i
  | .str x => reprText x
  | _ => ""
def okR : V → Prop
  | .non => True
  | .bl _ => True
  | .int i => i.natAbs.log2 < 1920
  | .str x => (reprText x).length ≤ sizeLine
  | _ => False
def rReprS : List V → Hp → VK → Prop := fun xs H Q => ∃ v, xs = [v] ∧ okR v ∧ Q (.str (repV v)) H
theorem call_reprS {X : Cx} : CallR X (.builtin "repr") rReprS := by
  intro pins s σ H xs us Q I r h
  obtain ⟨v, rfl, ok, q⟩ := h
  obtain ⟨u, rfl, ru⟩ := vals1 r
  cases v with
  | non =>
    cases ru
    exact PySem.P.repr_of_none ⟨.str _, H, I.tok _, ⟨_, rfl⟩, q⟩
  | bl b =>
    cases ru
    refine PySem.P.repr_of_bool ⟨.str _, H, I.tok _, ⟨_, by cases b <;> rfl⟩, q⟩
  | int i =>
    obtain ⟨t, rfl⟩ := ru
    exact PySem.P.repr_of_int ok ⟨.str _, H, I.tok _, ⟨_, rfl⟩, q⟩
  | str x =>
    obtain ⟨t, rfl⟩ := ru
    exact PySem.P.repr_of_str ⟨.str _, H, I.tok _, ⟨_, rfl⟩, q⟩ ok
  | ref a => exact ok.elim
  | byt b => exact ok.elim
  | flt x => exact ok.elim
  | ty x => exact ok.elim
theorem rd_reprS {v : V} {H : Hp} {Q : VK} (ok : okR v) (q : Q (.str (repV v)) H) : rReprS ([v] ++ []) H Q := ⟨v, rfl, ok, q⟩
abbrev EvR := Nat × Nat × Nat
def PlAt (K : PySem.W.Frag) (H : Hp) (lv st : Nat) (v : V) (r : EvR) : Prop := ∃ h j, v = .ref h ∧ H h = some (.tup [.int (r.1 : Nat), .ref j, .int (lv : Nat), .int (st : Nat)]) ∧ JtV K H j r.2
theorem PlAt.lk {K : PySem.W.Frag} {H H' : Hp} {lv st : Nat} {v : V} {r : EvR} (s : LK H H') (h : PlAt K H lv st v r) : PlAt K H' lv st v r := by
  obtain ⟨a, j, e, h1, h2⟩ := h
  exact ⟨a, j, e, s _ _ h1 (fun _ z => nomatch z), h2.lk s⟩
def PlsAt (H : Hp) (vs : List V) (hss : List (List Hd)) : Prop := All2 (fun v hs => ∃ b refs, v = .ref b ∧ H b = some (.lst refs) ∧ HdsAt H refs hs ∧ refs.length ≤ 200) vs hss
theorem PlsAt.same {H H' : Hp} {vs : List V} {hss : List (List Hd)} (s : Same H H') (h : PlsAt H vs hss) : PlsAt H' vs hss := h.imp fun _ _ ⟨b, refs, e, h1, h2, h3⟩ => ⟨b, refs, e, s _ _ h1, h2.lk (.of s), h3⟩
/-- the first of the least of the first n numbers -/
def MinAt (zs : List Int) (n i : Nat) (z : Int) : Prop := zs[i]? = some z ∧ i < n ∧ ∀ k y, k < n → zs[k]? = some y → z ≤ y ∧ (k < i → z < y)
theorem MinAt.keep {zs : List Int} {n i : Nat} {z y : Int} (h : MinAt zs n i z) (e : zs[n]? = some y) (c : ¬ y < z) : MinAt zs (n + 1) i z := ⟨h.1, Nat.lt_succ_of_lt h.2.1, fun k x hk ex => by
  by_cases ck : k < n
  · exact h.2.2 k x ck ex
  · obtain rfl : k = n := by omega
    rw [e] at ex
    cases ex
    exact ⟨by omega, fun c2 => by have := h.2.1; omega⟩⟩
theorem MinAt.new {zs : List Int} {n i : Nat} {z y : Int} (h : MinAt zs n i z) (e : zs[n]? = some y) (c : y < z) : MinAt zs (n + 1) n y := ⟨e, Nat.lt_succ_self _, fun k x hk ex => by
  by_cases ck : k < n
  · have := (h.2.2 k x ck ex).1
    exact ⟨by omega, fun _ => by omega⟩
  · obtain rfl : k = n := by omega
    rw [e] at ex
    cases ex
    exact ⟨Int.le_refl _, fun c2 => absurd c2 (Nat.lt_irrefl _)⟩⟩
def eR (o v : V) (i k : Nat) : V := if 5 ≤ i + k then o else v
theorem MinAt.eq {zs : List Int} {i : Nat} {z m : Int} (h : MinAt zs zs.length i z) (hm : m ∈ zs) (hle : ∀ y ∈ zs, m ≤ y) : m = z := by
  obtain ⟨k, hk, e⟩ := List.getElem_of_mem hm
  have h1 := (h.2.2 k m hk (by rw [List.getElem?_eq_getElem hk, e])).1
  have h2 := hle z (List.mem_of_getElem? h.1)
  omega
end Z
namespace Z
open PySem PySem.Spec PyProof.Rows L2
def rReprU : List V → Hp → VK → Prop := fun xs H Q => rReprS xs H Q ∨ ∃ a, xs = [.ref a] ∧ H a = some (.dK []) ∧ Q (.str "{}") H
theorem call_reprU {X : Cx} {k : Nat} (hr : Room k X.A) (hq : X.A.guards = some []) : CallR X (.builtin "repr") rReprU := by
  intro pins s σ H xs us Q I r h
  rcases h with h | ⟨a, rfl, ha, q⟩
  · exact call_reprS pins s σ H xs us Q I r h
  obtain ⟨u, rfl, ru⟩ := vals1 r
  cases ru
  have hd := I.hok _ _ ha
  simp only [ObjOk] at hd
  obtain ⟨_, hm, vs, kv, hd⟩ := hd
  have rd : ∃ as, Reads s.heap (.ref a) (.dict []) as ∧ as = [a] := by
    obtain ⟨o, es, ep, g, ex, hdat, _, ps, _⟩ := hd
    have e0 : vs = [] := by cases kv; rfl
    subst e0
    have e1 : es.toList = [] := by
      revert ps
      cases es.toList with
      | nil => intro _; rfl
      | cons e r => intro p; exact nomatch p
    refine ⟨_, .dict (kvs := []) (as := []) (bs := []) g ?_ hdat ?_ ?_, rfl⟩
    · exact ex.1
    · rw [e1]; exact .nil
    · rw [e1]; exact .nil
  obtain ⟨as, rd, rfl⟩ := rd
  have un := hr.units
  refine repr_of_reads' rd rfl (fun _ m => ?_) hq ?_ (fun _ _ e => e) (fun h' u tk hk => ⟨.str _, H, I.kept hk, ⟨_, rfl⟩, q⟩) (by decide +kernel)
  · rw [← List.mem_singleton.mp m] at hm
    exact absurd hm (by decide)
  · show X.A.units + ((PyData.dict []).depth + 1) < cLine
    have : (PyData.dict []).depth ≤ 2 := by decide +kernel
    omega
theorem rd_reprU {v : V} {H : Hp} {Q : VK} (ok : okR v) (q : Q (.str (repV v)) H) : rReprU ([v] ++ []) H Q := .inl (rd_reprS ok q)
theorem rd_reprUD {a : Addr} {H : Hp} {Q : VK} (e : H a = some (.dK [])) (q : Q (.str "{}") H) : rReprU ([.ref a] ++ []) H Q := .inr ⟨a, rfl, e, q⟩
end Z
namespace Z
open PySem PySem.Spec PyProof.Rows L2 Builtin Builtin.ObjectAttr
section
variable {prog : Program} {w : World} {A : Around} {R : Result → Shared → Prop} {hp : Heap} {g : Array GenState} {dr : Drawn} {tk0 : Nat} {os : OsState} {K : PySem.W.Frag} {C x : Addr} {nw : String} {bm : List Value}
/-- the first field of such an exception is set -/
theorem osaV {f : Str} {tk : Tok} {v : Value} {fv : Array Value} (T : OexV K C nw bm) (X : K.In hp) (ex : hp.get? x = some { cls := .ref C, data := .fields fv }) (no : PySem.W.findIn K (.ref C) f = some none)
    (q : ∀ h' tk' dx, (∀ b o, b ≠ x → hp.get? b = some o → h'.get? b = some o) → hp.objs.size ≤ dx → dx ≠ x → h'.get? x = some { cls := .ref C, dict := some dx, data := .fields fv } → h'.Ns1 dx (fun y => if y = f then some v else none) → R (.ok (.ret .none)) ⟨h', g, dr, tk', os⟩) :
    codeAny (model prog w) A (.call (.builtin "object.__setattr__") ⟨[.ref x, .str f tk, v], []⟩) R ⟨hp, g, dr, tk0, os⟩ := by
  obtain ⟨n1, n2, N, l1, n3, l2, b1, b2, b3, m1, m2, m3, m4, m5, hC⟩ := T.l
  obtain ⟨cd, ecd, ed⟩ : ∃ cd : ClassData, PySem.W.clsIn K C = some cd ∧ cd = { name := n1, bases := l1, mro := .ref C :: bm, ns := N, qualname := n2, hasDict := true, slotNames := n3, subclasses := l2, abstract := b1, collection := b2, hasDel := false } := ⟨_, by unfold PySem.W.clsIn; rw [hC] <;> rfl, rfl⟩
  have ob : (Value.ref C :: bm).contains (.type "object") = true := by rw [List.contains_cons, T.fs.1, Bool.or_true]
  have J : PySem.W.InstAt hp x { cls := .ref C, data := .fields fv } C none := ⟨ex, rfl, rfl, trivial⟩
  have ob' : PySem.W.mroIn K C (.type "object") = some true := by
    unfold PySem.W.mroIn
    rw [ecd, Option.bind_some, ed, if_neg (show ¬ (List.isEmpty (Value.ref C :: bm) = true) from fun z => Bool.noConfusion z)]
    exact congrArg some ob
  have isO : PySem.W.Looks (model prog w) hp (isInstance (.ref x) (.type "object")) true := J.type.andThen (PySem.W.looks_mroIn X ob')
  have G := F.store_object
  refine codeAny_call_builtin G.slot.plain G.entry (@PySem.W.check_slot (model prog w) _ _ ⟨hp, g, dr, tk0, os⟩ "object.__setattr__" "object" "__setattr__" (.ref x) [.str f tk, v] [] _ G.kind G.split isO (G.args (.ref x) (.str f tk) v) ?_)
  have lm : PySem.W.Looks (model prog w) hp (mroOf (.ref C)) cd.mro := (PySem.W.looks_clsIn X ecd).andThen .now
  have lc : PySem.W.Looks (model prog w) hp (classData C) cd := PySem.W.looks_clsIn X ecd
  have ln : PySem.W.Looks (model prog w) hp (Builtin.ObjectAttr.storeTaker? none) none := .now
  subst ed
  rw [PySem.W.osa_eq, refuse_eq]
  refine wpAny_bind (wpAny_bind (J.type.at (wpAny_bind (lm.at ?_))))
  rw [show (_ : List Value) = Value.ref C :: bm from rfl, refuseLoop_ref, T.fs.2]
  refine wpAny_pure (wpAny_bind (J.type.at (wpAny_bind ((PySem.W.looks_findIn X no).at (wpAny_bind (ln.at ?_))))))
  unfold storeInOwnDict ownDictForStores
  have xs : x ≠ hp.objs.size := Nat.ne_of_lt (Heap.lt_size ex)
  repeat (first
    | (with_reducible refine PySem.HandSPX.store_in_new ?_ ?_)
    | (with_reducible refine wpAny_loadPart_at ex ?_)
    | (with_reducible refine lc.at ?_)
    | wp_step)
  · exact ⟨_, #[], _, (Heap.get?_update_ne _ _ _ _ xs.symm).trans (Heap.get?_push_at rfl rfl), rfl, fun y hy => absurd hy (by simp), fun _ => rfl⟩
  · intro h1 t1 ns1 sb
    have ex1 : (hp.push { cls := .type "dict", data := .dict #[] }).get? x = some { cls := .ref C, data := .fields fv } := Heap.get?_push_of_some _ ex
    exact q h1 t1 hp.objs.size (fun b o nb eb => (sb.2 b (Nat.ne_of_lt (Heap.lt_size eb))).trans ((Heap.get?_update_ne _ _ _ _ nb).trans (Heap.get?_push_of_some _ eb))) (Nat.le_refl _) xs.symm ((sb.2 x xs).trans (Heap.get?_update_self _ ex1 rfl)) ns1
end
section
variable {X : Cx} {pins : List (Addr × Obj)} {σ : L2.St} {H : Hp} {s : Shared} {a C : Addr} {f : Str} {y : V} {u : Value} {Q : Unit → Shared → Prop} {E : Value → Shared → Prop} {A : Around} {nw : String} {bm : List Value}
theorem ostV (T : OexV X.K C nw bm) (I : Inv X pins σ H s) (e : H a = some (exo a C none)) (no : PySem.W.findIn X.K (.ref C) f = some none) (ry : RelV y u)
    (q : ∀ dx s', H dx = none → dx ≠ a → Inv X pins σ (upd (upd H dx (exd dx [(f, y)])) a (exo a C (some dx))) s' → Q () s') : wpAny (model X.prog X.w) A (setAttr (.ref a) f u) Q E s := by
  obtain ⟨w1, at1⟩ := exo_at I.hok e
  obtain ⟨h0, gs, dr, tk, os⟩ := s
  refine PySem.W.set_plain I.kIn (ox := { cls := .ref C, dict := none, data := .fields #[.ref w1, .none, .none, .none, .bool false, .none] }) (od := none) ⟨at1, rfl, rfl, trivial⟩ T.sa ?_
  refine osaV T I.kIn at1 no fun h1 tk1 dx kp fresh ndx at2 ns1 => ?_
  have fx : H dx = none := I.hok.fresh fresh
  have ltx : ∀ {b : Addr} {o : Obj}, h0.get? b = some o → b ≠ dx := fun {b o} z => Nat.ne_of_lt (Nat.lt_of_lt_of_le (Heap.lt_size z) fresh)
  have nea : ∀ {b : Addr}, H b = none → b ≠ a := fun {b} z w => by
    rw [w, e] at z
    cases z
  have two : ∀ {b : Addr} {o : HO}, b ≠ a → b ≠ dx → H b = some o → (upd (upd H dx (exd dx [(f, y)])) a (exo a C (some dx))) b = some o := fun {b o} n1 n2 z => by rw [upd_ne n1, upd_ne n2]; exact z
  have un : Un X.fs [] H (upd (upd H dx (exd dx [(f, y)])) a (exo a C (some dx))) h0 h1 := by
    constructor
    · exact fun b o z n _ _ => kp b o (nea n) z
    · exact fun b o z n _ _ => ⟨o.slots, kp b o (nea n) z⟩
    · intro b o z n _
      rw [upd_ne (nea n), upd_ne (ltx z)]
      exact n
    · intro b o z _
      rcases Nat.decEq b a with n | rfl
      · exact ⟨o, kp b o n z⟩
      · exact ⟨_, at2⟩
    · exact fun b xs z => two (at_ne e z exo_tup) (ne_of_none z fx) z
    · exact fun b o v z => two (at_ne e z exo_frz) (ne_of_none z fx) z
    · exact fun b ps z => ⟨#[], by rw [two (at_ne e z exo_tbl) (ne_of_none z fx) z]; simp⟩
  refine q dx _ fx ndx (I.un (t' := tk1) un fun b o z => ?_)
  by_cases c1 : b = a
  · subst c1
    rw [upd_same] at z
    cases z
    exact exo_ok at2
  rw [upd_ne c1] at z
  by_cases c2 : b = dx
  · subst c2
    rw [upd_same] at z
    cases z
    exact exd_ok ns1 (relO_put (fs := []) ry fun _ => trivial)
  rw [upd_ne c2] at z
  refine (I.hok b o z).stay (fun c v hc ec => kp c v ?_ ec) (fun c hc => two (at_ne e hc exo_own) (ne_of_none hc fx) hc) fun c xs hc => two (at_ne e hc exo_tup) (ne_of_none hc fx) hc
  rcases hc with rfl | hc
  · exact c1
  · exact at_ne e hc exo_own
end
/-- self.f = e, in such an exception's __init__ -/
def tOstV (K : PySem.W.Frag) (f : Str) (to te : TE) : TS := fun D σ H => te σ H fun y H1 => to σ H1 fun x H2 => ∃ (a C : Addr) (nw : String) (bm : List Value), x = .ref a ∧ OexV K C nw bm ∧ PySem.W.findIn K (.ref C) f = some none ∧ H2 a = some (exo a C none) ∧
  ∀ dx, H2 dx = none → dx ≠ a → D.nx σ (upd (upd H2 dx (exd dx [(f, y)])) a (exo a C (some dx)))
section
variable {X : Cx} {o e : Expr} {es : List Expr} {to te : TE} {ta : TA} {f x : Str} {p p' pos : Pos} {C fI : Addr} {nw : String} {bm : List Value}
theorem ps_ostV (ho : PE X o to) (he : PE X e te) (sw : swapsWith e (some (.Attribute o f p')) pos.line X.env = pure false := by rfl) : PS X (.Assign [.Attribute o f p'] e pos) (tOstV X.K f to te) := ⟨fun pins s σ H D I h => by
  refine plainObj_wpAny_Assign_Attribute ?_ sw
  refine thn (he.run pins s σ H _ I h) fun v s1 z => ?_
  obtain ⟨y, H1, I1, ry, z⟩ := z
  refine thn (ho.run pins s1 σ H1 _ I1 z) fun u s2 z2 => ?_
  obtain ⟨x, H2, I2, rx, a, C, nw, bm, rfl, T, no, ea, q⟩ := z2
  cases rx
  exact ostV T I2 ea no ry fun dx s' n ne J => ⟨σ, _, J, q dx n ne⟩⟩
end
/-- the facts of such a class, gathered -/
theorem ev_mk {K : PySem.W.Frag} {mg : Str → Option Value} {x f : Str} {C fI N : Addr} {n1 n2 : Str} {l1 : List Value} {n3 : List Str} {l2 : List Value} {b1 : Bool} {b2 : Option Bool} {b3 : Option Addr} {m1 m2 m3 m4 m5 : Option Value} {nw : String} {bm : List Value}
    (fb : MkB nw bm) (fs : bm.contains (.type "object") = true ∧ ∀ self : Value, refuseLoop self "__setattr__" bm = pure ()) (g : mg x = some (.ref C)) (l : K.lookup C = some (excClassObj n1 n2 C N l1 bm true n3 l2 b1 b2 b3 m1 m2 m3 m4 m5 nw))
    (sa : PySem.W.findIn K (.ref C) "__setattr__" = some (some (.builtin "object.__setattr__"))) (ga : PySem.W.findIn K (.ref C) "__getattribute__" = some (some (.builtin "BaseException.__getattribute__")))
    (gg : PySem.W.findIn K (.ref C) "__getattr__" = some none) (nf : PySem.W.findIn K (.ref C) f = some none) (ic : PySem.W.findIn K (.ref C) "__init__" = some (some (.ref fI))) (ti : PySem.W.typeIn K (.ref fI) = some (.type "function"))
    (ca : PySem.W.findIn K (.ref C) "__class__" = some (some (.builtin "object.__class__"))) (cn : PySem.W.specialIn K (.builtin "object.__class__") "__get__" = some (some (.builtin "getset_descriptor.__get__")))
    (ct : PySem.W.takesIn K (.builtin "object.__class__") = some true) (cm : PySem.W.mroIn K C (.type "object") = some true) (kp : PySem.W.keepIn K (.ref C) = true) (sb : PySem.W.subIn K (.ref C) (.type "BaseException") = some true)
    (hd : PySem.W.hasDictIn K C = true) : ErC K mg x f C fI nw bm :=
  ⟨⟨fb, fs, ⟨n1, n2, N, l1, n3, l2, b1, b2, b3, m1, m2, m3, m4, m5, l⟩, sa, kp⟩, ⟨ga, gg, sb, hd⟩, ⟨ga, gg, sb, hd, ca, cn, ct, cm⟩, g, nf, ic, ti⟩
/-- over JoinError, a ValueError of the program's own -/
theorem mkb_own {J : Addr} : MkB "ValueError.__new__" [.ref J, .type "ValueError", .type "Exception", .type "BaseException", .type "object"] :=
  ⟨_, _, _, PySem.F.excBase_ValueError, by simp [List.contains_cons], by simp [List.contains_cons], by simp [List.contains_cons]⟩
def wayF : Nat → Str
  | 0 => "value" | 1 => "index" | 2 => "line" | 3 => "name" | 4 => "limit" | _ => "count"
def spField (K : PySem.W.Frag) : Sp := fun vs H Q _ => ∃ (a C : Addr) (v : V) (n : Nat), vs = [.ref a, .int (n : Int)] ∧ n ≤ 5 ∧ XfC K C ∧ PySem.W.findIn K (.ref C) (wayF n) = some none ∧ ErV H a C [(wayF n, v)] ∧ Q v H
theorem rd_erF {K : PySem.W.Frag} {f : Str} {i : Nat} {σ : L2.St} {H : Hp} {Q : VK} {a C : Addr} {v : V} (e : σ[i]? = some (some (.ref a))) (xf : XfC K C) (no : PySem.W.findIn K (.ref C) f = some none) (h : ErV H a C [(f, v)]) (q : Q v H) : tErF K f (tVar i) σ H Q :=
  ⟨_, e, a, C, _, v, rfl, xf, no, h, by simp [List.lookup], q⟩
/-- the classes that the law names beside its own -/
def tB (J : Addr) : Nat → Value
  | 0 => .ref J | 1 => .type "ValueError" | 2 => .type "IndexError" | 3 => .type "KeyError" | 4 => .type "OverflowError" | 5 => .type "RuntimeError" | 6 => .type "LookupError" | _ => .type "TypeError"
def flagL (n : Nat) (b : Nat → Bool) : List V := (List.range n).map fun j => .bl (b j)
def spFlags (K : PySem.W.Frag) (m : Nat) (t : Nat → Value) : Sp := fun vs H Q _ => ∃ (a C : Addr) (fs : List (Str × V)) (b : Nat → Bool), vs = [.ref a] ∧ ErV H a C fs ∧ ExcC K C ∧ (∀ j, j < m → PySem.W.kitOne K (.ref C) (t j) = some (b j)) ∧ ∀ r H', Same H H' → H r = none → H' r = some (.lst (flagL m b)) → Q (.ref r) H'
theorem rd_isV {K : PySem.W.Frag} {H : Hp} {Q : VK} {a C : Addr} {fs : List (Str × V)} {c : V} {cv : Value} {b : Bool} (h : ErV H a C fs) (x : ExcC K C) (hc : ClsV c cv) (k : PySem.W.kitOne K (.ref C) cv = some b) (q : Q (.bl b) H) : rIsV K [.ref a, c] H Q := ⟨a, C, fs, c, cv, b, rfl, h, x, hc, k, q⟩
theorem ErV.same {H H' : Hp} {a C : Addr} {fs : List (Str × V)} (s : Same H H') (h : ErV H a C fs) : ErV H' a C fs := let ⟨d, n, e1, e2⟩ := h; ⟨d, n, s _ _ e1, s _ _ e2⟩
/-- what the row i of the law asks: its field's way -/
def wayN : Nat → Nat
  | 0 => 0 | 1 => 0 | 2 => 1 | 3 => 0 | 4 => 1 | 5 => 1 | 6 => 0 | 7 => 2 | 8 => 2 | 9 => 0 | 10 => 3 | 11 => 4 | _ => 5
def dueN (i : Nat) : List Nat := if i < 9 then [0, 1] else if i = 9 then [2, 6] else if i = 10 then [3, 6] else if i = 11 then [4] else [5]
/-- what is known of the thirteen classes -/
def KitE (K : PySem.W.Frag) (J : Addr) (c : Nat → Addr) : Prop := ∀ i, i < 13 → XfC K (c i) ∧ ExcC K (c i) ∧ PySem.W.findIn K (.ref (c i)) (wayF (wayN i)) = some none ∧ (∀ j, j < 8 → PySem.W.kitOne K (.ref (c i)) (tB J j) = some ((dueN i).contains j)) ∧ ∀ j, j < 13 → PySem.W.kitOne K (.ref (c i)) (.ref (c j)) = some (i == j)
/-- the list of the errors that hold v, each with its way; without it -/
def ErrRow (H : Hp) (c : Nat → Addr) (v : V) (i : Nat) (x : V) : Prop := ∃ p a, x = .ref p ∧ H p = some (.lst [.ref a, .int ((wayN i : Nat) : Int)]) ∧ ErV H a (c i) [(wayF (wayN i), v)]
def ErrOne (H : Hp) (c : Nat → Addr) (v : V) (i : Nat) (x : V) : Prop := ∃ a, x = .ref a ∧ ErV H a (c i) [(wayF (wayN i), v)]
def spErrs (R : Hp → V → Nat → V → Prop) : Sp := fun vs H Q _ => ∃ v, vs = [v] ∧ ∀ r xs H', H r = none → Same H H' → H' r = some (.lst xs) → xs.length = 13 → (∀ i x, xs[i]? = some x → R H' v i x) → Q (.ref r) H'
def c13 (a0 a1 a2 a3 a4 a5 a6 a7 a8 a9 a10 a11 a12 : Addr) : Nat → Addr
  | 0 => a0 | 1 => a1 | 2 => a2 | 3 => a3 | 4 => a4 | 5 => a5 | 6 => a6 | 7 => a7 | 8 => a8 | 9 => a9 | 10 => a10 | 11 => a11 | _ => a12
theorem rd_err {C : Addr} {f : Str} {i : Nat} {v : V} {σ : L2.St} {H : Hp} {Q : VK} (e : σ[i]? = some (some v)) (q : ∀ a H', H a = none → Same H H' → ErV H' a C [(f, v)] → Q (.ref a) H') : tErr C f (tVar i) σ H Q := ⟨v, e, v, rfl, q⟩
/-- [j for j in range(n) if f(j)], whose test may make new things -/
theorem lc_filtS {σ : L2.St} {Q : VK} {vs : List Nat} {k : Nat} {D : Addr} {n : Nat} {H1 : Hp} {tt : TT} {te : TE} (f : Nat → Bool) (hw : ∀ v, wipe ((wipe σ vs).set k (some v)) vs = wipe σ vs) (hD : H1 D = none) (hn : n ≤ 10000)
    (turn : ∀ (j : Nat) (H : Hp) (q : Bool → Hp → Prop), j < n → Same H1 H → (∀ H', Same H H' → q (f j) H') → tt ((wipe σ vs).set k (some (.int (j : Int)))) H q)
    (el : ∀ (x : Int) (H : Hp) (Q' : VK), Q' (.int x) H → te ((wipe σ vs).set k (some (.int x))) H Q')
    (q : ∀ H', Same H1 H' → H' D = some (.lst (((List.range n).filter f).map fun j => V.int ((j : Nat) : Int))) → Q (.ref D) H') : LcW (Itr 0 n) (gName k) tt te vs Q σ H1 D := by
  refine lc_range (Pv := fun j H => Same H1 H ∧ H D = some (.lst (((List.range j).filter f).map fun j => V.int ((j : Nat) : Int)))) ⟨same_new hD, upd_same⟩ (fun j H hj hI => ?_) (fun H hI => ?_)
  · obtain ⟨hs, hd⟩ := hI
    refine ⟨hw _, ?_⟩
    rw [Int.zero_add]
    refine turn j _ _ hj hs fun H' s' => ?_
    have hd := s' _ _ hd
    have hs := hs.trans s'
    rw [List.range_succ, List.filter_append]
    cases e : f j with
    | true =>
      rw [if_pos rfl]
      refine el _ _ _ ⟨_, hd, ?_, fun b x e => ?_, ?_⟩
      · have h1 := List.length_filter_le f (List.range j)
        rw [List.length_range] at h1
        rw [List.length_map]
        exact Nat.lt_of_le_of_lt (show _ ≤ 10000 by omega) (by unfold sizeLine; decide)
      · rw [upd_ne (ne_of_none e hD)]
        exact hs _ _ e
      · rw [upd_same, List.filter_cons_of_pos e, List.map_append]
        rfl
    | false =>
      rw [if_neg Bool.false_ne_true, List.filter_cons_of_neg (by rw [e]; exact Bool.false_ne_true), List.filter_nil, List.append_nil]
      exact ⟨hs, hd⟩
  · obtain ⟨hs, hd⟩ := hI
    exact q H hs hd
def rReprA (K : PySem.W.Frag) : List V → Hp → VK → Prop := fun xs H Q => rReprU xs H Q ∨ rRepr K xs H Q
theorem call_reprA {X : Cx} {k : Nat} (hr : Room k X.A) (hq : X.A.guards = some []) : CallR X (.builtin "repr") (rReprA X.K) := fun pins s σ H xs us Q I r h => h.elim (call_reprU hr hq pins s σ H xs us Q I r) (call_repr hr hq pins s σ H xs us Q I r)
def RvV (H : Hp) (v : V) : Prop := okR v ∨ ∃ a, v = .ref a ∧ (H a = some (.dK []) ∨ H a = some (.lst [.int 3]) ∨ H a = some (.tup [.int 1, .int 2]))
theorem RvV.same {H H' : Hp} {v : V} (s : Same H H') (h : RvV H v) : RvV H' v := by
  rcases h with h | ⟨a, e, h | h | h⟩
  · exact .inl h
  · exact .inr ⟨a, e, .inl (s _ _ h)⟩
  · exact .inr ⟨a, e, .inr (.inl (s _ _ h))⟩
  · exact .inr ⟨a, e, .inr (.inr (s _ _ h))⟩
/-- its text, the same in all later heaps -/
theorem RvV.text {K : PySem.W.Frag} {H : Hp} {v : V} (h : RvV H v) : ∃ t : Str, ∀ H' Q, Same H H' → Q (.str t) H' → rReprA K [v] H' Q := by
  rcases h with h | ⟨a, rfl, h | h | h⟩
  · exact ⟨repV v, fun H' Q _ q => .inl (rd_reprU h q)⟩
  · exact ⟨"{}", fun H' Q s q => .inl (rd_reprUD (s _ _ h) q)⟩
  · exact ⟨_, fun H' Q s q => .inr (rd_repr (n := 1) (m := 5000) (.lst (SqL.of (s _ _ h)) (.cons (.int _) .nil)) ((Sh.list (k := 1) (fun d hd => by obtain rfl := List.mem_singleton.mp hd; exact sh_nat (n := 3) (by decide)) (Nat.le_refl _)).up (Nat.le_refl _) (by decide)) (by decide) (by decide) q)⟩
  · exact ⟨_, fun H' Q s q => .inr (rd_repr (n := 1) (m := 5000) (.tup (SqT.of (s _ _ h)) (.cons (.int _) (.cons (.int _) .nil))) ((Sh.tup (k := 2) (fun d hd => by
      simp only [List.mem_cons, List.not_mem_nil, or_false] at hd
      rcases hd with rfl | rfl
      · exact sh_nat (n := 1) (by decide)
      · exact sh_nat (n := 2) (by decide)) (Nat.le_refl _)).up (Nat.le_refl _) (by decide)) (by decide) (by decide) q)⟩
def RowsN (H : Hp) (R : Addr) : Prop := ∃ xs, H R = some (.lst xs) ∧ xs.length = 13 ∧ ∀ i x, xs[i]? = some x → ∃ p, x = .ref p ∧ H p = some (.lst ((dueN i).map fun j => V.int ((j : Nat) : Int)))
theorem RowsN.same {H H' : Hp} {R : Addr} (s : Same H H') (h : RowsN H R) : RowsN H' R := by
  obtain ⟨xs, e, l, h⟩ := h
  exact ⟨xs, s _ _ e, l, fun i x hx => by
    obtain ⟨p, ep, hp⟩ := h i x hx
    exact ⟨p, ep, s _ _ hp⟩⟩
theorem due_filter : ∀ i, i < 13 → (List.range 8).filter (fun j => (dueN i).contains j) = dueN i := by decide
theorem one_filter : ∀ i, i < 13 → (List.range 13).filter (fun j => i == j) = [i] := by decide
theorem ErV.set {H : Hp} {a b C : Addr} {fs : List (Str × V)} {xs : List V} {o : HO} (hb : H b = some (.lst xs)) (h : ErV H a C fs) : ErV (upd H b o) a C fs := by
  obtain ⟨d, n, e1, e2⟩ := h
  refine ⟨d, n, ?_, ?_⟩
  · rw [upd_ne (ne_of e1 hb fun z => ?_)]
    · exact e1
    · have z' : HO.ext _ = HO.lst xs := z
      cases z'
  · rw [upd_ne (ne_of e2 hb fun z => ?_)]
    · exact e2
    · have z' : HO.ext _ = HO.lst xs := z
      cases z'
theorem way_le : ∀ m, wayN m ≤ 5 := fun m => by unfold wayN; split <;> decide
/-- the same, by computing -/
def kitB (K : PySem.W.Frag) (J : Addr) (c : Nat → Addr) : Bool :=
  ((List.range 13).all fun i => decide (c i ≠ J) && ((List.range 8).all fun j => decide (PySem.W.subIn K (.ref (c i)) (tB J j) = some ((dueN i).contains j))) && ((List.range 13).all fun j => i == j || (decide (c i ≠ c j) && decide (PySem.W.subIn K (.ref (c i)) (.ref (c j)) = some false))) &&
    PySem.W.isClsIn K (c i) && decide (PySem.W.typeIn K (.ref (c i)) = some (.type "type"))) && PySem.W.isClsIn K J && decide (PySem.W.typeIn K (.ref J) = some (.type "type"))
theorem kitE_of {K : PySem.W.Frag} {J : Addr} {c : Nat → Addr} (hx : ∀ i, i < 13 → XfC K (c i) ∧ ExcC K (c i) ∧ PySem.W.findIn K (.ref (c i)) (wayF (wayN i)) = some none) (z : kitB K J c = true) : KitE K J c := by
  unfold kitB at z
  obtain ⟨z, tJ⟩ := Bool.and_eq_true_iff.mp z
  obtain ⟨z, iJ⟩ := Bool.and_eq_true_iff.mp z
  have tJ := of_decide_eq_true tJ
  have z := List.all_eq_true.mp z
  have at_ : ∀ i, i < 13 → c i ≠ J ∧ (∀ j, j < 8 → PySem.W.subIn K (.ref (c i)) (tB J j) = some ((dueN i).contains j)) ∧ (∀ j, j < 13 → i ≠ j → c i ≠ c j ∧ PySem.W.subIn K (.ref (c i)) (.ref (c j)) = some false) ∧ PySem.W.isClsIn K (c i) = true ∧ PySem.W.typeIn K (.ref (c i)) = some (.type "type") := fun i hi => by
    have z := z i (List.mem_range.mpr hi)
    obtain ⟨z, t⟩ := Bool.and_eq_true_iff.mp z
    obtain ⟨z, ic⟩ := Bool.and_eq_true_iff.mp z
    obtain ⟨z, z3⟩ := Bool.and_eq_true_iff.mp z
    obtain ⟨z1, z2⟩ := Bool.and_eq_true_iff.mp z
    refine ⟨of_decide_eq_true z1, fun j hj => of_decide_eq_true (List.all_eq_true.mp z2 j (List.mem_range.mpr hj)), fun j hj ne => ?_, ic, of_decide_eq_true t⟩
    rcases Bool.or_eq_true_iff.mp (List.all_eq_true.mp z3 j (List.mem_range.mpr hj)) with e | e
    · exact absurd (beq_iff_eq.mp e) ne
    · obtain ⟨e1, e2⟩ := Bool.and_eq_true_iff.mp e
      exact ⟨of_decide_eq_true e1, of_decide_eq_true e2⟩
  intro i hi
  obtain ⟨h1, h2, h3⟩ := hx i hi
  obtain ⟨nJ, hb, hc, ic, tc⟩ := at_ i hi
  refine ⟨h1, h2, h3, fun j hj => ?_, fun j hj => ?_⟩
  · have hb := hb j hj
    rcases j with _ | _ | _ | _ | _ | _ | _ | _ | j
    · exact kit_ref hb nJ iJ tJ
    · exact kit_type hb
    · exact kit_type hb
    · exact kit_type hb
    · exact kit_type hb
    · exact kit_type hb
    · exact kit_type hb
    · exact kit_type hb
    · omega
  · by_cases e : i = j
    · subst e
      unfold PySem.W.kitOne
      rw [if_pos (by simp)]
      simp
    · obtain ⟨n, s⟩ := hc j hj e
      obtain ⟨_, _, _, ij, tj⟩ := at_ j hj
      rw [show (i == j) = false by simpa using e]
      exact kit_ref s n ij tj
end Z
namespace Z
open PySem PySem.Spec PyProof.Rows L2
def topS (i : Nat) : Stmt := PySem.Challenge.pw_framejoins_k90_error_classes.main.body.getD i (.Pass ⟨0, 0, 0, 0⟩)
local macro_rules | `(tactic| walk_at "hg") => `(tactic| first
  | assumption
  | (with_reducible exact upd_same)
  | ((with_reducible refine' look_new ?k1 ?k2); (case k1 => assumption); (case k2 => walk_at "hg"))
  | ((with_reducible refine' look_same ?k1 ?k2); (case k1 => assumption); (case k2 => walk_at "hg"))
  | ((with_reducible refine' look_kp ?k1 ?k2 ?k3); (case k1 => assumption); (case k2 => walk_at "ne"); (case k3 => walk_at "hg"))
  | ((with_reducible refine' look_upd ?k1 ?k2); (case k1 => assumption); (case k2 => walk_at "hg"))
  | fail)
local macro_rules | `(tactic| walk_at "ne") => `(tactic| first
  | assumption
  | ((with_reducible refine' Pool.ne' ?k1 ?k2); (case k1 => assumption); (case k2 => walk_at "pl"))
  | fail)
local macro_rules | `(tactic| walk_at "r1") => `(tactic| first
  | (with_reducible refine rd_seq ?_) | (with_reducible refine rd_asg ?_) | (with_reducible refine rd_gname ?_) | (with_reducible refine rd_ret ?_) | (with_reducible refine rd_ifs ?_)
  | ((with_reducible refine' rd_var ?k1 ?_); (case k1 => exact rfl))
  | ((with_reducible refine' rd_ixL ?k1 ?k2 ?_); (case k1 => walk_at "sq"); (case k2 => walk_at "at"))
  | ((with_reducible refine' rd_ixT ?k1 ?k2 ?_); (case k1 => walk_at "sqt"); (case k2 => walk_at "at"))
  | ((with_reducible refine' rd_setL ?k1 ?k2 ?_); (case k1 => walk_at "hg"); (case k2 => walk_at "ixn"))
  | ((with_reducible refine' rd_lenL ?k1 ?_); (case k1 => walk_at "sq"))
  | ((with_reducible refine' rd_listL ?k1 fun _ _ => ?_); (case k1 => walk_at "sq"))
  | ((with_reducible refine' rd_lenT ?k1 ?_); (case k1 => walk_at "sqt"))
  | ((with_reducible refine' rd_gtup ?k1 ?k2 ?_); (case k1 => walk_at "sqt"); (case k2 => exact rfl))
  | (with_reducible refine rd_gcons ?_) | (with_reducible refine rd_gnil ?_) | (with_reducible refine rd_forT ?_) | (with_reducible refine rd_forL ?_) | (with_reducible refine rd_for2 ?_)
  | ((with_reducible refine' rd_neT2 ?k1 ?k2 ?k3 ?k4 ?_); (case k1 => walk_at "sqt"); (case k2 => walk_at "sqt"); (case k3 => walk_at "f1"); (case k4 => walk_at "f2"))
  | ((with_reducible refine rd_n1 ?k1 ?k2 ?_); (case k1 => omega); (case k2 => omega))
  | ((with_reducible refine rd_n2 ?k1 ?_); (case k1 => exact ⟨by omega, by omega, by omega, by omega⟩))
  | (with_reducible refine rd_lcD fun _ _ => ?_)
  | ((with_reducible refine' lc_numbers ?k1 ?k2 ?k3 ?k4 ?k5 fun _ _ _ _ _ _ _ => ?_); (case k1 => exact fun _ => rfl); (case k2 => exact fun _ => rfl); (case k3 => walk_at "pl"); (case k4 => assumption); (case k5 => walk_at "sd"))
  | (with_reducible refine rd_for3 ?_) | (with_reducible refine rd_bm ?_)
  | ((with_reducible refine rd_n3 ?k1 ?_); (case k1 => walk_at "sd"))
  | ((with_reducible refine' rd_tyL ?k1 ?_); (case k1 => walk_at "hg"))
  | ((with_reducible refine' rd_catL ?k1 ?k2 ?k3 fun _ _ => ?_); (case k1 => walk_at "hg"); (case k2 => walk_at "hg"); (case k3 => walk_at "sd"))
  | ((with_reducible refine' rd_appI ?k1 ?k2 ?_); (case k1 => walk_at "hg"); (case k2 => walk_at "sd"))
  | ((with_reducible refine' use_once ?k1 ?k2 fun _ _ _ _ _ _ _ _ _ => ?_); (case k1 => walk_at "sq"); (case k2 => walk_at "sd"))
  | ((with_reducible refine' use_split ?k1 ?k2 ?k3 ?k4 ?k5 fun _ _ _ _ _ => ?_); (case k1 => walk_at "hg"); (case k2 => walk_at "sd"); (case k3 => walk_at "sd"); (case k4 => walk_at "sd"); (case k5 => walk_at "sd"))
  | ((with_reducible refine' use_splitK ?k1 ?k2 ?k3 ?k4 ?k5 fun _ _ _ _ _ => ?_); (case k1 => walk_at "hg"); (case k2 => walk_at "sd"); (case k3 => walk_at "sd"); (case k4 => walk_at "sd"); (case k5 => walk_at "sd"))
  | (with_reducible refine rd_sl ?_) | (with_reducible refine rd_part ?_) | (with_reducible refine rd_nopart ?_) | (with_reducible refine rd_oneI ?_)
  | (with_reducible refine rd_lcL ?_)
  | (with_reducible refine rd_forV ?_)
  | ((with_reducible refine rd_nV ?k1 ?k2 ?_); (case k1 => omega); (case k2 => omega))
  | ((with_reducible refine' use_join1 ?k1 ?k2 ?k3 ?k4 fun _ _ _ _ _ => ?_); (case k1 => walk_at "hg"); (case k2 => walk_at "hg"); (case k3 => walk_at "sd"); (case k4 => walk_at "sd"))
  | ((with_reducible refine' use_join ?k1 ?k2 ?k3 ?k4 ?k5 fun _ _ _ _ _ => ?_); (case k1 => walk_at "hg"); (case k2 => walk_at "sd"); (case k3 => walk_at "sd"); (case k4 => walk_at "sd"); (case k5 => walk_at "sd"))
  | ((with_reducible refine' use_joinK ?k1 ?k2 ?k3 ?k4 ?k5 fun _ _ _ _ _ => ?_); (case k1 => walk_at "hg"); (case k2 => walk_at "sd"); (case k3 => walk_at "sd"); (case k4 => walk_at "sd"); (case k5 => walk_at "sd"))
  | ((with_reducible refine' use_ints ?k1 ?k2 ?_); (case k1 => walk_at "hg"); (case k2 => walk_at "sd"))
  | (with_reducible refine rd_isN ?_) | (with_reducible refine rd_lc1 ?_) | (with_reducible refine rd_forE ?_) | (with_reducible refine rd_forZ ?_)
  | ((with_reducible refine' rd_neL ?k1 ?k2 ?_); (case k1 => walk_at "sq"); (case k2 => walk_at "sq"))
  | ((with_reducible refine' rd_eqL ?k1 ?k2 ?_); (case k1 => walk_at "sq"); (case k2 => walk_at "sq"))
  | ((with_reducible refine' rd_neN ?k1 ?k2 ?_); (case k1 => walk_at "sq"); (case k2 => walk_at "sq"))
  | (with_reducible refine rd_c ?_) | (with_reducible refine rd_op ?_) | (with_reducible refine rd_un ?_) | (with_reducible refine rd_i0 ?_)
  | ((with_reducible refine rd_i ?k1 ?_); (case k1 => walk_at "side"))
  | (with_reducible refine rd_u ?_)
  | (with_reducible refine rd_eq rfl ?_) | (with_reducible refine rd_ne rfl ?_) | (with_reducible refine rd_test ?_) | (with_reducible refine rd_b ?_) | (with_reducible refine rd_bl ?_)
  | (with_reducible refine rd_not ?_) | (with_reducible refine rd_and ?_) | (with_reducible refine rd_or ?_) | (with_reducible refine rd_andV ?_) | (with_reducible refine rd_orV ?_) | (with_reducible refine rd_notV ?_)
  | (with_reducible refine rd_if ?_) | (with_reducible refine rd_chain ?_) | (with_reducible refine rd_call ?_) | (with_reducible refine rd_callK ?_) | (with_reducible refine rd_cb ?_)
  | (with_reducible refine rd_cons ?_) | (with_reducible refine rd_nil ?_) | (with_reducible refine rd_next ?_) | (with_reducible refine rd_drop ?_) | (with_reducible refine rd_gsub ?_)
  | (with_reducible refine rd_int ?_) | (with_reducible refine rd_intb ?_) | (with_reducible refine rd_abs ?_) | (with_reducible refine rd_max ?_) | (with_reducible refine rd_min ?_)
  | (with_reducible refine rd_par ?_) | (with_reducible refine rd_par3 ?_) | (with_reducible refine rd_two ?_) | (with_reducible refine rd_three ?_)
  | (with_reducible refine rd_retn ?_) | (with_reducible refine rd_tup ?_) | (with_reducible refine rd_lst ?_) | (with_reducible refine rd_for1 ?_) | (with_reducible refine rd_one ?_)
  | ((with_reducible refine rd_all ?k1 fun _ _ => ?_); (case k1 => exact Nat.le_of_ble_eq_true rfl))
  | ((with_reducible refine use_take ?k1 ?k2 ?k3 fun _ _ _ _ _ _ => ?_); (case k1 => walk_at "pl"); (case k2 => walk_at "sd"); (case k3 => walk_at "sd"))
  | ((with_reducible refine use_number ?k1 fun _ _ _ _ _ => ?_); (case k1 => walk_at "pl"))
  | ((with_reducible refine' use_pool ?k1 ?k2 ?k3 ?k4 fun _ _ _ _ _ => ?_); (case k1 => walk_at "sq"); (case k2 => assumption); (case k3 => walk_at "sd"); (case k4 => walk_at "sd"))
  | ((with_reducible refine use_ckp ?k1 ?k2 ?_); (case k1 => walk_at "sd"); (case k2 => walk_at "sd"))
  | ((with_reducible refine use_pair ?k1 ?k2 fun _ _ => ?_); (case k1 => walk_at "sd"); (case k2 => walk_at "sd"))
  | ((with_reducible refine use_lfold ?k1 ?k2 fun _ _ _ _ => ?_); (case k1 => walk_at "sd"); (case k2 => walk_at "sd"))
  | ((with_reducible refine' use_ispair ?k1 ?_); (case k1 => walk_at "hg"))
  | ((with_reducible refine' use_items ?k1 fun _ _ => ?_); (case k1 => walk_at "sq"))
  | ((with_reducible refine' use_block ?k1 ?k2 ?k3 fun _ _ => ?_); (case k1 => walk_at "hg"); (case k2 => walk_at "sd"); (case k3 => walk_at "sd"))
  | ((with_reducible refine' use_mark ?k1 ?k2 fun _ _ => ?_); (case k1 => walk_at "hg"); (case k2 => walk_at "sd"))
  | (with_reducible refine use_code ?_)
  | ((with_reducible refine' use_same ?k1 fun _ _ => ?_); (case k1 => walk_at "smv"))
  | ((with_reducible refine use_quant ?k1 ?k2 ?_); (case k1 => walk_at "sd"); (case k2 => walk_at "sd"))
  | ((with_reducible refine use_quantK ?k1 ?k2 ?_); (case k1 => walk_at "sd"); (case k2 => walk_at "sd"))
  | (with_reducible refine use_isi_int ?_) | (with_reducible refine use_within_int ?_) | (with_reducible refine use_cki ?_)
  | ((with_reducible refine use_ckw ?k1 ?k2 ?_); (case k1 => walk_at "sd"); (case k2 => walk_at "sd"))
  | (with_reducible refine iteT ?_) | (with_reducible refine iteF ?_)
  | (with_reducible refine iteNT ?_) | (with_reducible refine iteNF ?_)
  | (walk_at "isi")
  | fail)
local macro_rules | `(tactic| walk_at "isi") => `(tactic| first
  | (with_reducible refine isi_int_int ?_)
  | (with_reducible refine isi_int_bool ?_)
  | (with_reducible refine isi_int_str ?_)
  | (with_reducible refine isi_int_list ?_)
  | (with_reducible refine isi_int_tuple ?_)
  | (with_reducible refine isi_bl_int ?_)
  | (with_reducible refine isi_bl_bool ?_)
  | (with_reducible refine isi_bl_str ?_)
  | (with_reducible refine isi_bl_list ?_)
  | (with_reducible refine isi_bl_tuple ?_)
  | (with_reducible refine isi_non_int ?_)
  | (with_reducible refine isi_non_bool ?_)
  | (with_reducible refine isi_non_str ?_)
  | (with_reducible refine isi_non_list ?_)
  | (with_reducible refine isi_non_tuple ?_)
  | (with_reducible refine isi_str_int ?_)
  | (with_reducible refine isi_str_bool ?_)
  | (with_reducible refine isi_str_str ?_)
  | (with_reducible refine isi_str_list ?_)
  | (with_reducible refine isi_str_tuple ?_)
  | ((with_reducible refine' isi_lst_int ?k1 ?_); (case k1 => walk_at "hg"))
  | ((with_reducible refine' isi_lst_bool ?k1 ?_); (case k1 => walk_at "hg"))
  | ((with_reducible refine' isi_lst_str ?k1 ?_); (case k1 => walk_at "hg"))
  | ((with_reducible refine' isi_lst_list ?k1 ?_); (case k1 => walk_at "hg"))
  | ((with_reducible refine' isi_lst_tuple ?k1 ?_); (case k1 => walk_at "hg"))
  | ((with_reducible refine' isi_tup_int ?k1 ?_); (case k1 => walk_at "hg"))
  | ((with_reducible refine' isi_tup_bool ?k1 ?_); (case k1 => walk_at "hg"))
  | ((with_reducible refine' isi_tup_str ?k1 ?_); (case k1 => walk_at "hg"))
  | ((with_reducible refine' isi_tup_list ?k1 ?_); (case k1 => walk_at "hg"))
  | ((with_reducible refine' isi_tup_tuple ?k1 ?_); (case k1 => walk_at "hg"))
  | fail)
local macro_rules | `(tactic| walk_at "side") => `(tactic| first
  | (show (0 : Int) < _; omega)
  | exact ⟨by omega, by omega⟩
  | exact .inl ⟨by omega, by omega⟩
  | exact .inr ⟨by omega, by omega⟩
  | exact .inr ⟨by decide, by decide⟩
  | exact ⟨by decide, by decide, by decide⟩
  | decide
  | fail)
local macro_rules | `(tactic| walk_at "rd") => `(tactic| (repeat walk_at "r1"))
local macro_rules | `(tactic| walk_at "sq") => `(tactic| first
  | assumption
  | ((with_reducible refine' SqL.of ?k1); (case k1 => walk_at "hg"))
  | ((with_reducible refine' sqL_new ?k1 ?k2); (case k1 => assumption); (case k2 => walk_at "sq"))
  | ((with_reducible refine' sqL_same ?k1 ?k2); (case k1 => assumption); (case k2 => walk_at "sq"))
  | fail)
local macro_rules | `(tactic| walk_at "sqt") => `(tactic| first
  | assumption
  | exact by_all (by assumption)
  | ((with_reducible refine' SqT.of ?k1); (case k1 => walk_at "hg"))
  | fail)
local macro_rules | `(tactic| walk_at "at") => `(tactic| first | assumption | exact atI_nat (j := 0) rfl | exact atI_nat (j := 1) rfl | exact atI_nat (j := 2) rfl | exact atI_nat (j := 3) rfl | fail)
local macro_rules | `(tactic| walk_at "ixn") => `(tactic| first | assumption | rfl | fail)
local macro_rules | `(tactic| walk_at "sd") => `(tactic| first | omega | decide +kernel | fail)
local macro_rules | `(tactic| walk_at "pl") => `(tactic| first
  | assumption
  | ((with_reducible refine' Pool.new' ?k1 ?k2); (case k1 => assumption); (case k2 => walk_at "pl"))
  | ((with_reducible refine' Pool.same' ?k1 ?k2); (case k1 => assumption); (case k2 => walk_at "pl"))
  | fail)
local macro_rules | `(tactic| walk_at "allm") => `(tactic| ((repeat (refine List.forall_mem_cons.mpr ⟨⟨_, rfl, by first | decide | omega, by first | decide | omega⟩, ?_⟩)); exact List.forall_mem_nil _))
local macro_rules | `(tactic| walk_at "kp") => `(tactic| first
  | assumption
  | exact Kp.refl
  | ((with_reducible refine' Kp.trans ?k1 (Kp.new ?k2)); (case k2 => assumption); walk_at "kp")
  | (refine' Kp.trans ?k1 ?k2; (case k2 => assumption); walk_at "kp")
  | (refine' Kp.trans ?k1 (Kp.of ?k2); (case k2 => assumption); walk_at "kp")
  | ((with_reducible refine' Kp.trans ?k1 Kp.at); walk_at "kp")
  | fail)
local macro_rules | `(tactic| walk_at "ct") => `(tactic| (refine' close_turn ?k1 ?k2 ?k3 ?k4; (case k1 => assumption); (case k2 => assumption); (case k3 => assumption); (case k4 => walk_at "kp")))
local macro_rules | `(tactic| walk_at "sm") => `(tactic| first
  | (with_reducible assumption)
  | (with_reducible exact Same.refl _)
  | ((with_reducible refine' Same.trans ?k1 (same_new ?k2)); (case k2 => assumption); walk_at "sm")
  | ((with_reducible refine' Same.trans ?k1 ?k2); (case k2 => (with_reducible assumption)); walk_at "sm")
  | fail)
local macro_rules | `(tactic| walk_at "f1") => `(tactic| first | rfl | exact congrArg Prod.fst (fold_unfold _ _ _) | exact congrArg Prod.fst (unfold_fold _ _ _) | fail)
local macro_rules | `(tactic| walk_at "f2") => `(tactic| first | rfl | exact congrArg Prod.snd (fold_unfold _ _ _) | exact congrArg Prod.snd (unfold_fold _ _ _) | fail)
local macro_rules | `(tactic| walk_at "smv") => `(tactic| first
  | (with_reducible assumption)
  | ((with_reducible refine sm_sc ?k1); (case k1 => exact rfl))
  | ((with_reducible refine' sm_ints ?k1 ?k2); (case k1 => walk_at "hg"); (case k2 => walk_at "hg"))
  | fail)
local macro_rules | `(tactic| walk_at "kp2") => `(tactic| first
  | exact Kp2.refl
  | exact Kp2.at
  | ((with_reducible refine' Kp2.trans ?k1 Kp2.at); walk_at "kp2")
  | ((with_reducible refine' Kp2.trans ?k1 (Kp2.new ?k2)); (case k2 => assumption); walk_at "kp2")
  | (refine' Kp2.trans ?k1 (Kp2.ofK ?k2); (case k2 => assumption); walk_at "kp2")
  | (refine' Kp2.trans ?k1 (Kp2.ofS ?k2); (case k2 => assumption); walk_at "kp2")
  | fail)
local macro_rules | `(tactic| walk_at "ty") => `(tactic| first
  | exact True.intro
  | ((refine' Or.inl ⟨_, ?k1⟩); (case k1 => walk_at "hg"))
  | ((refine' Or.inr ⟨_, ?k1⟩); (case k1 => walk_at "hg"))
  | fail)
local macro_rules | `(tactic| walk_at "jr") => `(tactic| first
  | exact ⟨_, JR.flat rfl⟩
  | ((refine' ⟨_, JR.tup2 ?k1 ?k2 ?k3⟩); (case k1 => walk_at "hg"); (case k2 => walk_at "ty"); (case k3 => walk_at "ty"))
  | ((refine' ⟨_, JR.tupn ?k1 ?k2⟩); (case k1 => walk_at "hg"); (case k2 => simp))
  | ((refine' ⟨_, JR.lst ?k1⟩); (case k1 => walk_at "hg"))
  | fail)
local macro_rules | `(tactic| walk_at "jr1") => `(tactic| ((refine' List.forall_mem_cons.mpr ⟨?k1, ?_⟩); (case k1 => walk_at "jr")))
local macro_rules | `(tactic| walk_at "alljr") => `(tactic| ((repeat walk_at "jr1"); exact List.forall_mem_nil _))
local macro_rules | `(tactic| walk_at "r1") => `(tactic| first
  | ((with_reducible refine' rd_raiseV ?k1 ?_); (case k1 => exact rfl))
  | (with_reducible refine rd_raiseC ?_)
  | ((with_reducible refine' rd_lam ?k1 fun _ _ _ => ?_); (case k1 => walk_at "tb"))
  | (with_reducible refine rd_told ?_)
  | (with_reducible refine rd_xf ?_)
  | fail)
local macro_rules | `(tactic| walk_at "tb") => `(tactic| first
  | assumption
  | ((with_reducible refine' Tabs.new ?k1 ?k2); (case k1 => assumption); (case k2 => walk_at "tb"))
  | ((with_reducible refine' Tabs.same ?k1 ?k2); (case k1 => assumption); (case k2 => walk_at "tb"))
  | ((with_reducible refine' Tabs.kp ?k0 ?k1 ?k2); (case k1 => assumption); (case k0 => walk_at "pl"); (case k2 => walk_at "tb"))
  | fail)
local macro_rules | `(tactic| walk_at "kpn") => `(tactic| first
  | assumption
  | exact KpN.refl
  | ((with_reducible refine' KpN.trans ?k1 (KpN.new ?k2)); (case k2 => assumption); walk_at "kpn")
  | ((with_reducible refine' KpN.trans ?k1 ?k2); (case k2 => assumption); walk_at "kpn")
  | ((with_reducible refine' KpN.trans ?k1 (KpN.ofK ?k2)); (case k2 => assumption); walk_at "kpn")
  | ((with_reducible refine' KpN.trans ?k1 (KpN.of ?k2)); (case k2 => assumption); walk_at "kpn")
  | ((with_reducible refine' KpN.trans ?k1 (KpN.ofN ?k2)); (case k2 => assumption); walk_at "kpn")
  | ((with_reducible refine' KpN.trans ?k1 KpN.at); walk_at "kpn")
  | fail)
local macro_rules | `(tactic| walk_at "hg") => `(tactic| first
  | ((with_reducible refine' look_extL ?k1 ?k2); (case k1 => assumption); (case k2 => walk_at "hg"))
  | ((with_reducible refine' look_extT ?k1 ?k2); (case k1 => assumption); (case k2 => walk_at "hg"))
  | fail)
local macro_rules | `(tactic| walk_at "als") => `(tactic| ((repeat (refine List.forall_mem_cons.mpr ⟨rfl, ?_⟩)); exact List.forall_mem_nil _))
local macro_rules | `(tactic| walk_at "dv1") => `(tactic| first
  | exact DV.sc rfl
  | ((refine' DV.lst ?n ?e ?s); (case n => walk_at "ne"); (case e => walk_at "hg"); (case s => walk_at "als"))
  | ((refine' DV.tup ?n ?e ?s); (case n => walk_at "ne"); (case e => walk_at "hg"); (case s => walk_at "als"))
  | fail)
local macro_rules | `(tactic| walk_at "dvm1") => `(tactic| ((refine' List.forall_mem_cons.mpr ⟨⟨?d, ?i⟩, ?_⟩); (case d => walk_at "dv1"); (case i => first | rfl | decide)))
local macro_rules | `(tactic| walk_at "dvm") => `(tactic| ((repeat walk_at "dvm1"); exact List.forall_mem_nil _))
local macro_rules | `(tactic| walk_at "r1") => `(tactic| first
  | ((with_reducible refine' rd_callL ?k1 ?_); (case k1 => exact rfl))
  | ((with_reducible refine' use_sound ?k1 fun _ _ => ?_); (case k1 => walk_at "hg"))
  | fail)
local macro_rules | `(tactic| walk_at "r1") => `(tactic| first
  | ((with_reducible refine' use_ljoints ?k1 ?k2 fun _ _ _ _ _ _ _ _ _ _ => ?_); (case k1 => walk_at "pl"); (case k2 => walk_at "sd"))
  | fail)
local macro_rules | `(tactic| walk_at "r1") => `(tactic| first
  | ((with_reducible refine' use_folds ?k1 ?k2 ?k3 ?k4 ?k5 fun _ _ _ _ _ => ?_); (case k1 => walk_at "hg"); (case k2 => walk_at "hg"); (case k3 => walk_at "js"); (case k4 => assumption); (case k5 => walk_at "sd"))
  | ((with_reducible refine' use_partner ?k1 ?k2 ?k3 ?_); (case k1 => walk_at "hg"); (case k2 => walk_at "js"); (case k3 => assumption))
  | fail)
local macro_rules | `(tactic| walk_at "js") => `(tactic| first
  | assumption
  | ((with_reducible refine' JsAt.new' ?k1 ?k2); (case k1 => assumption); (case k2 => walk_at "js"))
  | ((with_reducible refine' JsAt.same' ?k1 ?k2); (case k1 => assumption); (case k2 => walk_at "js"))
  | ((with_reducible refine' JsAt.at' ?k1 ?k2); (case k1 => walk_at "hg"); (case k2 => walk_at "js"))
  | fail)
local macro_rules | `(tactic| walk_at "kpl") => `(tactic| first
  | assumption
  | exact KpL.refl
  | ((with_reducible refine' KpL.trans ?k1 (KpL.new ?k2)); (case k2 => assumption); walk_at "kpl")
  | ((with_reducible refine' KpL.trans ?k1 ?k2); (case k2 => assumption); walk_at "kpl")
  | ((with_reducible refine' KpL.trans ?k1 (KpL.ofK ?k3 ?k2)); (case k2 => assumption); (case k3 => simp); walk_at "kpl")
  | ((with_reducible refine' KpL.trans ?k1 (KpL.ofS ?k2)); (case k2 => assumption); walk_at "kpl")
  | ((with_reducible refine' KpL.trans ?k1 (KpL.at ?k3)); (case k3 => simp); walk_at "kpl")
  | fail)
local macro_rules | `(tactic| walk_at "lt") => `(tactic| first
  | assumption
  | ((with_reducible refine' LT.new' ?k1 ?k2); (case k1 => assumption); (case k2 => walk_at "lt"))
  | ((with_reducible refine' LT.same' ?k1 ?k2); (case k1 => assumption); (case k2 => walk_at "lt"))
  | ((with_reducible refine' LT.l ?k1); (case k1 => walk_at "hg"))
  | ((with_reducible refine' LT.t ?k1); (case k1 => walk_at "hg"))
  | fail)
local macro_rules | `(tactic| walk_at "r1") => `(tactic| first
  | (with_reducible refine rd_forEA ?_) | (with_reducible refine rd_forS ?_)
  | ((with_reducible refine' use_soundA ?k1 fun _ _ => ?_); (case k1 => walk_at "lt"))
  | ((with_reducible refine' use_itemsA ?k1 fun _ _ => ?_); (case k1 => walk_at "lt"))
  | ((with_reducible refine' rd_lenA ?k1 ?_); (case k1 => walk_at "lt"))
  | ((with_reducible refine' rd_listA ?k1 fun _ _ => ?_); (case k1 => walk_at "lt"))
  | ((with_reducible refine' rd_tupL ?k1 fun _ _ => ?_); (case k1 => walk_at "sq"))
  | ((with_reducible refine' use_foldsA ?k1 ?k2 ?k3 ?k4 ?k5 fun _ _ _ _ _ => ?_); (case k1 => walk_at "lt"); (case k2 => walk_at "lt"); (case k3 => walk_at "js"); (case k4 => assumption); (case k5 => walk_at "sd"))
  | ((with_reducible refine' use_foldsAK ?k1 ?k2 ?k3 ?k4 ?k5 fun _ _ _ _ _ => ?_); (case k1 => walk_at "lt"); (case k2 => walk_at "lt"); (case k3 => walk_at "js"); (case k4 => assumption); (case k5 => walk_at "sd"))
  | fail)
local macro_rules | `(tactic| walk_at "sl") => `(tactic| first
  | (with_reducible exact e_0)
  | (with_reducible exact e_1)
  | (with_reducible exact e_01)
  | (with_reducible exact e_empty)
  | (with_reducible exact eb)
  | (with_reducible exact rfl)
  | fail)
local macro_rules | `(tactic| walk_at "sdl") => `(tactic| first
  | assumption
  | omega
  | (simp only [List.length_append, List.length_replicate, lowB_length, binB_length, List.length_cons, List.length_nil, List.length_map, List.length_drop, List.length_take]; omega)
  | fail)
local macro_rules | `(tactic| walk_at "r1") => `(tactic| first
  | ((with_reducible refine' rd_addT ?k1 ?k2 ?k3 ?_); (case k1 => walk_at "sl"); (case k2 => walk_at "sl"); (case k3 => walk_at "sdl"))
  | ((with_reducible refine' rd_mulT ?k1 ?k2 ?_); (case k1 => walk_at "sl"); (case k2 => walk_at "sdl"))
  | ((with_reducible refine' rd_lenS ?k1 ?_); (case k1 => walk_at "sdl"))
  | ((with_reducible refine' rd_slSF ?k1 ?_); (case k1 => walk_at "sdl"))
  | ((with_reducible refine' rd_slST ?k1 ?_); (case k1 => walk_at "sdl"))
  | ((with_reducible refine' rd_joinS ?k1 ?k2 ?k3 ?_); (case k1 => walk_at "sl"); (case k2 => walk_at "sq"); (case k3 => walk_at "sdl"))
  | (with_reducible refine rd_bit ?_)
  | ((with_reducible refine' rd_tupL ?k1 fun _ _ => ?_); (case k1 => walk_at "sq"))
  | (with_reducible refine rd_fmtb ?_) | (with_reducible refine rd_shr ?_)
  | ((with_reducible refine' rd_fmtn ?k1 ?k2 ?_); (case k1 => walk_at "sl"); (case k2 => walk_at "sdl"))
  | (with_reducible refine rd_bmS ?_) | (with_reducible refine rd_tyS ?_)
  | ((with_reducible refine' use_start ?k1 fun _ _ _ _ _ _ _ _ _ => ?_); (case k1 => walk_at "pl"))
  | fail)
local macro_rules | `(tactic| walk_at "r1") => `(tactic| first
  | (with_reducible refine rd_toldM fun _ _ => ?_)
  | ((with_reducible refine' use_oddE ?k1 fun _ _ _ _ _ => ?_); (case k1 => walk_at "pl"))
  | fail)
local macro_rules | `(tactic| walk_at "ne") => `(tactic| first
  | (refine' ne_new ?k1 ?k2; (case k1 => assumption); (case k2 => walk_at "hg"))
  | fail)
local macro_rules | `(tactic| walk_at "alo") => `(tactic| ((repeat (refine List.forall_mem_cons.mpr ⟨?_, ?_⟩; first | rfl | decide +kernel)); exact List.forall_mem_nil _))
local macro_rules | `(tactic| walk_at "nm") => `(tactic| ((refine' nm_cons ?n1 ?n2); (case n1 => walk_at "ne"); (case n2 => first | exact List.not_mem_nil | walk_at "nm")))
local macro_rules | `(tactic| walk_at "ev1") => `(tactic| first
  | exact EV.sc rfl
  | exact EV.sc (by decide +kernel)
  | ((refine' EV.lst ?n ?e ?s); (case n => walk_at "nm"); (case e => walk_at "hg"); (case s => walk_at "alo"))
  | ((refine' EV.tup ?n ?e ?s); (case n => walk_at "nm"); (case e => walk_at "hg"); (case s => walk_at "alo"))
  | fail)
local macro_rules | `(tactic| walk_at "evm1") => `(tactic| ((refine' List.forall_mem_cons.mpr ⟨?d, ?_⟩); (case d => walk_at "ev1")))
local macro_rules | `(tactic| walk_at "evm") => `(tactic| ((repeat walk_at "evm1"); exact List.forall_mem_nil _))
local macro_rules | `(tactic| walk_at "kln") => `(tactic| first
  | assumption
  | exact KpLN.refl
  | ((with_reducible refine' KpLN.trans ?k1 (KpLN.new ?k2)); (case k2 => assumption); walk_at "kln")
  | ((with_reducible refine' KpLN.trans ?k1 ?k2); (case k2 => assumption); walk_at "kln")
  | ((with_reducible refine' KpLN.trans ?k1 (KpLN.ofK ?k3 ?k2)); (case k2 => assumption); (case k3 => simp); walk_at "kln")
  | ((with_reducible refine' KpLN.trans ?k1 (KpLN.of ?k2)); (case k2 => assumption); walk_at "kln")
  | ((with_reducible refine' KpLN.trans ?k1 (KpLN.ofN ?k2)); (case k2 => assumption); walk_at "kln")
  | ((with_reducible refine' KpLN.trans ?k1 (KpLN.ofL ?k2)); (case k2 => assumption); walk_at "kln")
  | fail)
abbrev s_pool : Stmt := topS 16
theorem sc_pool : FnScope ["_law_script", "_law_k", "_law_cell", "_law_number", "_law_mixed"] ["_law_script", "_law_k"] (defScope s_pool) := ⟨rfl, rfl, rfl, by decide +kernel, rfl, by decide +kernel, by decide +kernel⟩
abbrev s_take : Stmt := topS 17
theorem sc_take : FnScope ["_law_pool_here", "_law_many", "_law_digit"] ["_law_pool_here", "_law_many"] (defScope s_take) := ⟨rfl, rfl, rfl, by decide +kernel, rfl, by decide +kernel, by decide +kernel⟩
abbrev s_errors : Stmt := topS 18
theorem sc_errors : FnScope ["_law_one", "_law_found"] ["_law_one"] (defScope s_errors) := ⟨rfl, rfl, rfl, by decide +kernel, rfl, by decide +kernel, by decide +kernel⟩
abbrev s_named : Stmt := topS 19
theorem sc_named : FnScope ["_law_one", "_law_found"] ["_law_one"] (defScope s_named) := ⟨rfl, rfl, rfl, by decide +kernel, rfl, by decide +kernel, by decide +kernel⟩
abbrev s_field : Stmt := topS 20
theorem sc_field : FnScope ["_law_error", "_law_way"] ["_law_error", "_law_way"] (defScope s_field) := ⟨rfl, rfl, rfl, by decide +kernel, rfl, by decide +kernel, by decide +kernel⟩
abbrev s_bases : Stmt := topS 21
theorem sc_bases : FnScope ["_law_error", "_law_found"] ["_law_error"] (defScope s_bases) := ⟨rfl, rfl, rfl, by decide +kernel, rfl, by decide +kernel, by decide +kernel⟩
abbrev s_classes : Stmt := topS 22
theorem sc_classes : FnScope ["_law_error", "_law_found"] ["_law_error"] (defScope s_classes) := ⟨rfl, rfl, rfl, by decide +kernel, rfl, by decide +kernel, by decide +kernel⟩
abbrev s_law : Stmt := topS 23
theorem sc_law : FnScope ["_law_script", "_law_rows", "_law_k", "_law_pool_here", "_law_one", "_law_errors_here", "_law_named_here", "_law_place", "_law_error", "_law_way", "_law_due", "_law_at", "_law_kept"] ["_law_script"] (defScope s_law) := ⟨rfl, rfl, rfl, by decide +kernel, rfl, by decide +kernel, by decide +kernel⟩
abbrev s_init_InvalidNumber : Stmt := inClass (topS 2) 0
theorem sc_init_InvalidNumber : FnScope ["self", "value"] ["self", "value"] (defScope s_init_InvalidNumber) := ⟨rfl, rfl, rfl, by decide +kernel, rfl, by decide +kernel, by decide +kernel⟩
abbrev s_init_InvalidJoint : Stmt := inClass (topS 3) 0
theorem sc_init_InvalidJoint : FnScope ["self", "value"] ["self", "value"] (defScope s_init_InvalidJoint) := ⟨rfl, rfl, rfl, by decide +kernel, rfl, by decide +kernel, by decide +kernel⟩
abbrev s_init_InvalidSound : Stmt := inClass (topS 4) 0
theorem sc_init_InvalidSound : FnScope ["self", "index"] ["self", "index"] (defScope s_init_InvalidSound) := ⟨rfl, rfl, rfl, by decide +kernel, rfl, by decide +kernel, by decide +kernel⟩
abbrev s_init_InvalidTables : Stmt := inClass (topS 5) 0
theorem sc_init_InvalidTables : FnScope ["self", "value"] ["self", "value"] (defScope s_init_InvalidTables) := ⟨rfl, rfl, rfl, by decide +kernel, rfl, by decide +kernel, by decide +kernel⟩
abbrev s_init_InvalidPlan : Stmt := inClass (topS 6) 0
theorem sc_init_InvalidPlan : FnScope ["self", "index"] ["self", "index"] (defScope s_init_InvalidPlan) := ⟨rfl, rfl, rfl, by decide +kernel, rfl, by decide +kernel, by decide +kernel⟩
abbrev s_init_InvalidStream : Stmt := inClass (topS 7) 0
theorem sc_init_InvalidStream : FnScope ["self", "index"] ["self", "index"] (defScope s_init_InvalidStream) := ⟨rfl, rfl, rfl, by decide +kernel, rfl, by decide +kernel, by decide +kernel⟩
abbrev s_init_InvalidCommand : Stmt := inClass (topS 8) 0
theorem sc_init_InvalidCommand : FnScope ["self", "value"] ["self", "value"] (defScope s_init_InvalidCommand) := ⟨rfl, rfl, rfl, by decide +kernel, rfl, by decide +kernel, by decide +kernel⟩
abbrev s_init_ParseError : Stmt := inClass (topS 9) 0
theorem sc_init_ParseError : FnScope ["self", "line"] ["self", "line"] (defScope s_init_ParseError) := ⟨rfl, rfl, rfl, by decide +kernel, rfl, by decide +kernel, by decide +kernel⟩
abbrev s_init_ScriptError : Stmt := inClass (topS 10) 0
theorem sc_init_ScriptError : FnScope ["self", "line"] ["self", "line"] (defScope s_init_ScriptError) := ⟨rfl, rfl, rfl, by decide +kernel, rfl, by decide +kernel, by decide +kernel⟩
abbrev s_init_InvalidPlace : Stmt := inClass (topS 11) 0
theorem sc_init_InvalidPlace : FnScope ["self", "value"] ["self", "value"] (defScope s_init_InvalidPlace) := ⟨rfl, rfl, rfl, by decide +kernel, rfl, by decide +kernel, by decide +kernel⟩
abbrev s_init_UnknownName : Stmt := inClass (topS 12) 0
theorem sc_init_UnknownName : FnScope ["self", "name"] ["self", "name"] (defScope s_init_UnknownName) := ⟨rfl, rfl, rfl, by decide +kernel, rfl, by decide +kernel, by decide +kernel⟩
abbrev s_init_LimitExceeded : Stmt := inClass (topS 13) 0
theorem sc_init_LimitExceeded : FnScope ["self", "limit"] ["self", "limit"] (defScope s_init_LimitExceeded) := ⟨rfl, rfl, rfl, by decide +kernel, rfl, by decide +kernel, by decide +kernel⟩
abbrev s_init_NothingToUndo : Stmt := inClass (topS 14) 0
theorem sc_init_NothingToUndo : FnScope ["self", "count"] ["self", "count"] (defScope s_init_NothingToUndo) := ⟨rfl, rfl, rfl, by decide +kernel, rfl, by decide +kernel, by decide +kernel⟩
section
variable {P : Program} {w : World} {K : PySem.W.Frag} {mg : Str → Option Value} {base : Heap}
theorem ok_init_InvalidNumber {f C : Addr} {fd : FuncData} {nw : String} {bm : List Value} (F : Fun K "__init__" "InvalidNumber.__init__" s_init_InvalidNumber f fd) (T : ErC K mg "InvalidNumber" "value" C f nw bm) : FnOk P w K mg base CX0 1 f fd ["self", "value"] (spInit K C "value") := by
  refine lt_out ?_
  simp (disch := with_unfolding_all
    refine F.ok sc_init_InvalidNumber (fun vs H Q E h => ?_) (fun cdv A outer s H vs Q E hr h => ?_)
    · obtain ⟨a, v, rfl, _⟩ := h
      rfl
    · obtain ⟨a, v, rfl, ha, q⟩ := h
      exact ⟨_, (pss_one (ps_ostV (pv 0) (pv 1))), v, rfl, .ref a, rfl, a, C, nw, bm, rfl, T.o, T.noF, ha, fun dx n ne => q dx n ne⟩
    ) only [↓lt_eq]
theorem ok_init_InvalidJoint {f C : Addr} {fd : FuncData} {nw : String} {bm : List Value} (F : Fun K "__init__" "InvalidJoint.__init__" s_init_InvalidJoint f fd) (T : ErC K mg "InvalidJoint" "value" C f nw bm) : FnOk P w K mg base CX0 1 f fd ["self", "value"] (spInit K C "value") := by
  refine lt_out ?_
  simp (disch := with_unfolding_all
    refine F.ok sc_init_InvalidJoint (fun vs H Q E h => ?_) (fun cdv A outer s H vs Q E hr h => ?_)
    · obtain ⟨a, v, rfl, _⟩ := h
      rfl
    · obtain ⟨a, v, rfl, ha, q⟩ := h
      exact ⟨_, (pss_one (ps_ostV (pv 0) (pv 1))), v, rfl, .ref a, rfl, a, C, nw, bm, rfl, T.o, T.noF, ha, fun dx n ne => q dx n ne⟩
    ) only [↓lt_eq]
theorem ok_init_InvalidSound {f C : Addr} {fd : FuncData} {nw : String} {bm : List Value} (F : Fun K "__init__" "InvalidSound.__init__" s_init_InvalidSound f fd) (T : ErC K mg "InvalidSound" "index" C f nw bm) : FnOk P w K mg base CX0 1 f fd ["self", "index"] (spInit K C "index") := by
  refine lt_out ?_
  simp (disch := with_unfolding_all
    refine F.ok sc_init_InvalidSound (fun vs H Q E h => ?_) (fun cdv A outer s H vs Q E hr h => ?_)
    · obtain ⟨a, v, rfl, _⟩ := h
      rfl
    · obtain ⟨a, v, rfl, ha, q⟩ := h
      exact ⟨_, (pss_one (ps_ostV (pv 0) (pv 1))), v, rfl, .ref a, rfl, a, C, nw, bm, rfl, T.o, T.noF, ha, fun dx n ne => q dx n ne⟩
    ) only [↓lt_eq]
theorem ok_init_InvalidTables {f C : Addr} {fd : FuncData} {nw : String} {bm : List Value} (F : Fun K "__init__" "InvalidTables.__init__" s_init_InvalidTables f fd) (T : ErC K mg "InvalidTables" "value" C f nw bm) : FnOk P w K mg base CX0 1 f fd ["self", "value"] (spInit K C "value") := by
  refine lt_out ?_
  simp (disch := with_unfolding_all
    refine F.ok sc_init_InvalidTables (fun vs H Q E h => ?_) (fun cdv A outer s H vs Q E hr h => ?_)
    · obtain ⟨a, v, rfl, _⟩ := h
      rfl
    · obtain ⟨a, v, rfl, ha, q⟩ := h
      exact ⟨_, (pss_one (ps_ostV (pv 0) (pv 1))), v, rfl, .ref a, rfl, a, C, nw, bm, rfl, T.o, T.noF, ha, fun dx n ne => q dx n ne⟩
    ) only [↓lt_eq]
theorem ok_init_InvalidPlan {f C : Addr} {fd : FuncData} {nw : String} {bm : List Value} (F : Fun K "__init__" "InvalidPlan.__init__" s_init_InvalidPlan f fd) (T : ErC K mg "InvalidPlan" "index" C f nw bm) : FnOk P w K mg base CX0 1 f fd ["self", "index"] (spInit K C "index") := by
  refine lt_out ?_
  simp (disch := with_unfolding_all
    refine F.ok sc_init_InvalidPlan (fun vs H Q E h => ?_) (fun cdv A outer s H vs Q E hr h => ?_)
    · obtain ⟨a, v, rfl, _⟩ := h
      rfl
    · obtain ⟨a, v, rfl, ha, q⟩ := h
      exact ⟨_, (pss_one (ps_ostV (pv 0) (pv 1))), v, rfl, .ref a, rfl, a, C, nw, bm, rfl, T.o, T.noF, ha, fun dx n ne => q dx n ne⟩
    ) only [↓lt_eq]
theorem ok_init_InvalidStream {f C : Addr} {fd : FuncData} {nw : String} {bm : List Value} (F : Fun K "__init__" "InvalidStream.__init__" s_init_InvalidStream f fd) (T : ErC K mg "InvalidStream" "index" C f nw bm) : FnOk P w K mg base CX0 1 f fd ["self", "index"] (spInit K C "index") := by
  refine lt_out ?_
  simp (disch := with_unfolding_all
    refine F.ok sc_init_InvalidStream (fun vs H Q E h => ?_) (fun cdv A outer s H vs Q E hr h => ?_)
    · obtain ⟨a, v, rfl, _⟩ := h
      rfl
    · obtain ⟨a, v, rfl, ha, q⟩ := h
      exact ⟨_, (pss_one (ps_ostV (pv 0) (pv 1))), v, rfl, .ref a, rfl, a, C, nw, bm, rfl, T.o, T.noF, ha, fun dx n ne => q dx n ne⟩
    ) only [↓lt_eq]
theorem ok_init_InvalidCommand {f C : Addr} {fd : FuncData} {nw : String} {bm : List Value} (F : Fun K "__init__" "InvalidCommand.__init__" s_init_InvalidCommand f fd) (T : ErC K mg "InvalidCommand" "value" C f nw bm) : FnOk P w K mg base CX0 1 f fd ["self", "value"] (spInit K C "value") := by
  refine lt_out ?_
  simp (disch := with_unfolding_all
    refine F.ok sc_init_InvalidCommand (fun vs H Q E h => ?_) (fun cdv A outer s H vs Q E hr h => ?_)
    · obtain ⟨a, v, rfl, _⟩ := h
      rfl
    · obtain ⟨a, v, rfl, ha, q⟩ := h
      exact ⟨_, (pss_one (ps_ostV (pv 0) (pv 1))), v, rfl, .ref a, rfl, a, C, nw, bm, rfl, T.o, T.noF, ha, fun dx n ne => q dx n ne⟩
    ) only [↓lt_eq]
theorem ok_init_ParseError {f C : Addr} {fd : FuncData} {nw : String} {bm : List Value} (F : Fun K "__init__" "ParseError.__init__" s_init_ParseError f fd) (T : ErC K mg "ParseError" "line" C f nw bm) : FnOk P w K mg base CX0 1 f fd ["self", "line"] (spInit K C "line") := by
  refine lt_out ?_
  simp (disch := with_unfolding_all
    refine F.ok sc_init_ParseError (fun vs H Q E h => ?_) (fun cdv A outer s H vs Q E hr h => ?_)
    · obtain ⟨a, v, rfl, _⟩ := h
      rfl
    · obtain ⟨a, v, rfl, ha, q⟩ := h
      exact ⟨_, (pss_one (ps_ostV (pv 0) (pv 1))), v, rfl, .ref a, rfl, a, C, nw, bm, rfl, T.o, T.noF, ha, fun dx n ne => q dx n ne⟩
    ) only [↓lt_eq]
theorem ok_init_ScriptError {f C : Addr} {fd : FuncData} {nw : String} {bm : List Value} (F : Fun K "__init__" "ScriptError.__init__" s_init_ScriptError f fd) (T : ErC K mg "ScriptError" "line" C f nw bm) : FnOk P w K mg base CX0 1 f fd ["self", "line"] (spInit K C "line") := by
  refine lt_out ?_
  simp (disch := with_unfolding_all
    refine F.ok sc_init_ScriptError (fun vs H Q E h => ?_) (fun cdv A outer s H vs Q E hr h => ?_)
    · obtain ⟨a, v, rfl, _⟩ := h
      rfl
    · obtain ⟨a, v, rfl, ha, q⟩ := h
      exact ⟨_, (pss_one (ps_ostV (pv 0) (pv 1))), v, rfl, .ref a, rfl, a, C, nw, bm, rfl, T.o, T.noF, ha, fun dx n ne => q dx n ne⟩
    ) only [↓lt_eq]
theorem ok_init_InvalidPlace {f C : Addr} {fd : FuncData} {nw : String} {bm : List Value} (F : Fun K "__init__" "InvalidPlace.__init__" s_init_InvalidPlace f fd) (T : ErC K mg "InvalidPlace" "value" C f nw bm) : FnOk P w K mg base CX0 1 f fd ["self", "value"] (spInit K C "value") := by
  refine lt_out ?_
  simp (disch := with_unfolding_all
    refine F.ok sc_init_InvalidPlace (fun vs H Q E h => ?_) (fun cdv A outer s H vs Q E hr h => ?_)
    · obtain ⟨a, v, rfl, _⟩ := h
      rfl
    · obtain ⟨a, v, rfl, ha, q⟩ := h
      exact ⟨_, (pss_one (ps_ostV (pv 0) (pv 1))), v, rfl, .ref a, rfl, a, C, nw, bm, rfl, T.o, T.noF, ha, fun dx n ne => q dx n ne⟩
    ) only [↓lt_eq]
theorem ok_init_UnknownName {f C : Addr} {fd : FuncData} {nw : String} {bm : List Value} (F : Fun K "__init__" "UnknownName.__init__" s_init_UnknownName f fd) (T : ErC K mg "UnknownName" "name" C f nw bm) : FnOk P w K mg base CX0 1 f fd ["self", "name"] (spInit K C "name") := by
  refine lt_out ?_
  simp (disch := with_unfolding_all
    refine F.ok sc_init_UnknownName (fun vs H Q E h => ?_) (fun cdv A outer s H vs Q E hr h => ?_)
    · obtain ⟨a, v, rfl, _⟩ := h
      rfl
    · obtain ⟨a, v, rfl, ha, q⟩ := h
      exact ⟨_, (pss_one (ps_ostV (pv 0) (pv 1))), v, rfl, .ref a, rfl, a, C, nw, bm, rfl, T.o, T.noF, ha, fun dx n ne => q dx n ne⟩
    ) only [↓lt_eq]
theorem ok_init_LimitExceeded {f C : Addr} {fd : FuncData} {nw : String} {bm : List Value} (F : Fun K "__init__" "LimitExceeded.__init__" s_init_LimitExceeded f fd) (T : ErC K mg "LimitExceeded" "limit" C f nw bm) : FnOk P w K mg base CX0 1 f fd ["self", "limit"] (spInit K C "limit") := by
  refine lt_out ?_
  simp (disch := with_unfolding_all
    refine F.ok sc_init_LimitExceeded (fun vs H Q E h => ?_) (fun cdv A outer s H vs Q E hr h => ?_)
    · obtain ⟨a, v, rfl, _⟩ := h
      rfl
    · obtain ⟨a, v, rfl, ha, q⟩ := h
      exact ⟨_, (pss_one (ps_ostV (pv 0) (pv 1))), v, rfl, .ref a, rfl, a, C, nw, bm, rfl, T.o, T.noF, ha, fun dx n ne => q dx n ne⟩
    ) only [↓lt_eq]
theorem ok_init_NothingToUndo {f C : Addr} {fd : FuncData} {nw : String} {bm : List Value} (F : Fun K "__init__" "NothingToUndo.__init__" s_init_NothingToUndo f fd) (T : ErC K mg "NothingToUndo" "count" C f nw bm) : FnOk P w K mg base CX0 1 f fd ["self", "count"] (spInit K C "count") := by
  refine lt_out ?_
  simp (disch := with_unfolding_all
    refine F.ok sc_init_NothingToUndo (fun vs H Q E h => ?_) (fun cdv A outer s H vs Q E hr h => ?_)
    · obtain ⟨a, v, rfl, _⟩ := h
      rfl
    · obtain ⟨a, v, rfl, ha, q⟩ := h
      exact ⟨_, (pss_one (ps_ostV (pv 0) (pv 1))), v, rfl, .ref a, rfl, a, C, nw, bm, rfl, T.o, T.noF, ha, fun dx n ne => q dx n ne⟩
    ) only [↓lt_eq]
theorem ok_take {f : Addr} {fd : FuncData}     (D : Dn K mg "_law_take" s_take ["_law_pool_here", "_law_many"] f fd) (bi : Bi mg)      : FnOk P w K mg base CX0 1 f fd ["_law_pool_here", "_law_many"] spTake := by
  refine lt_out ?_
  simp (disch := with_unfolding_all
    refine D.F.ok sc_take (fun vs H Q E h => ?_) (fun cdv A outer s H vs Q E hr h => ?_)
    · obtain ⟨p, m, rfl, _⟩ := h
      rfl
    · obtain ⟨p, m, rfl, ⟨x, y, hp, hx, hy0, hy1⟩, hm0, hm1, q⟩ := h
      refine ⟨_, (pss_cons (ps_if (pt_cmpR op_gt (pe_ix ix_list (pv 0) pe_int (fun _ _ => rfl)) pe_int (nomark _))
   (pss_cons (ps_set (i := 2) sc_take.nd rfl (Or.inl rfl) (pe_op op_mod (pe_callTy cInt (by rfl) bi.int_ (by decide +kernel) (pa_cons (pe_ix ix_list (pv 0) pe_int (fun _ _ => rfl)) pa_nil)) (pv 1)))
   (pss_cons (ps_asg (pe_op op_fdiv (pe_ix ix_list (pv 0) pe_int (fun _ _ => rfl)) (pv 1)) (pg_sub (pv 0) pe_int set_list))
   (pss_one (ps_ret (pv 2)))))
   pss_nil)
   (pss_cons (ps_asg (pe_op op_mod (pe_callTy cInt (by rfl) bi.int_ (by decide +kernel) (pa_cons (pe_op op_add (pe_op op_mul (pe_ix ix_list (pv 0) pe_int (fun _ _ => rfl)) pe_int) pe_int) pa_nil)) pe_int) (pg_sub (pv 0) pe_int set_list))
   (pss_one (ps_ret (pe_op op_mod (pe_op op_fdiv (pe_op op_mod (pe_callTy cInt (by rfl) bi.int_ (by decide +kernel) (pa_cons (pe_op op_mul (pe_ix ix_list (pv 0) pe_int (fun _ _ => rfl)) (pe_ix ix_list (pv 0) pe_int (fun _ _ => rfl))) pa_nil)) pe_int) pe_int) (pv 1)))))), ?_⟩
      refine rd_start (σ := [some (.ref p), some (.int m), none]) rfl ?_
      walk_at "rd"
      refine rd_iteD (fun c => ?_) (fun c => ?_)
      · walk_at "rd"
        exact q _ _ (Int.emod_nonneg _ (by omega)) (Int.emod_lt_of_pos _ hm0) ⟨x / m, y, upd_same, Int.ediv_nonneg hx (by omega), hy0, hy1⟩ Kp.at
      · have e0 := Int.emod_nonneg (y * 48271 + 12345) (show (2147483647 : Int) ≠ 0 by decide)
        have e1 := Int.emod_lt_of_pos (y * 48271 + 12345) (show (0 : Int) < 2147483647 by decide)
        walk_at "rd"
        exact q _ _ (Int.emod_nonneg _ (by omega)) (Int.emod_lt_of_pos _ hm0) ⟨x, (y * 48271 + 12345) % 2147483647, upd_same, hx, e0, e1⟩ Kp.at
    ) only [↓lt_eq]
theorem ok_pool {f : Addr} {fd : FuncData}     (D : Dn K mg "_law_pool" s_pool ["_law_script", "_law_k"] f fd) (bi : Bi mg)      : FnOk P w K mg base CX0 1 f fd ["_law_script", "_law_k"] (spPool K) := by
  refine lt_out ?_
  simp (disch := with_unfolding_all
    refine D.F.ok sc_pool (fun vs H Q E h => ?_) (fun cdv A outer s H vs Q E hr h => ?_)
    · obtain ⟨a, ns, k, rfl, _⟩ := h
      rfl
    · obtain ⟨a, ns, k, rfl, hS, hl, hk0, hk1, q⟩ := h
      refine ⟨_, (pss_cons (ps_set (i := 2) sc_pool.nd rfl (Or.inl rfl) (pe_ix ix_list (pe_op op_cat (pe_slice sl_list (pv 0) (po_some (pv 1)) (po_some (pe_op op_add (pv 1) pe_int))) (pe_lst (pa_cons pe_int pa_nil))) pe_int (fun _ _ => rfl)))
   (pss_cons (ps_set (i := 3) sc_pool.nd rfl (Or.inl rfl) (pe_ifExp (pt_cmpR op_ge (pv 2) pe_int (nomark _)) (pv 2) (pe_op op_sub (pe_un un_neg pe_int) (pv 2))))
   (pss_cons (ps_set (i := 4) sc_pool.nd rfl (Or.inl rfl) (pe_op op_mod (pe_op op_mul (pe_callTy cInt (by rfl) bi.int_ (by decide +kernel) (pa_cons (pe_op op_add (pe_op op_add (pe_op op_add (pe_op op_mod (pv 3) pe_int) (pe_op op_mul (pe_op op_mul pe_int (pv 1)) (pv 1))) (pe_op op_mul pe_int (pv 1))) pe_int) pa_nil)) pe_int) pe_int))
   (pss_one (ps_ret (pe_lst (pa_cons (pe_op op_mul (pv 3) (pe_callTy cInt (by rfl) bi.int_ (by decide +kernel) (pa_cons (pe_cmpR op_ge (pv 3) (pe_op op_pow pe_int pe_int) (nomark _)) pa_nil))) (pa_cons (pe_op op_mod (pe_op op_mul (pv 4) (pv 4)) pe_int) pa_nil)))))))), ?_⟩
      refine rd_start (σ := [some (.ref a), some (.int k), none, none, none]) rfl ?_
      have hS' : SqL (cxOf CX0 P w K mg base ["_law_script", "_law_k", "_law_cell", "_law_number", "_law_mixed"] "_law_pool" (defScope s_pool) f cdv A outer s H E).nox.K H a (ns.map V.int) := hS
      walk_at "rd"
      refine ⟨a, _, rfl, hS', fun p1 hp1 => ?_⟩
      walk_at "rd"
      rename_i p2 hp2
      have hc : ∃ c : Int, (cutV (ns.map V.int) (some k) (some (k + 1)) ++ [.int 0])[0]? = some (.int c) := by
        unfold cutV
        rw [← List.map_drop, ← List.map_take]
        cases (ns.drop (HT.sIx (ns.map V.int).length 0 (some k))).take (HT.sIx (ns.map V.int).length (ns.map V.int).length (some (k + 1)) - HT.sIx (ns.map V.int).length 0 (some k)) with
        | nil => exact ⟨0, rfl⟩
        | cons c r => exact ⟨c, rfl⟩
      have hcl : (cutV (ns.map V.int) (some k) (some (k + 1))).length ≤ 63 := by
        unfold cutV
        rw [List.length_take, List.length_drop, List.length_map]
        omega
      obtain ⟨c, hc⟩ := hc
      refine rd_catG (look_new hp2 upd_same) upd_same (by simp; omega) fun p3 hp3 => ?_
      walk_at "rd"
      refine rd_ixL (SqL.of upd_same) (atI_nat (j := 0) hc) ?_
      walk_at "rd"
      refine rd_iteD (fun d => ?_) (fun d => ?_)
      · have e0 := Int.emod_nonneg c (show (2147483629 : Int) ≠ 0 by decide)
        have e1 := Int.emod_lt_of_pos c (show (0 : Int) < 2147483629 by decide)
        walk_at "rd"
        rename_i p hp
        have hsm : Same H (upd (upd (upd H p1 (.lst (cutV (ns.map V.int) (some k) (some (k + 1))))) p2 (.lst [.int 0])) p3 (.lst (cutV (ns.map V.int) (some k) (some (k + 1)) ++ [.int 0]))) := ((same_new hp1).trans (same_new hp2)).trans (same_new hp3)
        exact q p _ (hsm.free hp) (hsm.trans (same_new hp)) ⟨_, _, upd_same, Int.mul_nonneg (by omega) (by split <;> decide), Int.emod_nonneg _ (by decide), Int.lt_trans (Int.emod_lt_of_pos _ (by decide)) (by decide)⟩
      · walk_at "rd"
        rename_i p hp
        have hsm : Same H (upd (upd (upd H p1 (.lst (cutV (ns.map V.int) (some k) (some (k + 1))))) p2 (.lst [.int 0])) p3 (.lst (cutV (ns.map V.int) (some k) (some (k + 1)) ++ [.int 0]))) := ((same_new hp1).trans (same_new hp2)).trans (same_new hp3)
        exact q p _ (hsm.free hp) (hsm.trans (same_new hp)) ⟨_, _, upd_same, Int.mul_nonneg (by omega) (by split <;> decide), Int.emod_nonneg _ (by decide), Int.lt_trans (Int.emod_lt_of_pos _ (by decide)) (by decide)⟩
    ) only [↓lt_eq]
theorem ok_errors {f : Addr} {fd : FuncData}  {C_InvalidCommand : Addr} {C_InvalidJoint : Addr} {C_InvalidNumber : Addr} {C_InvalidPlace : Addr} {C_InvalidPlan : Addr} {C_InvalidSound : Addr} {C_InvalidStream : Addr} {C_InvalidTables : Addr} {C_LimitExceeded : Addr} {C_NothingToUndo : Addr} {C_ParseError : Addr} {C_ScriptError : Addr} {C_UnknownName : Addr}   (D : Dn K mg "_law_errors" s_errors ["_law_one"] f fd) (bi : Bi mg)    (T_InvalidNumber : ErrV P w K mg base "InvalidNumber" "value" C_InvalidNumber) (T_InvalidJoint : ErrV P w K mg base "InvalidJoint" "value" C_InvalidJoint) (T_InvalidSound : ErrV P w K mg base "InvalidSound" "index" C_InvalidSound) (T_InvalidTables : ErrV P w K mg base "InvalidTables" "value" C_InvalidTables) (T_InvalidPlan : ErrV P w K mg base "InvalidPlan" "index" C_InvalidPlan) (T_InvalidStream : ErrV P w K mg base "InvalidStream" "index" C_InvalidStream) (T_InvalidCommand : ErrV P w K mg base "InvalidCommand" "value" C_InvalidCommand) (T_ParseError : ErrV P w K mg base "ParseError" "line" C_ParseError) (T_ScriptError : ErrV P w K mg base "ScriptError" "line" C_ScriptError) (T_InvalidPlace : ErrV P w K mg base "InvalidPlace" "value" C_InvalidPlace) (T_UnknownName : ErrV P w K mg base "UnknownName" "name" C_UnknownName) (T_LimitExceeded : ErrV P w K mg base "LimitExceeded" "limit" C_LimitExceeded) (T_NothingToUndo : ErrV P w K mg base "NothingToUndo" "count" C_NothingToUndo)  : FnOk P w K mg base CX0 3 f fd ["_law_one"] (spErrs (fun H v i x => ErrRow H (c13 C_InvalidNumber C_InvalidJoint C_InvalidSound C_InvalidTables C_InvalidPlan C_InvalidStream C_InvalidCommand C_ParseError C_ScriptError C_InvalidPlace C_UnknownName C_LimitExceeded C_NothingToUndo) v i x)) := by
  refine lt_out ?_
  simp (disch := with_unfolding_all
    refine D.F.ok sc_errors (fun vs H Q E h => ?_) (fun cdv A outer s H vs Q E hr h => ?_)
    · obtain ⟨v, rfl, _⟩ := h
      rfl
    · obtain ⟨v, rfl, q⟩ := h
      refine ⟨_, (pss_cons (ps_set (i := 1) sc_errors.nd rfl (Or.inl rfl) (pe_lst (pa_cons (pe_lst (pa_cons (pe_err T_InvalidNumber (hr.mono (by first | decide | exact Nat.le_refl _)) (pv 0)) (pa_cons pe_int pa_nil))) (pa_cons (pe_lst (pa_cons (pe_err T_InvalidJoint (hr.mono (by first | decide | exact Nat.le_refl _)) (pv 0)) (pa_cons pe_int pa_nil))) (pa_cons (pe_lst (pa_cons (pe_err T_InvalidSound (hr.mono (by first | decide | exact Nat.le_refl _)) (pv 0)) (pa_cons pe_int pa_nil))) pa_nil)))))
   (pss_cons (ps_set (i := 1) sc_errors.nd rfl (Or.inl rfl) (pe_op op_cat (pv 1) (pe_lst (pa_cons (pe_lst (pa_cons (pe_err T_InvalidTables (hr.mono (by first | decide | exact Nat.le_refl _)) (pv 0)) (pa_cons pe_int pa_nil))) pa_nil))))
   (pss_cons (ps_set (i := 1) sc_errors.nd rfl (Or.inl rfl) (pe_op op_cat (pv 1) (pe_lst (pa_cons (pe_lst (pa_cons (pe_err T_InvalidPlan (hr.mono (by first | decide | exact Nat.le_refl _)) (pv 0)) (pa_cons pe_int pa_nil))) (pa_cons (pe_lst (pa_cons (pe_err T_InvalidStream (hr.mono (by first | decide | exact Nat.le_refl _)) (pv 0)) (pa_cons pe_int pa_nil))) (pa_cons (pe_lst (pa_cons (pe_err T_InvalidCommand (hr.mono (by first | decide | exact Nat.le_refl _)) (pv 0)) (pa_cons pe_int pa_nil))) pa_nil))))))
   (pss_cons (ps_set (i := 1) sc_errors.nd rfl (Or.inl rfl) (pe_op op_cat (pv 1) (pe_lst (pa_cons (pe_lst (pa_cons (pe_err T_ParseError (hr.mono (by first | decide | exact Nat.le_refl _)) (pv 0)) (pa_cons pe_int pa_nil))) (pa_cons (pe_lst (pa_cons (pe_err T_ScriptError (hr.mono (by first | decide | exact Nat.le_refl _)) (pv 0)) (pa_cons pe_int pa_nil))) (pa_cons (pe_lst (pa_cons (pe_err T_InvalidPlace (hr.mono (by first | decide | exact Nat.le_refl _)) (pv 0)) (pa_cons pe_int pa_nil))) pa_nil))))))
   (pss_cons (ps_set (i := 1) sc_errors.nd rfl (Or.inl rfl) (pe_op op_cat (pv 1) (pe_lst (pa_cons (pe_lst (pa_cons (pe_err T_UnknownName (hr.mono (by first | decide | exact Nat.le_refl _)) (pv 0)) (pa_cons pe_int pa_nil))) pa_nil))))
   (pss_one (ps_ret (pe_op op_cat (pv 1) (pe_lst (pa_cons (pe_lst (pa_cons (pe_err T_LimitExceeded (hr.mono (by first | decide | exact Nat.le_refl _)) (pv 0)) (pa_cons pe_int pa_nil))) (pa_cons (pe_lst (pa_cons (pe_err T_NothingToUndo (hr.mono (by first | decide | exact Nat.le_refl _)) (pv 0)) (pa_cons pe_int pa_nil))) pa_nil))))))))))), ?_⟩
      refine rd_start (σ := [some v, none]) rfl ?_
      walk_at "rd"
      refine rd_err rfl fun a0 H0 n0 s0 h0 => ?_
      walk_at "rd"
      refine rd_err rfl fun a1 H1 n1 s1 h1 => ?_
      walk_at "rd"
      refine rd_err rfl fun a2 H2 n2 s2 h2 => ?_
      walk_at "rd"
      walk_at "rd"
      refine rd_err rfl fun a3 H3 n3 s3 h3 => ?_
      walk_at "rd"
      refine rd_catG (by walk_at "hg") upd_same (by simp) fun p1 hp1 => ?_
      walk_at "rd"
      refine rd_err rfl fun a4 H4 n4 s4 h4 => ?_
      walk_at "rd"
      refine rd_err rfl fun a5 H5 n5 s5 h5 => ?_
      walk_at "rd"
      refine rd_err rfl fun a6 H6 n6 s6 h6 => ?_
      walk_at "rd"
      refine rd_catG (by walk_at "hg") upd_same (by simp) fun p2 hp2 => ?_
      walk_at "rd"
      refine rd_err rfl fun a7 H7 n7 s7 h7 => ?_
      walk_at "rd"
      refine rd_err rfl fun a8 H8 n8 s8 h8 => ?_
      walk_at "rd"
      refine rd_err rfl fun a9 H9 n9 s9 h9 => ?_
      walk_at "rd"
      refine rd_catG (by walk_at "hg") upd_same (by simp) fun p3 hp3 => ?_
      walk_at "rd"
      refine rd_err rfl fun a10 H10 n10 s10 h10 => ?_
      walk_at "rd"
      refine rd_catG (by walk_at "hg") upd_same (by simp) fun p4 hp4 => ?_
      walk_at "rd"
      refine rd_err rfl fun a11 H11 n11 s11 h11 => ?_
      walk_at "rd"
      refine rd_err rfl fun a12 H12 n12 s12 h12 => ?_
      walk_at "rd"
      refine rd_catG (by walk_at "hg") upd_same (by simp) fun p5 hp5 => ?_
      refine q _ _ _ (Same.free (by walk_at "sm") hp5) (by walk_at "sm") upd_same rfl (fun i x e => ?_)
      rcases i with _ | _ | _ | _ | _ | _ | _ | _ | _ | _ | _ | _ | _ | i
      · obtain rfl : V.ref _ = x := Option.some.inj e
        exact ⟨_, a0, rfl, (show _ = some (HO.lst [.ref a0, .int 0]) by walk_at "hg"), ErV.same (by walk_at "sm") h0⟩
      · obtain rfl : V.ref _ = x := Option.some.inj e
        exact ⟨_, a1, rfl, (show _ = some (HO.lst [.ref a1, .int 0]) by walk_at "hg"), ErV.same (by walk_at "sm") h1⟩
      · obtain rfl : V.ref _ = x := Option.some.inj e
        exact ⟨_, a2, rfl, (show _ = some (HO.lst [.ref a2, .int 1]) by walk_at "hg"), ErV.same (by walk_at "sm") h2⟩
      · obtain rfl : V.ref _ = x := Option.some.inj e
        exact ⟨_, a3, rfl, (show _ = some (HO.lst [.ref a3, .int 0]) by walk_at "hg"), ErV.same (by walk_at "sm") h3⟩
      · obtain rfl : V.ref _ = x := Option.some.inj e
        exact ⟨_, a4, rfl, (show _ = some (HO.lst [.ref a4, .int 1]) by walk_at "hg"), ErV.same (by walk_at "sm") h4⟩
      · obtain rfl : V.ref _ = x := Option.some.inj e
        exact ⟨_, a5, rfl, (show _ = some (HO.lst [.ref a5, .int 1]) by walk_at "hg"), ErV.same (by walk_at "sm") h5⟩
      · obtain rfl : V.ref _ = x := Option.some.inj e
        exact ⟨_, a6, rfl, (show _ = some (HO.lst [.ref a6, .int 0]) by walk_at "hg"), ErV.same (by walk_at "sm") h6⟩
      · obtain rfl : V.ref _ = x := Option.some.inj e
        exact ⟨_, a7, rfl, (show _ = some (HO.lst [.ref a7, .int 2]) by walk_at "hg"), ErV.same (by walk_at "sm") h7⟩
      · obtain rfl : V.ref _ = x := Option.some.inj e
        exact ⟨_, a8, rfl, (show _ = some (HO.lst [.ref a8, .int 2]) by walk_at "hg"), ErV.same (by walk_at "sm") h8⟩
      · obtain rfl : V.ref _ = x := Option.some.inj e
        exact ⟨_, a9, rfl, (show _ = some (HO.lst [.ref a9, .int 0]) by walk_at "hg"), ErV.same (by walk_at "sm") h9⟩
      · obtain rfl : V.ref _ = x := Option.some.inj e
        exact ⟨_, a10, rfl, (show _ = some (HO.lst [.ref a10, .int 3]) by walk_at "hg"), ErV.same (by walk_at "sm") h10⟩
      · obtain rfl : V.ref _ = x := Option.some.inj e
        exact ⟨_, a11, rfl, (show _ = some (HO.lst [.ref a11, .int 4]) by walk_at "hg"), ErV.same (by walk_at "sm") h11⟩
      · obtain rfl : V.ref _ = x := Option.some.inj e
        exact ⟨_, a12, rfl, (show _ = some (HO.lst [.ref a12, .int 5]) by walk_at "hg"), ErV.same (by walk_at "sm") h12⟩
      · exact absurd e (by simp)
    ) only [↓lt_eq]
theorem ok_named {f : Addr} {fd : FuncData}  {C_InvalidCommand : Addr} {C_InvalidJoint : Addr} {C_InvalidNumber : Addr} {C_InvalidPlace : Addr} {C_InvalidPlan : Addr} {C_InvalidSound : Addr} {C_InvalidStream : Addr} {C_InvalidTables : Addr} {C_LimitExceeded : Addr} {C_NothingToUndo : Addr} {C_ParseError : Addr} {C_ScriptError : Addr} {C_UnknownName : Addr}   (D : Dn K mg "_law_named" s_named ["_law_one"] f fd) (bi : Bi mg)    (T_InvalidNumber : ErrV P w K mg base "InvalidNumber" "value" C_InvalidNumber) (T_InvalidJoint : ErrV P w K mg base "InvalidJoint" "value" C_InvalidJoint) (T_InvalidSound : ErrV P w K mg base "InvalidSound" "index" C_InvalidSound) (T_InvalidTables : ErrV P w K mg base "InvalidTables" "value" C_InvalidTables) (T_InvalidPlan : ErrV P w K mg base "InvalidPlan" "index" C_InvalidPlan) (T_InvalidStream : ErrV P w K mg base "InvalidStream" "index" C_InvalidStream) (T_InvalidCommand : ErrV P w K mg base "InvalidCommand" "value" C_InvalidCommand) (T_ParseError : ErrV P w K mg base "ParseError" "line" C_ParseError) (T_ScriptError : ErrV P w K mg base "ScriptError" "line" C_ScriptError) (T_InvalidPlace : ErrV P w K mg base "InvalidPlace" "value" C_InvalidPlace) (T_UnknownName : ErrV P w K mg base "UnknownName" "name" C_UnknownName) (T_LimitExceeded : ErrV P w K mg base "LimitExceeded" "limit" C_LimitExceeded) (T_NothingToUndo : ErrV P w K mg base "NothingToUndo" "count" C_NothingToUndo)  : FnOk P w K mg base CX0 3 f fd ["_law_one"] (spErrs (fun H v i x => ErrOne H (c13 C_InvalidNumber C_InvalidJoint C_InvalidSound C_InvalidTables C_InvalidPlan C_InvalidStream C_InvalidCommand C_ParseError C_ScriptError C_InvalidPlace C_UnknownName C_LimitExceeded C_NothingToUndo) v i x)) := by
  refine lt_out ?_
  simp (disch := with_unfolding_all
    refine D.F.ok sc_named (fun vs H Q E h => ?_) (fun cdv A outer s H vs Q E hr h => ?_)
    · obtain ⟨v, rfl, _⟩ := h
      rfl
    · obtain ⟨v, rfl, q⟩ := h
      refine ⟨_, (pss_cons (ps_set (i := 1) sc_named.nd rfl (Or.inl rfl) (pe_lst (pa_cons (pe_errK T_InvalidNumber (hr.mono (by first | decide | exact Nat.le_refl _)) (pv 0)) (pa_cons (pe_errK T_InvalidJoint (hr.mono (by first | decide | exact Nat.le_refl _)) (pv 0)) (pa_cons (pe_errK T_InvalidSound (hr.mono (by first | decide | exact Nat.le_refl _)) (pv 0)) pa_nil)))))
   (pss_cons (ps_set (i := 1) sc_named.nd rfl (Or.inl rfl) (pe_op op_cat (pv 1) (pe_lst (pa_cons (pe_errK T_InvalidTables (hr.mono (by first | decide | exact Nat.le_refl _)) (pv 0)) pa_nil))))
   (pss_cons (ps_set (i := 1) sc_named.nd rfl (Or.inl rfl) (pe_op op_cat (pv 1) (pe_lst (pa_cons (pe_errK T_InvalidPlan (hr.mono (by first | decide | exact Nat.le_refl _)) (pv 0)) (pa_cons (pe_errK T_InvalidStream (hr.mono (by first | decide | exact Nat.le_refl _)) (pv 0)) (pa_cons (pe_errK T_InvalidCommand (hr.mono (by first | decide | exact Nat.le_refl _)) (pv 0)) pa_nil))))))
   (pss_cons (ps_set (i := 1) sc_named.nd rfl (Or.inl rfl) (pe_op op_cat (pv 1) (pe_lst (pa_cons (pe_errK T_ParseError (hr.mono (by first | decide | exact Nat.le_refl _)) (pv 0)) (pa_cons (pe_errK T_ScriptError (hr.mono (by first | decide | exact Nat.le_refl _)) (pv 0)) (pa_cons (pe_errK T_InvalidPlace (hr.mono (by first | decide | exact Nat.le_refl _)) (pv 0)) pa_nil))))))
   (pss_cons (ps_set (i := 1) sc_named.nd rfl (Or.inl rfl) (pe_op op_cat (pv 1) (pe_lst (pa_cons (pe_errK T_UnknownName (hr.mono (by first | decide | exact Nat.le_refl _)) (pv 0)) pa_nil))))
   (pss_one (ps_ret (pe_op op_cat (pv 1) (pe_lst (pa_cons (pe_errK T_LimitExceeded (hr.mono (by first | decide | exact Nat.le_refl _)) (pv 0)) (pa_cons (pe_errK T_NothingToUndo (hr.mono (by first | decide | exact Nat.le_refl _)) (pv 0)) pa_nil))))))))))), ?_⟩
      refine rd_start (σ := [some v, none]) rfl ?_
      walk_at "rd"
      refine rd_err rfl fun a0 H0 n0 s0 h0 => ?_
      walk_at "rd"
      refine rd_err rfl fun a1 H1 n1 s1 h1 => ?_
      walk_at "rd"
      refine rd_err rfl fun a2 H2 n2 s2 h2 => ?_
      walk_at "rd"
      walk_at "rd"
      refine rd_err rfl fun a3 H3 n3 s3 h3 => ?_
      walk_at "rd"
      refine rd_catG (by walk_at "hg") upd_same (by simp) fun p1 hp1 => ?_
      walk_at "rd"
      refine rd_err rfl fun a4 H4 n4 s4 h4 => ?_
      walk_at "rd"
      refine rd_err rfl fun a5 H5 n5 s5 h5 => ?_
      walk_at "rd"
      refine rd_err rfl fun a6 H6 n6 s6 h6 => ?_
      walk_at "rd"
      refine rd_catG (by walk_at "hg") upd_same (by simp) fun p2 hp2 => ?_
      walk_at "rd"
      refine rd_err rfl fun a7 H7 n7 s7 h7 => ?_
      walk_at "rd"
      refine rd_err rfl fun a8 H8 n8 s8 h8 => ?_
      walk_at "rd"
      refine rd_err rfl fun a9 H9 n9 s9 h9 => ?_
      walk_at "rd"
      refine rd_catG (by walk_at "hg") upd_same (by simp) fun p3 hp3 => ?_
      walk_at "rd"
      refine rd_err rfl fun a10 H10 n10 s10 h10 => ?_
      walk_at "rd"
      refine rd_catG (by walk_at "hg") upd_same (by simp) fun p4 hp4 => ?_
      walk_at "rd"
      refine rd_err rfl fun a11 H11 n11 s11 h11 => ?_
      walk_at "rd"
      refine rd_err rfl fun a12 H12 n12 s12 h12 => ?_
      walk_at "rd"
      refine rd_catG (by walk_at "hg") upd_same (by simp) fun p5 hp5 => ?_
      refine q _ _ _ (Same.free (by walk_at "sm") hp5) (by walk_at "sm") upd_same rfl (fun i x e => ?_)
      rcases i with _ | _ | _ | _ | _ | _ | _ | _ | _ | _ | _ | _ | _ | i
      · obtain rfl : V.ref _ = x := Option.some.inj e
        exact ⟨a0, rfl, ErV.same (by walk_at "sm") h0⟩
      · obtain rfl : V.ref _ = x := Option.some.inj e
        exact ⟨a1, rfl, ErV.same (by walk_at "sm") h1⟩
      · obtain rfl : V.ref _ = x := Option.some.inj e
        exact ⟨a2, rfl, ErV.same (by walk_at "sm") h2⟩
      · obtain rfl : V.ref _ = x := Option.some.inj e
        exact ⟨a3, rfl, ErV.same (by walk_at "sm") h3⟩
      · obtain rfl : V.ref _ = x := Option.some.inj e
        exact ⟨a4, rfl, ErV.same (by walk_at "sm") h4⟩
      · obtain rfl : V.ref _ = x := Option.some.inj e
        exact ⟨a5, rfl, ErV.same (by walk_at "sm") h5⟩
      · obtain rfl : V.ref _ = x := Option.some.inj e
        exact ⟨a6, rfl, ErV.same (by walk_at "sm") h6⟩
      · obtain rfl : V.ref _ = x := Option.some.inj e
        exact ⟨a7, rfl, ErV.same (by walk_at "sm") h7⟩
      · obtain rfl : V.ref _ = x := Option.some.inj e
        exact ⟨a8, rfl, ErV.same (by walk_at "sm") h8⟩
      · obtain rfl : V.ref _ = x := Option.some.inj e
        exact ⟨a9, rfl, ErV.same (by walk_at "sm") h9⟩
      · obtain rfl : V.ref _ = x := Option.some.inj e
        exact ⟨a10, rfl, ErV.same (by walk_at "sm") h10⟩
      · obtain rfl : V.ref _ = x := Option.some.inj e
        exact ⟨a11, rfl, ErV.same (by walk_at "sm") h11⟩
      · obtain rfl : V.ref _ = x := Option.some.inj e
        exact ⟨a12, rfl, ErV.same (by walk_at "sm") h12⟩
      · exact absurd e (by simp)
    ) only [↓lt_eq]
theorem ok_field {f : Addr} {fd : FuncData}     (D : Dn K mg "_law_field" s_field ["_law_error", "_law_way"] f fd) (bi : Bi mg)      : FnOk P w K mg base CX0 1 f fd ["_law_error", "_law_way"] (spField K) := by
  refine lt_out ?_
  simp (disch := with_unfolding_all
    refine D.F.ok sc_field (fun vs H Q E h => ?_) (fun cdv A outer s H vs Q E hr h => ?_)
    · obtain ⟨a, C, v, n, rfl, _⟩ := h
      rfl
    · obtain ⟨a, C, v, n, rfl, hn, xf, no, he, q⟩ := h
      refine ⟨_, (pss_cons (ps_if (pt_cmpR op_eq (pv 1) pe_int (nomark _))
   (pss_one (ps_ret (pe_erF (pv 0))))
   pss_nil)
   (pss_cons (ps_if (pt_cmpR op_eq (pv 1) pe_int (nomark _))
   (pss_one (ps_ret (pe_erF (pv 0))))
   pss_nil)
   (pss_cons (ps_if (pt_cmpR op_eq (pv 1) pe_int (nomark _))
   (pss_one (ps_ret (pe_erF (pv 0))))
   pss_nil)
   (pss_cons (ps_if (pt_cmpR op_eq (pv 1) pe_int (nomark _))
   (pss_one (ps_ret (pe_erF (pv 0))))
   pss_nil)
   (pss_one (ps_ret (pe_ifExp (pt_cmpR op_eq (pv 1) pe_int (nomark _)) (pe_erF (pv 0)) (pe_erF (pv 0))))))))), ?_⟩
      rcases n with _ | _ | _ | _ | _ | _ | n
      · refine rd_start (σ := [some (.ref a), some (.int 0)]) rfl ?_
        walk_at "rd"
        exact rd_erF rfl xf no he q
      · refine rd_start (σ := [some (.ref a), some (.int 1)]) rfl ?_
        walk_at "rd"
        refine if_noD (fun z => by cases z) ?_
        walk_at "rd"
        refine if_yesD rfl ?_
        walk_at "rd"
        exact rd_erF rfl xf no he q
      · refine rd_start (σ := [some (.ref a), some (.int 2)]) rfl ?_
        walk_at "rd"
        refine if_noD (fun z => by cases z) ?_
        walk_at "rd"
        refine if_noD (fun z => by cases z) ?_
        walk_at "rd"
        refine if_yesD rfl ?_
        walk_at "rd"
        exact rd_erF rfl xf no he q
      · refine rd_start (σ := [some (.ref a), some (.int 3)]) rfl ?_
        walk_at "rd"
        refine if_noD (fun z => by cases z) ?_
        walk_at "rd"
        refine if_noD (fun z => by cases z) ?_
        walk_at "rd"
        refine if_noD (fun z => by cases z) ?_
        walk_at "rd"
        refine if_yesD rfl ?_
        walk_at "rd"
        exact rd_erF rfl xf no he q
      · refine rd_start (σ := [some (.ref a), some (.int 4)]) rfl ?_
        walk_at "rd"
        refine if_noD (fun z => by cases z) ?_
        walk_at "rd"
        refine if_noD (fun z => by cases z) ?_
        walk_at "rd"
        refine if_noD (fun z => by cases z) ?_
        walk_at "rd"
        refine if_noD (fun z => by cases z) ?_
        walk_at "rd"
        refine if_yesD rfl ?_
        walk_at "rd"
        exact rd_erF rfl xf no he q
      · refine rd_start (σ := [some (.ref a), some (.int 5)]) rfl ?_
        walk_at "rd"
        refine if_noD (fun z => by cases z) ?_
        walk_at "rd"
        refine if_noD (fun z => by cases z) ?_
        walk_at "rd"
        refine if_noD (fun z => by cases z) ?_
        walk_at "rd"
        refine if_noD (fun z => by cases z) ?_
        walk_at "rd"
        refine if_noD (fun z => by cases z) ?_
        walk_at "rd"
        exact rd_erF rfl xf no he q
      · omega
    ) only [↓lt_eq]
theorem ok_bases {f : Addr} {fd : FuncData}  {C_JoinError : Addr}   (D : Dn K mg "_law_bases" s_bases ["_law_error"] f fd) (bi : Bi mg)     (g_JoinError : mg "JoinError" = some (.ref C_JoinError)) (z_ValueError : mg "ValueError" = none) (z_IndexError : mg "IndexError" = none) (z_KeyError : mg "KeyError" = none) (z_OverflowError : mg "OverflowError" = none) (z_RuntimeError : mg "RuntimeError" = none) (z_LookupError : mg "LookupError" = none) (z_TypeError : mg "TypeError" = none) : FnOk P w K mg base CX0 1 f fd ["_law_error"] (spFlags K 8 (tB C_JoinError)) := by
  refine lt_out ?_
  simp (disch := with_unfolding_all
    refine D.F.ok sc_bases (fun vs H Q E h => ?_) (fun cdv A outer s H vs Q E hr h => ?_)
    · obtain ⟨a, C, fs, b, rfl, _⟩ := h
      rfl
    · obtain ⟨a, C, fs, b, rfl, he, hx, hk, q⟩ := h
      refine ⟨_, (pss_cons (ps_set (i := 1) sc_bases.nd rfl (Or.inl rfl) (pe_lst (pa_cons (pe_callB call_isV (by rfl) bi.isinstance_ (by decide +kernel) (pa_cons (pv 0) (pa_cons (pe_glob (v := .ref C_JoinError) (by rfl) g_JoinError rfl) pa_nil))) (pa_cons (pe_callB call_isV (by rfl) bi.isinstance_ (by decide +kernel) (pa_cons (pv 0) (pa_cons (pe_bltn (v := .ty "ValueError") (by rfl) z_ValueError (by decide +kernel) rfl) pa_nil))) (pa_cons (pe_callB call_isV (by rfl) bi.isinstance_ (by decide +kernel) (pa_cons (pv 0) (pa_cons (pe_bltn (v := .ty "IndexError") (by rfl) z_IndexError (by decide +kernel) rfl) pa_nil))) pa_nil)))))
   (pss_cons (ps_set (i := 1) sc_bases.nd rfl (Or.inl rfl) (pe_op op_cat (pv 1) (pe_lst (pa_cons (pe_callB call_isV (by rfl) bi.isinstance_ (by decide +kernel) (pa_cons (pv 0) (pa_cons (pe_bltn (v := .ty "KeyError") (by rfl) z_KeyError (by decide +kernel) rfl) pa_nil))) (pa_cons (pe_callB call_isV (by rfl) bi.isinstance_ (by decide +kernel) (pa_cons (pv 0) (pa_cons (pe_bltn (v := .ty "OverflowError") (by rfl) z_OverflowError (by decide +kernel) rfl) pa_nil))) pa_nil)))))
   (pss_cons (ps_set (i := 1) sc_bases.nd rfl (Or.inl rfl) (pe_op op_cat (pv 1) (pe_lst (pa_cons (pe_callB call_isV (by rfl) bi.isinstance_ (by decide +kernel) (pa_cons (pv 0) (pa_cons (pe_bltn (v := .ty "RuntimeError") (by rfl) z_RuntimeError (by decide +kernel) rfl) pa_nil))) pa_nil))))
   (pss_one (ps_ret (pe_op op_cat (pv 1) (pe_lst (pa_cons (pe_callB call_isV (by rfl) bi.isinstance_ (by decide +kernel) (pa_cons (pv 0) (pa_cons (pe_bltn (v := .ty "LookupError") (by rfl) z_LookupError (by decide +kernel) rfl) pa_nil))) (pa_cons (pe_callB call_isV (by rfl) bi.isinstance_ (by decide +kernel) (pa_cons (pv 0) (pa_cons (pe_bltn (v := .ty "TypeError") (by rfl) z_TypeError (by decide +kernel) rfl) pa_nil))) pa_nil))))))))), ?_⟩
      refine rd_start (σ := [some (.ref a), none]) rfl ?_
      walk_at "rd"
      refine rd_isV he hx (.own _) (hk 0 (by decide)) ?_
      walk_at "rd"
      refine rd_isV he hx (.ty _) (hk 1 (by decide)) ?_
      walk_at "rd"
      refine rd_isV he hx (.ty _) (hk 2 (by decide)) ?_
      walk_at "rd"
      walk_at "rd"
      refine rd_isV (he.same (by walk_at "sm")) hx (.ty _) (hk 3 (by decide)) ?_
      walk_at "rd"
      refine rd_isV (he.same (by walk_at "sm")) hx (.ty _) (hk 4 (by decide)) ?_
      walk_at "rd"
      refine rd_catG (by walk_at "hg") upd_same (by simp) fun p1 hp1 => ?_
      walk_at "rd"
      refine rd_isV (he.same (by walk_at "sm")) hx (.ty _) (hk 5 (by decide)) ?_
      walk_at "rd"
      refine rd_catG (by walk_at "hg") upd_same (by simp) fun p2 hp2 => ?_
      walk_at "rd"
      refine rd_isV (he.same (by walk_at "sm")) hx (.ty _) (hk 6 (by decide)) ?_
      walk_at "rd"
      refine rd_isV (he.same (by walk_at "sm")) hx (.ty _) (hk 7 (by decide)) ?_
      walk_at "rd"
      refine rd_catG (by walk_at "hg") upd_same (by simp) fun p3 hp3 => ?_
      exact q _ _ (by walk_at "sm") (Same.free (by walk_at "sm") hp3) upd_same
    ) only [↓lt_eq]
theorem ok_classes {f : Addr} {fd : FuncData}  {C_InvalidCommand : Addr} {C_InvalidJoint : Addr} {C_InvalidNumber : Addr} {C_InvalidPlace : Addr} {C_InvalidPlan : Addr} {C_InvalidSound : Addr} {C_InvalidStream : Addr} {C_InvalidTables : Addr} {C_LimitExceeded : Addr} {C_NothingToUndo : Addr} {C_ParseError : Addr} {C_ScriptError : Addr} {C_UnknownName : Addr}   (D : Dn K mg "_law_classes" s_classes ["_law_error"] f fd) (bi : Bi mg)     (g_InvalidNumber : mg "InvalidNumber" = some (.ref C_InvalidNumber)) (g_InvalidJoint : mg "InvalidJoint" = some (.ref C_InvalidJoint)) (g_InvalidSound : mg "InvalidSound" = some (.ref C_InvalidSound)) (g_InvalidTables : mg "InvalidTables" = some (.ref C_InvalidTables)) (g_InvalidPlan : mg "InvalidPlan" = some (.ref C_InvalidPlan)) (g_InvalidStream : mg "InvalidStream" = some (.ref C_InvalidStream)) (g_InvalidCommand : mg "InvalidCommand" = some (.ref C_InvalidCommand)) (g_ParseError : mg "ParseError" = some (.ref C_ParseError)) (g_ScriptError : mg "ScriptError" = some (.ref C_ScriptError)) (g_InvalidPlace : mg "InvalidPlace" = some (.ref C_InvalidPlace)) (g_UnknownName : mg "UnknownName" = some (.ref C_UnknownName)) (g_LimitExceeded : mg "LimitExceeded" = some (.ref C_LimitExceeded)) (g_NothingToUndo : mg "NothingToUndo" = some (.ref C_NothingToUndo)) : FnOk P w K mg base CX0 1 f fd ["_law_error"] (spFlags K 13 (fun j => .ref ((c13 C_InvalidNumber C_InvalidJoint C_InvalidSound C_InvalidTables C_InvalidPlan C_InvalidStream C_InvalidCommand C_ParseError C_ScriptError C_InvalidPlace C_UnknownName C_LimitExceeded C_NothingToUndo) j))) := by
  refine lt_out ?_
  simp (disch := with_unfolding_all
    refine D.F.ok sc_classes (fun vs H Q E h => ?_) (fun cdv A outer s H vs Q E hr h => ?_)
    · obtain ⟨a, C, fs, b, rfl, _⟩ := h
      rfl
    · obtain ⟨a, C, fs, b, rfl, he, hx, hk, q⟩ := h
      refine ⟨_, (pss_cons (ps_set (i := 1) sc_classes.nd rfl (Or.inl rfl) (pe_lst (pa_cons (pe_callB call_isV (by rfl) bi.isinstance_ (by decide +kernel) (pa_cons (pv 0) (pa_cons (pe_glob (v := .ref C_InvalidNumber) (by rfl) g_InvalidNumber rfl) pa_nil))) (pa_cons (pe_callB call_isV (by rfl) bi.isinstance_ (by decide +kernel) (pa_cons (pv 0) (pa_cons (pe_glob (v := .ref C_InvalidJoint) (by rfl) g_InvalidJoint rfl) pa_nil))) pa_nil))))
   (pss_cons (ps_set (i := 1) sc_classes.nd rfl (Or.inl rfl) (pe_op op_cat (pv 1) (pe_lst (pa_cons (pe_callB call_isV (by rfl) bi.isinstance_ (by decide +kernel) (pa_cons (pv 0) (pa_cons (pe_glob (v := .ref C_InvalidSound) (by rfl) g_InvalidSound rfl) pa_nil))) pa_nil))))
   (pss_cons (ps_set (i := 1) sc_classes.nd rfl (Or.inl rfl) (pe_op op_cat (pv 1) (pe_lst (pa_cons (pe_callB call_isV (by rfl) bi.isinstance_ (by decide +kernel) (pa_cons (pv 0) (pa_cons (pe_glob (v := .ref C_InvalidTables) (by rfl) g_InvalidTables rfl) pa_nil))) (pa_cons (pe_callB call_isV (by rfl) bi.isinstance_ (by decide +kernel) (pa_cons (pv 0) (pa_cons (pe_glob (v := .ref C_InvalidPlan) (by rfl) g_InvalidPlan rfl) pa_nil))) pa_nil)))))
   (pss_cons (ps_set (i := 1) sc_classes.nd rfl (Or.inl rfl) (pe_op op_cat (pv 1) (pe_lst (pa_cons (pe_callB call_isV (by rfl) bi.isinstance_ (by decide +kernel) (pa_cons (pv 0) (pa_cons (pe_glob (v := .ref C_InvalidStream) (by rfl) g_InvalidStream rfl) pa_nil))) (pa_cons (pe_callB call_isV (by rfl) bi.isinstance_ (by decide +kernel) (pa_cons (pv 0) (pa_cons (pe_glob (v := .ref C_InvalidCommand) (by rfl) g_InvalidCommand rfl) pa_nil))) pa_nil)))))
   (pss_cons (ps_set (i := 1) sc_classes.nd rfl (Or.inl rfl) (pe_op op_cat (pv 1) (pe_lst (pa_cons (pe_callB call_isV (by rfl) bi.isinstance_ (by decide +kernel) (pa_cons (pv 0) (pa_cons (pe_glob (v := .ref C_ParseError) (by rfl) g_ParseError rfl) pa_nil))) (pa_cons (pe_callB call_isV (by rfl) bi.isinstance_ (by decide +kernel) (pa_cons (pv 0) (pa_cons (pe_glob (v := .ref C_ScriptError) (by rfl) g_ScriptError rfl) pa_nil))) pa_nil)))))
   (pss_cons (ps_set (i := 1) sc_classes.nd rfl (Or.inl rfl) (pe_op op_cat (pv 1) (pe_lst (pa_cons (pe_callB call_isV (by rfl) bi.isinstance_ (by decide +kernel) (pa_cons (pv 0) (pa_cons (pe_glob (v := .ref C_InvalidPlace) (by rfl) g_InvalidPlace rfl) pa_nil))) pa_nil))))
   (pss_cons (ps_set (i := 1) sc_classes.nd rfl (Or.inl rfl) (pe_op op_cat (pv 1) (pe_lst (pa_cons (pe_callB call_isV (by rfl) bi.isinstance_ (by decide +kernel) (pa_cons (pv 0) (pa_cons (pe_glob (v := .ref C_UnknownName) (by rfl) g_UnknownName rfl) pa_nil))) (pa_cons (pe_callB call_isV (by rfl) bi.isinstance_ (by decide +kernel) (pa_cons (pv 0) (pa_cons (pe_glob (v := .ref C_LimitExceeded) (by rfl) g_LimitExceeded rfl) pa_nil))) pa_nil)))))
   (pss_one (ps_ret (pe_op op_cat (pv 1) (pe_lst (pa_cons (pe_callB call_isV (by rfl) bi.isinstance_ (by decide +kernel) (pa_cons (pv 0) (pa_cons (pe_glob (v := .ref C_NothingToUndo) (by rfl) g_NothingToUndo rfl) pa_nil))) pa_nil)))))))))))), ?_⟩
      refine rd_start (σ := [some (.ref a), none]) rfl ?_
      walk_at "rd"
      refine rd_isV he hx (.own _) (hk 0 (by decide)) ?_
      walk_at "rd"
      refine rd_isV he hx (.own _) (hk 1 (by decide)) ?_
      walk_at "rd"
      walk_at "rd"
      refine rd_isV (he.same (by walk_at "sm")) hx (.own _) (hk 2 (by decide)) ?_
      walk_at "rd"
      refine rd_catG (by walk_at "hg") upd_same (by simp) fun p1 hp1 => ?_
      walk_at "rd"
      refine rd_isV (he.same (by walk_at "sm")) hx (.own _) (hk 3 (by decide)) ?_
      walk_at "rd"
      refine rd_isV (he.same (by walk_at "sm")) hx (.own _) (hk 4 (by decide)) ?_
      walk_at "rd"
      refine rd_catG (by walk_at "hg") upd_same (by simp) fun p2 hp2 => ?_
      walk_at "rd"
      refine rd_isV (he.same (by walk_at "sm")) hx (.own _) (hk 5 (by decide)) ?_
      walk_at "rd"
      refine rd_isV (he.same (by walk_at "sm")) hx (.own _) (hk 6 (by decide)) ?_
      walk_at "rd"
      refine rd_catG (by walk_at "hg") upd_same (by simp) fun p3 hp3 => ?_
      walk_at "rd"
      refine rd_isV (he.same (by walk_at "sm")) hx (.own _) (hk 7 (by decide)) ?_
      walk_at "rd"
      refine rd_isV (he.same (by walk_at "sm")) hx (.own _) (hk 8 (by decide)) ?_
      walk_at "rd"
      refine rd_catG (by walk_at "hg") upd_same (by simp) fun p4 hp4 => ?_
      walk_at "rd"
      refine rd_isV (he.same (by walk_at "sm")) hx (.own _) (hk 9 (by decide)) ?_
      walk_at "rd"
      refine rd_catG (by walk_at "hg") upd_same (by simp) fun p5 hp5 => ?_
      walk_at "rd"
      refine rd_isV (he.same (by walk_at "sm")) hx (.own _) (hk 10 (by decide)) ?_
      walk_at "rd"
      refine rd_isV (he.same (by walk_at "sm")) hx (.own _) (hk 11 (by decide)) ?_
      walk_at "rd"
      refine rd_catG (by walk_at "hg") upd_same (by simp) fun p6 hp6 => ?_
      walk_at "rd"
      refine rd_isV (he.same (by walk_at "sm")) hx (.own _) (hk 12 (by decide)) ?_
      walk_at "rd"
      refine rd_catG (by walk_at "hg") upd_same (by simp) fun p7 hp7 => ?_
      exact q _ _ (by walk_at "sm") (Same.free (by walk_at "sm") hp7) upd_same
    ) only [↓lt_eq]
theorem ok_law {f : Addr} {fd : FuncData} {f_pool : Addr} {fd_pool : FuncData} {f_take : Addr} {fd_take : FuncData} {f_errors : Addr} {fd_errors : FuncData} {f_named : Addr} {fd_named : FuncData} {f_field : Addr} {fd_field : FuncData} {f_bases : Addr} {fd_bases : FuncData} {f_classes : Addr} {fd_classes : FuncData} {C_InvalidCommand : Addr} {C_InvalidJoint : Addr} {C_InvalidNumber : Addr} {C_InvalidPlace : Addr} {C_InvalidPlan : Addr} {C_InvalidSound : Addr} {C_InvalidStream : Addr} {C_InvalidTables : Addr} {C_JoinError : Addr} {C_LimitExceeded : Addr} {C_NothingToUndo : Addr} {C_ParseError : Addr} {C_ScriptError : Addr} {C_UnknownName : Addr}   (D : Dn K mg "law" s_law ["_law_script"] f fd) (bi : Bi mg) (G_pool : FnOk P w K mg base CX0 1 f_pool fd_pool ["_law_script", "_law_k"] (spPool K)) (D_pool : Dn K mg "_law_pool" s_pool ["_law_script", "_law_k"] f_pool fd_pool) (G_take : FnOk P w K mg base CX0 1 f_take fd_take ["_law_pool_here", "_law_many"] spTake) (D_take : Dn K mg "_law_take" s_take ["_law_pool_here", "_law_many"] f_take fd_take) (G_errors : FnOk P w K mg base CX0 3 f_errors fd_errors ["_law_one"] (spErrs (fun H v i x => ErrRow H (c13 C_InvalidNumber C_InvalidJoint C_InvalidSound C_InvalidTables C_InvalidPlan C_InvalidStream C_InvalidCommand C_ParseError C_ScriptError C_InvalidPlace C_UnknownName C_LimitExceeded C_NothingToUndo) v i x))) (D_errors : Dn K mg "_law_errors" s_errors ["_law_one"] f_errors fd_errors) (G_named : FnOk P w K mg base CX0 3 f_named fd_named ["_law_one"] (spErrs (fun H v i x => ErrOne H (c13 C_InvalidNumber C_InvalidJoint C_InvalidSound C_InvalidTables C_InvalidPlan C_InvalidStream C_InvalidCommand C_ParseError C_ScriptError C_InvalidPlace C_UnknownName C_LimitExceeded C_NothingToUndo) v i x))) (D_named : Dn K mg "_law_named" s_named ["_law_one"] f_named fd_named) (G_field : FnOk P w K mg base CX0 1 f_field fd_field ["_law_error", "_law_way"] (spField K)) (D_field : Dn K mg "_law_field" s_field ["_law_error", "_law_way"] f_field fd_field) (G_bases : FnOk P w K mg base CX0 1 f_bases fd_bases ["_law_error"] (spFlags K 8 (tB C_JoinError))) (D_bases : Dn K mg "_law_bases" s_bases ["_law_error"] f_bases fd_bases) (G_classes : FnOk P w K mg base CX0 1 f_classes fd_classes ["_law_error"] (spFlags K 13 (fun j => .ref ((c13 C_InvalidNumber C_InvalidJoint C_InvalidSound C_InvalidTables C_InvalidPlan C_InvalidStream C_InvalidCommand C_ParseError C_ScriptError C_InvalidPlace C_UnknownName C_LimitExceeded C_NothingToUndo) j)))) (D_classes : Dn K mg "_law_classes" s_classes ["_law_error"] f_classes fd_classes)   (T_InvalidStream : ErrV P w K mg base "InvalidStream" "index" C_InvalidStream) (g_repr : mg "repr" = none) (kt : KitE K C_JoinError (c13 C_InvalidNumber C_InvalidJoint C_InvalidSound C_InvalidTables C_InvalidPlan C_InvalidStream C_InvalidCommand C_ParseError C_ScriptError C_InvalidPlace C_UnknownName C_LimitExceeded C_NothingToUndo)) : FnG P w K mg base CX0 4 f fd ["_law_script"] (spLaw K) := by
  refine lt_out ?_
  simp (disch := with_unfolding_all
    refine fnG_of D.F sc_law (fun vs H Q E h => ?_) (fun cdv A outer s H vs Q E hr hg h => ?_)
    · obtain ⟨a, ns, rfl, _⟩ := h
      rfl
    · obtain ⟨a, ns, rfl, hS, hl, q⟩ := h
      refine ⟨_, (pss_cons (ps_set (i := 1) sc_law.nd rfl (Or.inl rfl) (pe_op op_cat (pe_op op_rep (pe_lst (pa_cons (pe_lst (pa_cons pe_int (pa_cons pe_int pa_nil))) pa_nil)) pe_int) (pe_lst (pa_cons (pe_lst (pa_cons pe_int (pa_cons pe_int pa_nil))) (pa_cons (pe_lst (pa_cons pe_int (pa_cons pe_int pa_nil))) (pa_cons (pe_lst (pa_cons pe_int pa_nil)) (pa_cons (pe_lst (pa_cons pe_int pa_nil)) pa_nil)))))))
   (pss_cons (ps_for PassesOwn.never rfl (pi_range1 (by rfl) bi.range_ (pa_cons (pe_callB (cMax rfl) (by rfl) bi.max_ (by decide +kernel) (pa_cons pe_int (pa_cons (pe_callB (cMin rfl) (by rfl) bi.min_ (by decide +kernel) (pa_cons pe_int (pa_cons (pe_callB cLen (by rfl) bi.len_ (by decide +kernel) (pa_cons (pv 0) pa_nil)) pa_nil))) pa_nil))) pa_nil)) (pg_name (i := 2) sc_law.nd rfl (Or.inl rfl))
   (pss_cons (ps_set (i := 3) sc_law.nd rfl (Or.inl rfl) (pe_call G_pool (hr.mono (by first | decide | exact Nat.le_refl _)) (by rfl) D_pool.g D_pool.F.kp D_pool.b .nil pass0 (pa_cons (pv 0) (pa_cons (pv 2) pa_nil))))
   (pss_one (ps_for PassesOwn.never rfl (pi_list (pe_lst (pa_cons (pe_ix ix_list (pe_lst (pa_cons pe_non (pa_cons pe_bl (pa_cons (pe_un un_neg pe_int) (pa_cons pe_int (pa_cons pe_str (pa_cons pe_str (pa_cons (pe_tup (pa_cons pe_int (pa_cons pe_int pa_nil))) (pa_cons (pe_lst (pa_cons pe_int pa_nil)) (pa_cons pe_dnewK (pa_cons (pe_op op_pow pe_int pe_int) pa_nil))))))))))) (pe_call G_take (hr.mono (by first | decide | exact Nat.le_refl _)) (by rfl) D_take.g D_take.F.kp D_take.b .nil pass0 (pa_cons (pv 3) (pa_cons pe_int pa_nil))) (fun _ _ => rfl)) (pa_cons pe_non pa_nil)))) (pg_name (i := 4) sc_law.nd rfl (Or.inl rfl))
   (pss_cons (ps_par (i := 5) (j := 6) rfl sc_law.nd rfl rfl (by decide) rfl rfl (pa_cons (pe_call G_errors (hr.mono (by first | decide | exact Nat.le_refl _)) (by rfl) D_errors.g D_errors.F.kp D_errors.b .nil pass0 (pa_cons (pv 4) pa_nil)) (pa_cons (pe_call G_named (hr.mono (by first | decide | exact Nat.le_refl _)) (by rfl) D_named.g D_named.F.kp D_named.b .nil pass0 (pa_cons (pv 4) pa_nil)) pa_nil)) rfl)
   (pss_one (ps_for PassesOwn.never rfl (pi_range1 (by rfl) bi.range_ (pa_cons pe_int pa_nil)) (pg_name (i := 7) sc_law.nd rfl (Or.inl rfl))
   (pss_cons (ps_asg (pe_ix ix_list (pv 5) (pv 7) (fun _ _ => rfl)) (pg_lst rfl (pgs_cons (pg_name (i := 8) sc_law.nd rfl (Or.inr rfl)) (pgs_cons (pg_name (i := 9) sc_law.nd rfl (Or.inl rfl)) pgs_nil))))
   (pss_cons (ps_if (pt_cmpR op_ne (pe_callB (call_reprA hr hg) (by rfl) g_repr (by decide +kernel) (pa_cons (pe_call G_field (hr.mono (by first | decide | exact Nat.le_refl _)) (by rfl) D_field.g D_field.F.kp D_field.b .nil pass0 (pa_cons (pv 8) (pa_cons (pv 9) pa_nil))) pa_nil)) (pe_callB (call_reprA hr hg) (by rfl) g_repr (by decide +kernel) (pa_cons (pv 4) pa_nil)) (nomark _))
   (pss_one (ps_ret pe_bl))
   pss_nil)
   (pss_cons (ps_if (pt_cmpR op_ne (pe_callB (call_reprA hr hg) (by rfl) g_repr (by decide +kernel) (pa_cons (pe_call G_field (hr.mono (by first | decide | exact Nat.le_refl _)) (by rfl) D_field.g D_field.F.kp D_field.b .nil pass0 (pa_cons (pe_ix ix_list (pv 6) (pv 7) (fun _ _ => rfl)) (pa_cons (pv 9) pa_nil))) pa_nil)) (pe_callB (call_reprA hr hg) (by rfl) g_repr (by decide +kernel) (pa_cons (pv 4) pa_nil)) (nomark _))
   (pss_one (ps_ret pe_bl))
   pss_nil)
   (pss_cons (ps_set (i := 10) sc_law.nd rfl (Or.inl rfl) (pe_ix ix_list (pv 1) (pv 7) (fun _ _ => rfl)))
   (pss_cons (ps_if (pt_cmpR (op_neD hr.units) (pe_lc (own := [("_law_at", 11)]) (g := gName 11) (tt := _) rfl sc_law.nd (pi_range1 (by rfl) bi.range_ (pa_cons pe_int pa_nil)) (blkOk_by (N := ["_law_script", "_law_rows", "_law_k", "_law_pool_here", "_law_one", "_law_errors_here", "_law_named_here", "_law_place", "_law_error", "_law_way", "_law_due", "_law_at", "_law_kept"]) (sc := defScope s_law) (by decide +kernel)) (fun _ _ _ _ _ => pg_name (i := 11) sc_law.nd rfl (Or.inl rfl)) (fun _ _ _ _ _ => (pts_one (pt_val (pe_ix (show IxR _ (rIxL K) from ix_list) (pe_call G_bases (hr.mono (by first | decide | exact Nat.le_refl _)) (by rfl) D_bases.g D_bases.F.kp D_bases.b .nil pass0 (pa_cons (pv 8) pa_nil)) (pv 11) (fun _ _ => rfl))))) (fun _ _ _ _ _ => (pv 11))) (pv 10) (nomark _))
   (pss_one (ps_ret pe_bl))
   pss_nil)
   (pss_one (ps_if (pt_cmpR (op_neD hr.units) (pe_lc (own := [("_law_at", 11)]) (g := gName 11) (tt := _) rfl sc_law.nd (pi_range1 (by rfl) bi.range_ (pa_cons pe_int pa_nil)) (blkOk_by (N := ["_law_script", "_law_rows", "_law_k", "_law_pool_here", "_law_one", "_law_errors_here", "_law_named_here", "_law_place", "_law_error", "_law_way", "_law_due", "_law_at", "_law_kept"]) (sc := defScope s_law) (by decide +kernel)) (fun _ _ _ _ _ => pg_name (i := 11) sc_law.nd rfl (Or.inl rfl)) (fun _ _ _ _ _ => (pts_one (pt_val (pe_ix (show IxR _ (rIxL K) from ix_list) (pe_call G_classes (hr.mono (by first | decide | exact Nat.le_refl _)) (by rfl) D_classes.g D_classes.F.kp D_classes.b .nil pass0 (pa_cons (pv 8) pa_nil)) (pv 11) (fun _ _ => rfl))))) (fun _ _ _ _ _ => (pv 11))) (pe_lst (pa_cons (pv 7) pa_nil)) (nomark _))
   (pss_one (ps_ret pe_bl))
   pss_nil))))))))))))))
   (pss_cons (ps_set (i := 12) sc_law.nd rfl (Or.inl rfl) (pe_lst (pa_cons pe_int pa_nil)))
   (pss_cons (ps_set (i := 8) sc_law.nd rfl (Or.inr rfl) (pe_err T_InvalidStream (hr.mono (by first | decide | exact Nat.le_refl _)) (pv 12)))
   (pss_cons (ps_expr (pe_bm PySem.F.plainAttrs_list PySem.F.slot_list_append PySem.F.type_list_append mt_append (pv 12) (pa_cons pe_int pa_nil)))
   (pss_one (ps_ret (pe_cmpR (op_eqD hr.units) (pe_erF (pv 8)) (pe_lst (pa_cons pe_int (pa_cons pe_int pa_nil))) (nomark _))))))))), ?_⟩
      refine rd_start (σ := [some (.ref a), none, none, none, none, none, none, none, none, none, none, none, none]) rfl ?_
      walk_at "rd"
      refine ⟨_, _, _, rfl, rfl, upd_same, by decide, by decide, Nat.le_of_ble_eq_true rfl, fun r9 hr9 => ?_⟩
      walk_at "rd"
      refine rd_catG (by walk_at "hg") upd_same (by simp) fun R hR => ?_
      walk_at "rd"
      have hn := mm_nat2 (ns.map V.int).length 10 (by decide)
      refine for_range (lo := 0) (n := _) (fun i σ H' => ∃ x2 x3 x4 x5 x6 x7 x8 x9 x10 x11 x12, σ = [some (.ref a), some (.ref R), x2, x3, x4, x5, x6, x7, x8, x9, x10, x11, x12] ∧ RowsN H' R ∧ Same H H') ⟨none, none, none, none, none, none, none, none, none, none, none, rfl, ?_, by walk_at "sm"⟩ (fun i σ H1 hi hI => ?_) (fun σ H1 hI => ?_)
      · refine ⟨_, upd_same, rfl, fun i x e => ?_⟩
        rcases i with _ | _ | _ | _ | _ | _ | _ | _ | _ | _ | _ | _ | _ | i
        · obtain rfl : V.ref _ = x := Option.some.inj e
          exact ⟨_, rfl, (show _ = some (HO.lst [.int 0, .int 1]) by walk_at "hg")⟩
        · obtain rfl : V.ref _ = x := Option.some.inj e
          exact ⟨_, rfl, (show _ = some (HO.lst [.int 0, .int 1]) by walk_at "hg")⟩
        · obtain rfl : V.ref _ = x := Option.some.inj e
          exact ⟨_, rfl, (show _ = some (HO.lst [.int 0, .int 1]) by walk_at "hg")⟩
        · obtain rfl : V.ref _ = x := Option.some.inj e
          exact ⟨_, rfl, (show _ = some (HO.lst [.int 0, .int 1]) by walk_at "hg")⟩
        · obtain rfl : V.ref _ = x := Option.some.inj e
          exact ⟨_, rfl, (show _ = some (HO.lst [.int 0, .int 1]) by walk_at "hg")⟩
        · obtain rfl : V.ref _ = x := Option.some.inj e
          exact ⟨_, rfl, (show _ = some (HO.lst [.int 0, .int 1]) by walk_at "hg")⟩
        · obtain rfl : V.ref _ = x := Option.some.inj e
          exact ⟨_, rfl, (show _ = some (HO.lst [.int 0, .int 1]) by walk_at "hg")⟩
        · obtain rfl : V.ref _ = x := Option.some.inj e
          exact ⟨_, rfl, (show _ = some (HO.lst [.int 0, .int 1]) by walk_at "hg")⟩
        · obtain rfl : V.ref _ = x := Option.some.inj e
          exact ⟨_, rfl, (show _ = some (HO.lst [.int 0, .int 1]) by walk_at "hg")⟩
        · obtain rfl : V.ref _ = x := Option.some.inj e
          exact ⟨_, rfl, (show _ = some (HO.lst [.int 2, .int 6]) by walk_at "hg")⟩
        · obtain rfl : V.ref _ = x := Option.some.inj e
          exact ⟨_, rfl, (show _ = some (HO.lst [.int 3, .int 6]) by walk_at "hg")⟩
        · obtain rfl : V.ref _ = x := Option.some.inj e
          exact ⟨_, rfl, (show _ = some (HO.lst [.int 4]) by walk_at "hg")⟩
        · obtain rfl : V.ref _ = x := Option.some.inj e
          exact ⟨_, rfl, (show _ = some (HO.lst [.int 5]) by walk_at "hg")⟩
        · exact absurd e (by simp)
      · obtain ⟨x2, x3, x4, x5, x6, x7, x8, x9, x10, x11, x12, rfl, hRow, hs⟩ := hI
        have hi' : i < 10 := Nat.lt_of_lt_of_le hi hn
        have hS1 : SqL K H1 a (ns.map V.int) := hs.seq hS
        walk_at "rd"
        rename_i p H2 hp0 hs2 hP2 tp htp ls hls
        intro dc hdc
        walk_at "rd"
        rename_i L hL r H3 h30 h31 hP3 hK3
        refine' rd_ixP (fun v => RvV H3 v) ?e h30 ?h1 ?hP fun v hv => ?_
        (case e => exact SqL.of (by walk_at "hg"))
        (case h1 => exact h31)
        (case hP =>
          intro v hv
          simp only [List.mem_cons, List.not_mem_nil, or_false] at hv
          rcases hv with rfl | rfl | rfl | rfl | rfl | rfl | rfl | rfl | rfl | rfl
          · exact .inl True.intro
          · exact .inl True.intro
          · exact .inl (by show _ < _; decide +kernel)
          · exact .inl (by show _ < _; decide +kernel)
          · exact .inl (by show _ ≤ _; decide +kernel)
          · exact .inl (by show _ ≤ _; decide +kernel)
          · exact .inr ⟨_, rfl, .inr (.inr (by walk_at "hg"))⟩
          · exact .inr ⟨_, rfl, .inr (.inl (by walk_at "hg"))⟩
          · exact .inr ⟨_, rfl, .inl (by walk_at "hg")⟩
          · exact .inl (by show _ < _; decide +kernel))
        have h13 : Same H1 H3 := close_turn (Same.refl H1) hp0 (hs2.trans (by walk_at "sm")) hK3
        have hR3 : RowsN H3 R := hRow.same h13
        have hA3 : Same H H3 := hs.trans h13
        clear hK3
        walk_at "rd"
        rename_i M hM
        refine ⟨M, rfl, ⟨_, SqL.of upd_same⟩, ?_⟩
        refine for_list (xs := [v, .non]) (fun j σ H' => ∃ y2 y4 y5 y6 y7 y8 y9 y10 y11 y12, σ = [some (.ref a), some (.ref R), y2, some (.ref p), y4, y5, y6, y7, y8, y9, y10, y11, y12] ∧ Same (upd H3 M (.lst [v, .non])) H') ⟨_, _, _, _, _, _, _, _, _, _, rfl, Same.refl _⟩ (fun j σ H4 _ hI => ?_) (fun j v' σ H4 hv' hI => ?_) (fun σ H4 hI => ?_)
        · obtain ⟨y2, y4, y5, y6, y7, y8, y9, y10, y11, y12, rfl, hs4⟩ := hI
          exact SqL.of (hs4 _ _ upd_same)
        · obtain ⟨y2, y4, y5, y6, y7, y8, y9, y10, y11, y12, rfl, hs4⟩ := hI
          have hs34 : Same H3 H4 := (same_new hM).trans hs4
          have hv4 : RvV H4 v' := by
            rcases j with _ | _ | j
            · obtain rfl : v = v' := Option.some.inj hv'
              exact hv.same hs34
            · obtain rfl : V.non = v' := Option.some.inj hv'
              exact .inl True.intro
            · exact absurd hv' (by simp)
          have hR4 := hR3.same hs34
          clear hv hv' hR3 hRow
          walk_at "rd"
          refine ⟨_, rfl, fun r5 xs5 H5 n5 s5 e5 l5 hx5 => ?_⟩
          walk_at "rd"
          refine ⟨_, rfl, fun r6 xs6 H6 n6 s6 e6 l6 hx6 => ?_⟩
          have e56 := s6 _ _ e5
          have hv6 := hv4.same (s5.trans s6)
          have hR6 := hR4.same (s5.trans s6)
          obtain ⟨t, ht⟩ := RvV.text (K := K) hv6
          walk_at "rd"
          refine for_range (lo := 0) (n := 13) (fun m σ H' => ∃ z2 z7 z8 z9 z10 z11 z12, σ = [some (.ref a), some (.ref R), z2, some (.ref p), some v', some (.ref r5), some (.ref r6), z7, z8, z9, z10, z11, z12] ∧ Same H6 H') ⟨_, _, _, _, _, _, _, rfl, Same.refl _⟩ (fun m σ H7 hm hI => ?_) (fun σ H7 hI => ?_)
          · obtain ⟨z2, z7, z8, z9, z10, z11, z12, rfl, s67⟩ := hI
            walk_at "rd"
            rw [Int.zero_add]
            have hm : m < 13 := hm
            obtain ⟨x, ex⟩ : ∃ x, xs5[m]? = some x := ⟨_, List.getElem?_eq_getElem (by omega)⟩
            obtain ⟨p5, a5, rfl, ep5, ev5⟩ := hx5 m x ex
            have ev5 := ev5.same (s6.trans s67)
            have ep5 := s67 _ _ (s6 _ _ ep5)
            refine ⟨r5, xs5, (m : Int), _, rfl, rfl, SqL.of (s67 _ _ e56), atI_nat ex, ?_⟩
            obtain ⟨kx, kc, kn, kb, k1⟩ := kt m hm
            refine ⟨p5, _, rfl, SqL.of ep5, rfl, ?_⟩
            walk_at "rd"
            refine ⟨a5, _, v', wayN m, rfl, way_le m, kx, kn, ev5, ?_⟩
            walk_at "rd"
            refine ht _ _ s67 ?_
            walk_at "rd"
            refine ht _ _ s67 ?_
            walk_at "rd"
            refine if_noN rfl ?_
            walk_at "rd"
            obtain ⟨y, ey⟩ : ∃ y, xs6[m]? = some y := ⟨_, List.getElem?_eq_getElem (by omega)⟩
            obtain ⟨a6, rfl, ev6⟩ := hx6 m y ey
            refine ⟨r6, xs6, (m : Int), _, rfl, rfl, SqL.of (s67 _ _ e6), atI_nat ey, ?_⟩
            walk_at "rd"
            refine ⟨a6, _, v', wayN m, rfl, way_le m, kx, kn, ev6.same s67, ?_⟩
            walk_at "rd"
            refine ht _ _ s67 ?_
            walk_at "rd"
            refine ht _ _ s67 ?_
            walk_at "rd"
            refine if_noN rfl ?_
            walk_at "rd"
            obtain ⟨xsR, eR, lR, hRw⟩ := hR6.same s67
            obtain ⟨d, ed⟩ : ∃ d, xsR[m]? = some d := ⟨_, List.getElem?_eq_getElem (by omega)⟩
            obtain ⟨pd, rfl, epd⟩ := hRw m d ed
            refine ⟨R, xsR, (m : Int), _, rfl, rfl, SqL.of eR, atI_nat ed, ?_⟩
            walk_at "rd"
            rename_i D8 hD8
            refine lc_filtS (fun j => (dueN m).contains j) (fun _ => rfl) hD8 (by decide) (fun j Hx qx hj hsx hq => ?_) (fun x Hx Q' hq => ?_) (fun H8 s8 e8 => ?_)
            · have hj : j < 8 := hj
              walk_at "rd"
              refine ⟨a5, _, _, fun j => (dueN m).contains j, rfl, ev5.same hsx, kc, kb, fun rf Hf sf nf ef => ?_⟩
              walk_at "rd"
              refine ⟨rf, _, (j : Int), _, rfl, rfl, SqL.of ef, atI_nat (show (flagL 8 fun j => (dueN m).contains j)[j]? = some (.bl ((dueN m).contains j)) by simp [flagL, hj]), ?_⟩
              exact ⟨_, rfl, hq _ sf⟩
            · walk_at "rd"
              exact hq
            have e8' : H8 D8 = some (.lst (((dueN m).map fun j => ((j : Nat) : Int)).map V.int)) := by
              rw [e8, show (Int.toNat 8) = 8 from rfl, due_filter m hm, List.map_map]
              rfl
            have epd' : H7 pd = some (.lst (((dueN m).map fun j => ((j : Nat) : Int)).map V.int)) := by
              rw [epd, List.map_map]
              rfl
            walk_at "rd"
            refine if_noN rfl ?_
            walk_at "rd"
            rename_i D13 hD13
            refine lc_filtS (fun j => m == j) (fun _ => rfl) hD13 (by decide) (fun j Hx qx hj hsx hq => ?_) (fun x Hx Q' hq => ?_) (fun H9 s9 e9 => ?_)
            · have hj : j < 13 := hj
              walk_at "rd"
              refine ⟨a5, _, _, fun j => m == j, rfl, ev5.same (s8.trans hsx), kc, k1, fun rf Hf sf nf ef => ?_⟩
              walk_at "rd"
              refine ⟨rf, _, (j : Int), _, rfl, rfl, SqL.of ef, atI_nat (show (flagL 13 fun j => m == j)[j]? = some (.bl (m == j)) by simp [flagL, hj]), ?_⟩
              exact ⟨_, rfl, hq _ sf⟩
            · walk_at "rd"
              exact hq
            have e9' : H9 D13 = some (.lst (([(m : Int)]).map V.int)) := by
              rw [e9, show (Int.toNat 13) = 13 from rfl, one_filter m hm]
              rfl
            walk_at "rd"
            rename_i N hN
            refine rd_neL (ns := [(m : Int)]) (ms := [(m : Int)]) (SqL.of ((upd_ne (ne_of_none e9' hN)).trans e9')) (SqL.of upd_same) ⟨_, rfl, if_noN rfl ?_⟩
            walk_at "rd"
            exact ⟨_, _, _, _, _, _, _, rfl, ((s67.trans s8).trans s9).trans (same_new hN)⟩
          · obtain ⟨z2, z7, z8, z9, z10, z11, z12, rfl, s67⟩ := hI
            walk_at "rd"
            exact ⟨_, _, _, _, _, _, _, _, _, _, rfl, ((hs4.trans s5).trans s6).trans s67⟩
        · obtain ⟨y2, y4, y5, y6, y7, y8, y9, y10, y11, y12, rfl, hs4⟩ := hI
          walk_at "rd"
          exact ⟨_, _, _, _, _, _, _, _, _, _, _, rfl, hR3.same ((same_new hM).trans hs4), hA3.trans ((same_new hM).trans hs4)⟩
      · obtain ⟨x2, x3, x4, x5, x6, x7, x8, x9, x10, x11, x12, rfl, hRow, hs⟩ := hI
        walk_at "rd"
        rename_i kp hkp
        refine rd_err rfl fun e He ne se he => ?_
        have ek : He kp = some (.lst [.int 1]) := se _ _ upd_same
        walk_at "rd"
        refine rd_appI (xs := [1]) ek (by decide) ?_
        walk_at "rd"
        refine rd_erF rfl T_InvalidStream.xf T_InvalidStream.noF (he.set ek) ?_
        walk_at "rd"
        rename_i N hN
        refine rd_eqL (ns := [1, 2]) (ms := [1, 2]) (SqL.of ((upd_ne (ne_of_none upd_same hN)).trans upd_same)) (SqL.of upd_same) ?_
        rw [decide_eq_true rfl]
        walk_at "rd"
        exact q _
    ) only [↓lt_eq]
end
theorem mkD_pool {K : PySem.W.Frag} {h : Heap} {mg : Str → Option Value} (X : K.In h) (G : h.Ns mainGlobals mg) {f : Addr} {od an : Option Addr} {sl : Array (Option Value)} {oc kV dc pm cd ct : Value} (a : PySem.W.nsIn K mainGlobals "_law_pool" = some (some (.ref f))) (lk : K.lookup f = some ⟨oc, od, .func (PySem.W.fnOf "_law_pool" "_law_pool" (defArgs s_pool) (defBody s_pool) (defScope s_pool) .none kV dc pm an cd ct), sl⟩) (c : PySem.W.codeIn K cd "_law_pool" = true) (k : PySem.W.keepIn K (.ref f) = true) : Dn K mg "_law_pool" s_pool ["_law_script", "_law_k"] f (PySem.W.fnOf "_law_pool" "_law_pool" (defArgs s_pool) (defBody s_pool) (defScope s_pool) .none kV dc pm an cd ct) := by
  have F := fun_mk (st := s_pool) lk c k
  exact ⟨F, PySem.W.mg_of X G a, F.binds (ps := ["_law_script", "_law_k"]) fun _ _ _ _ _ _ us hl => match us, hl with | [_, _], _ => rfl⟩
theorem mkD_take {K : PySem.W.Frag} {h : Heap} {mg : Str → Option Value} (X : K.In h) (G : h.Ns mainGlobals mg) {f : Addr} {od an : Option Addr} {sl : Array (Option Value)} {oc kV dc pm cd ct : Value} (a : PySem.W.nsIn K mainGlobals "_law_take" = some (some (.ref f))) (lk : K.lookup f = some ⟨oc, od, .func (PySem.W.fnOf "_law_take" "_law_take" (defArgs s_take) (defBody s_take) (defScope s_take) .none kV dc pm an cd ct), sl⟩) (c : PySem.W.codeIn K cd "_law_take" = true) (k : PySem.W.keepIn K (.ref f) = true) : Dn K mg "_law_take" s_take ["_law_pool_here", "_law_many"] f (PySem.W.fnOf "_law_take" "_law_take" (defArgs s_take) (defBody s_take) (defScope s_take) .none kV dc pm an cd ct) := by
  have F := fun_mk (st := s_take) lk c k
  exact ⟨F, PySem.W.mg_of X G a, F.binds (ps := ["_law_pool_here", "_law_many"]) fun _ _ _ _ _ _ us hl => match us, hl with | [_, _], _ => rfl⟩
theorem mkD_errors {K : PySem.W.Frag} {h : Heap} {mg : Str → Option Value} (X : K.In h) (G : h.Ns mainGlobals mg) {f : Addr} {od an : Option Addr} {sl : Array (Option Value)} {oc kV dc pm cd ct : Value} (a : PySem.W.nsIn K mainGlobals "_law_errors" = some (some (.ref f))) (lk : K.lookup f = some ⟨oc, od, .func (PySem.W.fnOf "_law_errors" "_law_errors" (defArgs s_errors) (defBody s_errors) (defScope s_errors) .none kV dc pm an cd ct), sl⟩) (c : PySem.W.codeIn K cd "_law_errors" = true) (k : PySem.W.keepIn K (.ref f) = true) : Dn K mg "_law_errors" s_errors ["_law_one"] f (PySem.W.fnOf "_law_errors" "_law_errors" (defArgs s_errors) (defBody s_errors) (defScope s_errors) .none kV dc pm an cd ct) := by
  have F := fun_mk (st := s_errors) lk c k
  exact ⟨F, PySem.W.mg_of X G a, F.binds (ps := ["_law_one"]) fun _ _ _ _ _ _ us hl => match us, hl with | [_], _ => rfl⟩
theorem mkD_named {K : PySem.W.Frag} {h : Heap} {mg : Str → Option Value} (X : K.In h) (G : h.Ns mainGlobals mg) {f : Addr} {od an : Option Addr} {sl : Array (Option Value)} {oc kV dc pm cd ct : Value} (a : PySem.W.nsIn K mainGlobals "_law_named" = some (some (.ref f))) (lk : K.lookup f = some ⟨oc, od, .func (PySem.W.fnOf "_law_named" "_law_named" (defArgs s_named) (defBody s_named) (defScope s_named) .none kV dc pm an cd ct), sl⟩) (c : PySem.W.codeIn K cd "_law_named" = true) (k : PySem.W.keepIn K (.ref f) = true) : Dn K mg "_law_named" s_named ["_law_one"] f (PySem.W.fnOf "_law_named" "_law_named" (defArgs s_named) (defBody s_named) (defScope s_named) .none kV dc pm an cd ct) := by
  have F := fun_mk (st := s_named) lk c k
  exact ⟨F, PySem.W.mg_of X G a, F.binds (ps := ["_law_one"]) fun _ _ _ _ _ _ us hl => match us, hl with | [_], _ => rfl⟩
theorem mkD_field {K : PySem.W.Frag} {h : Heap} {mg : Str → Option Value} (X : K.In h) (G : h.Ns mainGlobals mg) {f : Addr} {od an : Option Addr} {sl : Array (Option Value)} {oc kV dc pm cd ct : Value} (a : PySem.W.nsIn K mainGlobals "_law_field" = some (some (.ref f))) (lk : K.lookup f = some ⟨oc, od, .func (PySem.W.fnOf "_law_field" "_law_field" (defArgs s_field) (defBody s_field) (defScope s_field) .none kV dc pm an cd ct), sl⟩) (c : PySem.W.codeIn K cd "_law_field" = true) (k : PySem.W.keepIn K (.ref f) = true) : Dn K mg "_law_field" s_field ["_law_error", "_law_way"] f (PySem.W.fnOf "_law_field" "_law_field" (defArgs s_field) (defBody s_field) (defScope s_field) .none kV dc pm an cd ct) := by
  have F := fun_mk (st := s_field) lk c k
  exact ⟨F, PySem.W.mg_of X G a, F.binds (ps := ["_law_error", "_law_way"]) fun _ _ _ _ _ _ us hl => match us, hl with | [_, _], _ => rfl⟩
theorem mkD_bases {K : PySem.W.Frag} {h : Heap} {mg : Str → Option Value} (X : K.In h) (G : h.Ns mainGlobals mg) {f : Addr} {od an : Option Addr} {sl : Array (Option Value)} {oc kV dc pm cd ct : Value} (a : PySem.W.nsIn K mainGlobals "_law_bases" = some (some (.ref f))) (lk : K.lookup f = some ⟨oc, od, .func (PySem.W.fnOf "_law_bases" "_law_bases" (defArgs s_bases) (defBody s_bases) (defScope s_bases) .none kV dc pm an cd ct), sl⟩) (c : PySem.W.codeIn K cd "_law_bases" = true) (k : PySem.W.keepIn K (.ref f) = true) : Dn K mg "_law_bases" s_bases ["_law_error"] f (PySem.W.fnOf "_law_bases" "_law_bases" (defArgs s_bases) (defBody s_bases) (defScope s_bases) .none kV dc pm an cd ct) := by
  have F := fun_mk (st := s_bases) lk c k
  exact ⟨F, PySem.W.mg_of X G a, F.binds (ps := ["_law_error"]) fun _ _ _ _ _ _ us hl => match us, hl with | [_], _ => rfl⟩
theorem mkD_classes {K : PySem.W.Frag} {h : Heap} {mg : Str → Option Value} (X : K.In h) (G : h.Ns mainGlobals mg) {f : Addr} {od an : Option Addr} {sl : Array (Option Value)} {oc kV dc pm cd ct : Value} (a : PySem.W.nsIn K mainGlobals "_law_classes" = some (some (.ref f))) (lk : K.lookup f = some ⟨oc, od, .func (PySem.W.fnOf "_law_classes" "_law_classes" (defArgs s_classes) (defBody s_classes) (defScope s_classes) .none kV dc pm an cd ct), sl⟩) (c : PySem.W.codeIn K cd "_law_classes" = true) (k : PySem.W.keepIn K (.ref f) = true) : Dn K mg "_law_classes" s_classes ["_law_error"] f (PySem.W.fnOf "_law_classes" "_law_classes" (defArgs s_classes) (defBody s_classes) (defScope s_classes) .none kV dc pm an cd ct) := by
  have F := fun_mk (st := s_classes) lk c k
  exact ⟨F, PySem.W.mg_of X G a, F.binds (ps := ["_law_error"]) fun _ _ _ _ _ _ us hl => match us, hl with | [_], _ => rfl⟩
theorem all_mk {l : PySem.W.OpenLaw} {w : World} {K : PySem.W.Frag} {h : Heap} {mg : Str → Option Value} {fa : Addr} (X : K.In h) (G : h.Ns mainGlobals mg) (hfa : mg "law" = some (.ref fa))
    {f_pool : Addr} {fd_pool : FuncData}
    {f_take : Addr} {fd_take : FuncData}
    {f_errors : Addr} {fd_errors : FuncData}
    {f_named : Addr} {fd_named : FuncData}
    {f_field : Addr} {fd_field : FuncData}
    {f_bases : Addr} {fd_bases : FuncData}
    {f_classes : Addr} {fd_classes : FuncData}
    {f_law : Addr} {od_law an_law : Option Addr} {sl_law : Array (Option Value)} {oc_law kV_law dc_law pm_law cd_law ct_law : Value}
    (D_pool : Dn K mg "_law_pool" s_pool ["_law_script", "_law_k"] f_pool fd_pool)
    (D_take : Dn K mg "_law_take" s_take ["_law_pool_here", "_law_many"] f_take fd_take)
    (D_errors : Dn K mg "_law_errors" s_errors ["_law_one"] f_errors fd_errors)
    (D_named : Dn K mg "_law_named" s_named ["_law_one"] f_named fd_named)
    (D_field : Dn K mg "_law_field" s_field ["_law_error", "_law_way"] f_field fd_field)
    (D_bases : Dn K mg "_law_bases" s_bases ["_law_error"] f_bases fd_bases)
    (D_classes : Dn K mg "_law_classes" s_classes ["_law_error"] f_classes fd_classes)
    (a_law : PySem.W.nsIn K mainGlobals "law" = some (some (.ref f_law))) (l_law : K.lookup f_law = some ⟨oc_law, od_law, .func (PySem.W.fnOf "law" "law" (defArgs s_law) (defBody s_law) (defScope s_law) .none kV_law dc_law pm_law an_law cd_law ct_law), sl_law⟩) (c_law : PySem.W.codeIn K cd_law "law" = true) (k_law : PySem.W.keepIn K (.ref f_law) = true)
    (z_int : PySem.W.nsIn K mainGlobals "int" = some none)
    (z_bool : PySem.W.nsIn K mainGlobals "bool" = some none)
    (z_str : PySem.W.nsIn K mainGlobals "str" = some none)
    (z_list : PySem.W.nsIn K mainGlobals "list" = some none)
    (z_tuple : PySem.W.nsIn K mainGlobals "tuple" = some none)
    (z_len : PySem.W.nsIn K mainGlobals "len" = some none)
    (z_abs : PySem.W.nsIn K mainGlobals "abs" = some none)
    (z_max : PySem.W.nsIn K mainGlobals "max" = some none)
    (z_min : PySem.W.nsIn K mainGlobals "min" = some none)
    (z_range : PySem.W.nsIn K mainGlobals "range" = some none)
    (z_zip : PySem.W.nsIn K mainGlobals "zip" = some none)
    (z_isinstance : PySem.W.nsIn K mainGlobals "isinstance" = some none)
    (z_enumerate : PySem.W.nsIn K mainGlobals "enumerate" = some none)
    (z_reversed : PySem.W.nsIn K mainGlobals "reversed" = some none)
    (z_ValueError : PySem.W.nsIn K mainGlobals "ValueError" = some none)
    (z_IndexError : PySem.W.nsIn K mainGlobals "IndexError" = some none)
    (z_KeyError : PySem.W.nsIn K mainGlobals "KeyError" = some none)
    (z_OverflowError : PySem.W.nsIn K mainGlobals "OverflowError" = some none)
    (z_RuntimeError : PySem.W.nsIn K mainGlobals "RuntimeError" = some none)
    (z_LookupError : PySem.W.nsIn K mainGlobals "LookupError" = some none)
    (z_TypeError : PySem.W.nsIn K mainGlobals "TypeError" = some none)
    (z_repr : PySem.W.nsIn K mainGlobals "repr" = some none)
    {C_JoinError C_InvalidNumber C_InvalidJoint C_InvalidSound C_InvalidTables C_InvalidPlan C_InvalidStream C_InvalidCommand C_ParseError C_ScriptError C_InvalidPlace C_UnknownName C_LimitExceeded C_NothingToUndo : Addr}
    (x_JoinError : PySem.W.nsIn K mainGlobals "JoinError" = some (some (.ref C_JoinError)))
    (x_InvalidNumber : PySem.W.nsIn K mainGlobals "InvalidNumber" = some (some (.ref C_InvalidNumber)))
    (x_InvalidJoint : PySem.W.nsIn K mainGlobals "InvalidJoint" = some (some (.ref C_InvalidJoint)))
    (x_InvalidSound : PySem.W.nsIn K mainGlobals "InvalidSound" = some (some (.ref C_InvalidSound)))
    (x_InvalidTables : PySem.W.nsIn K mainGlobals "InvalidTables" = some (some (.ref C_InvalidTables)))
    (x_InvalidPlan : PySem.W.nsIn K mainGlobals "InvalidPlan" = some (some (.ref C_InvalidPlan)))
    (x_InvalidStream : PySem.W.nsIn K mainGlobals "InvalidStream" = some (some (.ref C_InvalidStream)))
    (x_InvalidCommand : PySem.W.nsIn K mainGlobals "InvalidCommand" = some (some (.ref C_InvalidCommand)))
    (x_ParseError : PySem.W.nsIn K mainGlobals "ParseError" = some (some (.ref C_ParseError)))
    (x_ScriptError : PySem.W.nsIn K mainGlobals "ScriptError" = some (some (.ref C_ScriptError)))
    (x_InvalidPlace : PySem.W.nsIn K mainGlobals "InvalidPlace" = some (some (.ref C_InvalidPlace)))
    (x_UnknownName : PySem.W.nsIn K mainGlobals "UnknownName" = some (some (.ref C_UnknownName)))
    (x_LimitExceeded : PySem.W.nsIn K mainGlobals "LimitExceeded" = some (some (.ref C_LimitExceeded)))
    (x_NothingToUndo : PySem.W.nsIn K mainGlobals "NothingToUndo" = some (some (.ref C_NothingToUndo)))
    {N_InvalidNumber fI_InvalidNumber : Addr} {nm_InvalidNumber qn_InvalidNumber : Str} {bs_InvalidNumber : List Value} {sn_InvalidNumber : List Str} {sb_InvalidNumber : List Value} {ab_InvalidNumber : Bool} {co_InvalidNumber : Option Bool} {dd_InvalidNumber : Option Addr} {m0_InvalidNumber m1_InvalidNumber m2_InvalidNumber m3_InvalidNumber m5_InvalidNumber : Option Value} {odi_InvalidNumber ani_InvalidNumber : Option Addr} {sli_InvalidNumber : Array (Option Value)} {oci_InvalidNumber kVi_InvalidNumber dci_InvalidNumber pmi_InvalidNumber cdi_InvalidNumber cti_InvalidNumber : Value}
    (xl_InvalidNumber : K.lookup C_InvalidNumber = some (PySem.excClassObj nm_InvalidNumber qn_InvalidNumber C_InvalidNumber N_InvalidNumber bs_InvalidNumber [.ref C_JoinError, .type "ValueError", .type "Exception", .type "BaseException", .type "object"] true sn_InvalidNumber sb_InvalidNumber ab_InvalidNumber co_InvalidNumber dd_InvalidNumber m0_InvalidNumber m1_InvalidNumber m2_InvalidNumber m3_InvalidNumber m5_InvalidNumber "ValueError.__new__"))
    (sa_InvalidNumber : PySem.W.findIn K (.ref C_InvalidNumber) "__setattr__" = some (some (.builtin "object.__setattr__")))
    (ga_InvalidNumber : PySem.W.findIn K (.ref C_InvalidNumber) "__getattribute__" = some (some (.builtin "BaseException.__getattribute__")))
    (gg_InvalidNumber : PySem.W.findIn K (.ref C_InvalidNumber) "__getattr__" = some none)
    (nf_InvalidNumber : PySem.W.findIn K (.ref C_InvalidNumber) "value" = some none)
    (ic_InvalidNumber : PySem.W.findIn K (.ref C_InvalidNumber) "__init__" = some (some (.ref fI_InvalidNumber)))
    (ti_InvalidNumber : PySem.W.typeIn K (.ref fI_InvalidNumber) = some (.type "function"))
    (cac_InvalidNumber : PySem.W.findIn K (.ref C_InvalidNumber) "__class__" = some (some (.builtin "object.__class__")))
    (cmc_InvalidNumber : PySem.W.mroIn K C_InvalidNumber (.type "object") = some true)
    (kc_InvalidNumber : PySem.W.keepIn K (.ref C_InvalidNumber) = true)
    (sB_InvalidNumber : PySem.W.subIn K (.ref C_InvalidNumber) (.type "BaseException") = some true)
    (tc_InvalidNumber : PySem.W.typeIn K (.ref C_InvalidNumber) = some (.type "type"))
    (hd_InvalidNumber : PySem.W.hasDictIn K C_InvalidNumber = true)
    (ss_InvalidNumber : PySem.W.subIn K (.ref C_InvalidNumber) (.ref C_InvalidNumber) = some true)
    (li_InvalidNumber : K.lookup fI_InvalidNumber = some ⟨oci_InvalidNumber, odi_InvalidNumber, .func (PySem.W.fnOf "__init__" "InvalidNumber.__init__" (defArgs s_init_InvalidNumber) (defBody s_init_InvalidNumber) (defScope s_init_InvalidNumber) .none kVi_InvalidNumber dci_InvalidNumber pmi_InvalidNumber ani_InvalidNumber cdi_InvalidNumber cti_InvalidNumber), sli_InvalidNumber⟩)
    (ci_InvalidNumber : PySem.W.codeIn K cdi_InvalidNumber "InvalidNumber.__init__" = true)
    (ki_InvalidNumber : PySem.W.keepIn K (.ref fI_InvalidNumber) = true)
    {N_InvalidJoint fI_InvalidJoint : Addr} {nm_InvalidJoint qn_InvalidJoint : Str} {bs_InvalidJoint : List Value} {sn_InvalidJoint : List Str} {sb_InvalidJoint : List Value} {ab_InvalidJoint : Bool} {co_InvalidJoint : Option Bool} {dd_InvalidJoint : Option Addr} {m0_InvalidJoint m1_InvalidJoint m2_InvalidJoint m3_InvalidJoint m5_InvalidJoint : Option Value} {odi_InvalidJoint ani_InvalidJoint : Option Addr} {sli_InvalidJoint : Array (Option Value)} {oci_InvalidJoint kVi_InvalidJoint dci_InvalidJoint pmi_InvalidJoint cdi_InvalidJoint cti_InvalidJoint : Value}
    (xl_InvalidJoint : K.lookup C_InvalidJoint = some (PySem.excClassObj nm_InvalidJoint qn_InvalidJoint C_InvalidJoint N_InvalidJoint bs_InvalidJoint [.ref C_JoinError, .type "ValueError", .type "Exception", .type "BaseException", .type "object"] true sn_InvalidJoint sb_InvalidJoint ab_InvalidJoint co_InvalidJoint dd_InvalidJoint m0_InvalidJoint m1_InvalidJoint m2_InvalidJoint m3_InvalidJoint m5_InvalidJoint "ValueError.__new__"))
    (sa_InvalidJoint : PySem.W.findIn K (.ref C_InvalidJoint) "__setattr__" = some (some (.builtin "object.__setattr__")))
    (ga_InvalidJoint : PySem.W.findIn K (.ref C_InvalidJoint) "__getattribute__" = some (some (.builtin "BaseException.__getattribute__")))
    (gg_InvalidJoint : PySem.W.findIn K (.ref C_InvalidJoint) "__getattr__" = some none)
    (nf_InvalidJoint : PySem.W.findIn K (.ref C_InvalidJoint) "value" = some none)
    (ic_InvalidJoint : PySem.W.findIn K (.ref C_InvalidJoint) "__init__" = some (some (.ref fI_InvalidJoint)))
    (ti_InvalidJoint : PySem.W.typeIn K (.ref fI_InvalidJoint) = some (.type "function"))
    (cac_InvalidJoint : PySem.W.findIn K (.ref C_InvalidJoint) "__class__" = some (some (.builtin "object.__class__")))
    (cmc_InvalidJoint : PySem.W.mroIn K C_InvalidJoint (.type "object") = some true)
    (kc_InvalidJoint : PySem.W.keepIn K (.ref C_InvalidJoint) = true)
    (sB_InvalidJoint : PySem.W.subIn K (.ref C_InvalidJoint) (.type "BaseException") = some true)
    (tc_InvalidJoint : PySem.W.typeIn K (.ref C_InvalidJoint) = some (.type "type"))
    (hd_InvalidJoint : PySem.W.hasDictIn K C_InvalidJoint = true)
    (ss_InvalidJoint : PySem.W.subIn K (.ref C_InvalidJoint) (.ref C_InvalidJoint) = some true)
    (li_InvalidJoint : K.lookup fI_InvalidJoint = some ⟨oci_InvalidJoint, odi_InvalidJoint, .func (PySem.W.fnOf "__init__" "InvalidJoint.__init__" (defArgs s_init_InvalidJoint) (defBody s_init_InvalidJoint) (defScope s_init_InvalidJoint) .none kVi_InvalidJoint dci_InvalidJoint pmi_InvalidJoint ani_InvalidJoint cdi_InvalidJoint cti_InvalidJoint), sli_InvalidJoint⟩)
    (ci_InvalidJoint : PySem.W.codeIn K cdi_InvalidJoint "InvalidJoint.__init__" = true)
    (ki_InvalidJoint : PySem.W.keepIn K (.ref fI_InvalidJoint) = true)
    {N_InvalidSound fI_InvalidSound : Addr} {nm_InvalidSound qn_InvalidSound : Str} {bs_InvalidSound : List Value} {sn_InvalidSound : List Str} {sb_InvalidSound : List Value} {ab_InvalidSound : Bool} {co_InvalidSound : Option Bool} {dd_InvalidSound : Option Addr} {m0_InvalidSound m1_InvalidSound m2_InvalidSound m3_InvalidSound m5_InvalidSound : Option Value} {odi_InvalidSound ani_InvalidSound : Option Addr} {sli_InvalidSound : Array (Option Value)} {oci_InvalidSound kVi_InvalidSound dci_InvalidSound pmi_InvalidSound cdi_InvalidSound cti_InvalidSound : Value}
    (xl_InvalidSound : K.lookup C_InvalidSound = some (PySem.excClassObj nm_InvalidSound qn_InvalidSound C_InvalidSound N_InvalidSound bs_InvalidSound [.ref C_JoinError, .type "ValueError", .type "Exception", .type "BaseException", .type "object"] true sn_InvalidSound sb_InvalidSound ab_InvalidSound co_InvalidSound dd_InvalidSound m0_InvalidSound m1_InvalidSound m2_InvalidSound m3_InvalidSound m5_InvalidSound "ValueError.__new__"))
    (sa_InvalidSound : PySem.W.findIn K (.ref C_InvalidSound) "__setattr__" = some (some (.builtin "object.__setattr__")))
    (ga_InvalidSound : PySem.W.findIn K (.ref C_InvalidSound) "__getattribute__" = some (some (.builtin "BaseException.__getattribute__")))
    (gg_InvalidSound : PySem.W.findIn K (.ref C_InvalidSound) "__getattr__" = some none)
    (nf_InvalidSound : PySem.W.findIn K (.ref C_InvalidSound) "index" = some none)
    (ic_InvalidSound : PySem.W.findIn K (.ref C_InvalidSound) "__init__" = some (some (.ref fI_InvalidSound)))
    (ti_InvalidSound : PySem.W.typeIn K (.ref fI_InvalidSound) = some (.type "function"))
    (cac_InvalidSound : PySem.W.findIn K (.ref C_InvalidSound) "__class__" = some (some (.builtin "object.__class__")))
    (cmc_InvalidSound : PySem.W.mroIn K C_InvalidSound (.type "object") = some true)
    (kc_InvalidSound : PySem.W.keepIn K (.ref C_InvalidSound) = true)
    (sB_InvalidSound : PySem.W.subIn K (.ref C_InvalidSound) (.type "BaseException") = some true)
    (tc_InvalidSound : PySem.W.typeIn K (.ref C_InvalidSound) = some (.type "type"))
    (hd_InvalidSound : PySem.W.hasDictIn K C_InvalidSound = true)
    (ss_InvalidSound : PySem.W.subIn K (.ref C_InvalidSound) (.ref C_InvalidSound) = some true)
    (li_InvalidSound : K.lookup fI_InvalidSound = some ⟨oci_InvalidSound, odi_InvalidSound, .func (PySem.W.fnOf "__init__" "InvalidSound.__init__" (defArgs s_init_InvalidSound) (defBody s_init_InvalidSound) (defScope s_init_InvalidSound) .none kVi_InvalidSound dci_InvalidSound pmi_InvalidSound ani_InvalidSound cdi_InvalidSound cti_InvalidSound), sli_InvalidSound⟩)
    (ci_InvalidSound : PySem.W.codeIn K cdi_InvalidSound "InvalidSound.__init__" = true)
    (ki_InvalidSound : PySem.W.keepIn K (.ref fI_InvalidSound) = true)
    {N_InvalidTables fI_InvalidTables : Addr} {nm_InvalidTables qn_InvalidTables : Str} {bs_InvalidTables : List Value} {sn_InvalidTables : List Str} {sb_InvalidTables : List Value} {ab_InvalidTables : Bool} {co_InvalidTables : Option Bool} {dd_InvalidTables : Option Addr} {m0_InvalidTables m1_InvalidTables m2_InvalidTables m3_InvalidTables m5_InvalidTables : Option Value} {odi_InvalidTables ani_InvalidTables : Option Addr} {sli_InvalidTables : Array (Option Value)} {oci_InvalidTables kVi_InvalidTables dci_InvalidTables pmi_InvalidTables cdi_InvalidTables cti_InvalidTables : Value}
    (xl_InvalidTables : K.lookup C_InvalidTables = some (PySem.excClassObj nm_InvalidTables qn_InvalidTables C_InvalidTables N_InvalidTables bs_InvalidTables [.ref C_JoinError, .type "ValueError", .type "Exception", .type "BaseException", .type "object"] true sn_InvalidTables sb_InvalidTables ab_InvalidTables co_InvalidTables dd_InvalidTables m0_InvalidTables m1_InvalidTables m2_InvalidTables m3_InvalidTables m5_InvalidTables "ValueError.__new__"))
    (sa_InvalidTables : PySem.W.findIn K (.ref C_InvalidTables) "__setattr__" = some (some (.builtin "object.__setattr__")))
    (ga_InvalidTables : PySem.W.findIn K (.ref C_InvalidTables) "__getattribute__" = some (some (.builtin "BaseException.__getattribute__")))
    (gg_InvalidTables : PySem.W.findIn K (.ref C_InvalidTables) "__getattr__" = some none)
    (nf_InvalidTables : PySem.W.findIn K (.ref C_InvalidTables) "value" = some none)
    (ic_InvalidTables : PySem.W.findIn K (.ref C_InvalidTables) "__init__" = some (some (.ref fI_InvalidTables)))
    (ti_InvalidTables : PySem.W.typeIn K (.ref fI_InvalidTables) = some (.type "function"))
    (cac_InvalidTables : PySem.W.findIn K (.ref C_InvalidTables) "__class__" = some (some (.builtin "object.__class__")))
    (cmc_InvalidTables : PySem.W.mroIn K C_InvalidTables (.type "object") = some true)
    (kc_InvalidTables : PySem.W.keepIn K (.ref C_InvalidTables) = true)
    (sB_InvalidTables : PySem.W.subIn K (.ref C_InvalidTables) (.type "BaseException") = some true)
    (tc_InvalidTables : PySem.W.typeIn K (.ref C_InvalidTables) = some (.type "type"))
    (hd_InvalidTables : PySem.W.hasDictIn K C_InvalidTables = true)
    (ss_InvalidTables : PySem.W.subIn K (.ref C_InvalidTables) (.ref C_InvalidTables) = some true)
    (li_InvalidTables : K.lookup fI_InvalidTables = some ⟨oci_InvalidTables, odi_InvalidTables, .func (PySem.W.fnOf "__init__" "InvalidTables.__init__" (defArgs s_init_InvalidTables) (defBody s_init_InvalidTables) (defScope s_init_InvalidTables) .none kVi_InvalidTables dci_InvalidTables pmi_InvalidTables ani_InvalidTables cdi_InvalidTables cti_InvalidTables), sli_InvalidTables⟩)
    (ci_InvalidTables : PySem.W.codeIn K cdi_InvalidTables "InvalidTables.__init__" = true)
    (ki_InvalidTables : PySem.W.keepIn K (.ref fI_InvalidTables) = true)
    {N_InvalidPlan fI_InvalidPlan : Addr} {nm_InvalidPlan qn_InvalidPlan : Str} {bs_InvalidPlan : List Value} {sn_InvalidPlan : List Str} {sb_InvalidPlan : List Value} {ab_InvalidPlan : Bool} {co_InvalidPlan : Option Bool} {dd_InvalidPlan : Option Addr} {m0_InvalidPlan m1_InvalidPlan m2_InvalidPlan m3_InvalidPlan m5_InvalidPlan : Option Value} {odi_InvalidPlan ani_InvalidPlan : Option Addr} {sli_InvalidPlan : Array (Option Value)} {oci_InvalidPlan kVi_InvalidPlan dci_InvalidPlan pmi_InvalidPlan cdi_InvalidPlan cti_InvalidPlan : Value}
    (xl_InvalidPlan : K.lookup C_InvalidPlan = some (PySem.excClassObj nm_InvalidPlan qn_InvalidPlan C_InvalidPlan N_InvalidPlan bs_InvalidPlan [.ref C_JoinError, .type "ValueError", .type "Exception", .type "BaseException", .type "object"] true sn_InvalidPlan sb_InvalidPlan ab_InvalidPlan co_InvalidPlan dd_InvalidPlan m0_InvalidPlan m1_InvalidPlan m2_InvalidPlan m3_InvalidPlan m5_InvalidPlan "ValueError.__new__"))
    (sa_InvalidPlan : PySem.W.findIn K (.ref C_InvalidPlan) "__setattr__" = some (some (.builtin "object.__setattr__")))
    (ga_InvalidPlan : PySem.W.findIn K (.ref C_InvalidPlan) "__getattribute__" = some (some (.builtin "BaseException.__getattribute__")))
    (gg_InvalidPlan : PySem.W.findIn K (.ref C_InvalidPlan) "__getattr__" = some none)
    (nf_InvalidPlan : PySem.W.findIn K (.ref C_InvalidPlan) "index" = some none)
    (ic_InvalidPlan : PySem.W.findIn K (.ref C_InvalidPlan) "__init__" = some (some (.ref fI_InvalidPlan)))
    (ti_InvalidPlan : PySem.W.typeIn K (.ref fI_InvalidPlan) = some (.type "function"))
    (cac_InvalidPlan : PySem.W.findIn K (.ref C_InvalidPlan) "__class__" = some (some (.builtin "object.__class__")))
    (cmc_InvalidPlan : PySem.W.mroIn K C_InvalidPlan (.type "object") = some true)
    (kc_InvalidPlan : PySem.W.keepIn K (.ref C_InvalidPlan) = true)
    (sB_InvalidPlan : PySem.W.subIn K (.ref C_InvalidPlan) (.type "BaseException") = some true)
    (tc_InvalidPlan : PySem.W.typeIn K (.ref C_InvalidPlan) = some (.type "type"))
    (hd_InvalidPlan : PySem.W.hasDictIn K C_InvalidPlan = true)
    (ss_InvalidPlan : PySem.W.subIn K (.ref C_InvalidPlan) (.ref C_InvalidPlan) = some true)
    (li_InvalidPlan : K.lookup fI_InvalidPlan = some ⟨oci_InvalidPlan, odi_InvalidPlan, .func (PySem.W.fnOf "__init__" "InvalidPlan.__init__" (defArgs s_init_InvalidPlan) (defBody s_init_InvalidPlan) (defScope s_init_InvalidPlan) .none kVi_InvalidPlan dci_InvalidPlan pmi_InvalidPlan ani_InvalidPlan cdi_InvalidPlan cti_InvalidPlan), sli_InvalidPlan⟩)
    (ci_InvalidPlan : PySem.W.codeIn K cdi_InvalidPlan "InvalidPlan.__init__" = true)
    (ki_InvalidPlan : PySem.W.keepIn K (.ref fI_InvalidPlan) = true)
    {N_InvalidStream fI_InvalidStream : Addr} {nm_InvalidStream qn_InvalidStream : Str} {bs_InvalidStream : List Value} {sn_InvalidStream : List Str} {sb_InvalidStream : List Value} {ab_InvalidStream : Bool} {co_InvalidStream : Option Bool} {dd_InvalidStream : Option Addr} {m0_InvalidStream m1_InvalidStream m2_InvalidStream m3_InvalidStream m5_InvalidStream : Option Value} {odi_InvalidStream ani_InvalidStream : Option Addr} {sli_InvalidStream : Array (Option Value)} {oci_InvalidStream kVi_InvalidStream dci_InvalidStream pmi_InvalidStream cdi_InvalidStream cti_InvalidStream : Value}
    (xl_InvalidStream : K.lookup C_InvalidStream = some (PySem.excClassObj nm_InvalidStream qn_InvalidStream C_InvalidStream N_InvalidStream bs_InvalidStream [.ref C_JoinError, .type "ValueError", .type "Exception", .type "BaseException", .type "object"] true sn_InvalidStream sb_InvalidStream ab_InvalidStream co_InvalidStream dd_InvalidStream m0_InvalidStream m1_InvalidStream m2_InvalidStream m3_InvalidStream m5_InvalidStream "ValueError.__new__"))
    (sa_InvalidStream : PySem.W.findIn K (.ref C_InvalidStream) "__setattr__" = some (some (.builtin "object.__setattr__")))
    (ga_InvalidStream : PySem.W.findIn K (.ref C_InvalidStream) "__getattribute__" = some (some (.builtin "BaseException.__getattribute__")))
    (gg_InvalidStream : PySem.W.findIn K (.ref C_InvalidStream) "__getattr__" = some none)
    (nf_InvalidStream : PySem.W.findIn K (.ref C_InvalidStream) "index" = some none)
    (ic_InvalidStream : PySem.W.findIn K (.ref C_InvalidStream) "__init__" = some (some (.ref fI_InvalidStream)))
    (ti_InvalidStream : PySem.W.typeIn K (.ref fI_InvalidStream) = some (.type "function"))
    (cac_InvalidStream : PySem.W.findIn K (.ref C_InvalidStream) "__class__" = some (some (.builtin "object.__class__")))
    (cmc_InvalidStream : PySem.W.mroIn K C_InvalidStream (.type "object") = some true)
    (kc_InvalidStream : PySem.W.keepIn K (.ref C_InvalidStream) = true)
    (sB_InvalidStream : PySem.W.subIn K (.ref C_InvalidStream) (.type "BaseException") = some true)
    (tc_InvalidStream : PySem.W.typeIn K (.ref C_InvalidStream) = some (.type "type"))
    (hd_InvalidStream : PySem.W.hasDictIn K C_InvalidStream = true)
    (ss_InvalidStream : PySem.W.subIn K (.ref C_InvalidStream) (.ref C_InvalidStream) = some true)
    (li_InvalidStream : K.lookup fI_InvalidStream = some ⟨oci_InvalidStream, odi_InvalidStream, .func (PySem.W.fnOf "__init__" "InvalidStream.__init__" (defArgs s_init_InvalidStream) (defBody s_init_InvalidStream) (defScope s_init_InvalidStream) .none kVi_InvalidStream dci_InvalidStream pmi_InvalidStream ani_InvalidStream cdi_InvalidStream cti_InvalidStream), sli_InvalidStream⟩)
    (ci_InvalidStream : PySem.W.codeIn K cdi_InvalidStream "InvalidStream.__init__" = true)
    (ki_InvalidStream : PySem.W.keepIn K (.ref fI_InvalidStream) = true)
    {N_InvalidCommand fI_InvalidCommand : Addr} {nm_InvalidCommand qn_InvalidCommand : Str} {bs_InvalidCommand : List Value} {sn_InvalidCommand : List Str} {sb_InvalidCommand : List Value} {ab_InvalidCommand : Bool} {co_InvalidCommand : Option Bool} {dd_InvalidCommand : Option Addr} {m0_InvalidCommand m1_InvalidCommand m2_InvalidCommand m3_InvalidCommand m5_InvalidCommand : Option Value} {odi_InvalidCommand ani_InvalidCommand : Option Addr} {sli_InvalidCommand : Array (Option Value)} {oci_InvalidCommand kVi_InvalidCommand dci_InvalidCommand pmi_InvalidCommand cdi_InvalidCommand cti_InvalidCommand : Value}
    (xl_InvalidCommand : K.lookup C_InvalidCommand = some (PySem.excClassObj nm_InvalidCommand qn_InvalidCommand C_InvalidCommand N_InvalidCommand bs_InvalidCommand [.ref C_JoinError, .type "ValueError", .type "Exception", .type "BaseException", .type "object"] true sn_InvalidCommand sb_InvalidCommand ab_InvalidCommand co_InvalidCommand dd_InvalidCommand m0_InvalidCommand m1_InvalidCommand m2_InvalidCommand m3_InvalidCommand m5_InvalidCommand "ValueError.__new__"))
    (sa_InvalidCommand : PySem.W.findIn K (.ref C_InvalidCommand) "__setattr__" = some (some (.builtin "object.__setattr__")))
    (ga_InvalidCommand : PySem.W.findIn K (.ref C_InvalidCommand) "__getattribute__" = some (some (.builtin "BaseException.__getattribute__")))
    (gg_InvalidCommand : PySem.W.findIn K (.ref C_InvalidCommand) "__getattr__" = some none)
    (nf_InvalidCommand : PySem.W.findIn K (.ref C_InvalidCommand) "value" = some none)
    (ic_InvalidCommand : PySem.W.findIn K (.ref C_InvalidCommand) "__init__" = some (some (.ref fI_InvalidCommand)))
    (ti_InvalidCommand : PySem.W.typeIn K (.ref fI_InvalidCommand) = some (.type "function"))
    (cac_InvalidCommand : PySem.W.findIn K (.ref C_InvalidCommand) "__class__" = some (some (.builtin "object.__class__")))
    (cmc_InvalidCommand : PySem.W.mroIn K C_InvalidCommand (.type "object") = some true)
    (kc_InvalidCommand : PySem.W.keepIn K (.ref C_InvalidCommand) = true)
    (sB_InvalidCommand : PySem.W.subIn K (.ref C_InvalidCommand) (.type "BaseException") = some true)
    (tc_InvalidCommand : PySem.W.typeIn K (.ref C_InvalidCommand) = some (.type "type"))
    (hd_InvalidCommand : PySem.W.hasDictIn K C_InvalidCommand = true)
    (ss_InvalidCommand : PySem.W.subIn K (.ref C_InvalidCommand) (.ref C_InvalidCommand) = some true)
    (li_InvalidCommand : K.lookup fI_InvalidCommand = some ⟨oci_InvalidCommand, odi_InvalidCommand, .func (PySem.W.fnOf "__init__" "InvalidCommand.__init__" (defArgs s_init_InvalidCommand) (defBody s_init_InvalidCommand) (defScope s_init_InvalidCommand) .none kVi_InvalidCommand dci_InvalidCommand pmi_InvalidCommand ani_InvalidCommand cdi_InvalidCommand cti_InvalidCommand), sli_InvalidCommand⟩)
    (ci_InvalidCommand : PySem.W.codeIn K cdi_InvalidCommand "InvalidCommand.__init__" = true)
    (ki_InvalidCommand : PySem.W.keepIn K (.ref fI_InvalidCommand) = true)
    {N_ParseError fI_ParseError : Addr} {nm_ParseError qn_ParseError : Str} {bs_ParseError : List Value} {sn_ParseError : List Str} {sb_ParseError : List Value} {ab_ParseError : Bool} {co_ParseError : Option Bool} {dd_ParseError : Option Addr} {m0_ParseError m1_ParseError m2_ParseError m3_ParseError m5_ParseError : Option Value} {odi_ParseError ani_ParseError : Option Addr} {sli_ParseError : Array (Option Value)} {oci_ParseError kVi_ParseError dci_ParseError pmi_ParseError cdi_ParseError cti_ParseError : Value}
    (xl_ParseError : K.lookup C_ParseError = some (PySem.excClassObj nm_ParseError qn_ParseError C_ParseError N_ParseError bs_ParseError [.ref C_JoinError, .type "ValueError", .type "Exception", .type "BaseException", .type "object"] true sn_ParseError sb_ParseError ab_ParseError co_ParseError dd_ParseError m0_ParseError m1_ParseError m2_ParseError m3_ParseError m5_ParseError "ValueError.__new__"))
    (sa_ParseError : PySem.W.findIn K (.ref C_ParseError) "__setattr__" = some (some (.builtin "object.__setattr__")))
    (ga_ParseError : PySem.W.findIn K (.ref C_ParseError) "__getattribute__" = some (some (.builtin "BaseException.__getattribute__")))
    (gg_ParseError : PySem.W.findIn K (.ref C_ParseError) "__getattr__" = some none)
    (nf_ParseError : PySem.W.findIn K (.ref C_ParseError) "line" = some none)
    (ic_ParseError : PySem.W.findIn K (.ref C_ParseError) "__init__" = some (some (.ref fI_ParseError)))
    (ti_ParseError : PySem.W.typeIn K (.ref fI_ParseError) = some (.type "function"))
    (cac_ParseError : PySem.W.findIn K (.ref C_ParseError) "__class__" = some (some (.builtin "object.__class__")))
    (cmc_ParseError : PySem.W.mroIn K C_ParseError (.type "object") = some true)
    (kc_ParseError : PySem.W.keepIn K (.ref C_ParseError) = true)
    (sB_ParseError : PySem.W.subIn K (.ref C_ParseError) (.type "BaseException") = some true)
    (tc_ParseError : PySem.W.typeIn K (.ref C_ParseError) = some (.type "type"))
    (hd_ParseError : PySem.W.hasDictIn K C_ParseError = true)
    (ss_ParseError : PySem.W.subIn K (.ref C_ParseError) (.ref C_ParseError) = some true)
    (li_ParseError : K.lookup fI_ParseError = some ⟨oci_ParseError, odi_ParseError, .func (PySem.W.fnOf "__init__" "ParseError.__init__" (defArgs s_init_ParseError) (defBody s_init_ParseError) (defScope s_init_ParseError) .none kVi_ParseError dci_ParseError pmi_ParseError ani_ParseError cdi_ParseError cti_ParseError), sli_ParseError⟩)
    (ci_ParseError : PySem.W.codeIn K cdi_ParseError "ParseError.__init__" = true)
    (ki_ParseError : PySem.W.keepIn K (.ref fI_ParseError) = true)
    {N_ScriptError fI_ScriptError : Addr} {nm_ScriptError qn_ScriptError : Str} {bs_ScriptError : List Value} {sn_ScriptError : List Str} {sb_ScriptError : List Value} {ab_ScriptError : Bool} {co_ScriptError : Option Bool} {dd_ScriptError : Option Addr} {m0_ScriptError m1_ScriptError m2_ScriptError m3_ScriptError m5_ScriptError : Option Value} {odi_ScriptError ani_ScriptError : Option Addr} {sli_ScriptError : Array (Option Value)} {oci_ScriptError kVi_ScriptError dci_ScriptError pmi_ScriptError cdi_ScriptError cti_ScriptError : Value}
    (xl_ScriptError : K.lookup C_ScriptError = some (PySem.excClassObj nm_ScriptError qn_ScriptError C_ScriptError N_ScriptError bs_ScriptError [.ref C_JoinError, .type "ValueError", .type "Exception", .type "BaseException", .type "object"] true sn_ScriptError sb_ScriptError ab_ScriptError co_ScriptError dd_ScriptError m0_ScriptError m1_ScriptError m2_ScriptError m3_ScriptError m5_ScriptError "ValueError.__new__"))
    (sa_ScriptError : PySem.W.findIn K (.ref C_ScriptError) "__setattr__" = some (some (.builtin "object.__setattr__")))
    (ga_ScriptError : PySem.W.findIn K (.ref C_ScriptError) "__getattribute__" = some (some (.builtin "BaseException.__getattribute__")))
    (gg_ScriptError : PySem.W.findIn K (.ref C_ScriptError) "__getattr__" = some none)
    (nf_ScriptError : PySem.W.findIn K (.ref C_ScriptError) "line" = some none)
    (ic_ScriptError : PySem.W.findIn K (.ref C_ScriptError) "__init__" = some (some (.ref fI_ScriptError)))
    (ti_ScriptError : PySem.W.typeIn K (.ref fI_ScriptError) = some (.type "function"))
    (cac_ScriptError : PySem.W.findIn K (.ref C_ScriptError) "__class__" = some (some (.builtin "object.__class__")))
    (cmc_ScriptError : PySem.W.mroIn K C_ScriptError (.type "object") = some true)
    (kc_ScriptError : PySem.W.keepIn K (.ref C_ScriptError) = true)
    (sB_ScriptError : PySem.W.subIn K (.ref C_ScriptError) (.type "BaseException") = some true)
    (tc_ScriptError : PySem.W.typeIn K (.ref C_ScriptError) = some (.type "type"))
    (hd_ScriptError : PySem.W.hasDictIn K C_ScriptError = true)
    (ss_ScriptError : PySem.W.subIn K (.ref C_ScriptError) (.ref C_ScriptError) = some true)
    (li_ScriptError : K.lookup fI_ScriptError = some ⟨oci_ScriptError, odi_ScriptError, .func (PySem.W.fnOf "__init__" "ScriptError.__init__" (defArgs s_init_ScriptError) (defBody s_init_ScriptError) (defScope s_init_ScriptError) .none kVi_ScriptError dci_ScriptError pmi_ScriptError ani_ScriptError cdi_ScriptError cti_ScriptError), sli_ScriptError⟩)
    (ci_ScriptError : PySem.W.codeIn K cdi_ScriptError "ScriptError.__init__" = true)
    (ki_ScriptError : PySem.W.keepIn K (.ref fI_ScriptError) = true)
    {N_InvalidPlace fI_InvalidPlace : Addr} {nm_InvalidPlace qn_InvalidPlace : Str} {bs_InvalidPlace : List Value} {sn_InvalidPlace : List Str} {sb_InvalidPlace : List Value} {ab_InvalidPlace : Bool} {co_InvalidPlace : Option Bool} {dd_InvalidPlace : Option Addr} {m0_InvalidPlace m1_InvalidPlace m2_InvalidPlace m3_InvalidPlace m5_InvalidPlace : Option Value} {odi_InvalidPlace ani_InvalidPlace : Option Addr} {sli_InvalidPlace : Array (Option Value)} {oci_InvalidPlace kVi_InvalidPlace dci_InvalidPlace pmi_InvalidPlace cdi_InvalidPlace cti_InvalidPlace : Value}
    (xl_InvalidPlace : K.lookup C_InvalidPlace = some (PySem.excClassObj nm_InvalidPlace qn_InvalidPlace C_InvalidPlace N_InvalidPlace bs_InvalidPlace [.type "IndexError", .type "LookupError", .type "Exception", .type "BaseException", .type "object"] true sn_InvalidPlace sb_InvalidPlace ab_InvalidPlace co_InvalidPlace dd_InvalidPlace m0_InvalidPlace m1_InvalidPlace m2_InvalidPlace m3_InvalidPlace m5_InvalidPlace "IndexError.__new__"))
    (sa_InvalidPlace : PySem.W.findIn K (.ref C_InvalidPlace) "__setattr__" = some (some (.builtin "object.__setattr__")))
    (ga_InvalidPlace : PySem.W.findIn K (.ref C_InvalidPlace) "__getattribute__" = some (some (.builtin "BaseException.__getattribute__")))
    (gg_InvalidPlace : PySem.W.findIn K (.ref C_InvalidPlace) "__getattr__" = some none)
    (nf_InvalidPlace : PySem.W.findIn K (.ref C_InvalidPlace) "value" = some none)
    (ic_InvalidPlace : PySem.W.findIn K (.ref C_InvalidPlace) "__init__" = some (some (.ref fI_InvalidPlace)))
    (ti_InvalidPlace : PySem.W.typeIn K (.ref fI_InvalidPlace) = some (.type "function"))
    (cac_InvalidPlace : PySem.W.findIn K (.ref C_InvalidPlace) "__class__" = some (some (.builtin "object.__class__")))
    (cmc_InvalidPlace : PySem.W.mroIn K C_InvalidPlace (.type "object") = some true)
    (kc_InvalidPlace : PySem.W.keepIn K (.ref C_InvalidPlace) = true)
    (sB_InvalidPlace : PySem.W.subIn K (.ref C_InvalidPlace) (.type "BaseException") = some true)
    (tc_InvalidPlace : PySem.W.typeIn K (.ref C_InvalidPlace) = some (.type "type"))
    (hd_InvalidPlace : PySem.W.hasDictIn K C_InvalidPlace = true)
    (ss_InvalidPlace : PySem.W.subIn K (.ref C_InvalidPlace) (.ref C_InvalidPlace) = some true)
    (li_InvalidPlace : K.lookup fI_InvalidPlace = some ⟨oci_InvalidPlace, odi_InvalidPlace, .func (PySem.W.fnOf "__init__" "InvalidPlace.__init__" (defArgs s_init_InvalidPlace) (defBody s_init_InvalidPlace) (defScope s_init_InvalidPlace) .none kVi_InvalidPlace dci_InvalidPlace pmi_InvalidPlace ani_InvalidPlace cdi_InvalidPlace cti_InvalidPlace), sli_InvalidPlace⟩)
    (ci_InvalidPlace : PySem.W.codeIn K cdi_InvalidPlace "InvalidPlace.__init__" = true)
    (ki_InvalidPlace : PySem.W.keepIn K (.ref fI_InvalidPlace) = true)
    {N_UnknownName fI_UnknownName : Addr} {nm_UnknownName qn_UnknownName : Str} {bs_UnknownName : List Value} {sn_UnknownName : List Str} {sb_UnknownName : List Value} {ab_UnknownName : Bool} {co_UnknownName : Option Bool} {dd_UnknownName : Option Addr} {m0_UnknownName m1_UnknownName m2_UnknownName m3_UnknownName m5_UnknownName : Option Value} {odi_UnknownName ani_UnknownName : Option Addr} {sli_UnknownName : Array (Option Value)} {oci_UnknownName kVi_UnknownName dci_UnknownName pmi_UnknownName cdi_UnknownName cti_UnknownName : Value}
    (xl_UnknownName : K.lookup C_UnknownName = some (PySem.excClassObj nm_UnknownName qn_UnknownName C_UnknownName N_UnknownName bs_UnknownName [.type "KeyError", .type "LookupError", .type "Exception", .type "BaseException", .type "object"] true sn_UnknownName sb_UnknownName ab_UnknownName co_UnknownName dd_UnknownName m0_UnknownName m1_UnknownName m2_UnknownName m3_UnknownName m5_UnknownName "LookupError.__new__"))
    (sa_UnknownName : PySem.W.findIn K (.ref C_UnknownName) "__setattr__" = some (some (.builtin "object.__setattr__")))
    (ga_UnknownName : PySem.W.findIn K (.ref C_UnknownName) "__getattribute__" = some (some (.builtin "BaseException.__getattribute__")))
    (gg_UnknownName : PySem.W.findIn K (.ref C_UnknownName) "__getattr__" = some none)
    (nf_UnknownName : PySem.W.findIn K (.ref C_UnknownName) "name" = some none)
    (ic_UnknownName : PySem.W.findIn K (.ref C_UnknownName) "__init__" = some (some (.ref fI_UnknownName)))
    (ti_UnknownName : PySem.W.typeIn K (.ref fI_UnknownName) = some (.type "function"))
    (cac_UnknownName : PySem.W.findIn K (.ref C_UnknownName) "__class__" = some (some (.builtin "object.__class__")))
    (cmc_UnknownName : PySem.W.mroIn K C_UnknownName (.type "object") = some true)
    (kc_UnknownName : PySem.W.keepIn K (.ref C_UnknownName) = true)
    (sB_UnknownName : PySem.W.subIn K (.ref C_UnknownName) (.type "BaseException") = some true)
    (tc_UnknownName : PySem.W.typeIn K (.ref C_UnknownName) = some (.type "type"))
    (hd_UnknownName : PySem.W.hasDictIn K C_UnknownName = true)
    (ss_UnknownName : PySem.W.subIn K (.ref C_UnknownName) (.ref C_UnknownName) = some true)
    (li_UnknownName : K.lookup fI_UnknownName = some ⟨oci_UnknownName, odi_UnknownName, .func (PySem.W.fnOf "__init__" "UnknownName.__init__" (defArgs s_init_UnknownName) (defBody s_init_UnknownName) (defScope s_init_UnknownName) .none kVi_UnknownName dci_UnknownName pmi_UnknownName ani_UnknownName cdi_UnknownName cti_UnknownName), sli_UnknownName⟩)
    (ci_UnknownName : PySem.W.codeIn K cdi_UnknownName "UnknownName.__init__" = true)
    (ki_UnknownName : PySem.W.keepIn K (.ref fI_UnknownName) = true)
    {N_LimitExceeded fI_LimitExceeded : Addr} {nm_LimitExceeded qn_LimitExceeded : Str} {bs_LimitExceeded : List Value} {sn_LimitExceeded : List Str} {sb_LimitExceeded : List Value} {ab_LimitExceeded : Bool} {co_LimitExceeded : Option Bool} {dd_LimitExceeded : Option Addr} {m0_LimitExceeded m1_LimitExceeded m2_LimitExceeded m3_LimitExceeded m5_LimitExceeded : Option Value} {odi_LimitExceeded ani_LimitExceeded : Option Addr} {sli_LimitExceeded : Array (Option Value)} {oci_LimitExceeded kVi_LimitExceeded dci_LimitExceeded pmi_LimitExceeded cdi_LimitExceeded cti_LimitExceeded : Value}
    (xl_LimitExceeded : K.lookup C_LimitExceeded = some (PySem.excClassObj nm_LimitExceeded qn_LimitExceeded C_LimitExceeded N_LimitExceeded bs_LimitExceeded [.type "OverflowError", .type "ArithmeticError", .type "Exception", .type "BaseException", .type "object"] true sn_LimitExceeded sb_LimitExceeded ab_LimitExceeded co_LimitExceeded dd_LimitExceeded m0_LimitExceeded m1_LimitExceeded m2_LimitExceeded m3_LimitExceeded m5_LimitExceeded "OverflowError.__new__"))
    (sa_LimitExceeded : PySem.W.findIn K (.ref C_LimitExceeded) "__setattr__" = some (some (.builtin "object.__setattr__")))
    (ga_LimitExceeded : PySem.W.findIn K (.ref C_LimitExceeded) "__getattribute__" = some (some (.builtin "BaseException.__getattribute__")))
    (gg_LimitExceeded : PySem.W.findIn K (.ref C_LimitExceeded) "__getattr__" = some none)
    (nf_LimitExceeded : PySem.W.findIn K (.ref C_LimitExceeded) "limit" = some none)
    (ic_LimitExceeded : PySem.W.findIn K (.ref C_LimitExceeded) "__init__" = some (some (.ref fI_LimitExceeded)))
    (ti_LimitExceeded : PySem.W.typeIn K (.ref fI_LimitExceeded) = some (.type "function"))
    (cac_LimitExceeded : PySem.W.findIn K (.ref C_LimitExceeded) "__class__" = some (some (.builtin "object.__class__")))
    (cmc_LimitExceeded : PySem.W.mroIn K C_LimitExceeded (.type "object") = some true)
    (kc_LimitExceeded : PySem.W.keepIn K (.ref C_LimitExceeded) = true)
    (sB_LimitExceeded : PySem.W.subIn K (.ref C_LimitExceeded) (.type "BaseException") = some true)
    (tc_LimitExceeded : PySem.W.typeIn K (.ref C_LimitExceeded) = some (.type "type"))
    (hd_LimitExceeded : PySem.W.hasDictIn K C_LimitExceeded = true)
    (ss_LimitExceeded : PySem.W.subIn K (.ref C_LimitExceeded) (.ref C_LimitExceeded) = some true)
    (li_LimitExceeded : K.lookup fI_LimitExceeded = some ⟨oci_LimitExceeded, odi_LimitExceeded, .func (PySem.W.fnOf "__init__" "LimitExceeded.__init__" (defArgs s_init_LimitExceeded) (defBody s_init_LimitExceeded) (defScope s_init_LimitExceeded) .none kVi_LimitExceeded dci_LimitExceeded pmi_LimitExceeded ani_LimitExceeded cdi_LimitExceeded cti_LimitExceeded), sli_LimitExceeded⟩)
    (ci_LimitExceeded : PySem.W.codeIn K cdi_LimitExceeded "LimitExceeded.__init__" = true)
    (ki_LimitExceeded : PySem.W.keepIn K (.ref fI_LimitExceeded) = true)
    {N_NothingToUndo fI_NothingToUndo : Addr} {nm_NothingToUndo qn_NothingToUndo : Str} {bs_NothingToUndo : List Value} {sn_NothingToUndo : List Str} {sb_NothingToUndo : List Value} {ab_NothingToUndo : Bool} {co_NothingToUndo : Option Bool} {dd_NothingToUndo : Option Addr} {m0_NothingToUndo m1_NothingToUndo m2_NothingToUndo m3_NothingToUndo m5_NothingToUndo : Option Value} {odi_NothingToUndo ani_NothingToUndo : Option Addr} {sli_NothingToUndo : Array (Option Value)} {oci_NothingToUndo kVi_NothingToUndo dci_NothingToUndo pmi_NothingToUndo cdi_NothingToUndo cti_NothingToUndo : Value}
    (xl_NothingToUndo : K.lookup C_NothingToUndo = some (PySem.excClassObj nm_NothingToUndo qn_NothingToUndo C_NothingToUndo N_NothingToUndo bs_NothingToUndo [.type "RuntimeError", .type "Exception", .type "BaseException", .type "object"] true sn_NothingToUndo sb_NothingToUndo ab_NothingToUndo co_NothingToUndo dd_NothingToUndo m0_NothingToUndo m1_NothingToUndo m2_NothingToUndo m3_NothingToUndo m5_NothingToUndo "RuntimeError.__new__"))
    (sa_NothingToUndo : PySem.W.findIn K (.ref C_NothingToUndo) "__setattr__" = some (some (.builtin "object.__setattr__")))
    (ga_NothingToUndo : PySem.W.findIn K (.ref C_NothingToUndo) "__getattribute__" = some (some (.builtin "BaseException.__getattribute__")))
    (gg_NothingToUndo : PySem.W.findIn K (.ref C_NothingToUndo) "__getattr__" = some none)
    (nf_NothingToUndo : PySem.W.findIn K (.ref C_NothingToUndo) "count" = some none)
    (ic_NothingToUndo : PySem.W.findIn K (.ref C_NothingToUndo) "__init__" = some (some (.ref fI_NothingToUndo)))
    (ti_NothingToUndo : PySem.W.typeIn K (.ref fI_NothingToUndo) = some (.type "function"))
    (cac_NothingToUndo : PySem.W.findIn K (.ref C_NothingToUndo) "__class__" = some (some (.builtin "object.__class__")))
    (cmc_NothingToUndo : PySem.W.mroIn K C_NothingToUndo (.type "object") = some true)
    (kc_NothingToUndo : PySem.W.keepIn K (.ref C_NothingToUndo) = true)
    (sB_NothingToUndo : PySem.W.subIn K (.ref C_NothingToUndo) (.type "BaseException") = some true)
    (tc_NothingToUndo : PySem.W.typeIn K (.ref C_NothingToUndo) = some (.type "type"))
    (hd_NothingToUndo : PySem.W.hasDictIn K C_NothingToUndo = true)
    (ss_NothingToUndo : PySem.W.subIn K (.ref C_NothingToUndo) (.ref C_NothingToUndo) = some true)
    (li_NothingToUndo : K.lookup fI_NothingToUndo = some ⟨oci_NothingToUndo, odi_NothingToUndo, .func (PySem.W.fnOf "__init__" "NothingToUndo.__init__" (defArgs s_init_NothingToUndo) (defBody s_init_NothingToUndo) (defScope s_init_NothingToUndo) .none kVi_NothingToUndo dci_NothingToUndo pmi_NothingToUndo ani_NothingToUndo cdi_NothingToUndo cti_NothingToUndo), sli_NothingToUndo⟩)
    (ci_NothingToUndo : PySem.W.codeIn K cdi_NothingToUndo "NothingToUndo.__init__" = true)
    (ki_NothingToUndo : PySem.W.keepIn K (.ref fI_NothingToUndo) = true)
    (zk : kitB K C_JoinError (c13 C_InvalidNumber C_InvalidJoint C_InvalidSound C_InvalidTables C_InvalidPlan C_InvalidStream C_InvalidCommand C_ParseError C_ScriptError C_InvalidPlace C_UnknownName C_LimitExceeded C_NothingToUndo) = true)
    (cn : PySem.W.specialIn K (.builtin "object.__class__") "__get__" = some (some (.builtin "getset_descriptor.__get__"))) (ct : PySem.W.takesIn K (.builtin "object.__class__") = some true)
    : ∃ fd : FuncData, (∀ (s : Shared) (v : Value), BindsTo s fd ⟨[v], []⟩ [("_law_script", v)]) ∧ ∀ base : Heap, K.In base → base.Ns mainGlobals mg → FnG l.prog w K mg base CX0 4 fa fd ["_law_script"] (spLaw K) := by
  have e := hfa.symm.trans (PySem.W.mg_of X G a_law)
  cases e
  have bi : Bi mg := ⟨PySem.W.mg_none_of X G z_int, PySem.W.mg_none_of X G z_bool, PySem.W.mg_none_of X G z_str, PySem.W.mg_none_of X G z_list, PySem.W.mg_none_of X G z_tuple, PySem.W.mg_none_of X G z_len, PySem.W.mg_none_of X G z_abs, PySem.W.mg_none_of X G z_max, PySem.W.mg_none_of X G z_min, PySem.W.mg_none_of X G z_range, PySem.W.mg_none_of X G z_zip, PySem.W.mg_none_of X G z_isinstance, PySem.W.mg_none_of X G z_enumerate, PySem.W.mg_none_of X G z_reversed⟩
  have F_law := fun_mk (st := s_law) l_law c_law k_law
  have D_law : Dn K mg "law" s_law ["_law_script"] _ _ := ⟨F_law, PySem.W.mg_of X G a_law, F_law.binds (ps := ["_law_script"]) fun _ _ _ _ _ _ us hl => match us, hl with | [_], _ => rfl⟩
  have F_init_InvalidNumber := fun_mk (st := s_init_InvalidNumber) li_InvalidNumber ci_InvalidNumber ki_InvalidNumber
  have B_init_InvalidNumber := F_init_InvalidNumber.binds (ps := ["self", "value"]) fun _ _ _ _ _ _ us hl => match us, hl with | [_, _], _ => rfl
  have E_InvalidNumber : ErC K mg "InvalidNumber" "value" C_InvalidNumber fI_InvalidNumber _ _ := ev_mk mkb_own (sto_own (sto_of PySem.F.store_ValueError)) (PySem.W.mg_of X G x_InvalidNumber) xl_InvalidNumber sa_InvalidNumber ga_InvalidNumber gg_InvalidNumber nf_InvalidNumber ic_InvalidNumber ti_InvalidNumber cac_InvalidNumber cn ct cmc_InvalidNumber kc_InvalidNumber sB_InvalidNumber hd_InvalidNumber
  have F_init_InvalidJoint := fun_mk (st := s_init_InvalidJoint) li_InvalidJoint ci_InvalidJoint ki_InvalidJoint
  have B_init_InvalidJoint := F_init_InvalidJoint.binds (ps := ["self", "value"]) fun _ _ _ _ _ _ us hl => match us, hl with | [_, _], _ => rfl
  have E_InvalidJoint : ErC K mg "InvalidJoint" "value" C_InvalidJoint fI_InvalidJoint _ _ := ev_mk mkb_own (sto_own (sto_of PySem.F.store_ValueError)) (PySem.W.mg_of X G x_InvalidJoint) xl_InvalidJoint sa_InvalidJoint ga_InvalidJoint gg_InvalidJoint nf_InvalidJoint ic_InvalidJoint ti_InvalidJoint cac_InvalidJoint cn ct cmc_InvalidJoint kc_InvalidJoint sB_InvalidJoint hd_InvalidJoint
  have F_init_InvalidSound := fun_mk (st := s_init_InvalidSound) li_InvalidSound ci_InvalidSound ki_InvalidSound
  have B_init_InvalidSound := F_init_InvalidSound.binds (ps := ["self", "index"]) fun _ _ _ _ _ _ us hl => match us, hl with | [_, _], _ => rfl
  have E_InvalidSound : ErC K mg "InvalidSound" "index" C_InvalidSound fI_InvalidSound _ _ := ev_mk mkb_own (sto_own (sto_of PySem.F.store_ValueError)) (PySem.W.mg_of X G x_InvalidSound) xl_InvalidSound sa_InvalidSound ga_InvalidSound gg_InvalidSound nf_InvalidSound ic_InvalidSound ti_InvalidSound cac_InvalidSound cn ct cmc_InvalidSound kc_InvalidSound sB_InvalidSound hd_InvalidSound
  have F_init_InvalidTables := fun_mk (st := s_init_InvalidTables) li_InvalidTables ci_InvalidTables ki_InvalidTables
  have B_init_InvalidTables := F_init_InvalidTables.binds (ps := ["self", "value"]) fun _ _ _ _ _ _ us hl => match us, hl with | [_, _], _ => rfl
  have E_InvalidTables : ErC K mg "InvalidTables" "value" C_InvalidTables fI_InvalidTables _ _ := ev_mk mkb_own (sto_own (sto_of PySem.F.store_ValueError)) (PySem.W.mg_of X G x_InvalidTables) xl_InvalidTables sa_InvalidTables ga_InvalidTables gg_InvalidTables nf_InvalidTables ic_InvalidTables ti_InvalidTables cac_InvalidTables cn ct cmc_InvalidTables kc_InvalidTables sB_InvalidTables hd_InvalidTables
  have F_init_InvalidPlan := fun_mk (st := s_init_InvalidPlan) li_InvalidPlan ci_InvalidPlan ki_InvalidPlan
  have B_init_InvalidPlan := F_init_InvalidPlan.binds (ps := ["self", "index"]) fun _ _ _ _ _ _ us hl => match us, hl with | [_, _], _ => rfl
  have E_InvalidPlan : ErC K mg "InvalidPlan" "index" C_InvalidPlan fI_InvalidPlan _ _ := ev_mk mkb_own (sto_own (sto_of PySem.F.store_ValueError)) (PySem.W.mg_of X G x_InvalidPlan) xl_InvalidPlan sa_InvalidPlan ga_InvalidPlan gg_InvalidPlan nf_InvalidPlan ic_InvalidPlan ti_InvalidPlan cac_InvalidPlan cn ct cmc_InvalidPlan kc_InvalidPlan sB_InvalidPlan hd_InvalidPlan
  have F_init_InvalidStream := fun_mk (st := s_init_InvalidStream) li_InvalidStream ci_InvalidStream ki_InvalidStream
  have B_init_InvalidStream := F_init_InvalidStream.binds (ps := ["self", "index"]) fun _ _ _ _ _ _ us hl => match us, hl with | [_, _], _ => rfl
  have E_InvalidStream : ErC K mg "InvalidStream" "index" C_InvalidStream fI_InvalidStream _ _ := ev_mk mkb_own (sto_own (sto_of PySem.F.store_ValueError)) (PySem.W.mg_of X G x_InvalidStream) xl_InvalidStream sa_InvalidStream ga_InvalidStream gg_InvalidStream nf_InvalidStream ic_InvalidStream ti_InvalidStream cac_InvalidStream cn ct cmc_InvalidStream kc_InvalidStream sB_InvalidStream hd_InvalidStream
  have F_init_InvalidCommand := fun_mk (st := s_init_InvalidCommand) li_InvalidCommand ci_InvalidCommand ki_InvalidCommand
  have B_init_InvalidCommand := F_init_InvalidCommand.binds (ps := ["self", "value"]) fun _ _ _ _ _ _ us hl => match us, hl with | [_, _], _ => rfl
  have E_InvalidCommand : ErC K mg "InvalidCommand" "value" C_InvalidCommand fI_InvalidCommand _ _ := ev_mk mkb_own (sto_own (sto_of PySem.F.store_ValueError)) (PySem.W.mg_of X G x_InvalidCommand) xl_InvalidCommand sa_InvalidCommand ga_InvalidCommand gg_InvalidCommand nf_InvalidCommand ic_InvalidCommand ti_InvalidCommand cac_InvalidCommand cn ct cmc_InvalidCommand kc_InvalidCommand sB_InvalidCommand hd_InvalidCommand
  have F_init_ParseError := fun_mk (st := s_init_ParseError) li_ParseError ci_ParseError ki_ParseError
  have B_init_ParseError := F_init_ParseError.binds (ps := ["self", "line"]) fun _ _ _ _ _ _ us hl => match us, hl with | [_, _], _ => rfl
  have E_ParseError : ErC K mg "ParseError" "line" C_ParseError fI_ParseError _ _ := ev_mk mkb_own (sto_own (sto_of PySem.F.store_ValueError)) (PySem.W.mg_of X G x_ParseError) xl_ParseError sa_ParseError ga_ParseError gg_ParseError nf_ParseError ic_ParseError ti_ParseError cac_ParseError cn ct cmc_ParseError kc_ParseError sB_ParseError hd_ParseError
  have F_init_ScriptError := fun_mk (st := s_init_ScriptError) li_ScriptError ci_ScriptError ki_ScriptError
  have B_init_ScriptError := F_init_ScriptError.binds (ps := ["self", "line"]) fun _ _ _ _ _ _ us hl => match us, hl with | [_, _], _ => rfl
  have E_ScriptError : ErC K mg "ScriptError" "line" C_ScriptError fI_ScriptError _ _ := ev_mk mkb_own (sto_own (sto_of PySem.F.store_ValueError)) (PySem.W.mg_of X G x_ScriptError) xl_ScriptError sa_ScriptError ga_ScriptError gg_ScriptError nf_ScriptError ic_ScriptError ti_ScriptError cac_ScriptError cn ct cmc_ScriptError kc_ScriptError sB_ScriptError hd_ScriptError
  have F_init_InvalidPlace := fun_mk (st := s_init_InvalidPlace) li_InvalidPlace ci_InvalidPlace ki_InvalidPlace
  have B_init_InvalidPlace := F_init_InvalidPlace.binds (ps := ["self", "value"]) fun _ _ _ _ _ _ us hl => match us, hl with | [_, _], _ => rfl
  have E_InvalidPlace : ErC K mg "InvalidPlace" "value" C_InvalidPlace fI_InvalidPlace _ _ := ev_mk (.of PySem.F.excBase_IndexError) (sto_of PySem.F.store_IndexError) (PySem.W.mg_of X G x_InvalidPlace) xl_InvalidPlace sa_InvalidPlace ga_InvalidPlace gg_InvalidPlace nf_InvalidPlace ic_InvalidPlace ti_InvalidPlace cac_InvalidPlace cn ct cmc_InvalidPlace kc_InvalidPlace sB_InvalidPlace hd_InvalidPlace
  have F_init_UnknownName := fun_mk (st := s_init_UnknownName) li_UnknownName ci_UnknownName ki_UnknownName
  have B_init_UnknownName := F_init_UnknownName.binds (ps := ["self", "name"]) fun _ _ _ _ _ _ us hl => match us, hl with | [_, _], _ => rfl
  have E_UnknownName : ErC K mg "UnknownName" "name" C_UnknownName fI_UnknownName _ _ := ev_mk mkb_KeyError sto_KeyError (PySem.W.mg_of X G x_UnknownName) xl_UnknownName sa_UnknownName ga_UnknownName gg_UnknownName nf_UnknownName ic_UnknownName ti_UnknownName cac_UnknownName cn ct cmc_UnknownName kc_UnknownName sB_UnknownName hd_UnknownName
  have F_init_LimitExceeded := fun_mk (st := s_init_LimitExceeded) li_LimitExceeded ci_LimitExceeded ki_LimitExceeded
  have B_init_LimitExceeded := F_init_LimitExceeded.binds (ps := ["self", "limit"]) fun _ _ _ _ _ _ us hl => match us, hl with | [_, _], _ => rfl
  have E_LimitExceeded : ErC K mg "LimitExceeded" "limit" C_LimitExceeded fI_LimitExceeded _ _ := ev_mk (.of PySem.F.excBase_OverflowError) (sto_of PySem.F.store_OverflowError) (PySem.W.mg_of X G x_LimitExceeded) xl_LimitExceeded sa_LimitExceeded ga_LimitExceeded gg_LimitExceeded nf_LimitExceeded ic_LimitExceeded ti_LimitExceeded cac_LimitExceeded cn ct cmc_LimitExceeded kc_LimitExceeded sB_LimitExceeded hd_LimitExceeded
  have F_init_NothingToUndo := fun_mk (st := s_init_NothingToUndo) li_NothingToUndo ci_NothingToUndo ki_NothingToUndo
  have B_init_NothingToUndo := F_init_NothingToUndo.binds (ps := ["self", "count"]) fun _ _ _ _ _ _ us hl => match us, hl with | [_, _], _ => rfl
  have E_NothingToUndo : ErC K mg "NothingToUndo" "count" C_NothingToUndo fI_NothingToUndo _ _ := ev_mk (.of PySem.F.excBase_RuntimeError) (sto_of PySem.F.store_RuntimeError) (PySem.W.mg_of X G x_NothingToUndo) xl_NothingToUndo sa_NothingToUndo ga_NothingToUndo gg_NothingToUndo nf_NothingToUndo ic_NothingToUndo ti_NothingToUndo cac_NothingToUndo cn ct cmc_NothingToUndo kc_NothingToUndo sB_NothingToUndo hd_NothingToUndo
  have g_JoinError := PySem.W.mg_of X G x_JoinError
  have g_InvalidNumber := PySem.W.mg_of X G x_InvalidNumber
  have g_InvalidJoint := PySem.W.mg_of X G x_InvalidJoint
  have g_InvalidSound := PySem.W.mg_of X G x_InvalidSound
  have g_InvalidTables := PySem.W.mg_of X G x_InvalidTables
  have g_InvalidPlan := PySem.W.mg_of X G x_InvalidPlan
  have g_InvalidStream := PySem.W.mg_of X G x_InvalidStream
  have g_InvalidCommand := PySem.W.mg_of X G x_InvalidCommand
  have g_ParseError := PySem.W.mg_of X G x_ParseError
  have g_ScriptError := PySem.W.mg_of X G x_ScriptError
  have g_InvalidPlace := PySem.W.mg_of X G x_InvalidPlace
  have g_UnknownName := PySem.W.mg_of X G x_UnknownName
  have g_LimitExceeded := PySem.W.mg_of X G x_LimitExceeded
  have g_NothingToUndo := PySem.W.mg_of X G x_NothingToUndo
  have g_ValueError := PySem.W.mg_none_of X G z_ValueError
  have g_IndexError := PySem.W.mg_none_of X G z_IndexError
  have g_KeyError := PySem.W.mg_none_of X G z_KeyError
  have g_OverflowError := PySem.W.mg_none_of X G z_OverflowError
  have g_RuntimeError := PySem.W.mg_none_of X G z_RuntimeError
  have g_LookupError := PySem.W.mg_none_of X G z_LookupError
  have g_TypeError := PySem.W.mg_none_of X G z_TypeError
  have g_repr := PySem.W.mg_none_of X G z_repr
  refine ⟨PySem.W.fnOf "law" "law" (defArgs s_law) (defBody s_law) (defScope s_law) .none kV_law dc_law pm_law an_law cd_law ct_law, fun s v => .of_eq rfl, fun base _ _ => ?_⟩
  have T_InvalidNumber : ErrV l.prog w K mg base "InvalidNumber" "value" C_InvalidNumber := ⟨_, _, _, _, E_InvalidNumber, ok_init_InvalidNumber F_init_InvalidNumber E_InvalidNumber, B_init_InvalidNumber, fun _ _ _ => .of_eq rfl⟩
  have T_InvalidJoint : ErrV l.prog w K mg base "InvalidJoint" "value" C_InvalidJoint := ⟨_, _, _, _, E_InvalidJoint, ok_init_InvalidJoint F_init_InvalidJoint E_InvalidJoint, B_init_InvalidJoint, fun _ _ _ => .of_eq rfl⟩
  have T_InvalidSound : ErrV l.prog w K mg base "InvalidSound" "index" C_InvalidSound := ⟨_, _, _, _, E_InvalidSound, ok_init_InvalidSound F_init_InvalidSound E_InvalidSound, B_init_InvalidSound, fun _ _ _ => .of_eq rfl⟩
  have T_InvalidTables : ErrV l.prog w K mg base "InvalidTables" "value" C_InvalidTables := ⟨_, _, _, _, E_InvalidTables, ok_init_InvalidTables F_init_InvalidTables E_InvalidTables, B_init_InvalidTables, fun _ _ _ => .of_eq rfl⟩
  have T_InvalidPlan : ErrV l.prog w K mg base "InvalidPlan" "index" C_InvalidPlan := ⟨_, _, _, _, E_InvalidPlan, ok_init_InvalidPlan F_init_InvalidPlan E_InvalidPlan, B_init_InvalidPlan, fun _ _ _ => .of_eq rfl⟩
  have T_InvalidStream : ErrV l.prog w K mg base "InvalidStream" "index" C_InvalidStream := ⟨_, _, _, _, E_InvalidStream, ok_init_InvalidStream F_init_InvalidStream E_InvalidStream, B_init_InvalidStream, fun _ _ _ => .of_eq rfl⟩
  have T_InvalidCommand : ErrV l.prog w K mg base "InvalidCommand" "value" C_InvalidCommand := ⟨_, _, _, _, E_InvalidCommand, ok_init_InvalidCommand F_init_InvalidCommand E_InvalidCommand, B_init_InvalidCommand, fun _ _ _ => .of_eq rfl⟩
  have T_ParseError : ErrV l.prog w K mg base "ParseError" "line" C_ParseError := ⟨_, _, _, _, E_ParseError, ok_init_ParseError F_init_ParseError E_ParseError, B_init_ParseError, fun _ _ _ => .of_eq rfl⟩
  have T_ScriptError : ErrV l.prog w K mg base "ScriptError" "line" C_ScriptError := ⟨_, _, _, _, E_ScriptError, ok_init_ScriptError F_init_ScriptError E_ScriptError, B_init_ScriptError, fun _ _ _ => .of_eq rfl⟩
  have T_InvalidPlace : ErrV l.prog w K mg base "InvalidPlace" "value" C_InvalidPlace := ⟨_, _, _, _, E_InvalidPlace, ok_init_InvalidPlace F_init_InvalidPlace E_InvalidPlace, B_init_InvalidPlace, fun _ _ _ => .of_eq rfl⟩
  have T_UnknownName : ErrV l.prog w K mg base "UnknownName" "name" C_UnknownName := ⟨_, _, _, _, E_UnknownName, ok_init_UnknownName F_init_UnknownName E_UnknownName, B_init_UnknownName, fun _ _ _ => .of_eq rfl⟩
  have T_LimitExceeded : ErrV l.prog w K mg base "LimitExceeded" "limit" C_LimitExceeded := ⟨_, _, _, _, E_LimitExceeded, ok_init_LimitExceeded F_init_LimitExceeded E_LimitExceeded, B_init_LimitExceeded, fun _ _ _ => .of_eq rfl⟩
  have T_NothingToUndo : ErrV l.prog w K mg base "NothingToUndo" "count" C_NothingToUndo := ⟨_, _, _, _, E_NothingToUndo, ok_init_NothingToUndo F_init_NothingToUndo E_NothingToUndo, B_init_NothingToUndo, fun _ _ _ => .of_eq rfl⟩
  have G_take := ok_take (P := l.prog) (w := w) (base := base) D_take bi     
  have G_pool := ok_pool (P := l.prog) (w := w) (base := base) D_pool bi     
  have G_errors := ok_errors (P := l.prog) (w := w) (base := base) D_errors bi    T_InvalidNumber T_InvalidJoint T_InvalidSound T_InvalidTables T_InvalidPlan T_InvalidStream T_InvalidCommand T_ParseError T_ScriptError T_InvalidPlace T_UnknownName T_LimitExceeded T_NothingToUndo 
  have G_named := ok_named (P := l.prog) (w := w) (base := base) D_named bi    T_InvalidNumber T_InvalidJoint T_InvalidSound T_InvalidTables T_InvalidPlan T_InvalidStream T_InvalidCommand T_ParseError T_ScriptError T_InvalidPlace T_UnknownName T_LimitExceeded T_NothingToUndo 
  have G_field := ok_field (P := l.prog) (w := w) (base := base) D_field bi     
  have G_bases := ok_bases (P := l.prog) (w := w) (base := base) D_bases bi     g_JoinError g_ValueError g_IndexError g_KeyError g_OverflowError g_RuntimeError g_LookupError g_TypeError
  have G_classes := ok_classes (P := l.prog) (w := w) (base := base) D_classes bi     g_InvalidNumber g_InvalidJoint g_InvalidSound g_InvalidTables g_InvalidPlan g_InvalidStream g_InvalidCommand g_ParseError g_ScriptError g_InvalidPlace g_UnknownName g_LimitExceeded g_NothingToUndo
  exact ok_law D_law bi G_pool D_pool G_take D_take G_errors D_errors G_named D_named G_field D_field G_bases D_bases G_classes D_classes   T_InvalidStream g_repr (kitE_of (fun i hi => match i, hi with | 0, _ => ⟨T_InvalidNumber.xf, T_InvalidNumber.ec, T_InvalidNumber.noF⟩ | 1, _ => ⟨T_InvalidJoint.xf, T_InvalidJoint.ec, T_InvalidJoint.noF⟩ | 2, _ => ⟨T_InvalidSound.xf, T_InvalidSound.ec, T_InvalidSound.noF⟩ | 3, _ => ⟨T_InvalidTables.xf, T_InvalidTables.ec, T_InvalidTables.noF⟩ | 4, _ => ⟨T_InvalidPlan.xf, T_InvalidPlan.ec, T_InvalidPlan.noF⟩ | 5, _ => ⟨T_InvalidStream.xf, T_InvalidStream.ec, T_InvalidStream.noF⟩ | 6, _ => ⟨T_InvalidCommand.xf, T_InvalidCommand.ec, T_InvalidCommand.noF⟩ | 7, _ => ⟨T_ParseError.xf, T_ParseError.ec, T_ParseError.noF⟩ | 8, _ => ⟨T_ScriptError.xf, T_ScriptError.ec, T_ScriptError.noF⟩ | 9, _ => ⟨T_InvalidPlace.xf, T_InvalidPlace.ec, T_InvalidPlace.noF⟩ | 10, _ => ⟨T_UnknownName.xf, T_UnknownName.ec, T_UnknownName.noF⟩ | 11, _ => ⟨T_LimitExceeded.xf, T_LimitExceeded.ec, T_LimitExceeded.noF⟩ | 12, _ => ⟨T_NothingToUndo.xf, T_NothingToUndo.ec, T_NothingToUndo.noF⟩ | n + 13, h => absurd h (by omega)) zk)
end Z
open PySem PySem.W PyProof.Rows
set_option maxHeartbeats 0 in
theorem PySem.Challenge.cw_framejoins_k90_error_classes_holds : PySem.Challenge.rw_framejoins_k90_error_classes.Holds := by
  w_on; refine headTop ?_
  k_fill
  refine Z.walk_ofQ (l := PySem.Challenge.rw_framejoins_k90_error_classes) (n := 63) (k := 4) (x := "_law_script") (sp := fun w => Z.spLaw _) rfl (by decide) rfl ⟨rfl, by decide, by decide⟩ (fun w h Y => PySem.W.kIn_of Y) ?F (fun _ _ a ns hl hS => ⟨a, ns, rfl, hS, hl, fun _ => rfl⟩)
  case F =>
    intro w mg fa h KX G hmg
    refine' Z.all_mk KX G hmg (Z.mkD_pool KX G ?a_pool ?l_pool ?c_pool ?k_pool) (Z.mkD_take KX G ?a_take ?l_take ?c_take ?k_take) (Z.mkD_errors KX G ?a_errors ?l_errors ?c_errors ?k_errors) (Z.mkD_named KX G ?a_named ?l_named ?c_named ?k_named) (Z.mkD_field KX G ?a_field ?l_field ?c_field ?k_field) (Z.mkD_bases KX G ?a_bases ?l_bases ?c_bases ?k_bases) (Z.mkD_classes KX G ?a_classes ?l_classes ?c_classes ?k_classes) ?a_law ?l_law ?c_law ?k_law ?z_int ?z_bool ?z_str ?z_list ?z_tuple ?z_len ?z_abs ?z_max ?z_min ?z_range ?z_zip ?z_isinstance ?z_enumerate ?z_reversed ?z_ValueError ?z_IndexError ?z_KeyError ?z_OverflowError ?z_RuntimeError ?z_LookupError ?z_TypeError ?z_repr ?x_JoinError ?x_InvalidNumber ?x_InvalidJoint ?x_InvalidSound ?x_InvalidTables ?x_InvalidPlan ?x_InvalidStream ?x_InvalidCommand ?x_ParseError ?x_ScriptError ?x_InvalidPlace ?x_UnknownName ?x_LimitExceeded ?x_NothingToUndo ?xl_InvalidNumber ?sa_InvalidNumber ?ga_InvalidNumber ?gg_InvalidNumber ?nf_InvalidNumber ?ic_InvalidNumber ?ti_InvalidNumber ?cac_InvalidNumber ?cmc_InvalidNumber ?kc_InvalidNumber ?sB_InvalidNumber ?tc_InvalidNumber ?hd_InvalidNumber ?ss_InvalidNumber ?li_InvalidNumber ?ci_InvalidNumber ?ki_InvalidNumber ?xl_InvalidJoint ?sa_InvalidJoint ?ga_InvalidJoint ?gg_InvalidJoint ?nf_InvalidJoint ?ic_InvalidJoint ?ti_InvalidJoint ?cac_InvalidJoint ?cmc_InvalidJoint ?kc_InvalidJoint ?sB_InvalidJoint ?tc_InvalidJoint ?hd_InvalidJoint ?ss_InvalidJoint ?li_InvalidJoint ?ci_InvalidJoint ?ki_InvalidJoint ?xl_InvalidSound ?sa_InvalidSound ?ga_InvalidSound ?gg_InvalidSound ?nf_InvalidSound ?ic_InvalidSound ?ti_InvalidSound ?cac_InvalidSound ?cmc_InvalidSound ?kc_InvalidSound ?sB_InvalidSound ?tc_InvalidSound ?hd_InvalidSound ?ss_InvalidSound ?li_InvalidSound ?ci_InvalidSound ?ki_InvalidSound ?xl_InvalidTables ?sa_InvalidTables ?ga_InvalidTables ?gg_InvalidTables ?nf_InvalidTables ?ic_InvalidTables ?ti_InvalidTables ?cac_InvalidTables ?cmc_InvalidTables ?kc_InvalidTables ?sB_InvalidTables ?tc_InvalidTables ?hd_InvalidTables ?ss_InvalidTables ?li_InvalidTables ?ci_InvalidTables ?ki_InvalidTables ?xl_InvalidPlan ?sa_InvalidPlan ?ga_InvalidPlan ?gg_InvalidPlan ?nf_InvalidPlan ?ic_InvalidPlan ?ti_InvalidPlan ?cac_InvalidPlan ?cmc_InvalidPlan ?kc_InvalidPlan ?sB_InvalidPlan ?tc_InvalidPlan ?hd_InvalidPlan ?ss_InvalidPlan ?li_InvalidPlan ?ci_InvalidPlan ?ki_InvalidPlan ?xl_InvalidStream ?sa_InvalidStream ?ga_InvalidStream ?gg_InvalidStream ?nf_InvalidStream ?ic_InvalidStream ?ti_InvalidStream ?cac_InvalidStream ?cmc_InvalidStream ?kc_InvalidStream ?sB_InvalidStream ?tc_InvalidStream ?hd_InvalidStream ?ss_InvalidStream ?li_InvalidStream ?ci_InvalidStream ?ki_InvalidStream ?xl_InvalidCommand ?sa_InvalidCommand ?ga_InvalidCommand ?gg_InvalidCommand ?nf_InvalidCommand ?ic_InvalidCommand ?ti_InvalidCommand ?cac_InvalidCommand ?cmc_InvalidCommand ?kc_InvalidCommand ?sB_InvalidCommand ?tc_InvalidCommand ?hd_InvalidCommand ?ss_InvalidCommand ?li_InvalidCommand ?ci_InvalidCommand ?ki_InvalidCommand ?xl_ParseError ?sa_ParseError ?ga_ParseError ?gg_ParseError ?nf_ParseError ?ic_ParseError ?ti_ParseError ?cac_ParseError ?cmc_ParseError ?kc_ParseError ?sB_ParseError ?tc_ParseError ?hd_ParseError ?ss_ParseError ?li_ParseError ?ci_ParseError ?ki_ParseError ?xl_ScriptError ?sa_ScriptError ?ga_ScriptError ?gg_ScriptError ?nf_ScriptError ?ic_ScriptError ?ti_ScriptError ?cac_ScriptError ?cmc_ScriptError ?kc_ScriptError ?sB_ScriptError ?tc_ScriptError ?hd_ScriptError ?ss_ScriptError ?li_ScriptError ?ci_ScriptError ?ki_ScriptError ?xl_InvalidPlace ?sa_InvalidPlace ?ga_InvalidPlace ?gg_InvalidPlace ?nf_InvalidPlace ?ic_InvalidPlace ?ti_InvalidPlace ?cac_InvalidPlace ?cmc_InvalidPlace ?kc_InvalidPlace ?sB_InvalidPlace ?tc_InvalidPlace ?hd_InvalidPlace ?ss_InvalidPlace ?li_InvalidPlace ?ci_InvalidPlace ?ki_InvalidPlace ?xl_UnknownName ?sa_UnknownName ?ga_UnknownName ?gg_UnknownName ?nf_UnknownName ?ic_UnknownName ?ti_UnknownName ?cac_UnknownName ?cmc_UnknownName ?kc_UnknownName ?sB_UnknownName ?tc_UnknownName ?hd_UnknownName ?ss_UnknownName ?li_UnknownName ?ci_UnknownName ?ki_UnknownName ?xl_LimitExceeded ?sa_LimitExceeded ?ga_LimitExceeded ?gg_LimitExceeded ?nf_LimitExceeded ?ic_LimitExceeded ?ti_LimitExceeded ?cac_LimitExceeded ?cmc_LimitExceeded ?kc_LimitExceeded ?sB_LimitExceeded ?tc_LimitExceeded ?hd_LimitExceeded ?ss_LimitExceeded ?li_LimitExceeded ?ci_LimitExceeded ?ki_LimitExceeded ?xl_NothingToUndo ?sa_NothingToUndo ?ga_NothingToUndo ?gg_NothingToUndo ?nf_NothingToUndo ?ic_NothingToUndo ?ti_NothingToUndo ?cac_NothingToUndo ?cmc_NothingToUndo ?kc_NothingToUndo ?sB_NothingToUndo ?tc_NothingToUndo ?hd_NothingToUndo ?ss_NothingToUndo ?li_NothingToUndo ?ci_NothingToUndo ?ki_NothingToUndo ?zk ?cn ?ct
    (case a_pool => as_aux_lemma => k_is); (case l_pool => as_aux_lemma => k_is); (case c_pool => as_aux_lemma => k_is); (case k_pool => as_aux_lemma => k_is); (case a_take => as_aux_lemma => k_is); (case l_take => as_aux_lemma => k_is); (case c_take => as_aux_lemma => k_is); (case k_take => as_aux_lemma => k_is); (case a_errors => as_aux_lemma => k_is); (case l_errors => as_aux_lemma => k_is); (case c_errors => as_aux_lemma => k_is); (case k_errors => as_aux_lemma => k_is); (case a_named => as_aux_lemma => k_is); (case l_named => as_aux_lemma => k_is); (case c_named => as_aux_lemma => k_is); (case k_named => as_aux_lemma => k_is); (case a_field => as_aux_lemma => k_is); (case l_field => as_aux_lemma => k_is); (case c_field => as_aux_lemma => k_is); (case k_field => as_aux_lemma => k_is); (case a_bases => as_aux_lemma => k_is); (case l_bases => as_aux_lemma => k_is); (case c_bases => as_aux_lemma => k_is); (case k_bases => as_aux_lemma => k_is); (case a_classes => as_aux_lemma => k_is); (case l_classes => as_aux_lemma => k_is); (case c_classes => as_aux_lemma => k_is); (case k_classes => as_aux_lemma => k_is); (case a_law => as_aux_lemma => k_is); (case l_law => as_aux_lemma => k_is); (case c_law => as_aux_lemma => k_is); (case k_law => as_aux_lemma => k_is); (case z_int => as_aux_lemma => k_is); (case z_bool => as_aux_lemma => k_is); (case z_str => as_aux_lemma => k_is); (case z_list => as_aux_lemma => k_is); (case z_tuple => as_aux_lemma => k_is); (case z_len => as_aux_lemma => k_is); (case z_abs => as_aux_lemma => k_is); (case z_max => as_aux_lemma => k_is); (case z_min => as_aux_lemma => k_is); (case z_range => as_aux_lemma => k_is); (case z_zip => as_aux_lemma => k_is); (case z_isinstance => as_aux_lemma => k_is); (case z_enumerate => as_aux_lemma => k_is); (case z_reversed => as_aux_lemma => k_is); (case z_ValueError => as_aux_lemma => k_is); (case z_IndexError => as_aux_lemma => k_is); (case z_KeyError => as_aux_lemma => k_is); (case z_OverflowError => as_aux_lemma => k_is); (case z_RuntimeError => as_aux_lemma => k_is); (case z_LookupError => as_aux_lemma => k_is); (case z_TypeError => as_aux_lemma => k_is); (case z_repr => as_aux_lemma => k_is); (case x_JoinError => as_aux_lemma => k_is); (case x_InvalidNumber => as_aux_lemma => k_is); (case x_InvalidJoint => as_aux_lemma => k_is); (case x_InvalidSound => as_aux_lemma => k_is); (case x_InvalidTables => as_aux_lemma => k_is); (case x_InvalidPlan => as_aux_lemma => k_is); (case x_InvalidStream => as_aux_lemma => k_is); (case x_InvalidCommand => as_aux_lemma => k_is); (case x_ParseError => as_aux_lemma => k_is); (case x_ScriptError => as_aux_lemma => k_is); (case x_InvalidPlace => as_aux_lemma => k_is); (case x_UnknownName => as_aux_lemma => k_is); (case x_LimitExceeded => as_aux_lemma => k_is); (case x_NothingToUndo => as_aux_lemma => k_is); (case xl_InvalidNumber => as_aux_lemma => k_is); (case sa_InvalidNumber => as_aux_lemma => k_is); (case ga_InvalidNumber => as_aux_lemma => k_is); (case gg_InvalidNumber => as_aux_lemma => k_is); (case nf_InvalidNumber => as_aux_lemma => k_is); (case ic_InvalidNumber => as_aux_lemma => k_is); (case ti_InvalidNumber => as_aux_lemma => k_is); (case cac_InvalidNumber => as_aux_lemma => k_is); (case cmc_InvalidNumber => as_aux_lemma => k_is); (case kc_InvalidNumber => as_aux_lemma => k_is); (case sB_InvalidNumber => as_aux_lemma => k_is); (case tc_InvalidNumber => as_aux_lemma => k_is); (case hd_InvalidNumber => as_aux_lemma => k_is); (case ss_InvalidNumber => as_aux_lemma => k_is); (case li_InvalidNumber => as_aux_lemma => k_is); (case ci_InvalidNumber => as_aux_lemma => k_is); (case ki_InvalidNumber => as_aux_lemma => k_is); (case xl_InvalidJoint => as_aux_lemma => k_is); (case sa_InvalidJoint => as_aux_lemma => k_is); (case ga_InvalidJoint => as_aux_lemma => k_is); (case gg_InvalidJoint => as_aux_lemma => k_is); (case nf_InvalidJoint => as_aux_lemma => k_is); (case ic_InvalidJoint => as_aux_lemma => k_is); (case ti_InvalidJoint => as_aux_lemma => k_is); (case cac_InvalidJoint => as_aux_lemma => k_is); (case cmc_InvalidJoint => as_aux_lemma => k_is); (case kc_InvalidJoint => as_aux_lemma => k_is); (case sB_InvalidJoint => as_aux_lemma => k_is); (case tc_InvalidJoint => as_aux_lemma => k_is); (case hd_InvalidJoint => as_aux_lemma => k_is); (case ss_InvalidJoint => as_aux_lemma => k_is); (case li_InvalidJoint => as_aux_lemma => k_is); (case ci_InvalidJoint => as_aux_lemma => k_is); (case ki_InvalidJoint => as_aux_lemma => k_is); (case xl_InvalidSound => as_aux_lemma => k_is); (case sa_InvalidSound => as_aux_lemma => k_is); (case ga_InvalidSound => as_aux_lemma => k_is); (case gg_InvalidSound => as_aux_lemma => k_is); (case nf_InvalidSound => as_aux_lemma => k_is); (case ic_InvalidSound => as_aux_lemma => k_is); (case ti_InvalidSound => as_aux_lemma => k_is); (case cac_InvalidSound => as_aux_lemma => k_is); (case cmc_InvalidSound => as_aux_lemma => k_is); (case kc_InvalidSound => as_aux_lemma => k_is); (case sB_InvalidSound => as_aux_lemma => k_is); (case tc_InvalidSound => as_aux_lemma => k_is); (case hd_InvalidSound => as_aux_lemma => k_is); (case ss_InvalidSound => as_aux_lemma => k_is); (case li_InvalidSound => as_aux_lemma => k_is); (case ci_InvalidSound => as_aux_lemma => k_is); (case ki_InvalidSound => as_aux_lemma => k_is); (case xl_InvalidTables => as_aux_lemma => k_is); (case sa_InvalidTables => as_aux_lemma => k_is); (case ga_InvalidTables => as_aux_lemma => k_is); (case gg_InvalidTables => as_aux_lemma => k_is); (case nf_InvalidTables => as_aux_lemma => k_is); (case ic_InvalidTables => as_aux_lemma => k_is); (case ti_InvalidTables => as_aux_lemma => k_is); (case cac_InvalidTables => as_aux_lemma => k_is); (case cmc_InvalidTables => as_aux_lemma => k_is); (case kc_InvalidTables => as_aux_lemma => k_is); (case sB_InvalidTables => as_aux_lemma => k_is); (case tc_InvalidTables => as_aux_lemma => k_is); (case hd_InvalidTables => as_aux_lemma => k_is); (case ss_InvalidTables => as_aux_lemma => k_is); (case li_InvalidTables => as_aux_lemma => k_is); (case ci_InvalidTables => as_aux_lemma => k_is); (case ki_InvalidTables => as_aux_lemma => k_is); (case xl_InvalidPlan => as_aux_lemma => k_is); (case sa_InvalidPlan => as_aux_lemma => k_is); (case ga_InvalidPlan => as_aux_lemma => k_is); (case gg_InvalidPlan => as_aux_lemma => k_is); (case nf_InvalidPlan => as_aux_lemma => k_is); (case ic_InvalidPlan => as_aux_lemma => k_is); (case ti_InvalidPlan => as_aux_lemma => k_is); (case cac_InvalidPlan => as_aux_lemma => k_is); (case cmc_InvalidPlan => as_aux_lemma => k_is); (case kc_InvalidPlan => as_aux_lemma => k_is); (case sB_InvalidPlan => as_aux_lemma => k_is); (case tc_InvalidPlan => as_aux_lemma => k_is); (case hd_InvalidPlan => as_aux_lemma => k_is); (case ss_InvalidPlan => as_aux_lemma => k_is); (case li_InvalidPlan => as_aux_lemma => k_is); (case ci_InvalidPlan => as_aux_lemma => k_is); (case ki_InvalidPlan => as_aux_lemma => k_is); (case xl_InvalidStream => as_aux_lemma => k_is); (case sa_InvalidStream => as_aux_lemma => k_is); (case ga_InvalidStream => as_aux_lemma => k_is); (case gg_InvalidStream => as_aux_lemma => k_is); (case nf_InvalidStream => as_aux_lemma => k_is); (case ic_InvalidStream => as_aux_lemma => k_is); (case ti_InvalidStream => as_aux_lemma => k_is); (case cac_InvalidStream => as_aux_lemma => k_is); (case cmc_InvalidStream => as_aux_lemma => k_is); (case kc_InvalidStream => as_aux_lemma => k_is); (case sB_InvalidStream => as_aux_lemma => k_is); (case tc_InvalidStream => as_aux_lemma => k_is); (case hd_InvalidStream => as_aux_lemma => k_is); (case ss_InvalidStream => as_aux_lemma => k_is); (case li_InvalidStream => as_aux_lemma => k_is); (case ci_InvalidStream => as_aux_lemma => k_is); (case ki_InvalidStream => as_aux_lemma => k_is); (case xl_InvalidCommand => as_aux_lemma => k_is); (case sa_InvalidCommand => as_aux_lemma => k_is); (case ga_InvalidCommand => as_aux_lemma => k_is); (case gg_InvalidCommand => as_aux_lemma => k_is); (case nf_InvalidCommand => as_aux_lemma => k_is); (case ic_InvalidCommand => as_aux_lemma => k_is); (case ti_InvalidCommand => as_aux_lemma => k_is); (case cac_InvalidCommand => as_aux_lemma => k_is); (case cmc_InvalidCommand => as_aux_lemma => k_is); (case kc_InvalidCommand => as_aux_lemma => k_is); (case sB_InvalidCommand => as_aux_lemma => k_is); (case tc_InvalidCommand => as_aux_lemma => k_is); (case hd_InvalidCommand => as_aux_lemma => k_is); (case ss_InvalidCommand => as_aux_lemma => k_is); (case li_InvalidCommand => as_aux_lemma => k_is); (case ci_InvalidCommand => as_aux_lemma => k_is); (case ki_InvalidCommand => as_aux_lemma => k_is); (case xl_ParseError => as_aux_lemma => k_is); (case sa_ParseError => as_aux_lemma => k_is); (case ga_ParseError => as_aux_lemma => k_is); (case gg_ParseError => as_aux_lemma => k_is); (case nf_ParseError => as_aux_lemma => k_is); (case ic_ParseError => as_aux_lemma => k_is); (case ti_ParseError => as_aux_lemma => k_is); (case cac_ParseError => as_aux_lemma => k_is); (case cmc_ParseError => as_aux_lemma => k_is); (case kc_ParseError => as_aux_lemma => k_is); (case sB_ParseError => as_aux_lemma => k_is); (case tc_ParseError => as_aux_lemma => k_is); (case hd_ParseError => as_aux_lemma => k_is); (case ss_ParseError => as_aux_lemma => k_is); (case li_ParseError => as_aux_lemma => k_is); (case ci_ParseError => as_aux_lemma => k_is); (case ki_ParseError => as_aux_lemma => k_is); (case xl_ScriptError => as_aux_lemma => k_is); (case sa_ScriptError => as_aux_lemma => k_is); (case ga_ScriptError => as_aux_lemma => k_is); (case gg_ScriptError => as_aux_lemma => k_is); (case nf_ScriptError => as_aux_lemma => k_is); (case ic_ScriptError => as_aux_lemma => k_is); (case ti_ScriptError => as_aux_lemma => k_is); (case cac_ScriptError => as_aux_lemma => k_is); (case cmc_ScriptError => as_aux_lemma => k_is); (case kc_ScriptError => as_aux_lemma => k_is); (case sB_ScriptError => as_aux_lemma => k_is); (case tc_ScriptError => as_aux_lemma => k_is); (case hd_ScriptError => as_aux_lemma => k_is); (case ss_ScriptError => as_aux_lemma => k_is); (case li_ScriptError => as_aux_lemma => k_is); (case ci_ScriptError => as_aux_lemma => k_is); (case ki_ScriptError => as_aux_lemma => k_is); (case xl_InvalidPlace => as_aux_lemma => k_is); (case sa_InvalidPlace => as_aux_lemma => k_is); (case ga_InvalidPlace => as_aux_lemma => k_is); (case gg_InvalidPlace => as_aux_lemma => k_is); (case nf_InvalidPlace => as_aux_lemma => k_is); (case ic_InvalidPlace => as_aux_lemma => k_is); (case ti_InvalidPlace => as_aux_lemma => k_is); (case cac_InvalidPlace => as_aux_lemma => k_is); (case cmc_InvalidPlace => as_aux_lemma => k_is); (case kc_InvalidPlace => as_aux_lemma => k_is); (case sB_InvalidPlace => as_aux_lemma => k_is); (case tc_InvalidPlace => as_aux_lemma => k_is); (case hd_InvalidPlace => as_aux_lemma => k_is); (case ss_InvalidPlace => as_aux_lemma => k_is); (case li_InvalidPlace => as_aux_lemma => k_is); (case ci_InvalidPlace => as_aux_lemma => k_is); (case ki_InvalidPlace => as_aux_lemma => k_is); (case xl_UnknownName => as_aux_lemma => k_is); (case sa_UnknownName => as_aux_lemma => k_is); (case ga_UnknownName => as_aux_lemma => k_is); (case gg_UnknownName => as_aux_lemma => k_is); (case nf_UnknownName => as_aux_lemma => k_is); (case ic_UnknownName => as_aux_lemma => k_is); (case ti_UnknownName => as_aux_lemma => k_is); (case cac_UnknownName => as_aux_lemma => k_is); (case cmc_UnknownName => as_aux_lemma => k_is); (case kc_UnknownName => as_aux_lemma => k_is); (case sB_UnknownName => as_aux_lemma => k_is); (case tc_UnknownName => as_aux_lemma => k_is); (case hd_UnknownName => as_aux_lemma => k_is); (case ss_UnknownName => as_aux_lemma => k_is); (case li_UnknownName => as_aux_lemma => k_is); (case ci_UnknownName => as_aux_lemma => k_is); (case ki_UnknownName => as_aux_lemma => k_is); (case xl_LimitExceeded => as_aux_lemma => k_is); (case sa_LimitExceeded => as_aux_lemma => k_is); (case ga_LimitExceeded => as_aux_lemma => k_is); (case gg_LimitExceeded => as_aux_lemma => k_is); (case nf_LimitExceeded => as_aux_lemma => k_is); (case ic_LimitExceeded => as_aux_lemma => k_is); (case ti_LimitExceeded => as_aux_lemma => k_is); (case cac_LimitExceeded => as_aux_lemma => k_is); (case cmc_LimitExceeded => as_aux_lemma => k_is); (case kc_LimitExceeded => as_aux_lemma => k_is); (case sB_LimitExceeded => as_aux_lemma => k_is); (case tc_LimitExceeded => as_aux_lemma => k_is); (case hd_LimitExceeded => as_aux_lemma => k_is); (case ss_LimitExceeded => as_aux_lemma => k_is); (case li_LimitExceeded => as_aux_lemma => k_is); (case ci_LimitExceeded => as_aux_lemma => k_is); (case ki_LimitExceeded => as_aux_lemma => k_is); (case xl_NothingToUndo => as_aux_lemma => k_is); (case sa_NothingToUndo => as_aux_lemma => k_is); (case ga_NothingToUndo => as_aux_lemma => k_is); (case gg_NothingToUndo => as_aux_lemma => k_is); (case nf_NothingToUndo => as_aux_lemma => k_is); (case ic_NothingToUndo => as_aux_lemma => k_is); (case ti_NothingToUndo => as_aux_lemma => k_is); (case cac_NothingToUndo => as_aux_lemma => k_is); (case cmc_NothingToUndo => as_aux_lemma => k_is); (case kc_NothingToUndo => as_aux_lemma => k_is); (case sB_NothingToUndo => as_aux_lemma => k_is); (case tc_NothingToUndo => as_aux_lemma => k_is); (case hd_NothingToUndo => as_aux_lemma => k_is); (case ss_NothingToUndo => as_aux_lemma => k_is); (case li_NothingToUndo => as_aux_lemma => k_is); (case ci_NothingToUndo => as_aux_lemma => k_is); (case ki_NothingToUndo => as_aux_lemma => k_is); (case zk => as_aux_lemma => kernel_rfl); (case cn => as_aux_lemma => k_is); (case ct => as_aux_lemma => k_is)
