import PyProof.Rows.All
import Wide.All
import OpenK.AllK
import Wide.FinOn
import HandS.ForExc
import HandS.ForMost
import HandS.IsInst
import HandS.Style
import HandS.Zip
import HandS.RevRange
import HandS.Lambda
import HandS.TryOnly
import HandS.TryMany
import HandS.ExcOwn
import HandS.ExcInit
import HandS.ExcField
import HandS.ExcIs
import HandS.EndTab
import HandS.CallLocal
import KE.KExcIs
import KE.KNestM
import KE.IntBitsLaws
import HandS.WideBits
import KE.GoesEnum
import KE.GoesMore
import HandS.Codes
import HandS.Conv
import HandS.IntHex
import PyProof.FString3
import PyProof.StrOps2
import KE.IntText
import HandS.StrMore
import HandS.FStr
import HandS.Flt
import HandS.Property
import HandS.List
import HandS.TupAny
import HandS.Wide
import HandS.SortInts
import HandS.Dict
import HandS.OwnEq
import HandS.Defaults
import HandS.MakeKwOnly
import PyProof.ReprRoads
import PyProof.ReprLen
import PyProof.Rows.RegStrFacts
import HandS.Nested
import HandS.DictComp
import HandS.Small
import HandS.RaiseMore
import KE.KExcInit
import PyProof.ExcBaseAll.IndexError
import PyProof.ExcBaseAll.OverflowError
import PyProof.ExcBaseAll.RuntimeError
import PySem.Challenge.RW_framejoins_k22_streams_refused
set_option Elab.async false
set_option linter.all false
set_option maxRecDepth 100000
set_option maxHeartbeats 4000000
section
open PySem PySem.W PyProof.Rows
set_option maxHeartbeats 0 in
open_top headTop for PySem.Challenge.rw_framejoins_k22_streams_refused
end
namespace Z
def Lt1 (P : Prop) : Prop := P
theorem lt_eq {P : Prop} (h : P) : Lt1 P = True := eq_true h
theorem lt_out {P : Prop} (h : Lt1 P) : P := h
open PySem PySem.Spec PyProof.Rows L2
def rLen (K : PySem.W.Frag) : List V → Hp → VK → Prop := fun xs H Q => ∃ x n, xs = [x] ∧ LenV K x H n ∧ Q (.int n) H
def rAbs : List V → Hp → VK → Prop := fun xs H Q => ∃ i, xs = [.int i] ∧ Q (.int (if i < 0 then -i else i)) H
def rMax2 : List V → Hp → VK → Prop := fun xs H Q => ∃ i j, xs = [.int i, .int j] ∧ Q (.int (if j > i then j else i)) H
def rMin2 : List V → Hp → VK → Prop := fun xs H Q => ∃ i j, xs = [.int i, .int j] ∧ Q (.int (if j < i then j else i)) H
def rToInt : List V → Hp → VK → Prop := fun xs H Q => (∃ i, xs = [.int i] ∧ Q (.int i) H) ∨ ∃ k, xs = [.bl k] ∧ Q (.int (if k then 1 else 0)) H
def rToList (K : PySem.W.Frag) : List V → Hp → VK → Prop := fun xs H Q => ∃ p ys, xs = [.ref p] ∧ (SqL K H p ys ∨ SqT K H p ys) ∧ ∀ l, H l = none → Q (.ref l) (upd H l (.lst ys))
section
variable {X : Cx}
theorem cLen : CallR X (.builtin "len") (rLen X.K) := call_len
theorem cMax (hc : X.calm = true) : CallR X (.builtin "max") rMax2 := call_max2 hc
theorem cMin (hc : X.calm = true) : CallR X (.builtin "min") rMin2 := call_min2 hc
theorem cInt : CallR X (.type "int") rToInt := call_int1
theorem cList : CallR X (.type "list") (rToList X.K) := call_list_of
end
/-- the values by position and by keyword, put in the parameters' order -/
def kg {α : Type} (m n : Nat) (idx : List Nat) (us ws : List α) : List α := if us.length = m ∧ ws.length = n then idx.filterMap (fun i => (us ++ ws)[i]?) else []
theorem len2 {α : Type} : ∀ {l : List α}, l.length = 2 → ∃ a b, l = [a, b]
  | [a, b], _ => ⟨a, b, rfl⟩
section
variable {X : Cx} {K : PySem.W.Frag} {σ : L2.St} {H : Hp} {Q : VK} {n : L2.St → Hp → Prop} {r : VK} {b c : L2.St → Hp → Prop} {ta tb tc te : TE} {tA tB1 : TT} {t u : TS} {v : V}
theorem rd_seq (h : t ⟨u ⟨n, r, b, c⟩, r, b, c⟩ σ H) : tSeq t u ⟨n, r, b, c⟩ σ H := h
theorem rd_start {D : Ends} {σ σ' : L2.St} (e : σ' = σ) (h : t D σ H) : t D σ' H := e ▸ h
theorem rd_next (h : n σ H) : tNext ⟨n, r, b, c⟩ σ H := h
theorem rd_asg {g : TG} (h : te σ H fun x H1 => g x σ H1 n) : tAsg te g ⟨n, r, b, c⟩ σ H := h
theorem rd_gname {i : Nat} {Q : L2.St → Hp → Prop} (h : Q (σ.set i (some v)) H) : gName i v σ H Q := h
theorem rd_gsub {to ti : TE} {s : TSet} {Q : L2.St → Hp → Prop} (h : to σ H fun o H1 => ti σ H1 fun i H2 => s o i v H2 fun H3 => Q σ H3) : gSub to ti s v σ H Q := h
theorem rd_ret (h : te σ H r) : tRet te ⟨n, r, b, c⟩ σ H := h
theorem rd_retn (h : r .non H) : tRetN ⟨n, r, b, c⟩ σ H := h
theorem rd_ifs (h : tA σ H fun d H1 => if d = true then t ⟨n, r, b, c⟩ σ H1 else u ⟨n, r, b, c⟩ σ H1) : tIfS tA t u ⟨n, r, b, c⟩ σ H := h
theorem rd_drop (h : te σ H fun _ H1 => n σ H1) : tDrop te ⟨n, r, b, c⟩ σ H := h
theorem rd_par {i j : Nat} {ts : TA} (h : ts σ H fun vs H1 => ∃ v w, vs = [v, w] ∧ n ((σ.set i (some v)).set j (some w)) H1) : tPar i j ts ⟨n, r, b, c⟩ σ H := h
theorem rd_par3 {i j l : Nat} {ts : TA} (h : ts σ H fun vs H1 => ∃ u v w, vs = [u, v, w] ∧ n (((σ.set i (some u)).set j (some v)).set l (some w)) H1) : tPar3 i j l ts ⟨n, r, b, c⟩ σ H := h
theorem rd_two {v w : V} {P : V → V → Prop} (h : P v w) : ∃ a b, [v, w] = [a, b] ∧ P a b := ⟨v, w, rfl, h⟩
theorem rd_three {u v w : V} {P : V → V → V → Prop} (h : P u v w) : ∃ a b c, [u, v, w] = [a, b, c] ∧ P a b c := ⟨u, v, w, rfl, h⟩
theorem rd_var {i : Nat} (e : σ[i]? = some (some v)) (h : Q v H) : tVar i σ H Q := ⟨v, e, h⟩
theorem rd_c (h : Q v H) : tC v σ H Q := h
theorem rd_op {o : R2} (h : ta σ H fun x H1 => tb σ H1 fun y H2 => o x y H2 Q) : tOp o ta tb σ H Q := h
theorem rd_un {o : V → Hp → VK → Prop} (h : ta σ H fun x H1 => o x H1 Q) : tUn o ta σ H Q := h
theorem rd_i0 {g : Int → Int → V} {i j : Int} (h : Q (g i j) H) : rI0 g (.int i) (.int j) H Q := ⟨i, j, rfl, rfl, h⟩
theorem rd_i {C : Int → Int → Prop} {g : Int → Int → V} {i j : Int} (hC : C i j) (h : Q (g i j) H) : rI C g (.int i) (.int j) H Q := ⟨i, j, rfl, rfl, hC, h⟩
theorem rd_u {g : Int → V} {i : Int} (h : Q (g i) H) : rU g (.int i) H Q := ⟨i, rfl, h⟩
theorem rd_eq {x y : V} (e : scal x y = true) (h : Q (.bl (decide (x = y))) H) : rEq x y H Q := ⟨e, h⟩
theorem rd_ne {x y : V} (e : scal x y = true) (h : Q (.bl (!decide (x = y))) H) : rNe x y H Q := ⟨e, h⟩
theorem rd_test {q : Bool → Hp → Prop} (h : te σ H fun x H' => ∃ k, x = .bl k ∧ q k H') : tTest te σ H q := h
theorem rd_b {q : Bool → Hp → Prop} (h : te σ H fun x H' => ∃ k, x = .bl k ∧ q k H') : tB te σ H q := h
theorem rd_bl {k : Bool} {P : Bool → Prop} (h : P k) : ∃ d, V.bl k = .bl d ∧ P d := ⟨k, rfl, h⟩
theorem rd_not {q : Bool → Hp → Prop} (h : tA σ H fun d H1 => q (!d) H1) : tNot tA σ H q := h
theorem rd_and {q : Bool → Hp → Prop} (h : tA σ H fun d H1 => if d = true then tB1 σ H1 q else q false H1) : tAnd tA tB1 σ H q := h
theorem rd_or {q : Bool → Hp → Prop} (h : tA σ H fun d H1 => if d = true then q true H1 else tB1 σ H1 q) : tOr tA tB1 σ H q := h
theorem rd_andV (h : ta σ H fun x H1 => ∃ c, x = .bl c ∧ if c = true then tb σ H1 Q else Q (.bl false) H1) : tAndV ta tb σ H Q := h
theorem rd_orV (h : ta σ H fun x H1 => ∃ c, x = .bl c ∧ if c = true then Q (.bl true) H1 else tb σ H1 Q) : tOrV ta tb σ H Q := h
theorem rd_notV (h : ta σ H fun x H1 => ∃ c, x = .bl c ∧ Q (.bl (!c)) H1) : tNotV ta σ H Q := h
theorem rd_if (h : tA σ H fun d H1 => if d = true then ta σ H1 Q else tb σ H1 Q) : tIf tA ta tb σ H Q := h
theorem rd_chain {o o' : R2} (h : ta σ H fun x H1 => tb σ H1 fun y H2 => o x y H2 fun z H3 => ∃ k, z = .bl k ∧ if k = true then tc σ H3 fun w' H4 => o' y w' H4 Q else Q (.bl false) H3) : tChain o o' ta tb tc σ H Q := h
theorem rd_call {sp : Sp} {dvs : List V} {E : XK} {ts : TA} (h : ts σ H fun vs H1 => sp (vs ++ dvs) H1 Q E) : tCall sp dvs E ts σ H Q := h
theorem rd_callK {sp : Sp} {gV : List V → List V → List V} {E : XK} {ts tk : TA} (h : ts σ H fun vs H1 => tk σ H1 fun zs H2 => sp (gV vs zs) H2 Q E) : tCallK sp gV E ts tk σ H Q := h
theorem rd_cb {rr : List V → Hp → VK → Prop} {ts : TA} (h : ts σ H fun vs H1 => rr vs H1 Q) : tCB rr ts σ H Q := h
theorem rd_cons {tr : TA} {q : List V → Hp → Prop} (h : te σ H fun x H1 => tr σ H1 fun xs H2 => q (x :: xs) H2) : tCons te tr σ H q := h
theorem rd_nil {q : List V → Hp → Prop} (h : q [] H) : tNil σ H q := h
theorem rd_tup {ts : TA} (h : ts σ H fun xs H1 => xs.length ≤ sizeLine ∧ ∀ p, H1 p = none → Q (.ref p) (upd H1 p (.tup xs))) : tTup ts σ H Q := h
theorem rd_lst {ts : TA} (h : ts σ H fun xs H1 => xs.length ≤ sizeLine ∧ ∀ p, H1 p = none → Q (.ref p) (upd H1 p (.lst xs))) : tLst ts σ H Q := h
theorem rd_int {i : Int} (h : Q (.int i) H) : rToInt [.int i] H Q := .inl ⟨i, rfl, h⟩
theorem rd_intb {k : Bool} (h : Q (.int (if k then 1 else 0)) H) : rToInt [.bl k] H Q := .inr ⟨k, rfl, h⟩
theorem rd_abs {i : Int} (h : Q (.int (if i < 0 then -i else i)) H) : rAbs [.int i] H Q := ⟨i, rfl, h⟩
theorem rd_max {i j : Int} (h : Q (.int (if j > i then j else i)) H) : rMax2 [.int i, .int j] H Q := ⟨i, j, rfl, h⟩
theorem rd_min {i j : Int} (h : Q (.int (if j < i then j else i)) H) : rMin2 [.int i, .int j] H Q := ⟨i, j, rfl, h⟩
theorem rd_lenL {p : Addr} {xs : List V} (e : SqL K H p xs) (h : Q (.int xs.length) H) : rLen K [.ref p] H Q := ⟨.ref p, xs.length, rfl, .inl ⟨xs, e, rfl⟩, h⟩
theorem rd_lenT {p : Addr} {xs : List V} (e : SqT K H p xs) (h : Q (.int xs.length) H) : rLen K [.ref p] H Q := ⟨.ref p, xs.length, rfl, .inr ⟨xs, e, rfl⟩, h⟩
theorem rd_ixL {p : Addr} {xs : List V} {i : Int} {v : V} (e : SqL K H p xs) (a : atI xs i = some v) (h : Q v H) : rIxL K (.ref p) (.int i) H Q := ⟨p, xs, i, v, rfl, rfl, e, a, h⟩
theorem rd_ixT {p : Addr} {xs : List V} {i : Int} {v : V} (e : SqT K H p xs) (a : atI xs i = some v) (h : Q v H) : rIxT K (.ref p) (.int i) H Q := ⟨p, xs, i, v, rfl, rfl, e, a, h⟩
theorem rd_setL {p : Addr} {xs : List V} {i : Int} {j : Nat} {v : V} {q : Hp → Prop} (e : H p = some (.lst xs)) (a : ixN xs.length i = some j) (h : q (upd H p (.lst (xs.set j v)))) : rSetL (.ref p) (.int i) v H q := ⟨p, xs, i, j, rfl, rfl, e, a, h⟩
theorem rd_listL {p : Addr} {xs : List V} (e : SqL K H p xs) (h : ∀ l, H l = none → Q (.ref l) (upd H l (.lst xs))) : rToList K [.ref p] H Q := ⟨p, xs, rfl, .inl e, h⟩
theorem rd_iteD {p : Prop} [Decidable p] {A B : Prop} (h1 : p → A) (h2 : ¬ p → B) : if decide p = true then A else B := by
  by_cases h : p
  · rw [if_pos (decide_eq_true h)]; exact h1 h
  · rw [decide_eq_false h, if_neg Bool.false_ne_true]; exact h2 h
theorem rd_iteN {p : Prop} [Decidable p] {A B : Prop} (h1 : ¬ p → A) (h2 : p → B) : if (!decide p) = true then A else B := by
  by_cases h : p
  · rw [decide_eq_true h]; exact iteF (h2 h)
  · rw [decide_eq_false h]; exact iteT (h1 h)
theorem iteNT {A B : Prop} (h : B) : if (!true) = true then A else B := iteF h
theorem iteNF {A B : Prop} (h : A) : if (!false) = true then A else B := iteT h
theorem rd_isi {x c : V} {t' u' : Value} {d : Bool} (k : ClsV c u') (ty : TyX K H x t') (e : PySem.W.kitOne K t' u' = some d) (h : Q (.bl d) H) : rIsi K [x, c] H Q := ⟨x, c, t', u', d, rfl, k, ty, e, h⟩
theorem isi_int_int {i : Int} (h : Q (.bl true) H) : rIsi K [.int i, .ty "int"] H Q := rd_isi (.ty "int") (.base (.int i)) (kit_ty (by decide +kernel)) h
theorem isi_int_bool {i : Int} (h : Q (.bl false) H) : rIsi K [.int i, .ty "bool"] H Q := rd_isi (.ty "bool") (.base (.int i)) (kit_ty (by decide +kernel)) h
theorem isi_int_str {i : Int} (h : Q (.bl false) H) : rIsi K [.int i, .ty "str"] H Q := rd_isi (.ty "str") (.base (.int i)) (kit_ty (by decide +kernel)) h
theorem isi_int_list {i : Int} (h : Q (.bl false) H) : rIsi K [.int i, .ty "list"] H Q := rd_isi (.ty "list") (.base (.int i)) (kit_ty (by decide +kernel)) h
theorem isi_int_tuple {i : Int} (h : Q (.bl false) H) : rIsi K [.int i, .ty "tuple"] H Q := rd_isi (.ty "tuple") (.base (.int i)) (kit_ty (by decide +kernel)) h
theorem isi_bl_int {i : Bool} (h : Q (.bl true) H) : rIsi K [.bl i, .ty "int"] H Q := rd_isi (.ty "int") (.base (.bl i)) (kit_ty (by decide +kernel)) h
theorem isi_bl_bool {i : Bool} (h : Q (.bl true) H) : rIsi K [.bl i, .ty "bool"] H Q := rd_isi (.ty "bool") (.base (.bl i)) (kit_ty (by decide +kernel)) h
theorem isi_bl_str {i : Bool} (h : Q (.bl false) H) : rIsi K [.bl i, .ty "str"] H Q := rd_isi (.ty "str") (.base (.bl i)) (kit_ty (by decide +kernel)) h
theorem isi_bl_list {i : Bool} (h : Q (.bl false) H) : rIsi K [.bl i, .ty "list"] H Q := rd_isi (.ty "list") (.base (.bl i)) (kit_ty (by decide +kernel)) h
theorem isi_bl_tuple {i : Bool} (h : Q (.bl false) H) : rIsi K [.bl i, .ty "tuple"] H Q := rd_isi (.ty "tuple") (.base (.bl i)) (kit_ty (by decide +kernel)) h
theorem isi_non_int  (h : Q (.bl false) H) : rIsi K [.non, .ty "int"] H Q := rd_isi (.ty "int") (.base .non) (kit_ty (by decide +kernel)) h
theorem isi_non_bool  (h : Q (.bl false) H) : rIsi K [.non, .ty "bool"] H Q := rd_isi (.ty "bool") (.base .non) (kit_ty (by decide +kernel)) h
theorem isi_non_str  (h : Q (.bl false) H) : rIsi K [.non, .ty "str"] H Q := rd_isi (.ty "str") (.base .non) (kit_ty (by decide +kernel)) h
theorem isi_non_list  (h : Q (.bl false) H) : rIsi K [.non, .ty "list"] H Q := rd_isi (.ty "list") (.base .non) (kit_ty (by decide +kernel)) h
theorem isi_non_tuple  (h : Q (.bl false) H) : rIsi K [.non, .ty "tuple"] H Q := rd_isi (.ty "tuple") (.base .non) (kit_ty (by decide +kernel)) h
theorem isi_str_int {z : Str} (h : Q (.bl false) H) : rIsi K [.str z, .ty "int"] H Q := rd_isi (.ty "int") (.base (.str z)) (kit_ty (by decide +kernel)) h
theorem isi_str_bool {z : Str} (h : Q (.bl false) H) : rIsi K [.str z, .ty "bool"] H Q := rd_isi (.ty "bool") (.base (.str z)) (kit_ty (by decide +kernel)) h
theorem isi_str_str {z : Str} (h : Q (.bl true) H) : rIsi K [.str z, .ty "str"] H Q := rd_isi (.ty "str") (.base (.str z)) (kit_ty (by decide +kernel)) h
theorem isi_str_list {z : Str} (h : Q (.bl false) H) : rIsi K [.str z, .ty "list"] H Q := rd_isi (.ty "list") (.base (.str z)) (kit_ty (by decide +kernel)) h
theorem isi_str_tuple {z : Str} (h : Q (.bl false) H) : rIsi K [.str z, .ty "tuple"] H Q := rd_isi (.ty "tuple") (.base (.str z)) (kit_ty (by decide +kernel)) h
theorem isi_lst_int {p : Addr} {xs : List V} (hp : H p = some (.lst xs)) (h : Q (.bl false) H) : rIsi K [.ref p, .ty "int"] H Q := rd_isi (.ty "int") (.base (.lst hp)) (kit_ty (by decide +kernel)) h
theorem isi_lst_bool {p : Addr} {xs : List V} (hp : H p = some (.lst xs)) (h : Q (.bl false) H) : rIsi K [.ref p, .ty "bool"] H Q := rd_isi (.ty "bool") (.base (.lst hp)) (kit_ty (by decide +kernel)) h
theorem isi_lst_str {p : Addr} {xs : List V} (hp : H p = some (.lst xs)) (h : Q (.bl false) H) : rIsi K [.ref p, .ty "str"] H Q := rd_isi (.ty "str") (.base (.lst hp)) (kit_ty (by decide +kernel)) h
theorem isi_lst_list {p : Addr} {xs : List V} (hp : H p = some (.lst xs)) (h : Q (.bl true) H) : rIsi K [.ref p, .ty "list"] H Q := rd_isi (.ty "list") (.base (.lst hp)) (kit_ty (by decide +kernel)) h
theorem isi_lst_tuple {p : Addr} {xs : List V} (hp : H p = some (.lst xs)) (h : Q (.bl false) H) : rIsi K [.ref p, .ty "tuple"] H Q := rd_isi (.ty "tuple") (.base (.lst hp)) (kit_ty (by decide +kernel)) h
theorem isi_tup_int {p : Addr} {xs : List V} (hp : H p = some (.tup xs)) (h : Q (.bl false) H) : rIsi K [.ref p, .ty "int"] H Q := rd_isi (.ty "int") (.base (.tup hp)) (kit_ty (by decide +kernel)) h
theorem isi_tup_bool {p : Addr} {xs : List V} (hp : H p = some (.tup xs)) (h : Q (.bl false) H) : rIsi K [.ref p, .ty "bool"] H Q := rd_isi (.ty "bool") (.base (.tup hp)) (kit_ty (by decide +kernel)) h
theorem isi_tup_str {p : Addr} {xs : List V} (hp : H p = some (.tup xs)) (h : Q (.bl false) H) : rIsi K [.ref p, .ty "str"] H Q := rd_isi (.ty "str") (.base (.tup hp)) (kit_ty (by decide +kernel)) h
theorem isi_tup_list {p : Addr} {xs : List V} (hp : H p = some (.tup xs)) (h : Q (.bl false) H) : rIsi K [.ref p, .ty "list"] H Q := rd_isi (.ty "list") (.base (.tup hp)) (kit_ty (by decide +kernel)) h
theorem isi_tup_tuple {p : Addr} {xs : List V} (hp : H p = some (.tup xs)) (h : Q (.bl true) H) : rIsi K [.ref p, .ty "tuple"] H Q := rd_isi (.ty "tuple") (.base (.tup hp)) (kit_ty (by decide +kernel)) h
theorem rd_for1 {ts : TA} {g : TG} {tb' : TS} {D : Ends} (h : ts σ H fun vs H1 => ∃ j : Int, vs = [.int j] ∧ -(2 ^ 62) ≤ j ∧ j < 2 ^ 62 ∧ (∃ W : Nat → Nat → L2.St → Hp → Prop, (∃ m, W 0 m σ H1) ∧ ∀ i m σ H, W i m σ H →
      ((Itr 0 j.toNat).stop i H ∧ D.nx σ H) ∨ ((Itr 0 j.toNat).go i H ∧ ∃ N : L2.St → Hp → Prop, (∀ σ' H', N σ' H' → ∃ m', m' < m ∧ W (i + 1) m' σ' H') ∧ ∀ x H', (Itr 0 j.toNat).yld i H x H' → g x σ H' fun σ2 H2 => tb' { D with nx := N, ct := N, bk := D.nx } σ2 H2))) : tFor (iRng1 ts) g tb' D σ H := h
theorem rd_all {n m : Nat} {P : Addr → Prop} (h1 : n ≤ m) (h : ∀ p, H p = none → P p) : n ≤ m ∧ ∀ p, H p = none → P p := ⟨h1, h⟩
theorem rd_gtup {a : Addr} {xs : List V} {k : Nat} {ts : TGs} {q : L2.St → Hp → Prop} (e : SqT K H a xs) (l : xs.length = k) (h : ts xs σ H q) : gTup K k ts (.ref a) σ H q := ⟨a, xs, rfl, e, l, h⟩
theorem rd_gcons {g : TG} {ts : TGs} {v : V} {vs : List V} {q : L2.St → Hp → Prop} (h : g v σ H fun σ' H' => ts vs σ' H' q) : gCons g ts (v :: vs) σ H q := ⟨v, vs, rfl, h⟩
theorem rd_gnil {q : L2.St → Hp → Prop} (h : q σ H) : gNil [] σ H q := ⟨rfl, h⟩
def LpW (J : It) (g : TG) (tb : TS) (D : Ends) (σ : L2.St) (H1 : Hp) : Prop := ∃ W : Nat → Nat → L2.St → Hp → Prop, (∃ m, W 0 m σ H1) ∧ ∀ i m σ H, W i m σ H →
      (J.stop i H ∧ D.nx σ H) ∨ (J.go i H ∧ ∃ N : L2.St → Hp → Prop, (∀ σ' H', N σ' H' → ∃ m', m' < m ∧ W (i + 1) m' σ' H') ∧ ∀ x H', J.yld i H x H' → g x σ H' fun σ2 H2 => tb { D with nx := N, ct := N, bk := D.nx } σ2 H2)
theorem rd_forT {g : TG} {tb' : TS} {D : Ends} (h : te σ H fun x H1 => ∃ a, x = .ref a ∧ (∃ xs, SqT K H1 a xs) ∧ LpW (Itt K a) g tb' D σ H1) : tFor (iTup K te) g tb' D σ H := h
theorem rd_forL {g : TG} {tb' : TS} {D : Ends} (h : te σ H fun x H1 => ∃ a, x = .ref a ∧ (∃ xs, SqL K H1 a xs) ∧ LpW (Itl K a) g tb' D σ H1) : tFor (iList K te) g tb' D σ H := h
theorem rd_lpL {a : Addr} {xs : List V} {g : TG} {tb' : TS} {D : Ends} (e : SqL K H a xs) (h : LpW (Itl K a) g tb' D σ H) : ∃ b, V.ref a = .ref b ∧ (∃ xs, SqL K H b xs) ∧ LpW (Itl K b) g tb' D σ H := ⟨a, rfl, ⟨xs, e⟩, h⟩
theorem rd_for2 {ts : TA} {g : TG} {tb' : TS} {D : Ends} (h : ts σ H fun vs H1 => ∃ i j : Int, vs = [.int i, .int j] ∧ (-(2 ^ 62) ≤ i ∧ i < 2 ^ 62 ∧ -(2 ^ 62) ≤ j ∧ j < 2 ^ 62) ∧ LpW (Itr i (j - i).toNat) g tb' D σ H1) : tFor (iRng2 ts) g tb' D σ H := h
theorem rd_n2 {i j : Int} {A : Int → Int → Prop} (h1 : -(2 ^ 62) ≤ i ∧ i < 2 ^ 62 ∧ -(2 ^ 62) ≤ j ∧ j < 2 ^ 62) (h : A i j) : ∃ k l : Int, [V.int i, V.int j] = [V.int k, V.int l] ∧ (-(2 ^ 62) ≤ k ∧ k < 2 ^ 62 ∧ -(2 ^ 62) ≤ l ∧ l < 2 ^ 62) ∧ A k l := ⟨i, j, rfl, h1, h⟩
theorem dp_ints : ∀ ns : List Int, DpAll K H (ns.map V.int) (ns.map PyData.int)
  | [] => .nil
  | n :: r => .cons (.int n) (dp_ints r)
theorem rd_neT2 {p q : Addr} {a b c d : Int} (hp : SqT K H p [.int a, .int b]) (hq : SqT K H q [.int c, .int d]) (e1 : a = c) (e2 : b = d) (h : Q (.bl false) H) : rNeD K (.ref p) (.ref q) H Q := by
  subst e1 e2
  exact ⟨_, _, .tup hp (dp_ints [a, b]), .tup hq (dp_ints [a, b]), rfl, rfl, by
    have e : PyData.eqv (.tuple ([a, b].map PyData.int)) (.tuple ([a, b].map PyData.int)) = true := by simp [PyData.eqv, PyData.eqvAll]
    rw [e]
    exact h⟩
def rIsN : R2 := fun x y H Q => y = .non ∧ Q (.bl (decide (x = .non))) H
theorem cIsN {X : Cx} : OpR X (compareOp .Is) rIsN := op_isN
theorem rd_isN {x : V} (h : Q (.bl (decide (x = .non))) H) : rIsN x .non H Q := ⟨rfl, h⟩
theorem rd_one {v : V} {P : V → Prop} (h : P v) : ∃ a, [v] = [a] ∧ P a := ⟨v, rfl, h⟩
theorem rd_n1 {j : Int} {A : Int → Prop} (h1 : -(2 ^ 62) ≤ j) (h2 : j < 2 ^ 62) (h : A j) : ∃ k : Int, [V.int j] = [V.int k] ∧ -(2 ^ 62) ≤ k ∧ k < 2 ^ 62 ∧ A k := ⟨j, rfl, h1, h2, h⟩
end
theorem look_same {H H' : Hp} {a : Addr} {u : HO} (s : Same H H') (h : H a = some u) : H' a = some u := s a u h
theorem look_new {H : Hp} {p a : Addr} {o u : HO} (hp : H p = none) (h : H a = some u) : upd H p o a = some u := by rw [upd_ne (ne_of_none h hp)]; exact h
/-- all but the object at p stay -/
def Kp (p : Addr) (H H' : Hp) : Prop := ∀ a o, a ≠ p → H a = some o → H' a = some o
theorem Kp.refl {p : Addr} {H : Hp} : Kp p H H := fun _ _ _ h => h
theorem Kp.trans {p : Addr} {H H1 H2 : Hp} (a : Kp p H H1) (b : Kp p H1 H2) : Kp p H H2 := fun c o n h => b c o n (a c o n h)
theorem Kp.of {p : Addr} {H H' : Hp} (s : Same H H') : Kp p H H' := fun a o _ h => s a o h
theorem same_new {H : Hp} {p : Addr} {o : HO} (h : H p = none) : Same H (upd H p o) := fun b x e => look_new h e
theorem Kp.new {p q : Addr} {H : Hp} {o : HO} (h : H q = none) : Kp p H (upd H q o) := .of (same_new h)
theorem Kp.at {p : Addr} {H : Hp} {o : HO} : Kp p H (upd H p o) := fun a x n h => by rw [upd_ne n]; exact h
theorem same_kp {p : Addr} {H0 H H' : Hp} (s : Same H0 H) (n : H0 p = none) (k : Kp p H H') : Same H0 H' := fun a o h => k a o (ne_of_none h n) (s a o h)
theorem sqL_new {K : PySem.W.Frag} {p a : Addr} {H : Hp} {o : HO} {xs : List V} (n : H p = none) (h : SqL K H a xs) : SqL K (upd H p o) a xs := (same_new n).seq h
theorem sqL_same {K : PySem.W.Frag} {a : Addr} {H H' : Hp} {xs : List V} (s : Same H H') (h : SqL K H a xs) : SqL K H' a xs := s.seq h
theorem seqT_K {K : PySem.W.Frag} {a : Addr} {od : Option Addr} {its : Array Value} {n : Nat} {sl : Array (Option Value)} {xs : List V} (l : K.lookup a = some ⟨.type "tuple", od, .seq its n, sl⟩) (hs : its.size ≤ sizeLine) (hv : Vals xs its.toList) : ∀ H, SqT K H a xs := fun _ => .inr ⟨_, its, n, l, rfl, rfl, hs, hv⟩
theorem by_all {K : PySem.W.Frag} {a : Addr} {xs : List V} {H : Hp} (h : ∀ H, SqT K H a xs) : SqT K H a xs := h H
def Pool (H : Hp) (p : Addr) : Prop := ∃ x y : Int, H p = some (.lst [.int x, .int y]) ∧ 0 ≤ x ∧ 0 ≤ y ∧ y < 2147483647
theorem look_kp {p a : Addr} {H H' : Hp} {u : HO} (k : Kp p H H') (n : a ≠ p) (h : H a = some u) : H' a = some u := k a u n h
theorem Pool.ne {H : Hp} {p a : Addr} (h : Pool H p) (n : H a = none) : a ≠ p := by
  obtain ⟨x, y, e, _⟩ := h
  exact (ne_of_none e n).symm
theorem Pool.ne' {H : Hp} {p a : Addr} (n : H a = none) (h : Pool H p) : a ≠ p := h.ne n
theorem Pool.new {H : Hp} {p q : Addr} {o : HO} (h : Pool H p) (n : H q = none) : Pool (upd H q o) p := by
  obtain ⟨x, y, e, r⟩ := h
  exact ⟨x, y, look_new n e, r⟩
theorem Pool.same {H H' : Hp} {p : Addr} (h : Pool H p) (s : Same H H') : Pool H' p := by
  obtain ⟨x, y, e, r⟩ := h
  exact ⟨x, y, s _ _ e, r⟩
theorem Pool.same' {H H' : Hp} {p : Addr} (s : Same H H') (h : Pool H p) : Pool H' p := h.same s
theorem Pool.new' {H : Hp} {p q : Addr} {o : HO} (n : H q = none) (h : Pool H p) : Pool (upd H q o) p := h.new n
def spTake : Sp := fun vs H Q _ => ∃ (p : Addr) (m : Int), vs = [.ref p, .int m] ∧ Pool H p ∧ 0 < m ∧ m < 1073741824 ∧ ∀ r H', 0 ≤ r → r < m → Pool H' p → Kp p H H' → Q (.int r) H'
theorem use_take {p : Addr} {m : Int} {H : Hp} {Q : VK} {E : XK} (h1 : Pool H p) (h2 : 0 < m) (h3 : m < 1073741824) (q : ∀ r H', 0 ≤ r → r < m → Pool H' p → Kp p H H' → Q (.int r) H') : spTake ([.ref p, .int m] ++ []) H Q E := ⟨p, m, rfl, h1, h2, h3, q⟩
def spPool (K : PySem.W.Frag) : Sp := fun vs H Q _ => ∃ (a : Addr) (ns : List Int) (k : Int), vs = [.ref a, .int k] ∧ SqL K H a (ns.map V.int) ∧ ns.length ≤ 63 ∧ 0 ≤ k ∧ k < 64 ∧ ∀ p H', H p = none → Same H H' → Pool H' p → Q (.ref p) H'
theorem use_pool {K : PySem.W.Frag} {a : Addr} {ns : List Int} {k : Int} {H : Hp} {Q : VK} {E : XK} (h1 : SqL K H a (ns.map V.int)) (h2 : ns.length ≤ 63) (h3 : 0 ≤ k) (h4 : k < 64) (q : ∀ p H', H p = none → Same H H' → Pool H' p → Q (.ref p) H') : spPool K ([.ref a, .int k] ++ []) H Q E := ⟨a, ns, k, rfl, h1, h2, h3, h4, q⟩
def spNumber : Sp := fun vs H Q _ => ∃ (p : Addr), vs = [.ref p] ∧ Pool H p ∧ ∀ r H', r.natAbs < 10 ^ 55 → Pool H' p → Kp p H H' → Q (.int r) H'
theorem use_number {p : Addr} {H : Hp} {Q : VK} {E : XK} (h1 : Pool H p) (q : ∀ r H', r.natAbs < 10 ^ 55 → Pool H' p → Kp p H H' → Q (.int r) H') : spNumber ([.ref p] ++ []) H Q E := ⟨p, rfl, h1, q⟩
def isI : V → Bool
  | .int _ => true
  | _ => false
def TyV (H : Hp) : V → Prop
  | .non => True
  | .bl _ => True
  | .int _ => True
  | .str _ => True
  | .ref a => (∃ xs, H a = some (.lst xs)) ∨ ∃ xs, H a = some (.tup xs)
  | _ => False
def spIsI : Sp := fun vs H Q _ => ∃ x, vs = [x] ∧ TyV H x ∧ Q (.bl (isI x)) H
theorem use_isi {x : V} {H : Hp} {Q : VK} {E : XK} (t : TyV H x) (q : Q (.bl (isI x)) H) : spIsI ([x] ++ []) H Q E := ⟨x, rfl, t, q⟩
theorem use_isi_int {i : Int} {H : Hp} {Q : VK} {E : XK} (q : Q (.bl true) H) : spIsI ([.int i] ++ []) H Q E := ⟨_, rfl, trivial, q⟩
def inI (x : V) (lo hi : Int) : Bool := match x with
  | .int i => decide (lo ≤ i ∧ i ≤ hi)
  | _ => false
def spWithin : Sp := fun vs H Q _ => ∃ x lo hi, vs = [x, .int lo, .int hi] ∧ TyV H x ∧ Q (.bl (inI x lo hi)) H
theorem use_within {x : V} {lo hi : Int} {H : Hp} {Q : VK} {E : XK} (t : TyV H x) (q : Q (.bl (inI x lo hi)) H) : spWithin ([x, .int lo, .int hi] ++ []) H Q E := ⟨x, lo, hi, rfl, t, q⟩
theorem use_within_int {i lo hi : Int} {H : Hp} {Q : VK} {E : XK} (q : Q (.bl (decide (lo ≤ i ∧ i ≤ hi))) H) : spWithin ([.int i, .int lo, .int hi] ++ []) H Q E := ⟨_, lo, hi, rfl, trivial, q⟩
def spCkI : Sp := fun vs H Q _ => ∃ i, vs = [.int i] ∧ Q .non H
theorem use_cki {i : Int} {H : Hp} {Q : VK} {E : XK} (q : Q .non H) : spCkI ([.int i] ++ []) H Q E := ⟨_, rfl, q⟩
def spCkW : Sp := fun vs H Q _ => ∃ i lo hi, vs = [.int i, .int lo, .int hi] ∧ lo ≤ i ∧ i ≤ hi ∧ Q .non H
theorem use_ckw {i lo hi : Int} {H : Hp} {Q : VK} {E : XK} (h1 : lo ≤ i) (h2 : i ≤ hi) (q : Q .non H) : spCkW ([.int i, .int lo, .int hi] ++ []) H Q E := ⟨_, _, _, rfl, h1, h2, q⟩
def spQuant : Sp := fun vs H Q _ => ∃ v s, vs = [.int v, .int s] ∧ 1 ≤ s ∧ s ≤ 64 ∧ Q (.int ((2 * v + s) / (2 * s))) H
theorem use_quant {v s : Int} {H : Hp} {Q : VK} {E : XK} (h1 : 1 ≤ s) (h2 : s ≤ 64) (q : Q (.int ((2 * v + s) / (2 * s))) H) : spQuant ([.int v, .int s] ++ []) H Q E := ⟨v, s, rfl, h1, h2, q⟩
theorem use_quantK {v s : Int} {H : Hp} {Q : VK} {E : XK} (h1 : 1 ≤ s) (h2 : s ≤ 64) (q : Q (.int ((2 * v + s) / (2 * s))) H) : spQuant (kg 0 2 [1, 0] [] [.int s, .int v]) H Q E := ⟨v, s, rfl, h1, h2, q⟩
def cC (s : Int) : Int := if s = 0 then -1 else if s = 1 then -2 else if s = 2 then 1 else 2
def cD (s : Int) : Int := if s = 0 then 2 else if s = 1 then 3 else if s = 2 then -2 else -3
def foldP (s a b : Int) : Int × Int :=
  (a + (cC s * b + 2) / 4 + (cC s * (b + (cD s * (a + (cC s * b + 2) / 4) + 2) / 4) + 2) / 4, b + (cD s * (a + (cC s * b + 2) / 4) + 2) / 4)
def unfoldP (s a b : Int) : Int × Int :=
  (a - (cC s * b + 2) / 4 - (cC s * (b - (cD s * (a - (cC s * b + 2) / 4) + 2) / 4) + 2) / 4, b - (cD s * (a - (cC s * b + 2) / 4) + 2) / 4)
theorem unfold_fold (s a b : Int) : unfoldP s (foldP s a b).1 (foldP s a b).2 = (a, b) := by
  unfold unfoldP foldP
  dsimp only
  rw [Int.add_sub_cancel, Int.add_sub_cancel, Int.add_sub_cancel]
theorem fold_unfold (s a b : Int) : foldP s (unfoldP s a b).1 (unfoldP s a b).2 = (a, b) := by
  unfold unfoldP foldP
  dsimp only
  rw [Int.sub_add_cancel, Int.sub_add_cancel, Int.sub_add_cancel]
def spPair (f : Int → Int → Int → Int × Int) : Sp := fun vs H Q _ => ∃ s a b, vs = [.int s, .int a, .int b] ∧ 0 ≤ s ∧ s < 4 ∧ ∀ p, H p = none → Q (.ref p) (upd H p (.tup [.int (f s a b).1, .int (f s a b).2]))
theorem use_pair {f : Int → Int → Int → Int × Int} {s a b : Int} {H : Hp} {Q : VK} {E : XK} (h1 : 0 ≤ s) (h2 : s < 4) (q : ∀ p, H p = none → Q (.ref p) (upd H p (.tup [.int (f s a b).1, .int (f s a b).2]))) : spPair f ([.int s, .int a, .int b] ++ []) H Q E := ⟨s, a, b, rfl, h1, h2, q⟩
def spCkP : Sp := fun vs H Q _ => ∃ s a b, vs = [.int s, .int a, .int b] ∧ 0 ≤ s ∧ s < 4 ∧ Q .non H
theorem use_ckp {s a b : Int} {H : Hp} {Q : VK} {E : XK} (h1 : 0 ≤ s) (h2 : s < 4) (q : Q .non H) : spCkP ([.int s, .int a, .int b] ++ []) H Q E := ⟨s, a, b, rfl, h1, h2, q⟩
def spLFold : Sp := fun vs H Q _ => ∃ s a b, vs = [.int s, .int a, .int b] ∧ 0 ≤ s ∧ s < 4 ∧ ∀ p H', Same H H' → H' p = some (.tup [.int (foldP s a b).1, .int (foldP s a b).2]) → Q (.ref p) H'
theorem use_lfold {s a b : Int} {H : Hp} {Q : VK} {E : XK} (h1 : 0 ≤ s) (h2 : s < 4) (q : ∀ p H', Same H H' → H' p = some (.tup [.int (foldP s a b).1, .int (foldP s a b).2]) → Q (.ref p) H') : spLFold ([.int s, .int a, .int b] ++ []) H Q E := ⟨s, a, b, rfl, h1, h2, q⟩
def spIsPair : Sp := fun vs H Q _ => ∃ p x y, vs = [.ref p] ∧ H p = some (.tup [.int x, .int y]) ∧ Q (.bl true) H
theorem use_ispair {p : Addr} {x y : Int} {H : Hp} {Q : VK} {E : XK} (h : H p = some (.tup [.int x, .int y])) (q : Q (.bl true) H) : spIsPair ([.ref p] ++ []) H Q E := ⟨p, x, y, rfl, h, q⟩
theorem look_upd {H : Hp} {p a : Addr} {o u : HO} (n : a ≠ p) (h : H a = some u) : upd H p o a = some u := by rw [upd_ne n]; exact h
theorem at_ints {ns : List Int} {j : Nat} {z : Int} (h : ns[j]? = some z) : atI (ns.map V.int) (j : Int) = some (.int z) := atI_nat (by rw [List.getElem?_map, h]; rfl)
def Kp2 (p q : Addr) (H H' : Hp) : Prop := ∀ a o, a ≠ p → a ≠ q → H a = some o → H' a = some o
theorem Kp2.refl {p q : Addr} {H : Hp} : Kp2 p q H H := fun _ _ _ _ h => h
theorem Kp2.trans {p q : Addr} {H H1 H2 : Hp} (a : Kp2 p q H H1) (b : Kp2 p q H1 H2) : Kp2 p q H H2 := fun c o n m h => b c o n m (a c o n m h)
theorem Kp2.ofK {p q : Addr} {H H' : Hp} (k : Kp p H H') : Kp2 p q H H' := fun a o n _ h => k a o n h
theorem Kp2.ofS {p q : Addr} {H H' : Hp} (k : Same H H') : Kp2 p q H H' := fun a o _ _ h => k a o h
theorem Kp2.new {p q r : Addr} {H : Hp} {o : HO} (h : H r = none) : Kp2 p q H (upd H r o) := .ofS (same_new h)
theorem Kp2.at {p q : Addr} {H : Hp} {o : HO} : Kp2 p q H (upd H q o) := fun a x _ n h => by rw [upd_ne n]; exact h
theorem close_turn {p : Addr} {H H1 H2 H3 : Hp} (s : Same H H1) (n : H1 p = none) (s2 : Same H1 H2) (k : Kp p H2 H3) : Same H H3 := same_kp (s.trans s2) (s.free n) k
def spLaw (K : PySem.W.Frag) : Sp := fun vs H Q _ => ∃ (a : Addr) (ns : List Int), vs = [.ref a] ∧ SqL K H a (ns.map V.int) ∧ ns.length ≤ 63 ∧ ∀ H', Q (.bl true) H'
theorem if_no {c : Bool} {A B : Prop} (h : c = false) (q : B) : if c = true then A else B := by rw [h]; exact iteF q
theorem if_yes {c : Bool} {A B : Prop} (h : c = true) (q : A) : if c = true then A else B := by rw [h]; exact iteT q
theorem if_noD {p : Prop} [Decidable p] {A B : Prop} (h : ¬ p) (q : B) : if decide p = true then A else B := if_no (decide_eq_false h) q
theorem if_yesD {p : Prop} [Decidable p] {A B : Prop} (h : p) (q : A) : if decide p = true then A else B := if_yes (decide_eq_true h) q
theorem if_noN {p : Prop} [Decidable p] {A B : Prop} (h : p) (q : B) : if (!decide p) = true then A else B := if_no (by rw [decide_eq_true h]; rfl) q
theorem if_yesN {p : Prop} [Decidable p] {A B : Prop} (h : ¬ p) (q : A) : if (!decide p) = true then A else B := if_yes (by rw [decide_eq_false h]; rfl) q
theorem canLay_ints : ∀ ns : List Int, PyData.canLayAll0 (ns.map PyData.int) = true
  | [] => rfl
  | n :: r => by
    show (PyData.canLay0 (.int n) && PyData.canLayAll0 (r.map PyData.int)) = true
    rw [canLay_ints r]
    rfl
theorem depth_ints : ∀ ns : List Int, PyData.depthAll (ns.map PyData.int) = 0
  | [] => rfl
  | n :: r => by
    show max (PyData.depth (.int n)) (PyData.depthAll (r.map PyData.int)) = 0
    rw [depth_ints r]
    rfl
theorem shaped_ints (ns : List Int) : SeqAt.shaped (.list (ns.map PyData.int)) = true := by
  show (PyData.canLayAll0 (ns.map PyData.int) && decide (PyData.depthAll (ns.map PyData.int) + 1 ≤ 64)) = true
  rw [canLay_ints, depth_ints]
  rfl
theorem eqv_ints : ∀ ns ms : List Int, PyData.eqvAll (ns.map PyData.int) (ms.map PyData.int) = decide (ns = ms)
  | [], [] => by simp [PyData.eqvAll]
  | [], m :: r => by simp [PyData.eqvAll]
  | n :: r, [] => by simp [PyData.eqvAll]
  | n :: r, m :: t => by
    show (PyData.eqv (.int n) (.int m) && PyData.eqvAll (r.map PyData.int) (t.map PyData.int)) = decide (n :: r = m :: t)
    rw [eqv_ints r t]
    show ((n == m) && decide (r = t)) = decide (n :: r = m :: t)
    by_cases h : n = m
    · subst h
      simp
    · have e : (n == m) = false := by simpa using h
      rw [e, Bool.false_and]
      exact (decide_eq_false fun z => h (List.cons.inj z).1).symm
section
variable {K : PySem.W.Frag} {H : Hp} {Q : VK} {p q : Addr} {ns ms : List Int}
theorem rd_neL (hp : SqL K H p (ns.map V.int)) (hq : SqL K H q (ms.map V.int)) (h : Q (.bl (!decide (ns = ms))) H) : rNeD K (.ref p) (.ref q) H Q :=
  ⟨_, _, .lst hp (dp_ints ns), .lst hq (dp_ints ms), shaped_ints ns, shaped_ints ms, by
    rw [show PyData.eqv (.list (ns.map PyData.int)) (.list (ms.map PyData.int)) = decide (ns = ms) by rw [← eqv_ints]; simp only [PyData.eqv]]
    exact h⟩
theorem rd_eqL (hp : SqL K H p (ns.map V.int)) (hq : SqL K H q (ms.map V.int)) (h : Q (.bl (decide (ns = ms))) H) : rEqD K (.ref p) (.ref q) H Q :=
  ⟨_, _, .lst hp (dp_ints ns), .lst hq (dp_ints ms), shaped_ints ns, shaped_ints ms, by
    rw [show PyData.eqv (.list (ns.map PyData.int)) (.list (ms.map PyData.int)) = decide (ns = ms) by rw [← eqv_ints]; simp only [PyData.eqv]]
    exact h⟩
theorem rd_neN (hp : SqL K H p (ns.map V.int)) (hq : SqL K H q []) (h : Q (.bl (!decide (ns = []))) H) : rNeD K (.ref p) (.ref q) H Q := rd_neL (ms := []) hp hq h
end
section
variable {K : PySem.W.Frag} {σ : L2.St} {H : Hp} {Q : VK} {g : TG} {tb : TS} {D : Ends}
theorem rd_forE {ts : TA} (h : ts σ H fun vs H1 => ∃ a xs, vs = [.ref a] ∧ SqL K H1 a xs ∧ LpW (Ite K a) g tb D σ H1) : tFor (iEnum K ts) g tb D σ H := h
theorem rd_lpE {a : Addr} {xs : List V} (e : SqL K H a xs) (h : LpW (Ite K a) g tb D σ H) : ∃ b ys, [V.ref a] = [.ref b] ∧ SqL K H b ys ∧ LpW (Ite K b) g tb D σ H := ⟨a, xs, rfl, e, h⟩
theorem for_enum {a : Addr} {xs : List V} (Pv : Nat → L2.St → Hp → Prop) (h0 : Pv 0 σ H) (hl : ∀ i σ H, i ≤ xs.length → Pv i σ H → SqL K H a xs)
    (hs : ∀ i x σ H T, xs[i]? = some x → Pv i σ H → H T = none → g (.ref T) σ (upd H T (.tup [.int (i : Nat), x])) fun σ2 H2 => tb { D with nx := Pv (i + 1), ct := Pv (i + 1), bk := D.nx } σ2 H2) (hd : ∀ σ H, Pv xs.length σ H → D.nx σ H) : LpW (Ite K a) g tb D σ H := by
  refine ⟨fun i m σ H => m = xs.length - i ∧ i ≤ xs.length ∧ Pv i σ H, ⟨xs.length, by simp, Nat.zero_le _, h0⟩, ?_⟩
  rintro i m σ H ⟨rfl, hi, p⟩
  have q := hl i σ H hi p
  by_cases hlt : i < xs.length
  · refine .inr ⟨⟨xs, xs[i], q, by simp [hlt]⟩, Pv (i + 1), fun σ' H' p' => ⟨xs.length - (i + 1), by omega, rfl, hlt, p'⟩, fun x H' y => ?_⟩
    obtain ⟨T, x1, rfl, nT, rfl, y⟩ := y
    exact hs i x1 σ H T (y xs q) p nT
  · have e : i = xs.length := by omega
    subst e
    exact .inl ⟨⟨xs, q, Nat.le_refl _⟩, hd σ H p⟩
theorem rd_forZ {ts : TA} (h : ts σ H fun vs H1 => ∃ a b xs ys, vs = [.ref a, .ref b] ∧ ((SqL K H1 a xs ∧ SqL K H1 b ys ∧ LpW (Itz K a b) g tb D σ H1) ∨ (SqT K H1 a xs ∧ SqT K H1 b ys ∧ LpW (RZ.ItzT K a b) g tb D σ H1))) : tFor (RZ.iZipA K ts) g tb D σ H := h
def LcW (J : It) (g : TG) (tt : TT) (te : TE) (vs : List Nat) (Q : VK) (σ : L2.St) (H1 : Hp) (D : Addr) : Prop := ∃ W : Nat → Nat → Hp → Prop, (∃ m, W 0 m (upd H1 D (.lst []))) ∧ ∀ i m H, W i m H →
  (J.stop i H ∧ Q (.ref D) H) ∨ (J.go i H ∧ ∃ Nx : Hp → Prop, (∀ H', Nx H' → ∃ m', m' < m ∧ W (i + 1) m' H') ∧ ∀ x H', J.yld i H x H' → g x (wipe σ vs) H' fun σ2 H2 => wipe σ2 vs = wipe σ vs ∧ tt σ2 H2 fun b H3 =>
    if b = true then te σ2 H3 fun y H4 => ∃ acc, H4 D = some (.lst acc) ∧ acc.length < sizeLine ∧ Nx (upd H4 D (.lst (acc ++ [y]))) else Nx H3)
theorem rd_lc1 {ts : TA} {tt : TT} {te : TE} {vs : List Nat} (h : ts σ H fun us H1 => ∃ j : Int, us = [.int j] ∧ -(2 ^ 62) ≤ j ∧ j < 2 ^ 62 ∧ ∀ D, H1 D = none → LcW (Itr 0 j.toNat) g tt te vs Q σ H1 D) : tLc (iRng1 ts) g tt te vs σ H Q := h
theorem rd_yes {σ : L2.St} {H : Hp} {A B : Hp → Prop} (h : A H) : tYes σ H fun b H3 => if b = true then A H3 else B H3 := by
  show if true = true then A H else B H
  rw [if_pos rfl]
  exact h
theorem kp_app {p D : Addr} {H1 H H' : Hp} {o : HO} (hD : H1 D = none) (k : Kp p H1 H) (k2 : Kp p H H') : Kp p H1 (upd H' D o) := fun a x n e => by
  rw [upd_ne (ne_of_none e hD)]
  exact k2 a x n (k a x n e)
theorem rd_lcD {J : It} {tt : TT} {te : TE} {vs : List Nat} (h : ∀ D, H D = none → LcW J g tt te vs Q σ H D) : ∀ D, H D = none → LcW J g tt te vs Q σ H D := h
theorem lc_numbers {vs : List Nat} {i k : Nat} {p D : Addr} {n : Nat} {H1 : Hp} (hσ : ∀ v, ((wipe σ vs).set k (some v))[i]? = some (some (.ref p))) (hw : ∀ v, wipe ((wipe σ vs).set k (some v)) vs = wipe σ vs) (hP : Pool H1 p) (hD : H1 D = none) (hn : n ≤ 1000)
    (q : ∀ (ns : List Int) H', ns.length = n → (∀ z ∈ ns, z.natAbs < 10 ^ 55) → Pool H' p → Kp p H1 H' → H' D = some (.lst (ns.map V.int)) → Q (.ref D) H') :
    LcW (Itr 0 n) (gName k) tYes (tCall spNumber [] E0 (tCons (tVar i) tNil)) vs Q σ H1 D := by
  have hDp : D ≠ p := hP.ne hD
  refine lc_range (Pv := fun j H => ∃ ns : List Int, ns.length = j ∧ (∀ z ∈ ns, z.natAbs < 10 ^ 55) ∧ Pool H p ∧ Kp p H1 H ∧ H D = some (.lst (ns.map V.int))) ⟨[], rfl, List.forall_mem_nil _, hP.new hD, Kp.new hD, upd_same⟩ (fun j H hj hI => ?_) (fun H hI => ?_)
  · obtain ⟨ns, hl, hb, hP', hK, hd⟩ := hI
    refine ⟨hw _, rd_yes ?_⟩
    refine rd_call (rd_cons (rd_var (hσ _) (rd_nil (use_number hP' fun r H' hr hP2 hK2 => ?_))))
    refine ⟨_, hK2 _ _ hDp hd, ?_, ns ++ [r], ?_, ?_, ?_, kp_app hD hK hK2, ?_⟩
    · rw [List.length_map]
      exact small1000 (by omega)
    · rw [List.length_append, hl]
      rfl
    · intro z hz
      rcases List.mem_append.mp hz with hz | hz
      · exact hb z hz
      · rw [List.mem_singleton.mp hz]
        exact hr
    · obtain ⟨x, y, e, r⟩ := hP2
      exact ⟨x, y, by rw [upd_ne hDp.symm]; exact e, r⟩
    · rw [upd_same, List.map_append]
      rfl
  · obtain ⟨ns, hl, hb, hP', hK, hd⟩ := hI
    exact q ns H hl hb hP' hK hd
end
def scalarV : V → Bool
  | .non => true
  | .bl _ => true
  | .int _ => true
  | .str _ => true
  | _ => false
def LstV (K : PySem.W.Frag) (H : Hp) (a : Addr) (xs : List V) : Prop := SqL K H a xs ∧ TyX K H (.ref a) (.type "list")
def TupV (K : PySem.W.Frag) (H : Hp) (a : Addr) (xs : List V) : Prop := SqT K H a xs ∧ TyX K H (.ref a) (.type "tuple")
def SmV (K : PySem.W.Frag) (H : Hp) : Nat → V → V → Prop
  | 0, x, y => x = y ∧ scalarV x = true
  | n + 1, x, y => (x = y ∧ scalarV x = true) ∨ (∃ a b xs ys, x = .ref a ∧ y = .ref b ∧ LstV K H a xs ∧ LstV K H b ys ∧ xs.length = ys.length ∧ ∀ (i : Nat) x y, xs[i]? = some x → ys[i]? = some y → SmV K H n x y) ∨
      ∃ a b xs ys, x = .ref a ∧ y = .ref b ∧ TupV K H a xs ∧ TupV K H b ys ∧ xs.length = ys.length ∧ ∀ (i : Nat) x y, xs[i]? = some x → ys[i]? = some y → SmV K H n x y
theorem LstV.of {K : PySem.W.Frag} {H : Hp} {a : Addr} {xs : List V} (h : H a = some (.lst xs)) : LstV K H a xs := ⟨SqL.of h, .base (.lst h)⟩
theorem TupV.of {K : PySem.W.Frag} {H : Hp} {a : Addr} {xs : List V} (h : H a = some (.tup xs)) : TupV K H a xs := ⟨SqT.of h, .base (.tup h)⟩
section
variable {K : PySem.W.Frag} {H H' : Hp}
theorem tyo_same {x : V} {t : Value} (s : Same H H') (h : TyOf K H x t) : TyOf K H' x t := by
  cases h with
  | non => exact .non
  | bl x => exact .bl x
  | int i => exact .int i
  | str x => exact .str x
  | flt x => exact .flt x
  | lst e => exact .lst (s _ _ e)
  | frz e => exact .frz (s _ _ e)
  | tup e => exact .tup (s _ _ e)
  | dK e => exact .dK (s _ _ e)
  | dT e => exact .dT (s _ _ e)
  | ins e cl ha hn htk hm => exact .ins (s _ _ e) cl ha hn htk hm
theorem tyx_same {x : V} {t : Value} (s : Same H H') (h : TyX K H x t) : TyX K H' x t := by
  cases h with
  | base b => exact .base (tyo_same s b)
  | byt b => exact .byt b
  | set e => exact .set (s _ _ e)
  | kList e c => exact .kList e c
  | kTuple e c => exact .kTuple e c
  | kDict e c => exact .kDict e c
  | fTuple e => exact .fTuple (s _ _ e)
  | fDict e => exact .fDict (s _ _ e)
theorem LstV.same {a : Addr} {xs : List V} (s : Same H H') (h : LstV K H a xs) : LstV K H' a xs := ⟨s.seq h.1, tyx_same s h.2⟩
theorem same_seqT {a : Addr} {xs : List V} (s : Same H H') (h : SqT K H a xs) : SqT K H' a xs := by
  rcases h with (h | ⟨o, h⟩) | h
  · exact .inl (.inl (s _ _ h))
  · exact .inl (.inr ⟨o, s _ _ h⟩)
  · exact .inr h
theorem TupV.same {a : Addr} {xs : List V} (s : Same H H') (h : TupV K H a xs) : TupV K H' a xs := ⟨same_seqT s h.1, tyx_same s h.2⟩
theorem SmV.same (s : Same H H') : ∀ (n : Nat) {x y : V}, SmV K H n x y → SmV K H' n x y
  | 0, _, _, h => h
  | n + 1, x, y, h => by
    rcases h with h | ⟨a, b, xs, ys, e1, e2, h1, h2, l, h⟩ | ⟨a, b, xs, ys, e1, e2, h1, h2, l, h⟩
    · exact .inl h
    · exact .inr (.inl ⟨a, b, xs, ys, e1, e2, h1.same s, h2.same s, l, fun i x y a b => SmV.same s n (h i x y a b)⟩)
    · exact .inr (.inr ⟨a, b, xs, ys, e1, e2, h1.same s, h2.same s, l, fun i x y a b => SmV.same s n (h i x y a b)⟩)
theorem isi_ty {Q : VK} {x : V} {t n : String} {d : Bool} (h : TyX K H x (.type t)) (e : kitB t n = some d) (q : Q (.bl d) H) : rIsi K [x, .ty n] H Q := rd_isi (.ty n) h (kit_ty e) q
theorem sm_ints {p q : Addr} {ns : List Int} (hp : H p = some (.lst (ns.map V.int))) (hq : H q = some (.lst (ns.map V.int))) : SmV K H 1 (.ref p) (.ref q) :=
  .inr (.inl ⟨p, q, _, _, rfl, rfl, .of hp, .of hq, rfl, fun i x y e1 e2 => by
    rw [e1] at e2
    have e := Option.some.inj e2
    subst e
    rw [List.getElem?_map] at e1
    cases g : ns[i]? with
    | none => rw [g] at e1; cases e1
    | some z => rw [g] at e1; cases e1; exact ⟨rfl, rfl⟩⟩)
end
theorem sm_sc {K : PySem.W.Frag} {H : Hp} {x : V} (h : scalarV x = true) : ∀ {n : Nat}, SmV K H n x x
  | 0 => ⟨rfl, h⟩
  | _ + 1 => .inl ⟨rfl, h⟩
def spSame (K : PySem.W.Frag) (n : Nat) : Sp := fun vs H Q _ => ∃ x y, vs = [x, y] ∧ SmV K H n x y ∧ ∀ H', Same H H' → Q (.bl true) H'
theorem use_same {K : PySem.W.Frag} {n : Nat} {x y : V} {H : Hp} {Q : VK} {E : XK} (h : SmV K H n x y) (q : ∀ H', Same H H' → Q (.bl true) H') : spSame K n ([x, y] ++ []) H Q E := ⟨x, y, rfl, h, q⟩
def spItems (K : PySem.W.Frag) : Sp := fun vs H Q _ => ∃ (a : Addr) (ns : List Int), vs = [.ref a] ∧ SqL K H a (ns.map V.int) ∧ ∀ H', Same H H' → Q .non H'
theorem use_items {K : PySem.W.Frag} {a : Addr} {ns : List Int} {H : Hp} {Q : VK} {E : XK} (h : SqL K H a (ns.map V.int)) (q : ∀ H', Same H H' → Q .non H') : spItems K ([.ref a] ++ []) H Q E := ⟨a, ns, rfl, h, q⟩
def spBlock : Sp := fun vs H Q _ => ∃ (a : Addr) (ns : List Int) (least : Int), vs = [.ref a, .int least] ∧ H a = some (.lst (ns.map V.int)) ∧ least ≤ ns.length ∧ ns.length ≤ 64 ∧ ∀ H', Same H H' → Q .non H'
theorem use_block {a : Addr} {ns : List Int} {least : Int} {H : Hp} {Q : VK} {E : XK} (h : H a = some (.lst (ns.map V.int))) (h1 : least ≤ ns.length) (h2 : ns.length ≤ 64) (q : ∀ H', Same H H' → Q .non H') : spBlock ([.ref a, .int least] ++ []) H Q E := ⟨a, ns, least, rfl, h, h1, h2, q⟩
def codeU (n : Int) : Int := if n ≥ 0 then 2 * n else -2 * n - 1
def spCode : Sp := fun vs H Q _ => ∃ n, vs = [.int n] ∧ Q (.int (codeU n)) H
theorem use_code {n : Int} {H : Hp} {Q : VK} {E : XK} (q : Q (.int (codeU n)) H) : spCode ([.int n] ++ []) H Q E := ⟨n, rfl, q⟩
def markF (ns : List Int) : Int := ns.foldl (fun m n => (m * 31 + codeU n) % 9973) 1
theorem markF_snoc (ns : List Int) (z : Int) : markF (ns ++ [z]) = (markF ns * 31 + codeU z) % 9973 := by
  unfold markF
  rw [List.foldl_append]
  rfl
theorem foldm_bound : ∀ (ns : List Int) (m : Int), 0 ≤ m → m < 9973 → 0 ≤ ns.foldl (fun m n => (m * 31 + codeU n) % 9973) m ∧ ns.foldl (fun m n => (m * 31 + codeU n) % 9973) m < 9973
  | [], m, h0, h1 => ⟨h0, h1⟩
  | n :: r, m, _, _ => foldm_bound r _ (Int.emod_nonneg _ (by decide)) (Int.emod_lt_of_pos _ (by decide))
theorem markF_bound (ns : List Int) : 0 ≤ markF ns ∧ markF ns < 9973 := foldm_bound ns 1 (by decide) (by decide)
def spMark : Sp := fun vs H Q _ => ∃ (a : Addr) (ns : List Int), vs = [.ref a] ∧ H a = some (.lst (ns.map V.int)) ∧ ns.length ≤ 64 ∧ ∀ H', Same H H' → Q (.int (markF ns)) H'
theorem use_mark {a : Addr} {ns : List Int} {H : Hp} {Q : VK} {E : XK} (h : H a = some (.lst (ns.map V.int))) (h2 : ns.length ≤ 64) (q : ∀ H', Same H H' → Q (.int (markF ns)) H') : spMark ([.ref a] ++ []) H Q E := ⟨a, ns, rfl, h, h2, q⟩
def jx (u v : V) : Bool := match u, v with
  | .int w, .int t => decide (0 < w) || decide (t = 0)
  | _, _ => false
def jt (u v : V) : Bool := inI u 0 8 && (inI v 0 3 && jx u v)
theorem dec_i0 (t : Int) : decide (V.int t = V.int 0) = decide (t = 0) := decide_eq_decide.mpr ⟨V.int.inj, congrArg V.int⟩
inductive JR (H : Hp) : V → Bool → Prop where
  | flat {x : V} (h : scalarV x = true) : JR H x false
  | lst {a : Addr} {xs : List V} (h : H a = some (.lst xs)) : JR H (.ref a) false
  | tupn {a : Addr} {xs : List V} (h : H a = some (.tup xs)) (n : xs.length ≠ 2) : JR H (.ref a) false
  | tup2 {a : Addr} {u v : V} (h : H a = some (.tup [u, v])) (hu : TyV H u) (hv : TyV H v) : JR H (.ref a) (jt u v)
def spJ : Sp := fun vs H Q _ => ∃ x b, vs = [x] ∧ JR H x b ∧ Q (.bl b) H
theorem use_j {x : V} {b : Bool} {H : Hp} {Q : VK} {E : XK} (h : JR H x b) (q : Q (.bl b) H) : spJ ([x] ++ []) H Q E := ⟨x, b, rfl, h, q⟩
theorem jt_no1 {u v : V} (h : inI u 0 8 = false) : jt u v = false := by unfold jt; rw [h]; rfl
theorem jt_no2 {u v : V} (h : inI v 0 3 = false) : jt u v = false := by unfold jt; rw [h, Bool.false_and, Bool.and_false]
theorem inI_isI {x : V} {lo hi : Int} (h : inI x lo hi = true) : isI x = true := by
  cases x <;> first | rfl | exact Bool.noConfusion h
theorem isI_yes {x : V} (h : isI x = true) : ∃ i, x = .int i := by
  cases x <;> first | exact ⟨_, rfl⟩ | exact Bool.noConfusion h
def spS : List Int → List Int
  | a :: b :: r => ((a + b) / 2) :: spS r
  | r => r
def spD : List Int → List Int
  | a :: b :: r => (a - b) :: spD r
  | _ => []
/-- behind i levels: the sums, and the differences -/
def lvS (ns : List Int) : Nat → List Int
  | 0 => ns
  | i + 1 => spS (lvS ns i)
def lvR (ns : List Int) : Nat → List Int
  | 0 => []
  | i + 1 => spD (lvS ns i) ++ lvR ns i
def splitL (ns : List Int) (i : Nat) : List Int := lvS ns i ++ lvR ns i
theorem cut_from (ns : List Int) (k : Nat) (hk : k ≤ ns.length) : cutV (ns.map V.int) (some (k : Int)) none = (ns.drop k).map V.int := by
  unfold cutV
  rw [show HT.sIx (ns.map V.int).length 0 (some (k : Int)) = min k (ns.map V.int).length from HT.sIx_nat _ 0 k, HT.sIx_none, List.length_map, Nat.min_eq_left hk, ← List.map_drop]
  rw [List.take_of_length_le (by rw [List.length_map, List.length_drop]; exact Nat.le_refl _)]
theorem rg2 (n : Nat) (h : n ≤ 64) : RgC 0 ((n : Int) - 1) 2 (n / 2) := by
  have hs : Builtin.Range.rangeSize 0 ((n : Int) - 1) 2 = ((n / 2 : Nat) : Int) := by
    unfold Builtin.Range.rangeSize
    rw [if_pos (by decide)]
    split <;> omega
  refine ⟨by decide, by decide, ?_, hs⟩
  unfold Builtin.Range.small
  rw [hs]
  simp only [Builtin.Range.rangeFitsLong, Bool.and_eq_true, Bool.or_eq_true, decide_eq_true_eq, beq_iff_eq, show ((2 : Int) > 0) by decide, if_true]
  omega
section
variable {K : PySem.W.Frag} {σ : L2.St} {H : Hp} {Q : VK} {g : TG} {tb : TS} {D : Ends}
theorem rd_for3 {ts : TA} (h : ts σ H fun vs H1 => ∃ (i j c : Int) (n : Nat), vs = [.int i, .int j, .int c] ∧ RgC i j c n ∧ LpW (Itc i c n) g tb D σ H1) : tFor (iRng3 ts) g tb D σ H := h
theorem rd_n3 {n : Nat} {A : Int → Int → Int → Nat → Prop} (h : n ≤ 64) (q : A 0 ((n : Int) - 1) 2 (n / 2)) : ∃ (i j c : Int) (k : Nat), [V.int 0, V.int ((n : Int) - 1), V.int 2] = [.int i, .int j, .int c] ∧ RgC i j c k ∧ A i j c k := ⟨_, _, _, _, rfl, rg2 n h, q⟩
theorem rd_catL {a b : Addr} {xs ys : List Int} (h1 : H a = some (.lst (xs.map V.int))) (h2 : H b = some (.lst (ys.map V.int))) (n : xs.length + ys.length ≤ 1000) (q : ∀ p, H p = none → Q (.ref p) (upd H p (.lst ((xs ++ ys).map V.int)))) : rCat (.ref a) (.ref b) H Q :=
  ⟨a, b, _, _, rfl, rfl, h1, h2, by rw [List.length_map, List.length_map]; exact Nat.le_of_lt (small1000 n), fun p hp => by rw [← List.map_append]; exact q p hp⟩
theorem rd_appI {a : Addr} {xs : List Int} {z : Int} (h : H a = some (.lst (xs.map V.int))) (n : xs.length ≤ 1000) (q : Q .non (upd H a (.lst ((xs ++ [z]).map V.int)))) : rAppend (.ref a) [.int z] H Q :=
  ⟨a, _, _, rfl, rfl, h, by rw [List.length_map]; exact small1000 n, by rw [List.map_append] at q; exact q⟩
theorem rd_sl {te : TE} {tl th : TO} {r : V → Option Int → Option Int → Hp → VK → Prop} (h : te σ H fun x H1 => tl σ H1 fun l H2 => th σ H2 fun u H3 => r x l u H3 Q) : L2.tSl r te tl th σ H Q := h
theorem rd_part {te : TE} {q : Option Int → Hp → Prop} (h : te σ H fun x H1 => ∃ i, x = .int i ∧ q (some i) H1) : tPart te σ H q := h
theorem rd_nopart {q : Option Int → Hp → Prop} (h : q none H) : tNoPart σ H q := h
theorem rd_oneI {i : Int} {P : Int → Prop} (h : P i) : ∃ j, V.int i = .int j ∧ P j := ⟨i, rfl, h⟩
theorem rd_bm {m : V → List V → Hp → VK → Prop} {to : TE} {ts : TA} (h : to σ H fun x H1 => tyV K "list" x H1 ∧ ts σ H1 fun xs H2 => m x xs H2 Q) : tBM K "list" m to ts σ H Q := h
theorem rd_tyL {a : Addr} {xs : List V} {P : Prop} (h : H a = some (.lst xs)) (q : P) : tyV K "list" (.ref a) H ∧ P := ⟨.inl ⟨rfl, _, .inl (.inl h)⟩, q⟩
theorem rd_slF {a : Addr} {ns : List Int} {k : Nat} (h : SqL K H a (ns.map V.int)) (hk : k ≤ ns.length) (q : ∀ p, H p = none → Q (.ref p) (upd H p (.lst ((ns.drop k).map V.int)))) : rSlL K (.ref a) (some (k : Int)) none H Q :=
  ⟨a, _, rfl, h, fun p hp => by rw [cut_from ns k hk]; exact q p hp⟩
end
def spOnce (K : PySem.W.Frag) : Sp := fun vs H Q _ => ∃ (a : Addr) (ns : List Int), vs = [.ref a] ∧ SqL K H a (ns.map V.int) ∧ ns.length ≤ 64 ∧ ∀ p s d H', Same H H' → H' p = some (.tup [.ref s, .ref d]) → H' s = some (.lst ((spS ns).map V.int)) → H' d = some (.lst ((spD ns).map V.int)) → H s = none → Q (.ref p) H'
theorem use_once {K : PySem.W.Frag} {a : Addr} {ns : List Int} {H : Hp} {Q : VK} {E : XK} (h : SqL K H a (ns.map V.int)) (n : ns.length ≤ 64) (q : ∀ p s d H', Same H H' → H' p = some (.tup [.ref s, .ref d]) → H' s = some (.lst ((spS ns).map V.int)) → H' d = some (.lst ((spD ns).map V.int)) → H s = none → Q (.ref p) H') : spOnce K ([.ref a] ++ []) H Q E := ⟨a, ns, rfl, h, n, q⟩
def spSplit : Sp := fun vs H Q _ => ∃ (a : Addr) (ns : List Int) (k : Int), vs = [.ref a, .int k] ∧ H a = some (.lst (ns.map V.int)) ∧ 1 ≤ ns.length ∧ ns.length ≤ 64 ∧ 0 ≤ k ∧ k ≤ 5 ∧ ∀ p H', H p = none → Same H H' → H' p = some (.lst ((splitL ns k.toNat).map V.int)) → Q (.ref p) H'
theorem use_split {a : Addr} {ns : List Int} {k : Int} {H : Hp} {Q : VK} {E : XK} (h : H a = some (.lst (ns.map V.int))) (h1 : 1 ≤ ns.length) (h2 : ns.length ≤ 64) (h3 : 0 ≤ k) (h4 : k ≤ 5) (q : ∀ p H', H p = none → Same H H' → H' p = some (.lst ((splitL ns k.toNat).map V.int)) → Q (.ref p) H') : spSplit ([.ref a, .int k] ++ []) H Q E := ⟨a, ns, k, rfl, h, h1, h2, h3, h4, q⟩
theorem use_splitK {a : Addr} {ns : List Int} {k : Int} {H : Hp} {Q : VK} {E : XK} (h : H a = some (.lst (ns.map V.int))) (h1 : 1 ≤ ns.length) (h2 : ns.length ≤ 64) (h3 : 0 ≤ k) (h4 : k ≤ 5) (q : ∀ p H', H p = none → Same H H' → H' p = some (.lst ((splitL ns k.toNat).map V.int)) → Q (.ref p) H') : spSplit (kg 0 2 [1, 0] [] [.int k, .ref a]) H Q E := ⟨a, ns, k, rfl, h, h1, h2, h3, h4, q⟩
def jn : List Int → List Int → List Int
  | s :: S, d :: D => (s - d / 2 + d) :: (s - d / 2) :: jn S D
  | S, _ => S
theorem jn_nil (S : List Int) : jn S [] = S := by
  cases S <;> simp [jn]
theorem jn_cons (s d : Int) (S D : List Int) : jn (s :: S) (d :: D) = (s - d / 2 + d) :: (s - d / 2) :: jn S D := by simp [jn]
theorem jn_length : ∀ S D : List Int, D.length ≤ S.length → (jn S D).length = S.length + D.length
  | S, [], _ => by rw [jn_nil]; rfl
  | [], d :: D, h => by simp at h
  | s :: S, d :: D, h => by
    rw [jn_cons]
    have := jn_length S D (by simpa using h)
    simp only [List.length_cons]
    omega
/-- how many are coarse -/
def cc (n : Nat) : Nat → Nat
  | 0 => n
  | i + 1 => (cc n i + 1) / 2
theorem cc_le (n : Nat) : ∀ i, cc n (i + 1) ≤ cc n i
  | 0 => by show (n + 1) / 2 ≤ n; omega
  | i + 1 => by show (cc n (i + 1) + 1) / 2 ≤ cc n (i + 1); omega
theorem cc_n (n : Nat) : ∀ i, cc n i ≤ n
  | 0 => Nat.le_refl _
  | i + 1 => Nat.le_trans (cc_le n i) (cc_n n i)
/-- the values when j of m levels are joined -/
def wv (ns : List Int) (m : Nat) : Nat → List Int
  | 0 => ns.take (cc ns.length m)
  | j + 1 => jn (wv ns m j) ((ns.drop (cc ns.length (m - j))).take (cc ns.length (m - (j + 1)) - cc ns.length (m - j)))
theorem wv_step {ns : List Int} {m j : Nat} (h : j + 1 ≤ m) (hl : (wv ns m j).length = cc ns.length (m - j)) :
    ((ns.drop (cc ns.length (m - j))).take (cc ns.length (m - (j + 1)) - cc ns.length (m - j))).length = cc ns.length (m - (j + 1)) - cc ns.length (m - j) ∧ cc ns.length (m - j) = (cc ns.length (m - (j + 1)) + 1) / 2 := by
  have e : m - j = (m - (j + 1)) + 1 := by omega
  have c : cc ns.length (m - j) = (cc ns.length (m - (j + 1)) + 1) / 2 := by rw [e]; rfl
  refine ⟨?_, c⟩
  have := cc_n ns.length (m - (j + 1))
  rw [List.length_take, List.length_drop]
  omega
theorem wv_length (ns : List Int) (m : Nat) : ∀ j, j ≤ m → (wv ns m j).length = cc ns.length (m - j)
  | 0, _ => by
    show (ns.take (cc ns.length m)).length = cc ns.length m
    have := cc_n ns.length m
    rw [List.length_take]
    omega
  | j + 1, h => by
    have ih := wv_length ns m j (by omega)
    obtain ⟨h1, h2⟩ := wv_step h ih
    show (jn (wv ns m j) _).length = _
    rw [jn_length _ _ (by rw [h1, ih]; omega), h1, ih]
    omega
def joinL (ns : List Int) (m : Nat) : List Int := wv ns m m
theorem joinL_length (ns : List Int) (m : Nat) : (joinL ns m).length = ns.length := by
  unfold joinL
  rw [wv_length ns m m (Nat.le_refl _), Nat.sub_self]
  rfl
/-- the pairs of a join -/
def jp : List Int → List Int → List Int
  | s :: S, d :: D => (s - d / 2 + d) :: (s - d / 2) :: jp S D
  | _, _ => []
theorem jp_cons (s d : Int) (S D : List Int) : jp (s :: S) (d :: D) = (s - d / 2 + d) :: (s - d / 2) :: jp S D := by simp [jp]
theorem jn_jp : ∀ S D : List Int, D.length ≤ S.length → jn S D = jp S D ++ S.drop D.length
  | S, [], _ => by rw [jn_nil]; cases S <;> simp [jp]
  | [], d :: D, h => by simp at h
  | s :: S, d :: D, h => by
    rw [jn_cons, jp_cons, jn_jp S D (by simpa using h)]
    rfl
theorem jp_length : ∀ S D : List Int, D.length ≤ S.length → (jp S D).length = 2 * D.length
  | S, [], _ => by cases S <;> simp [jp]
  | [], d :: D, h => by simp at h
  | s :: S, d :: D, h => by
    rw [jp_cons]
    have := jp_length S D (by simpa using h)
    simp only [List.length_cons]
    omega
theorem jp_step : ∀ (S D : List Int) (i : Nat) (s d : Int), S[i]? = some s → D[i]? = some d → (jp S D).take (2 * (i + 1)) = (jp S D).take (2 * i) ++ [s - d / 2 + d, s - d / 2]
  | [], _, i, s, d, h, _ => by simp at h
  | _ :: _, [], i, s, d, _, h => by simp at h
  | x :: S, y :: D, 0, s, d, h1, h2 => by
    have e1 : x = s := Option.some.inj h1
    have e2 : y = d := Option.some.inj h2
    subst e1 e2
    rw [jp_cons]
    rfl
  | x :: S, y :: D, i + 1, s, d, h1, h2 => by
    have ih := jp_step S D i s d h1 h2
    rw [jp_cons, show 2 * (i + 1 + 1) = 2 * (i + 1) + 1 + 1 by omega, show 2 * (i + 1) = 2 * i + 1 + 1 by omega]
    rw [show 2 * (i + 1) = 2 * i + 1 + 1 by omega] at ih
    show (x - y / 2 + y) :: (x - y / 2) :: (jp S D).take (2 * i + 1 + 1) = (x - y / 2 + y) :: (x - y / 2) :: ((jp S D).take (2 * i) ++ _)
    rw [ih]
theorem cut_to (ns : List Int) (k : Nat) : cutV (ns.map V.int) none (some (k : Int)) = (ns.take k).map V.int := by
  unfold cutV
  rw [HT.sIx_none, show HT.sIx (ns.map V.int).length (ns.map V.int).length (some (k : Int)) = min k (ns.map V.int).length from HT.sIx_nat _ _ k, List.drop_zero, Nat.sub_zero, ← List.map_take]
  rw [List.length_map, show min k ns.length = min k ns.length from rfl, ← List.take_take, List.take_length]
theorem cut_mid (ns : List Int) (j k : Nat) (hj : j ≤ ns.length) (hk : k ≤ ns.length) : cutV (ns.map V.int) (some (j : Int)) (some (k : Int)) = ((ns.drop j).take (k - j)).map V.int := by
  unfold cutV
  rw [show HT.sIx (ns.map V.int).length 0 (some (j : Int)) = min j (ns.map V.int).length from HT.sIx_nat _ _ j, show HT.sIx (ns.map V.int).length (ns.map V.int).length (some (k : Int)) = min k (ns.map V.int).length from HT.sIx_nat _ _ k]
  rw [List.length_map, Nat.min_eq_left hj, Nat.min_eq_left hk, ← List.map_drop, ← List.map_take]
section
variable {K : PySem.W.Frag} {σ : L2.St} {H : Hp} {Q : VK} {g : TG} {tb : TS} {D : Ends}
theorem rd_slT {a : Addr} {ns : List Int} {k : Nat} (h : SqL K H a (ns.map V.int)) (q : ∀ p, H p = none → Q (.ref p) (upd H p (.lst ((ns.take k).map V.int)))) : rSlL K (.ref a) none (some (k : Int)) H Q :=
  ⟨a, _, rfl, h, fun p hp => by rw [cut_to ns k]; exact q p hp⟩
theorem rd_slM {a : Addr} {ns : List Int} {j k : Nat} (h : SqL K H a (ns.map V.int)) (hj : j ≤ ns.length) (hk : k ≤ ns.length) (q : ∀ p, H p = none → Q (.ref p) (upd H p (.lst (((ns.drop j).take (k - j)).map V.int)))) : rSlL K (.ref a) (some (j : Int)) (some (k : Int)) H Q :=
  ⟨a, _, rfl, h, fun p hp => by rw [cut_mid ns j k hj hk]; exact q p hp⟩
theorem rd_forV {te : TE} (h : te σ H fun x H1 => ∃ n, x = .int n ∧ (-(2 ^ 62) ≤ (0 : Int) ∧ (0 : Int) < 2 ^ 62 ∧ -(2 ^ 62) ≤ n ∧ n < 2 ^ 62 ∧ LpW (Itc (0 + (((n - 0).toNat : Nat) : Int) - 1) (-1) (n - 0).toNat) g tb D σ H1)) : tFor (iRevR (tRg1 te)) g tb D σ H := h
theorem rd_nV {n : Int} {P : Prop} (h1 : -(2 ^ 62) ≤ n) (h2 : n < 2 ^ 62) (q : P) : -(2 ^ 62) ≤ (0 : Int) ∧ (0 : Int) < 2 ^ 62 ∧ -(2 ^ 62) ≤ n ∧ n < 2 ^ 62 ∧ P := ⟨by decide, by decide, h1, h2, q⟩
end
def spCoarse : Sp := fun vs H Q _ => ∃ (n k : Nat), vs = [.int (n : Int), .int (k : Int)] ∧ 1 ≤ n ∧ n ≤ 64 ∧ k ≤ 5 ∧ Q (.int (cc n k : Nat)) H
theorem use_coarse {n k : Nat} {H : Hp} {Q : VK} {E : XK} (h1 : 1 ≤ n) (h2 : n ≤ 64) (h3 : k ≤ 5) (q : Q (.int (cc n k : Nat)) H) : spCoarse ([.int (n : Int), .int (k : Int)] ++ []) H Q E := ⟨n, k, rfl, h1, h2, h3, q⟩
def spJoin1 : Sp := fun vs H Q _ => ∃ (s d : Addr) (S D : List Int), vs = [.ref s, .ref d] ∧ H s = some (.lst (S.map V.int)) ∧ H d = some (.lst (D.map V.int)) ∧ D.length ≤ S.length ∧ S.length ≤ 64 ∧ ∀ p H', Same H H' → H p = none → H' p = some (.lst ((jn S D).map V.int)) → Q (.ref p) H'
theorem use_join1 {s d : Addr} {S D : List Int} {H : Hp} {Q : VK} {E : XK} (h1 : H s = some (.lst (S.map V.int))) (h2 : H d = some (.lst (D.map V.int))) (h3 : D.length ≤ S.length) (h4 : S.length ≤ 64) (q : ∀ p H', Same H H' → H p = none → H' p = some (.lst ((jn S D).map V.int)) → Q (.ref p) H') : spJoin1 ([.ref s, .ref d] ++ []) H Q E := ⟨s, d, S, D, rfl, h1, h2, h3, h4, q⟩
def spJoin : Sp := fun vs H Q _ => ∃ (a : Addr) (ns : List Int) (k : Int), vs = [.ref a, .int k] ∧ H a = some (.lst (ns.map V.int)) ∧ 1 ≤ ns.length ∧ ns.length ≤ 64 ∧ 0 ≤ k ∧ k ≤ 5 ∧ ∀ p H', H p = none → Same H H' → H' p = some (.lst ((joinL ns k.toNat).map V.int)) → Q (.ref p) H'
theorem use_join {a : Addr} {ns : List Int} {k : Int} {H : Hp} {Q : VK} {E : XK} (h : H a = some (.lst (ns.map V.int))) (h1 : 1 ≤ ns.length) (h2 : ns.length ≤ 64) (h3 : 0 ≤ k) (h4 : k ≤ 5) (q : ∀ p H', H p = none → Same H H' → H' p = some (.lst ((joinL ns k.toNat).map V.int)) → Q (.ref p) H') : spJoin ([.ref a, .int k] ++ []) H Q E := ⟨a, ns, k, rfl, h, h1, h2, h3, h4, q⟩
theorem use_joinK {a : Addr} {ns : List Int} {k : Int} {H : Hp} {Q : VK} {E : XK} (h : H a = some (.lst (ns.map V.int))) (h1 : 1 ≤ ns.length) (h2 : ns.length ≤ 64) (h3 : 0 ≤ k) (h4 : k ≤ 5) (q : ∀ p H', H p = none → Same H H' → H' p = some (.lst ((joinL ns k.toNat).map V.int)) → Q (.ref p) H') : spJoin (kg 0 2 [1, 0] [] [.int k, .ref a]) H Q E := ⟨a, ns, k, rfl, h, h1, h2, h3, h4, q⟩
def spInts : Sp := fun vs H Q _ => ∃ (a : Addr) (ns : List Int) (n : Int), vs = [.ref a, .int n] ∧ H a = some (.lst (ns.map V.int)) ∧ (ns.length : Int) = n ∧ Q (.bl true) H
theorem use_ints {a : Addr} {ns : List Int} {n : Int} {H : Hp} {Q : VK} {E : XK} (h : H a = some (.lst (ns.map V.int))) (h1 : (ns.length : Int) = n) (q : Q (.bl true) H) : spInts ([.ref a, .int n] ++ []) H Q E := ⟨a, ns, n, rfl, h, h1, q⟩
section
variable {K : PySem.W.Frag} {σ : L2.St} {H : Hp} {Q : VK} {g : TG}
theorem rd_lcL {ti te : TE} {tt : TT} {vs : List Nat} (h : ti σ H fun x H1 => ∃ a, x = .ref a ∧ (∃ xs, SqL K H1 a xs) ∧ ∀ D, H1 D = none → LcW (Itl K a) g tt te vs Q σ H1 D) : tLc (iList K ti) g tt te vs σ H Q := h
theorem rd_lcP {a : Addr} {xs : List V} {te : TE} {tt : TT} {vs : List Nat} (e : SqL K H a xs) (h : ∀ D, H D = none → LcW (Itl K a) g tt te vs Q σ H D) : ∃ b, V.ref a = .ref b ∧ (∃ xs, SqL K H b xs) ∧ ∀ D, H D = none → LcW (Itl K b) g tt te vs Q σ H D := ⟨a, rfl, ⟨xs, e⟩, h⟩
end
structure Dn (K : PySem.W.Frag) (mg : Str → Option Value) (x : Str) (st : Stmt) (ps : List Str) (f : Addr) (fd : FuncData) : Prop where
  F : Fun K x x st f fd
  g : mg x = some (.ref f)
  b : Binds K fd ps []
structure Bi (mg : Str → Option Value) : Prop where
  int_ : mg "int" = none
  bool_ : mg "bool" = none
  str_ : mg "str" = none
  list_ : mg "list" = none
  tuple_ : mg "tuple" = none
  len_ : mg "len" = none
  abs_ : mg "abs" = none
  max_ : mg "max" = none
  min_ : mg "min" = none
  range_ : mg "range" = none
  zip_ : mg "zip" = none
  isinstance_ : mg "isinstance" = none
  enumerate_ : mg "enumerate" = none
  reversed_ : mg "reversed" = none
end Z
namespace Z
open PySem PySem.Spec PyProof.Rows L2
def rIsX (K : PySem.W.Frag) (C a : Addr) (cls : Value) (d : Option Addr) : List V → Hp → VK → Prop := fun xs H Q =>
  ∃ (c : V) (cv : Value) (b : Bool) (dd : Addr) (fs : List (Str × V)), xs = [.ref a, c] ∧ cls = .ref C ∧ d = some dd ∧ H dd = some (.xd fs) ∧ (∀ u, RelV c u → u = cv) ∧ PySem.W.kitOne K (.ref C) cv = some b ∧ Q (.bl b) H
theorem call_isX {X : Cx} {a D : Addr} {oe : Obj} {cls : Value} {d : Option Addr} {pn : List (Addr × Obj)} (T : ExcC X.K D) (hz : Zc cls d oe) (hf : ∃ vs, oe.data = .fields vs) :
    CallR (X.suite a ((a, oe) :: pn)) (.builtin "isinstance") (rIsX X.K D a cls d) := by
  intro pins s σ H xs us Q I r h
  obtain ⟨c, cv, b, dd, fs, e1, e2, e3, e4, hcv, hk, q⟩ := h
  subst e1 e2 e3
  match r with
  | .cons (b := u1) ra (.cons (b := u2) rc .nil) =>
    obtain rfl : u1 = Value.ref a := ra
    obtain rfl := hcv _ rc
    have hp := (I.pin (a, oe) (List.mem_append_left _ List.mem_cons_self)).1
    obtain ⟨fv, hfv⟩ := hf
    have ho : ObjOk X.prog X.w H s.heap dd (.xd fs) := I.hok dd _ e4
    obtain ⟨mA, hns, _⟩ := ho
    obtain ⟨od, hod, _⟩ := lookIn_ns hns
    have J : PySem.W.InstAt s.heap a oe D (some od) := ⟨hp, hz.1, by simp [PySem.W.notCls, hfv], by rw [hz.2]; exact hod⟩
    have hc : (PySem.W.clsIn X.K D).isSome = true := by
      have h5 := T.hd
      unfold PySem.W.hasDictIn at h5
      cases e : PySem.W.clsIn X.K D with
      | none => rw [e] at h5; exact Bool.noConfusion h5
      | some cd => rfl
    exact PySem.W.kia_one (PySem.W.kitx_exc hc T.hg T.hk T.hs T.ha T.hn T.ht T.hm) I.kIn J hk (fun z => nomatch z) fun tk => ⟨.bl b, H, I.kept (t' := tk) fun _ _ z => z, rfl, q⟩
theorem mk_heap {H : Hp} {a d : Addr} {o1 o2 o3 o4 : HO} (ha : H a = none) (hd : d ≠ a) : upd (del (upd (upd (upd H a o1) d o2) a o3) a) d o4 = upd H d o4 := by
  funext b
  by_cases h1 : b = d
  · subst h1; rw [upd_same, upd_same]
  · rw [upd_ne h1, upd_ne h1]
    by_cases h2 : b = a
    · subst h2; rw [del_same, ha]
    · rw [del_ne h2, upd_ne h2, upd_ne h1, upd_ne h2]
/-- an own error class C, its name x, its one field f, its __init__ at fI -/
structure EC (K : PySem.W.Frag) (mg : Str → Option Value) (x f : Str) (C fI : Addr) : Prop where
  o : OexC K C
  xf : XfC K C
  ec : ExcC K C
  g : mg x = some (.ref C)
  noF : PySem.W.findIn K (.ref C) f = some none
  te : PySem.W.exmOne K (.ref C) (.ref C) = some true
  iC : PySem.W.findIn K (.ref C) "__init__" = some (some (.ref fI))
  tI : PySem.W.typeIn K (.ref fI) = some (.type "function")
def spInit (K : PySem.W.Frag) (C : Addr) (f : Str) : Sp := fun vs H Q _ => ∃ (a : Addr) (v : V), vs = [.ref a, v] ∧ H a = some (exo a C none) ∧ ∀ dx, H dx = none → dx ≠ a → Q .non (upd (upd H dx (exd dx [(f, v)])) a (exo a C (some dx)))
/-- the reading of raise C(e) -/
def tRaiseX (K : PySem.W.Frag) (C : Addr) (f : Str) (W : WX) (ta : TA) : TS := fun _ σ H => tMkO C (spInit K C f) [] ta σ H fun cls d H' => W cls d σ H'
section
variable {X : Cx} {C fI : Addr} {x f : Str} {fd : FuncData} {W : WX} {e : Expr} {ta : TA} {p pos pos2 : Pos} {k : Nat} {ps : List Str}
theorem ps_raiseX (T : EC X.K X.mg x f C fI) (F : FnOk X.prog X.w X.K X.mg X.base CX0 k fI fd ps (spInit X.K C f)) (hb : Binds X.K fd ps []) (hc : X.calm = true) (hr : Room (k + 1) X.A) (tk : Takes X W) (ha : PA X [e] ta) (hg : Gl X x := by rfl)
    (hdb : (x == ("__debug__" : Str)) = false := by decide) (he : starEach (e :: []) X.env = (false, eval e X.env) :: starEach [] X.env := by rfl) (hpl : (backTo pos (starEach [] X.env)).any (·.1) = false := by rfl) :
    PS X (.Raise (some (.Call (.Name x p) [e] [] pos)) none pos2) (tRaiseX X.K C f W ta) :=
  ps_raise hc tk (pmk_oex T.o T.iC T.tI F hr hb .nil (fun _ _ _ _ _ _ _ z => z.elim) hg T.g ha hdb he hpl)
end
section
variable {K : PySem.W.Frag} {σ : L2.St} {H : Hp} {C : Addr} {f : Str} {W : WX} {ta : TA} {D : Ends}
theorem rd_raiseX (h : ta σ H fun vs H1 => ∃ v, vs = [v] ∧ ∀ d, H1 d = none → W (.ref C) (some d) σ (upd H1 d (.xd [(f, v)]))) (hm : ∀ {q q' : List V → Hp → Prop}, (∀ vs H, q vs H → q' vs H) → ta σ H q → ta σ H q') : tRaiseX K C f W ta D σ H := by
  refine hm (fun vs H1 h => ?_) h
  obtain ⟨v, rfl, h⟩ := h
  refine ⟨by simp, fun a ha => ⟨a, v, rfl, upd_same, fun dx hdx hne => ⟨rfl, dx, [(f, v)], upd_same, ?_, ?_, ?_⟩⟩⟩
  · rw [upd_ne hne, upd_same]
  · rw [upd_ne hne] at hdx
    exact hdx
  · rw [mk_heap ha hne]
    rw [upd_ne hne] at hdx
    exact h dx hdx
theorem rd_raise1 {te : TE} (h : te σ H fun v H1 => ∀ d, H1 d = none → W (.ref C) (some d) σ (upd H1 d (.xd [(f, v)]))) (hm : ∀ {q q' : V → Hp → Prop}, (∀ v H, q v H → q' v H) → te σ H q → te σ H q') : tRaiseX K C f W (tCons te tNil) D σ H :=
  rd_raiseX (hm (fun v H1 z => ⟨v, rfl, z⟩) h) fun {q q'} hq hh => hm (fun v H1 z => hq _ _ z) hh
theorem rd_raiseV {i : Nat} {v : V} (e : σ[i]? = some (some v)) (h : ∀ d, H d = none → W (.ref C) (some d) σ (upd H d (.xd [(f, v)]))) : tRaiseX K C f W (tCons (tVar i) tNil) D σ H :=
  rd_raise1 ⟨v, e, h⟩ fun hq ⟨v, e, z⟩ => ⟨v, e, hq _ _ z⟩
theorem rd_raiseC {v : V} (h : ∀ d, H d = none → W (.ref C) (some d) σ (upd H d (.xd [(f, v)]))) : tRaiseX K C f W (tCons (tC v) tNil) D σ H := rd_raise1 (te := tC v) h fun hq z => hq _ _ z
end
/-- how an error leaves: of the class C, the field f holding v -/
def Err (C : Addr) (f : Str) (v : V) (H : Hp) (E : XK) : Prop := ∀ d H', Same H H' → H d = none → H' d = some (.xd [(f, v)]) → E (.ref C) (some d) H'
theorem Err.now {C : Addr} {f : Str} {v : V} {H : Hp} {E : XK} (h : Err C f v H E) : ∀ d, H d = none → E (.ref C) (some d) (upd H d (.xd [(f, v)])) := fun d n => h d _ (same_new n) n upd_same
theorem Err.same {C : Addr} {f : Str} {v : V} {H H' : Hp} {E : XK} (s : Same H H') (h : Err C f v H E) : Err C f v H' E := fun d H2 s2 n e => h d H2 (s.trans s2) (s.free n) e
/-- an own error class with its own __init__, ready to be made -/
def ErrK (P : Program) (w : World) (K : PySem.W.Frag) (mg : Str → Option Value) (base : Heap) (x f : Str) (C : Addr) : Prop :=
  ∃ (fI : Addr) (fd : FuncData), EC K mg x f C fI ∧ FnOk P w K mg base CX0 1 fI fd ["self", f] (spInit K C f) ∧ Binds K fd ["self", f] []
section
variable {P : Program} {w : World} {K : PySem.W.Frag} {mg : Str → Option Value} {base : Heap} {x f : Str} {C : Addr}
theorem ErrK.g (T : ErrK P w K mg base x f C) : mg x = some (.ref C) := let ⟨_, _, t, _⟩ := T; t.g
theorem ErrK.xf (T : ErrK P w K mg base x f C) : XfC K C := let ⟨_, _, t, _⟩ := T; t.xf
theorem ErrK.ec (T : ErrK P w K mg base x f C) : ExcC K C := let ⟨_, _, t, _⟩ := T; t.ec
theorem ErrK.noF (T : ErrK P w K mg base x f C) : PySem.W.findIn K (.ref C) f = some none := let ⟨_, _, t, _⟩ := T; t.noF
theorem ErrK.te (T : ErrK P w K mg base x f C) : PySem.W.exmOne K (.ref C) (.ref C) = some true := let ⟨_, _, t, _⟩ := T; t.te
end
section
variable {X : Cx} {C : Addr} {x f : Str} {W : WX} {e : Expr} {ta : TA} {p pos pos2 : Pos}
theorem ps_raiseE (T : ErrK X.prog X.w X.K X.mg X.base x f C) (hc : X.calm = true) (hr : Room 2 X.A) (tk : Takes X W) (ha : PA X [e] ta) (hg : Gl X x := by rfl)
    (hdb : (x == ("__debug__" : Str)) = false := by decide) (he : starEach (e :: []) X.env = (false, eval e X.env) :: starEach [] X.env := by rfl) (hpl : (backTo pos (starEach [] X.env)).any (·.1) = false := by rfl) :
    PS X (.Raise (some (.Call (.Name x p) [e] [] pos)) none pos2) (tRaiseX X.K C f W ta) := by
  obtain ⟨fI, fd, t, F, b⟩ := T
  exact ps_raiseX t F b hc hr tk ha hg hdb he hpl
end
open LamX
def KpN (p : Addr) (H H' : Hp) : Prop := ∀ b o, b ≠ p → H b = some o → (∀ ps, o ≠ .tbl ps) → H' b = some o
section
variable {p q : Addr} {H H' H1 H2 : Hp} {o u : HO}
theorem KpN.refl : KpN p H H := fun _ _ _ h _ => h
theorem KpN.trans (a : KpN p H H1) (b : KpN p H1 H2) : KpN p H H2 := fun c o n h t => b c o n (a c o n h t) t
theorem KpN.ofK (k : Kp p H H') : KpN p H H' := fun a o n h _ => k a o n h
theorem KpN.of (s : Same H H') : KpN p H H' := fun a o _ h _ => s a o h
theorem KpN.ofN (s : ExtN H H') : KpN p H H' := fun a o _ h t => s a o h t
theorem KpN.new (h : H q = none) : KpN p H (upd H q o) := .of (same_new h)
theorem KpN.at : KpN p H (upd H p o) := .ofK Kp.at
theorem lst_ntbl {xs : List V} : ∀ ps, HO.lst xs ≠ .tbl ps := fun _ z => nomatch z
theorem tup_ntbl {xs : List V} : ∀ ps, HO.tup xs ≠ .tbl ps := fun _ z => nomatch z
theorem look_extL {a : Addr} {xs : List V} (s : ExtN H H') (h : H a = some (.lst xs)) : H' a = some (.lst xs) := s _ _ h lst_ntbl
theorem look_extT {a : Addr} {xs : List V} (s : ExtN H H') (h : H a = some (.tup xs)) : H' a = some (.tup xs) := s _ _ h tup_ntbl
theorem Pool.ext (s : ExtN H H') (h : Pool H p) : Pool H' p := by
  obtain ⟨x, y, e, r⟩ := h
  exact ⟨x, y, s _ _ e lst_ntbl, r⟩
theorem Tabs.same {T : List (Addr × Str)} (s : Same H H') (t : Tabs T H) : Tabs T H' := t.ext fun b o h => s b o h
theorem Tabs.new {T : List (Addr × Str)} (n : H q = none) (t : Tabs T H) : Tabs T (upd H q o) := t.ext fun b o h => same_new n b o h
theorem codeO_lst {c : Addr} {q : Str} {xs : List V} : CodeO c q ≠ .lst xs := fun z => by
  unfold CodeO at z
  cases z
theorem Tabs.kp {T : List (Addr × Str)} (hp : Pool H p) (k : Kp p H H') (t : Tabs T H) : Tabs T H' := fun e he => by
  obtain ⟨x, y, hl, _⟩ := hp
  obtain ⟨ps, h1, h2, h3⟩ := t e he
  refine ⟨ps, k _ _ (fun z => by rw [z, hl] at h1; cases h1) h1, h2, fun pos cv hc => ?_⟩
  obtain ⟨c, e1, e2⟩ := h3 pos cv hc
  exact ⟨c, e1, k _ _ (fun z => by rw [z, hl] at e2; exact codeO_lst (Option.some.inj e2).symm) e2⟩
end
def DV (p : Addr) (H : Hp) (v : V) : Prop := scalarV v = true ∨ ∃ a xs, v = .ref a ∧ a ≠ p ∧ (H a = some (.lst xs) ∨ H a = some (.tup xs)) ∧ ∀ x ∈ xs, scalarV x = true
section
variable {p : Addr} {H H' : Hp} {v : V} {K : PySem.W.Frag}
theorem DV.ty (h : DV p H v) : TyV H v := by
  rcases h with h | ⟨a, xs, rfl, _, h | h, _⟩
  · cases v <;> first | exact True.intro | exact Bool.noConfusion h
  · exact .inl ⟨xs, h⟩
  · exact .inr ⟨xs, h⟩
theorem DV.sm (h : DV p H v) : SmV K H 1 v v := by
  rcases h with h | ⟨a, xs, rfl, _, h | h, s⟩
  · exact .inl ⟨rfl, h⟩
  · exact .inr (.inl ⟨a, a, xs, xs, rfl, rfl, .of h, .of h, rfl, fun i x y e1 e2 => by
      rw [e1] at e2
      exact ⟨Option.some.inj e2, s x (List.mem_of_getElem? e1)⟩⟩)
  · exact .inr (.inr ⟨a, a, xs, xs, rfl, rfl, .of h, .of h, rfl, fun i x y e1 e2 => by
      rw [e1] at e2
      exact ⟨Option.some.inj e2, s x (List.mem_of_getElem? e1)⟩⟩)
theorem DV.sc (h : scalarV v = true) : DV p H v := .inl h
theorem DV.lst {a : Addr} {xs : List V} (n : a ≠ p) (h : H a = some (.lst xs)) (s : ∀ x ∈ xs, scalarV x = true) : DV p H (.ref a) := .inr ⟨a, xs, rfl, n, .inl h, s⟩
theorem DV.tup {a : Addr} {xs : List V} (n : a ≠ p) (h : H a = some (.tup xs)) (s : ∀ x ∈ xs, scalarV x = true) : DV p H (.ref a) := .inr ⟨a, xs, rfl, n, .inr h, s⟩
end
/-- what the error that told caught becomes: a list of flags and of its field -/
def ErL (C : Addr) (f : Str) (L : V → List V) (Q : VK) : XK := fun cls d H' => cls = .ref C ∧ ∃ dd v, d = some dd ∧ H' dd = some (.xd [(f, v)]) ∧ ∀ p H'', Same H' H'' → H' p = none → H'' p = some (.lst (L v)) → Q (.ref p) H''
/-- try: a() / except C as e: return [.., e.f] / return None -/
def TTnone (C : Addr) (f : Str) (L : V → List V) : (XK → Hp → VK → Prop) → Hp → VK → Prop := fun tl H Q => tl (ErL C f L Q) H (fun _ H' => Q .non H')
section
variable {K : PySem.W.Frag}
theorem kit_ref {C J : Addr} {b : Bool} (s : PySem.W.subIn K (.ref C) (.ref J) = some b) (n : C ≠ J) (i : PySem.W.isClsIn K J = true) (t : PySem.W.typeIn K (.ref J) = some (.type "type")) : PySem.W.kitOne K (.ref C) (.ref J) = some b := by
  unfold PySem.W.kitOne
  rw [if_neg (by simpa using n)]
  have i' : (PySem.W.clsIn K J).isSome = true := i
  show (if ((PySem.W.clsIn K J).isSome && PySem.W.typeIn K (.ref J) == some (.type "type")) = true then PySem.W.subIn K (.ref C) (.ref J) else none) = some b
  rw [i', t]
  exact s
end
/-- the facts of an own error class, gathered -/
theorem ec_mk {K : PySem.W.Frag} {mg : Str → Option Value} {x f : Str} {C fI N : Addr} {nm q : Str} {bs bm : List Value} {sn : List Str} {sub : List Value} {ab : Bool} {col : Option Bool} {dd : Option Addr} {m0 m1 m2 m3 m5 : Option Value}
    (g : mg x = some (.ref C)) (l : K.lookup C = some (PySem.excClassObj nm q C N bs bm true sn sub ab col dd m0 m1 m2 m3 m5 "ValueError.__new__")) (hb : PySem.HandSPX.refsVE bm = true)
    (sa : PySem.W.findIn K (.ref C) "__setattr__" = some (some (.builtin "object.__setattr__"))) (ga : PySem.W.findIn K (.ref C) "__getattribute__" = some (some (.builtin "BaseException.__getattribute__")))
    (gg : PySem.W.findIn K (.ref C) "__getattr__" = some none) (nf : PySem.W.findIn K (.ref C) f = some none) (ic : PySem.W.findIn K (.ref C) "__init__" = some (some (.ref fI))) (ti : PySem.W.typeIn K (.ref fI) = some (.type "function"))
    (ca : PySem.W.findIn K (.ref C) "__class__" = some (some (.builtin "object.__class__"))) (cn : PySem.W.specialIn K (.builtin "object.__class__") "__get__" = some (some (.builtin "getset_descriptor.__get__")))
    (ct : PySem.W.takesIn K (.builtin "object.__class__") = some true) (cm : PySem.W.mroIn K C (.type "object") = some true) (kp : PySem.W.keepIn K (.ref C) = true) (sb : PySem.W.subIn K (.ref C) (.type "BaseException") = some true)
    (tc : PySem.W.typeIn K (.ref C) = some (.type "type")) (hd : PySem.W.hasDictIn K C = true) (ss : PySem.W.subIn K (.ref C) (.ref C) = some true) : EC K mg x f C fI :=
  { o := ⟨⟨nm, q, N, bs, bm, sn, sub, ab, col, dd, m0, m1, m2, m3, m5, l, hb⟩, sa, sb, tc, kp⟩, xf := ⟨ga, gg, sb, hd⟩, ec := ⟨ga, gg, sb, hd, ca, cn, ct, cm⟩, g := g, noF := nf, te := PySem.W.exm_ref sb hd tc ss, iC := ic, tI := ti }
section
variable {X : Cx} {K : PySem.W.Frag} {σ : L2.St} {H : Hp} {Q : VK} {D : Ends} {n : L2.St → Hp → Prop} {r : VK} {b c : L2.St → Hp → Prop}
theorem rd_isX {C a dd : Addr} {cls : Value} {d : Option Addr} {c' : V} {cv : Value} {bb : Bool} {fs : List (Str × V)} (e1 : cls = .ref C) (e2 : d = some dd) (e3 : H dd = some (.xd fs)) (e4 : ∀ u, RelV c' u → u = cv) (k : PySem.W.kitOne K (.ref C) cv = some bb) (h : Q (.bl bb) H) : rIsX K C a cls d [.ref a, c'] H Q := ⟨c', cv, bb, dd, fs, rfl, e1, e2, e3, e4, k, h⟩
theorem rd_xf {C a : Addr} {cls : Value} {d : Option Addr} {f : Str} {te : TE} (h : te σ H fun x H1 => x = .ref a ∧ cls = .ref C ∧ ∃ (dd : Addr) (fs : List (Str × V)) (v : V), d = some dd ∧ H1 dd = some (.xd fs) ∧ fs.lookup f = some v ∧ Q v H1) : tXf a cls d C f te σ H Q := h
theorem rd_lam {T : List (Addr × Str)} {TT : (XK → Hp → VK → Prop) → Hp → VK → Prop} {t : XK → TE} (h1 : Tabs T H) (h2 : ∀ H1, ExtN H H1 → Tabs T H1 → TT (fun E H' Q' => t E σ H' Q') H1 Q) : tLam T TT t σ H Q := ⟨h1, h2⟩
theorem rd_told {C : Addr} {f : Str} {L : V → List V} {tl : XK → Hp → VK → Prop} (h : tl (ErL C f L Q) H (fun _ H' => Q .non H')) : TTnone C f L tl H Q := h
theorem rd_catG {a b : Addr} {xs ys : List V} (h1 : H a = some (.lst xs)) (h2 : H b = some (.lst ys)) (n : xs.length + ys.length ≤ 1000) (q : ∀ p, H p = none → Q (.ref p) (upd H p (.lst (xs ++ ys)))) : rCat (.ref a) (.ref b) H Q :=
  ⟨a, b, _, _, rfl, rfl, h1, h2, Nat.le_of_lt (small1000 n), fun p hp => q p hp⟩
end
end Z
namespace Z
open PySem PySem.Spec PyProof.Rows L2
def geZ : V → Bool
  | .int i => decide (0 ≤ i)
  | _ => false
def tt (u v : V) : Bool := isI u && (geZ u && inI v 1 15)
inductive TR (H : Hp) : V → Bool → Prop where
  | flat {x : V} (h : scalarV x = true) : TR H x false
  | lst {a : Addr} {xs : List V} (h : H a = some (.lst xs)) : TR H (.ref a) false
  | tupn {a : Addr} {xs : List V} (h : H a = some (.tup xs)) (n : xs.length ≠ 2) : TR H (.ref a) false
  | tup2 {a : Addr} {u v : V} (h : H a = some (.tup [u, v])) (hu : TyV H u) (hv : TyV H v) : TR H (.ref a) (tt u v)
inductive TSR (H : Hp) : V → Bool → Prop where
  | flat {x : V} (h : scalarV x = true) : TSR H x false
  | lst {a : Addr} {xs : List V} (h : H a = some (.lst xs)) : TSR H (.ref a) false
  | tupn {a : Addr} {xs : List V} (h : H a = some (.tup xs)) (n : xs.length ≠ 2) : TSR H (.ref a) false
  | tup2 {a : Addr} {u v : V} {b1 b2 : Bool} (h : H a = some (.tup [u, v])) (hu : TR H u b1) (hv : TR H v b2) : TSR H (.ref a) (b1 && b2)
def spTbl : Sp := fun vs H Q _ => ∃ x b, vs = [x] ∧ TR H x b ∧ Q (.bl b) H
theorem use_tbl {x : V} {b : Bool} {H : Hp} {Q : VK} {E : XK} (h : TR H x b) (q : Q (.bl b) H) : spTbl ([x] ++ []) H Q E := ⟨x, b, rfl, h, q⟩
def spTbls : Sp := fun vs H Q _ => ∃ x b, vs = [x] ∧ TSR H x b ∧ Q (.bl b) H
theorem use_tbls {x : V} {b : Bool} {H : Hp} {Q : VK} {E : XK} (h : TSR H x b) (q : Q (.bl b) H) : spTbls ([x] ++ []) H Q E := ⟨x, b, rfl, h, q⟩
theorem tt_no1 {u v : V} (h : isI u = false) : tt u v = false := by unfold tt; rw [h]; rfl
theorem tt_int {t : Int} {v : V} : tt (.int t) v = (decide (0 ≤ t) && inI v 1 15) := rfl
/-- the parameter of a table -/
def par (t c : Int) : Nat := Builtin.Int.intBits ((if 1 > (t + c - 1) / c then 1 else (t + c - 1) / c) - 1)
theorem par_spec {t c : Int} (ht : 0 ≤ t) (hc : 1 ≤ c) : (∀ j : Nat, j < par t c → c * 2 ^ j < t) ∧ t ≤ c * 2 ^ par t c := by
  have d1 := Int.mul_ediv_self_le (x := t + c - 1) (k := c) (by omega)
  have d2 : t + c - 1 < c * ((t + c - 1) / c) + c := Int.lt_mul_ediv_self_add (by omega)
  unfold par
  generalize (t + c - 1) / c = q at d1 d2 ⊢
  have key : ∃ m : Int, (if 1 > q then 1 else q) - 1 = m ∧ 0 ≤ m ∧ t ≤ c * (m + 1) ∧ (0 < m → c * m < t) := by
    by_cases h : 1 > q
    · rw [if_pos h]
      refine ⟨0, rfl, Int.le_refl _, ?_, fun z => absurd z (by decide)⟩
      have : c * q ≤ 0 := by
        have := Int.mul_le_mul_of_nonneg_left (show q ≤ 0 by omega) (show 0 ≤ c by omega)
        rw [Int.mul_zero] at this
        exact this
      omega
    · rw [if_neg h]
      refine ⟨q - 1, rfl, by omega, ?_, fun _ => ?_⟩
      · rw [show q - 1 + 1 = q by omega]; omega
      · rw [Int.mul_sub, Int.mul_one]; omega
  obtain ⟨m, e, m0, m1, m2⟩ := key
  rw [e]
  obtain ⟨n, rfl⟩ : ∃ n : Nat, m = (n : Int) := ⟨m.toNat, by omega⟩
  refine ⟨fun j hj => ?_, ?_⟩
  · have h1 : ¬ (Builtin.Int.intBits (n : Int) ≤ j) := by omega
    rw [PySem.intBits_le_iff, Int.natAbs_natCast] at h1
    have h2 : (2 ^ j : Nat) ≤ n := by omega
    have h3 : (0 : Nat) < 2 ^ j := Nat.two_pow_pos j
    have h4 : ((2 ^ j : Nat) : Int) ≤ (n : Int) := by exact_mod_cast h2
    have h5 := Int.mul_le_mul_of_nonneg_left h4 (show 0 ≤ c by omega)
    have h6 := m2 (by omega)
    have h7 : ((2 : Int) ^ j) = ((2 ^ j : Nat) : Int) := by norm_cast
    rw [h7]
    omega
  · have h1 := PySem.intBits_le_iff.mp (Nat.le_refl (Builtin.Int.intBits (n : Int)))
    rw [Int.natAbs_natCast] at h1
    generalize Builtin.Int.intBits (n : Int) = k at h1 ⊢
    have h4 : ((n : Int) + 1) ≤ ((2 ^ k : Nat) : Int) := by exact_mod_cast h1
    have h5 := Int.mul_le_mul_of_nonneg_left h4 (show 0 ≤ c by omega)
    have h7 : ((2 : Int) ^ k) = ((2 ^ k : Nat) : Int) := by norm_cast
    rw [h7]
    omega
theorem par_le {t c : Int} (ht : 0 ≤ t) (hc : 1 ≤ c) (hb : t < 10 ^ 60) (hc2 : c ≤ 15) : par t c ≤ 300 := by
  have d1 := Int.mul_ediv_self_le (x := t + c - 1) (k := c) (by omega)
  unfold par
  rw [PySem.intBits_le_iff]
  have e : (10 : Int) ^ 60 + 20 < 2 ^ 300 := by decide
  have q0 : 0 ≤ (t + c - 1) / c := Int.ediv_nonneg (by omega) (by omega)
  have q1 : (t + c - 1) / c ≤ t + c - 1 := Int.ediv_le_self _ (by omega)
  generalize (t + c - 1) / c = q at q0 q1 ⊢
  have e2 : ((2 ^ 300 : Nat) : Int) = 2 ^ 300 := by norm_cast
  split <;> omega
/-- drawn rows: drawn values, their numbers not too long -/
def smallV : V → Prop
  | .int i => i.natAbs < 10 ^ 58
  | _ => True
def RV (p : Addr) (H : Hp) (v : V) : Prop := scalarV v = true ∨ ∃ a xs, v = .ref a ∧ a ≠ p ∧ (H a = some (.lst xs) ∨ H a = some (.tup xs)) ∧ (∀ x ∈ xs, scalarV x = true) ∧ ∀ x ∈ xs, smallV x
section
variable {p : Addr} {H H' : Hp} {v : V}
theorem RV.sc (h : scalarV v = true) : RV p H v := .inl h
theorem RV.lst {a : Addr} {xs : List V} (n : a ≠ p) (h : H a = some (.lst xs)) (s : ∀ x ∈ xs, scalarV x = true) (t : ∀ x ∈ xs, smallV x) : RV p H (.ref a) := .inr ⟨a, xs, rfl, n, .inl h, s, t⟩
theorem RV.tup {a : Addr} {xs : List V} (n : a ≠ p) (h : H a = some (.tup xs)) (s : ∀ x ∈ xs, scalarV x = true) (t : ∀ x ∈ xs, smallV x) : RV p H (.ref a) := .inr ⟨a, xs, rfl, n, .inr h, s, t⟩
theorem RV.ne {a : Addr} (h : RV p H (.ref a)) : a ≠ p := by
  rcases h with h | ⟨b, xs, e, n, _⟩
  · exact Bool.noConfusion h
  · cases e
    exact n
theorem RV.tsr (h : RV p H v) : TSR H v false := by
  rcases h with h | ⟨a, xs, rfl, n, h | h, s, t⟩
  · exact .flat h
  · exact .lst h
  · by_cases hl : xs.length = 2
    · obtain ⟨u, w, rfl⟩ := len2 hl
      exact .tup2 (b1 := false) (b2 := false) h (.flat (s u (by simp))) (.flat (s w (by simp)))
    · exact .tupn h hl
end
theorem and_cut {Q : VK} {H : Hp} {b1 b2 : Bool} {T : Prop} (hT : Q (.bl b2) H → T) (hq : Q (.bl (b1 && b2)) H) : ∃ c, V.bl b1 = .bl c ∧ if c = true then T else Q (.bl false) H := by
  cases b1
  · exact ⟨false, rfl, iteF hq⟩
  · exact ⟨true, rfl, iteT (hT hq)⟩
theorem tupV_K {K : PySem.W.Frag} {a : Addr} {od : Option Addr} {its : Array Value} {n : Nat} {sl : Array (Option Value)} {xs : List V} (l : K.lookup a = some ⟨.type "tuple", od, .seq its n, sl⟩) (hs : its.size ≤ sizeLine) (hv : Vals xs its.toList) : ∀ H, TupV K H a xs := fun H => ⟨seqT_K l hs hv H, .kTuple l rfl⟩
def spRow : Sp := fun vs H Q _ => ∃ p, vs = [.ref p] ∧ Pool H p ∧ ∀ v H', RV p H' v → Pool H' p → Kp p H H' → Q v H'
theorem use_row {p : Addr} {H : Hp} {Q : VK} {E : XK} (h : Pool H p) (q : ∀ v H', RV p H' v → Pool H' p → Kp p H H' → Q v H') : spRow ([.ref p] ++ []) H Q E := ⟨p, rfl, h, q⟩
section
variable {K : PySem.W.Frag} {σ : L2.St} {H : Hp} {Q : VK}
theorem rd_bits {te : TE} (h : te σ H fun x H1 => ∃ i, x = .int i ∧ Q (.int (Builtin.Int.intBits i : Nat)) H1) : tBits te σ H Q := h
end
end Z
namespace Z
open PySem PySem.Spec PyProof.Rows L2
/-- joints: place, width, shape -/
abbrev Jo := Nat × Nat × Nat
/-- the steps of a folding: shape, left, right -/
def prs1 (j : Jo) (i : Nat) : List (Nat × Nat × Nat) := (List.range i).map fun i => (j.2.2, j.1 - 1 - i, j.1 + i)
def prs (js : List Jo) : List (Nat × Nat × Nat) := js.flatMap fun j => prs1 j j.2.1
def stp (f : Int → Int → Int → Int × Int) (xs : List Int) (t : Nat × Nat × Nat) : List Int := (xs.set t.2.1 (f t.1 (xs.getD t.2.1 0) (xs.getD t.2.2 0)).1).set t.2.2 (f t.1 (xs.getD t.2.1 0) (xs.getD t.2.2 0)).2
def turnL (f : Int → Int → Int → Int × Int) (xs : List Int) (js : List Jo) : List Int := (prs js).foldl (stp f) xs
/-- the joints have room: behind the place b of a joint of the width wb, in a list of n values -/
def Rm (n : Nat) : Nat → Nat → List Jo → Prop
  | _, _, [] => True
  | b, wb, j :: r => b < j.1 ∧ j.1 < n ∧ b + wb + j.2.1 ≤ j.1 ∧ j.1 + j.2.1 ≤ n ∧ j.2.1 ≤ 8 ∧ j.2.2 ≤ 3 ∧ (j.2.1 = 0 → j.2.2 = 0) ∧ Rm n j.1 j.2.1 r
/-- triples apart -/
def Ap (n : Nat) (ts : List (Nat × Nat × Nat)) : Prop := (∀ t ∈ ts, t.2.1 < n ∧ t.2.2 < n ∧ t.2.1 ≠ t.2.2) ∧ ts.Pairwise fun t u => t.2.1 ≠ u.2.1 ∧ t.2.1 ≠ u.2.2 ∧ t.2.2 ≠ u.2.1 ∧ t.2.2 ≠ u.2.2
theorem stp_length {f : Int → Int → Int → Int × Int} {xs : List Int} {t : Nat × Nat × Nat} : (stp f xs t).length = xs.length := by simp [stp]
theorem foldl_length {f : Int → Int → Int → Int × Int} : ∀ (ts : List (Nat × Nat × Nat)) (xs : List Int), (ts.foldl (stp f) xs).length = xs.length
  | [], _ => rfl
  | t :: r, xs => by rw [List.foldl_cons, foldl_length r, stp_length]
theorem turnL_length {f : Int → Int → Int → Int × Int} {xs : List Int} {js : List Jo} : (turnL f xs js).length = xs.length := foldl_length _ _
theorem stp_out {f : Int → Int → Int → Int × Int} {xs : List Int} {t : Nat × Nat × Nat} {k : Nat} (h1 : t.2.1 ≠ k) (h2 : t.2.2 ≠ k) : (stp f xs t)[k]? = xs[k]? := by
  unfold stp
  rw [List.getElem?_set_ne h2, List.getElem?_set_ne h1]
theorem get_out {f : Int → Int → Int → Int × Int} : ∀ (ts : List (Nat × Nat × Nat)) (xs : List Int) (k : Nat), (∀ t ∈ ts, t.2.1 ≠ k ∧ t.2.2 ≠ k) → (ts.foldl (stp f) xs)[k]? = xs[k]?
  | [], _, _, _ => rfl
  | t :: r, xs, k, h => by
    rw [List.foldl_cons, get_out r _ k fun u hu => h u (List.mem_cons_of_mem _ hu), stp_out (h t List.mem_cons_self).1 (h t List.mem_cons_self).2]
theorem getD_of {xs ys : List Int} {k : Nat} (h : xs[k]? = ys[k]?) : xs.getD k 0 = ys.getD k 0 := by
  rw [List.getD_eq_getElem?_getD, List.getD_eq_getElem?_getD, h]
theorem get_in {f : Int → Int → Int → Int × Int} {n : Nat} : ∀ (ts : List (Nat × Nat × Nat)) (xs : List Int), xs.length = n → Ap n ts → ∀ t ∈ ts,
    (ts.foldl (stp f) xs)[t.2.1]? = some (f t.1 (xs.getD t.2.1 0) (xs.getD t.2.2 0)).1 ∧ (ts.foldl (stp f) xs)[t.2.2]? = some (f t.1 (xs.getD t.2.1 0) (xs.getD t.2.2 0)).2
  | [], _, _, _, t, h => absurd h List.not_mem_nil
  | u :: r, xs, hn, ⟨h1, h2⟩, t, ht => by
    obtain ⟨h3, h4⟩ := List.pairwise_cons.mp h2
    have hu := h1 u List.mem_cons_self
    rw [List.foldl_cons]
    rcases List.mem_cons.mp ht with rfl | ht
    · rw [get_out r _ _ fun v hv => ⟨(h3 v hv).1.symm, (h3 v hv).2.1.symm⟩, get_out r _ _ fun v hv => ⟨(h3 v hv).2.2.1.symm, (h3 v hv).2.2.2.symm⟩]
      unfold stp
      refine ⟨?_, ?_⟩
      · rw [List.getElem?_set_ne (Ne.symm hu.2.2), List.getElem?_set_self (by omega)]
      · rw [List.getElem?_set_self (by rw [List.length_set]; omega)]
    · have ih := get_in (f := f) r (stp f xs u) (by rw [stp_length, hn]) ⟨fun v hv => h1 v (List.mem_cons_of_mem _ hv), h4⟩ t ht
      have a := h3 t ht
      rw [getD_of (stp_out (f := f) (xs := xs) a.1 a.2.2.1), getD_of (stp_out (f := f) (xs := xs) a.2.1 a.2.2.2)] at ih
      exact ih
theorem mem_prs1 {j : Jo} {i : Nat} {t : Nat × Nat × Nat} : t ∈ prs1 j i ↔ ∃ k, k < i ∧ t = (j.2.2, j.1 - 1 - k, j.1 + k) := by
  simp only [prs1, List.mem_map, List.mem_range]
  exact ⟨fun ⟨k, h, e⟩ => ⟨k, h, e.symm⟩, fun ⟨k, h, e⟩ => ⟨k, h, e.symm⟩⟩
/-- each step lies within its joint's room -/
theorem rm_mem {n : Nat} : ∀ (js : List Jo) (b wb : Nat), Rm n b wb js → ∀ t ∈ prs js, b + wb ≤ t.2.1 ∧ t.2.1 < t.2.2 ∧ t.2.2 < n
  | [], _, _, _, t, h => absurd h List.not_mem_nil
  | j :: r, b, wb, ⟨a1, a2, a3, a4, a5, a6, a7, a8⟩, t, h => by
    have e : prs (j :: r) = prs1 j j.2.1 ++ prs r := by simp [prs]
    rw [e] at h
    rcases List.mem_append.mp h with h | h
    · obtain ⟨k, hk, rfl⟩ := mem_prs1.mp h
      dsimp only
      omega
    · have := rm_mem r j.1 j.2.1 a8 t h
      omega
theorem rm_ap {n : Nat} : ∀ (js : List Jo) (b wb : Nat), Rm n b wb js → Ap n (prs js)
  | [], _, _, _ => ⟨fun t h => absurd h List.not_mem_nil, List.Pairwise.nil⟩
  | j :: r, b, wb, h => by
    have hm := rm_mem (j :: r) b wb h
    refine ⟨fun t ht => ?_, ?_⟩
    · have := hm t ht
      omega
    · obtain ⟨a1, a2, a3, a4, a5, a6, a7, a8⟩ := h
      have e : prs (j :: r) = prs1 j j.2.1 ++ prs r := by simp [prs]
      rw [e]
      refine List.pairwise_append.mpr ⟨?_, (rm_ap r j.1 j.2.1 a8).2, fun t ht u hu => ?_⟩
      · unfold prs1
        refine List.pairwise_map.mpr (List.Pairwise.imp_of_mem (fun {x y} hx hy hxy => ?_) (List.nodup_range))
        have hx' := List.mem_range.mp hx
        have hy' := List.mem_range.mp hy
        dsimp only
        omega
      · obtain ⟨k, hk, rfl⟩ := mem_prs1.mp ht
        have := rm_mem r j.1 j.2.1 a8 u hu
        dsimp only
        omega
/-- the place that is folded with a place -/
def prt : List Jo → Nat → Option Nat
  | [], _ => none
  | j :: r, k => if j.1 ≤ k + j.2.1 ∧ k < j.1 + j.2.1 then some (2 * j.1 - 1 - k) else prt r k
theorem prt_none : ∀ (js : List Jo) (k : Nat), prt js k = none → (∀ j ∈ js, j.2.1 ≤ j.1) → ∀ t ∈ prs js, t.2.1 ≠ k ∧ t.2.2 ≠ k
  | [], _, _, _, t, h => absurd h List.not_mem_nil
  | j :: r, k, hp, hw, t, h => by
    have e : prs (j :: r) = prs1 j j.2.1 ++ prs r := by simp [prs]
    rw [e] at h
    unfold prt at hp
    split at hp
    · cases hp
    · rename_i c
      rcases List.mem_append.mp h with h | h
      · obtain ⟨i, hi, rfl⟩ := mem_prs1.mp h
        have := hw j List.mem_cons_self
        dsimp only
        omega
      · exact prt_none r k hp (fun j hj => hw j (List.mem_cons_of_mem _ hj)) t h
theorem prt_some : ∀ (js : List Jo) (k m : Nat), prt js k = some m → (∀ j ∈ js, j.2.1 ≤ j.1 ∧ 0 < j.1) → ∃ t ∈ prs js, (t.2.1 = k ∧ t.2.2 = m) ∨ (t.2.2 = k ∧ t.2.1 = m)
  | [], _, _, h, _ => by cases h
  | j :: r, k, m, hp, hw => by
    have e : prs (j :: r) = prs1 j j.2.1 ++ prs r := by simp [prs]
    have hj := hw j List.mem_cons_self
    unfold prt at hp
    split at hp
    · rename_i c
      have em := Option.some.inj hp
      by_cases c2 : k < j.1
      · refine ⟨(j.2.2, j.1 - 1 - (j.1 - 1 - k), j.1 + (j.1 - 1 - k)), by rw [e]; exact List.mem_append_left _ (mem_prs1.mpr ⟨j.1 - 1 - k, by omega, rfl⟩), .inl ⟨?_, ?_⟩⟩
        · dsimp only; omega
        · dsimp only; omega
      · refine ⟨(j.2.2, j.1 - 1 - (k - j.1), j.1 + (k - j.1)), by rw [e]; exact List.mem_append_left _ (mem_prs1.mpr ⟨k - j.1, by omega, rfl⟩), .inr ⟨?_, ?_⟩⟩
        · dsimp only; omega
        · dsimp only; omega
    · obtain ⟨t, ht, q⟩ := prt_some r k m hp fun j hj => hw j (List.mem_cons_of_mem _ hj)
      exact ⟨t, by rw [e]; exact List.mem_append_right _ ht, q⟩
theorem rm_all {n : Nat} : ∀ (js : List Jo) (b wb : Nat), Rm n b wb js → ∀ j ∈ js, j.2.1 ≤ j.1 ∧ 0 < j.1
  | [], _, _, _, j, h => absurd h List.not_mem_nil
  | k :: r, b, wb, ⟨a1, a2, a3, a4, a5, a6, a7, a8⟩, j, h => by
    rcases List.mem_cons.mp h with rfl | h
    · omega
    · exact rm_all r k.1 k.2.1 a8 j h
theorem turn_none {f : Int → Int → Int → Int × Int} {n k : Nat} {xs : List Int} {js : List Jo} (h : Rm n 0 0 js) (hp : prt js k = none) : (turnL f xs js)[k]? = xs[k]? :=
  get_out _ _ _ (prt_none js k hp fun j hj => (rm_all js 0 0 h j hj).1)
def JsAt (H : Hp) (vs : List V) (js : List Jo) : Prop := vs.length = js.length ∧ ∀ (i : Nat) (v : V), vs[i]? = some v → ∃ (j : Jo) (a q : Addr), js[i]? = some j ∧ v = .ref a ∧ H a = some (.tup [.int (j.1 : Nat), .ref q]) ∧ H q = some (.tup [.int (j.2.1 : Nat), .int (j.2.2 : Nat)])
theorem JsAt.kp {p : Addr} {H H' : Hp} {vs : List V} {js : List Jo} (k : Kp p H H') (hp : ∃ xs, H p = some (.lst xs)) (h : JsAt H vs js) : JsAt H' vs js := ⟨h.1, fun i v e => by
  obtain ⟨j, a, q, e1, e2, e3, e4⟩ := h.2 i v e
  obtain ⟨xs, hp⟩ := hp
  exact ⟨j, a, q, e1, e2, k _ _ (fun z => by rw [z, hp] at e3; cases e3) e3, k _ _ (fun z => by rw [z, hp] at e4; cases e4) e4⟩⟩
theorem JsAt.same {H H' : Hp} {vs : List V} {js : List Jo} (k : Same H H') (h : JsAt H vs js) : JsAt H' vs js := ⟨h.1, fun i v e => by
  obtain ⟨j, a, q, e1, e2, e3, e4⟩ := h.2 i v e
  exact ⟨j, a, q, e1, e2, k _ _ e3, k _ _ e4⟩⟩
theorem jt_ok {j : Jo} (h1 : j.2.1 ≤ 8) (h2 : j.2.2 ≤ 3) (h3 : j.2.1 = 0 → j.2.2 = 0) : jt (.int (j.2.1 : Nat)) (.int (j.2.2 : Nat)) = true := by
  show (decide _ && (decide _ && (decide _ || decide _))) = true
  rw [decide_eq_true (by omega), decide_eq_true (by omega)]
  by_cases h : j.2.1 = 0
  · rw [h3 h, h]; rfl
  · rw [decide_eq_true (show (0 : Int) < (j.2.1 : Nat) by omega)]; rfl
def spSound : Sp := fun vs H Q _ => ∃ (a : Addr) (ns : List Int), vs = [.ref a] ∧ H a = some (.lst (ns.map V.int)) ∧ ∀ H', Same H H' → Q .non H'
theorem use_sound {a : Addr} {ns : List Int} {H : Hp} {Q : VK} {E : XK} (h : H a = some (.lst (ns.map V.int))) (q : ∀ H', Same H H' → Q .non H') : spSound ([.ref a] ++ []) H Q E := ⟨a, ns, rfl, h, q⟩
def spFolds (f : Int → Int → Int → Int × Int) : Sp := fun vs H Q _ => ∃ (a b : Addr) (xs : List Int) (refs : List V) (js : List Jo), vs = [.ref a, .ref b] ∧ H a = some (.lst (xs.map V.int)) ∧ H b = some (.lst refs) ∧ JsAt H refs js ∧ Rm xs.length 0 0 js ∧ xs.length ≤ 10000 ∧
  ∀ p H', H p = none → Same H H' → H' p = some (.lst ((turnL f xs js).map V.int)) → Q (.ref p) H'
theorem use_folds {f : Int → Int → Int → Int × Int} {a b : Addr} {xs : List Int} {refs : List V} {js : List Jo} {H : Hp} {Q : VK} {E : XK} (h1 : H a = some (.lst (xs.map V.int))) (h2 : H b = some (.lst refs)) (h3 : JsAt H refs js) (h4 : Rm xs.length 0 0 js) (h5 : xs.length ≤ 10000)
    (q : ∀ p H', H p = none → Same H H' → H' p = some (.lst ((turnL f xs js).map V.int)) → Q (.ref p) H') : spFolds f ([.ref a, .ref b] ++ []) H Q E := ⟨a, b, xs, refs, js, rfl, h1, h2, h3, h4, h5, q⟩
theorem rd_callL {σ : L2.St} {H : Hp} {Q : VK} {i : Nat} {f : Addr} {sp : Sp} {dvs : List V} {E : XK} {t : TA} (e : σ[i]? = some (some (.ref f))) (h : t σ H fun vs H1 => sp (vs ++ dvs) H1 Q E) : tCallL i f sp dvs E t σ H Q := ⟨e, h⟩
section
variable {K : PySem.W.Frag} {H : Hp} {Q : VK}
theorem isiT_lst {a t : Addr} {xs : List V} (h : H a = some (.lst xs)) (ht : H t = some (.tup [.ty "list", .ty "tuple"])) (q : Q (.bl true) H) : rIsiT K [.ref a, .ref t] H Q :=
  ⟨.ref a, t, _, .type "list", [.type "list", .type "tuple"], true, rfl, ht, .cons (.ty "list") (.cons (.ty "tuple") .nil), .base (.lst h), rfl, q⟩
end
theorem rd_appG {a : Addr} {xs : List V} {v : V} {H : Hp} {Q : VK} (h : H a = some (.lst xs)) (n : xs.length ≤ 1000) (q : Q .non (upd H a (.lst (xs ++ [v])))) : rAppend (.ref a) [v] H Q := ⟨a, _, _, rfl, rfl, h, small1000 n, q⟩
def spLJoints : Sp := fun vs H Q _ => ∃ (p : Addr) (n : Nat), vs = [.ref p, .int (n : Nat)] ∧ Pool H p ∧ n ≤ 100 ∧ ∀ D H' refs js, H D = none → H' D = some (.lst refs) → JsAt H' refs js → Rm n 0 0 js → Pool H' p → Kp p H H' → Q (.ref D) H'
theorem use_ljoints {p : Addr} {n : Nat} {H : Hp} {Q : VK} {E : XK} (h : Pool H p) (hn : n ≤ 100) (q : ∀ D H' refs js, H D = none → H' D = some (.lst refs) → JsAt H' refs js → Rm n 0 0 js → Pool H' p → Kp p H H' → Q (.ref D) H') : spLJoints ([.ref p, .int (n : Nat)] ++ []) H Q E := ⟨p, n, rfl, h, hn, q⟩
def optV : Option Nat → V
  | some m => .int (m : Nat)
  | none => .non
def spPartner : Sp := fun vs H Q _ => ∃ (b : Addr) (refs : List V) (js : List Jo) (n k : Nat), vs = [.ref b, .int (k : Nat)] ∧ H b = some (.lst refs) ∧ JsAt H refs js ∧ Rm n 0 0 js ∧ Q (optV (prt js k)) H
theorem use_partner {b : Addr} {refs : List V} {js : List Jo} {n k : Nat} {H : Hp} {Q : VK} {E : XK} (h1 : H b = some (.lst refs)) (h2 : JsAt H refs js) (h3 : Rm n 0 0 js) (q : Q (optV (prt js k)) H) : spPartner ([.ref b, .int (k : Nat)] ++ []) H Q E := ⟨b, refs, js, n, k, rfl, h1, h2, h3, q⟩
theorem JsAt.new' {q : Addr} {H : Hp} {o : HO} {vs : List V} {js : List Jo} (n : H q = none) (h : JsAt H vs js) : JsAt (upd H q o) vs js := h.same (same_new n)
theorem JsAt.same' {H H' : Hp} {vs : List V} {js : List Jo} (s : Same H H') (h : JsAt H vs js) : JsAt H' vs js := h.same s
theorem JsAt.at' {q : Addr} {xs : List V} {H : Hp} {o : HO} {vs : List V} {js : List Jo} (n : H q = some (.lst xs)) (h : JsAt H vs js) : JsAt (upd H q o) vs js := h.kp Kp.at ⟨_, n⟩
def KpL (l : List Addr) (H H' : Hp) : Prop := ∀ a o, a ∉ l → H a = some o → H' a = some o
section
variable {l : List Addr} {p q : Addr} {H H' H1 H2 : Hp} {o : HO}
theorem KpL.refl : KpL l H H := fun _ _ _ h => h
theorem KpL.trans (a : KpL l H H1) (b : KpL l H1 H2) : KpL l H H2 := fun c o n h => b c o n (a c o n h)
theorem KpL.ofS (s : Same H H') : KpL l H H' := fun a o _ h => s a o h
theorem KpL.ofK (m : p ∈ l) (k : Kp p H H') : KpL l H H' := fun a o n h => k a o (fun z => n (by rw [z]; exact m)) h
theorem KpL.new (n : H q = none) : KpL l H (upd H q o) := .ofS (same_new n)
theorem KpL.at (m : q ∈ l) : KpL l H (upd H q o) := fun a x n h => by
  have ne : a ≠ q := fun z => n (by rw [z]; exact m)
  rw [upd_ne ne]
  exact h
theorem KpL.mono {m : List Addr} (h : ∀ a ∈ l, a ∈ m) (k : KpL l H H') : KpL m H H' := fun a o n e => k a o (fun z => n (h a z)) e
theorem KpL.free (k : KpL l H H') (n : H' q = none) (m : q ∉ l) : H q = none := by
  cases e : H q with
  | none => rfl
  | some o => rw [k _ _ m e] at n; cases n
end
end Z
namespace Z
open PySem PySem.Spec PyProof.Rows L2
section
open Sem (wp)
open Builtin
set_option maxHeartbeats 1000000 in
theorem meets_enum1 {v : Value} {o : Obj} {HH : Heap → Prop} (BB : Begins v o HH) :
    Meets (Builtin.«enumerate.__new__» ⟨[.type "enumerate", v], []⟩) (fun _ R s => HH s.heap ∧
      R (.ok (.ret (.ref (s.heap.push o).objs.size))) { s with heap := (s.heap.push o).push { cls := .type "enumerate", data := .fields #[.none, .bool false, .ref s.heap.objs.size, rawInt 0, .none, .none] } }) :=
  .of_wp fun prog w A R s h => by
    obtain ⟨hp, g, d, tk, os⟩ := s; obtain ⟨h1, h⟩ := h
    have hsub := sub_enumerate
    have step : ∀ {A2 : Around} {E2 : Value → Shared → Prop} {Q2 : Value → Shared → Prop}, Q2 (.ref hp.objs.size) ⟨hp.push o, g, d, tk, os⟩ → wpAny (model prog w) A2 (pyIter v) Q2 E2 ⟨hp, g, d, tk, os⟩ :=
      fun z => BB.iter prog w _ _ ⟨hp, g, d, tk, os⟩ _ h1 z
    wp_walk using step
    refine wpAny_stack_any fun st => wpAny_pure ?_
    split
    · rename_i c _ _ _ _ _
      cases (c == Value.type "enumerate") <;> (wp_walk using step) <;> exact ⟨_, rfl, h⟩
    · wp_walk using step
      exact ⟨_, rfl, h⟩
theorem call_enum1 {prog : Program} {w : World} {A : Around} {E : Value → Shared → Prop} {s : Shared} {v : Value} {o : Obj} {HH : Heap → Prop} {Q : Value → Shared → Prop} (BB : Begins v o HH) (h1 : HH s.heap)
    (k : ∀ h2, IsEnum h2 (s.heap.objs.size + 1) s.heap.objs.size 0 .none → h2.get? s.heap.objs.size = some o → h2.objs.size = s.heap.objs.size + 2 →
      (∀ b u, s.heap.get? b = some u → h2.get? b = some u) → Q (.ref (s.heap.objs.size + 1)) { s with heap := h2 }) :
    wpAny (model prog w) A (call (.type "enumerate") [v]) Q E s := by
  refine callType_new F.called_enumerate (by decide) (F.typeCall_enumerate_1 _) (F.newCall_enumerate_1 _) (fun z => F.args_object_init_2 z _) F.entry_enumerate_new (meets_enum1 BB) ⟨h1, ?_⟩
  have z1 : (s.heap.push o).objs.size = s.heap.objs.size + 1 := Heap.size_push ..
  show _ ∧ _
  rw [z1]
  have e1 : IsEnum ((s.heap.push o).push { cls := .type "enumerate", data := .fields #[.none, .bool false, .ref s.heap.objs.size, rawInt 0, .none, .none] }) (s.heap.objs.size + 1) s.heap.objs.size 0 .none := by
    have z2 := Heap.get?_push_size (s.heap.push o) (o := { cls := .type "enumerate", data := .fields #[.none, .bool false, .ref s.heap.objs.size, rawInt 0, .none, .none] }) rfl
    rw [z1] at z2
    exact z2
  exact ⟨⟨_, e1, rfl⟩, k _ e1 (Heap.get?_push_of_some _ (Heap.get?_push_size _ BB.free)) (by rw [Heap.size_push, z1]) fun b u x => Heap.get?_push_of_some _ (Heap.get?_push_of_some _ x)⟩
end
/-- the tuple at a, each item in a new pair -/
def IteT (K : PySem.W.Frag) (a : Addr) : It :=
  ⟨fun i H => ∃ (xs : List V) (x : V), SqT K H a xs ∧ xs[i]? = some x, fun i H v H' => ∃ T x, v = .ref T ∧ H T = none ∧ H' = upd H T (.tup [.int (i : Nat), x]) ∧ ∀ xs, SqT K H a xs → xs[i]? = some x, fun i H => ∃ xs : List V, SqT K H a xs ∧ xs.length = i⟩
theorem turn_enumT {P : Program} {w : World} {K : PySem.W.Frag} {elts : List Expr} {kk : Nat} {tpos : Pos} (a e it : Addr) (hae : e ≠ a) (hai : a ≠ it) :
    Turn P w K (.Tuple elts kk tpos) (IteT K a) [e, it] e (fun i h => (∃ old, IsEnum h e it ((i : Nat) : Int) old) ∧ h.IsTupleIter it a i ∧ e ≠ it) where
  mem := List.mem_cons_self ..
  obj := fun i h st b hb => by
    obtain ⟨⟨old, h1⟩, ⟨o, h2, _, h3⟩, _⟩ := st
    rcases (show b = e ∨ b = it by simpa using hb) with z | z
    · rw [z]; exact ⟨_, h1, fun v q => nomatch q⟩
    · rw [z]; exact ⟨o, h2, fun v q => by rw [h3] at q; cases q⟩
  keep := fun i h h' st k => let ⟨⟨old, h1⟩, h2, n⟩ := st; ⟨⟨old, k e (List.mem_cons_self ..) _ h1⟩, h2.at fun o q => k it (by simp) o q, n⟩
  item := by
    intro X hP hw hK hc i pins s σ H E I hf st hg
    subst hP hw hK
    obtain ⟨⟨old, h1⟩, hit, hne⟩ := st
    obtain ⟨xs, x, hq, hx⟩ := hg
    obtain ⟨its, rv, p, hz⟩ := I.tuple hq
    obtain ⟨u, hu, ru⟩ := rv.get hx
    have hel : e < s.heap.objs.size := Heap.lt_size h1
    have hil : it < s.heap.objs.size := by obtain ⟨_, q, _⟩ := hit; exact Heap.lt_size q
    have hlt : i < its.toArray.size := by
      have z := (List.getElem?_eq_some_iff.mp hu).1
      simpa using z
    refine wpAny_pyNext_enum_itemD (Draws.tuple (A := X.A.in1) (I.ok.hd hc) it a hai its.toArray) h1 ⟨hit, p⟩ hlt hne (by simp; exact ⟨hne, hae⟩) fun u2 h2 tk hP ho hs2 hT hsz hk => ?_
    obtain rfl : u = u2 := by
      have z : its.toArray[i]? = some u := by simpa using hu
      rw [z] at hP
      exact Option.some.inj hP
    refine ⟨_, rfl, wpAny_letOwnedTupleGo_enum (s := { s with heap := h2, toks := tk + 1 }) ho fun h3 he3 sb => ?_⟩
    have hT2 : h3.get? s.heap.objs.size = some { cls := .type "tuple", data := .seq #[.int i tk, u] } := (sb.2 _ (Nat.ne_of_gt hel)).trans hT
    have new : ObjOk X.prog X.w (upd H s.heap.objs.size (.tup [.int (i : Nat), x])) h3 s.heap.objs.size (.tup [.int (i : Nat), x]) :=
      ⟨by show 2 ≤ sizeLine; decide, [.int i tk, u], .cons ⟨_, rfl⟩ (.cons ru .nil), ⟨_, hT2, rfl, _, rfl⟩⟩
    have I1 : Inv X pins σ (upd H s.heap.objs.size (.tup [.int (i : Nat), x])) { s with heap := h3, toks := tk + 1 } :=
      I.turnedNew (ch := [e, it]) (fun b ob hb q => (sb.2 b (fun z => hb (by simp [z]))).trans (hk b ob (fun z => hb (by simp [z])) (fun z => hb (by simp [z])) q)) hf (Nat.le_refl _) new
    refine ⟨.ref s.heap.objs.size, _, I1, rfl, ⟨_, x, rfl, I.hok.fresh (Nat.le_refl _), rfl, fun ys hy => by rw [I.tuple_inj hy hq]; exact hx⟩, ⟨⟨u, ?_⟩, hs2.1.at fun o q => (sb.2 it (Ne.symm hne)).trans q, hne⟩, fun b hb => ?_⟩
    · rw [show ((i + 1 : Nat) : Int) = (i : Int) + 1 by omega]
      exact he3
    · have hb' : b < s.heap.objs.size := by
        rcases (show b = e ∨ b = it by simpa using hb) with z | z
        · rw [z]; exact hel
        · rw [z]; exact hil
      rw [upd_ne (Nat.ne_of_lt hb')]
      exact (hf b hb).1
  done := by
    intro X hP hw hK hc i pins s σ H E I hf st hg
    subst hP hw hK
    obtain ⟨⟨old, h1⟩, hit, hne⟩ := st
    obtain ⟨xs, hq, hx⟩ := hg
    obtain ⟨its, rv, p, hz⟩ := I.tuple hq
    obtain ⟨f0, f1, f2, f3, f4, f5⟩ := hf it (by simp)
    have hl := rv.length
    have hi : i = its.toArray.size := by simp; omega
    subst hi
    exact wpAny_pyNext_enum_endD (Draws.tuple (A := X.A.in1) (I.ok.hd hc) it a hai its.toArray) h1 ⟨hit, p⟩ fun h2 eb => ⟨rfl, I.turned (t' := s.toks) (fun b o hb q => eb b o hb q) f0 f1 f3 f4 f5⟩
  self := fun A i s Q E st h => let ⟨⟨_, h1⟩, _⟩ := st; wpAny_pyIter_enum h1 h
def iEnumA (K : PySem.W.Frag) (ta : TA) : TI := fun σ H R => ta σ H fun vs H1 => ∃ a xs, vs = [.ref a] ∧ ((SqL K H1 a xs ∧ R (Ite K a) H1) ∨ (SqT K H1 a xs ∧ R (IteT K a) H1))
theorem pi_enumA {X : Cx} {e : Expr} {ta : TA} {p pos tpos : Pos} {elts : List Expr} {kk : Nat} (hg : Gl X "enumerate") (hm : X.mg "enumerate" = none) (ha : PA X [e] ta) (hs : starEach [e] X.env = [(false, eval e X.env)] := by rfl) :
    PI X (.Tuple elts kk tpos) (.Call (.Name "enumerate" p) [e] [] pos) (iEnumA X.K ta) := by
  constructor
  intro pins s σ H R I h
  refine Call_ (ld_blt I hg hm boot_enumerate (PyProof.Rows.callWith_type1 (thn (ha.run pos pins s σ H _ I h) fun us s1 ⟨vs, H1, I1, r1, q1⟩ => ?_) hs rfl))
  obtain ⟨a, xs, ex, q1⟩ := q1
  subst ex
  cases r1 with
  | cons r rr =>
    cases rr
    cases r
    have fr : ∀ b ∈ [s1.heap.objs.size + 1, s1.heap.objs.size], FpOk X pins H1 b := fun b hb => by
      have hle : s1.heap.objs.size ≤ b := by
        rcases (show b = s1.heap.objs.size + 1 ∨ b = s1.heap.objs.size by simpa using hb) with z | z
        · rw [z]; exact Nat.le_add_right _ _
        · rw [z]; exact Nat.le_refl _
      exact I1.fpOk hle (I1.hok.fresh hle)
    rcases q1 with ⟨hq, q⟩ | ⟨hq, q⟩
    · obtain ⟨its, rv, p', hz⟩ := I1.list hq
      refine call_enumerate_list p'.isList fun h2 he hit hsz hk => wpAny_pyIter_enum he ?_
      have I2 : Inv X pins σ H1 { s1 with heap := h2 } := I1.kept (t' := s1.toks) hk
      exact ⟨s1.heap.objs.size + 1, [s1.heap.objs.size + 1, s1.heap.objs.size], _, _, H1, rfl, I2, turn_enum a (s1.heap.objs.size + 1) s1.heap.objs.size, ⟨⟨.none, he⟩, hit, Nat.succ_ne_self _⟩, fr, q⟩
    · obtain ⟨its, rv, p', hz⟩ := I1.tuple hq
      have hal : a < s1.heap.objs.size := by
        obtain ⟨_, z, _⟩ := id p'
        exact Heap.lt_size z
      refine call_enum1 (begins_tuple a its.toArray) (show s1.heap.IsTuple a its.toArray from p') fun h2 he hit hsz hk => wpAny_pyIter_enum he ?_
      have I2 : Inv X pins σ H1 { s1 with heap := h2 } := I1.kept (t' := s1.toks) hk
      exact ⟨s1.heap.objs.size + 1, [s1.heap.objs.size + 1, s1.heap.objs.size], _, _, H1, rfl, I2, turn_enumT a (s1.heap.objs.size + 1) s1.heap.objs.size (Nat.ne_of_gt (Nat.lt_succ_of_lt hal)) (Nat.ne_of_lt hal), ⟨⟨.none, he⟩, ⟨_, hit, rfl, rfl⟩, Nat.succ_ne_self _⟩, fr, q⟩
def iSeq (K : PySem.W.Frag) (tl : TE) : TI := fun σ H R => tl σ H fun x H1 => ∃ a xs, x = .ref a ∧ ((SqL K H1 a xs ∧ R (Itl K a) H1) ∨ (SqT K H1 a xs ∧ R (Itt K a) H1))
def LT (H : Hp) (a : Addr) (xs : List V) : Prop := H a = some (.lst xs) ∨ H a = some (.tup xs)
section
variable {K : PySem.W.Frag} {σ : L2.St} {H H' : Hp} {Q : VK} {g : TG} {tb : TS} {D : Ends} {a : Addr} {xs : List V}
theorem LT.same (s : Same H H') (h : LT H a xs) : LT H' a xs := h.imp (s _ _) (s _ _)
theorem LT.same' (s : Same H H') (h : LT H a xs) : LT H' a xs := h.same s
theorem LT.new' {q : Addr} {o : HO} (n : H q = none) (h : LT H a xs) : LT (upd H q o) a xs := h.same (same_new n)
theorem LT.l (h : H a = some (.lst xs)) : LT H a xs := .inl h
theorem LT.t (h : H a = some (.tup xs)) : LT H a xs := .inr h
theorem LT.ne {q : Addr} (h : LT H a xs) (n : H q = none) : a ≠ q := by
  rcases h with h | h
  · exact ne_of_none h n
  · exact ne_of_none h n
theorem rd_lenA (h : LT H a xs) (q : Q (.int xs.length) H) : rLen K [.ref a] H Q := by
  rcases h with h | h
  · exact rd_lenL (SqL.of h) q
  · exact rd_lenT (SqT.of h) q
theorem rd_listA (h : LT H a xs) (q : ∀ l, H l = none → Q (.ref l) (upd H l (.lst xs))) : rToList K [.ref a] H Q := by
  rcases h with h | h
  · exact ⟨a, xs, rfl, .inl (SqL.of h), q⟩
  · exact ⟨a, xs, rfl, .inr (SqT.of h), q⟩
theorem isiT_lt {t : Addr} (h : LT H a xs) (ht : H t = some (.tup [.ty "list", .ty "tuple"])) (q : Q (.bl true) H) : rIsiT K [.ref a, .ref t] H Q := by
  rcases h with h | h
  · exact isiT_lst h ht q
  · exact ⟨.ref a, t, _, .type "tuple", [.type "list", .type "tuple"], true, rfl, ht, .cons (.ty "list") (.cons (.ty "tuple") .nil), .base (.tup h), rfl, q⟩
theorem rd_forEA {ts : TA} (h : ts σ H fun vs H1 => ∃ a xs, vs = [.ref a] ∧ ((SqL K H1 a xs ∧ LpW (Ite K a) g tb D σ H1) ∨ (SqT K H1 a xs ∧ LpW (IteT K a) g tb D σ H1))) : tFor (iEnumA K ts) g tb D σ H := h
theorem rd_forS {te : TE} (h : te σ H fun x H1 => ∃ a xs, x = .ref a ∧ ((SqL K H1 a xs ∧ LpW (Itl K a) g tb D σ H1) ∨ (SqT K H1 a xs ∧ LpW (Itt K a) g tb D σ H1))) : tFor (iSeq K te) g tb D σ H := h
theorem for_enumT (Pv : Nat → L2.St → Hp → Prop) (h0 : Pv 0 σ H) (hl : ∀ i σ H, i ≤ xs.length → Pv i σ H → SqT K H a xs)
    (hs : ∀ i x σ H T, xs[i]? = some x → Pv i σ H → H T = none → g (.ref T) σ (upd H T (.tup [.int (i : Nat), x])) fun σ2 H2 => tb { D with nx := Pv (i + 1), ct := Pv (i + 1), bk := D.nx } σ2 H2) (hd : ∀ σ H, Pv xs.length σ H → D.nx σ H) : LpW (IteT K a) g tb D σ H := by
  refine ⟨fun i m σ H => m = xs.length - i ∧ i ≤ xs.length ∧ Pv i σ H, ⟨xs.length, by simp, Nat.zero_le _, h0⟩, ?_⟩
  rintro i m σ H ⟨rfl, hi, p⟩
  have q := hl i σ H hi p
  by_cases hlt : i < xs.length
  · refine .inr ⟨⟨xs, xs[i], q, by simp [hlt]⟩, Pv (i + 1), fun σ' H' p' => ⟨xs.length - (i + 1), by omega, rfl, hlt, p'⟩, fun x H' y => ?_⟩
    obtain ⟨T, x1, rfl, nT, rfl, y⟩ := y
    exact hs i x1 σ H T (y xs q) p nT
  · have e : i = xs.length := by omega
    subst e
    exact .inl ⟨⟨xs, q, rfl⟩, hd σ H p⟩
/-- a loop over enumerate(xs), xs a list or a tuple -/
theorem for_enumA (h : LT H a xs) (Pv : Nat → L2.St → Hp → Prop) (h0 : Pv 0 σ H) (hl : ∀ i σ H', i ≤ xs.length → Pv i σ H' → ∀ o, H a = some o → H' a = some o)
    (hs : ∀ i x σ H T, xs[i]? = some x → Pv i σ H → H T = none → g (.ref T) σ (upd H T (.tup [.int (i : Nat), x])) fun σ2 H2 => tb { D with nx := Pv (i + 1), ct := Pv (i + 1), bk := D.nx } σ2 H2) (hd : ∀ σ H, Pv xs.length σ H → D.nx σ H) :
    ∃ b ys, [V.ref a] = [.ref b] ∧ ((SqL K H b ys ∧ LpW (Ite K b) g tb D σ H) ∨ (SqT K H b ys ∧ LpW (IteT K b) g tb D σ H)) := by
  rcases h with h | h
  · exact ⟨a, xs, rfl, .inl ⟨SqL.of h, for_enum (xs := xs) Pv h0 (fun i σ H' hi p => SqL.of (hl i σ H' hi p _ h)) hs hd⟩⟩
  · exact ⟨a, xs, rfl, .inr ⟨SqT.of h, for_enumT (xs := xs) Pv h0 (fun i σ H' hi p => SqT.of (hl i σ H' hi p _ h)) hs hd⟩⟩
theorem rd_cut {t u : TS} (M : L2.St → Hp → Prop) (h1 : t { D with nx := M } σ H) (h2 : ∀ σ' H', M σ' H' → u D σ' H') : C8.tCut t u D σ H := ⟨M, h1, h2⟩
end
theorem getD_some {xs : List Int} {k : Nat} {z : Int} (h : xs[k]? = some z) : xs.getD k 0 = z := by rw [List.getD_eq_getElem?_getD, h]; rfl
def rToTup (K : PySem.W.Frag) : List V → Hp → VK → Prop := fun xs H Q => ∃ p ys, xs = [.ref p] ∧ ((SqL K H p ys ∧ ∀ l, H l = none → Q (.ref l) (upd H l (.tup ys))) ∨ (SqT K H p ys ∧ Q (.ref p) H))
theorem cTuple {X : Cx} : CallR X (.type "tuple") (rToTup X.K) := call_tuple_of
theorem rd_tupL {K : PySem.W.Frag} {H : Hp} {Q : VK} {p : Addr} {xs : List V} (h : SqL K H p xs) (q : ∀ l, H l = none → Q (.ref l) (upd H l (.tup xs))) : rToTup K [.ref p] H Q := ⟨p, xs, rfl, .inl ⟨h, q⟩⟩
def spItemsA : Sp := fun vs H Q _ => ∃ (a : Addr) (ns : List Int), vs = [.ref a] ∧ LT H a (ns.map V.int) ∧ ∀ H', Same H H' → Q .non H'
theorem use_itemsA {a : Addr} {ns : List Int} {H : Hp} {Q : VK} {E : XK} (h : LT H a (ns.map V.int)) (q : ∀ H', Same H H' → Q .non H') : spItemsA ([.ref a] ++ []) H Q E := ⟨a, ns, rfl, h, q⟩
def spSoundA : Sp := spItemsA
theorem use_soundA {a : Addr} {ns : List Int} {H : Hp} {Q : VK} {E : XK} (h : LT H a (ns.map V.int)) (q : ∀ H', Same H H' → Q .non H') : spSoundA ([.ref a] ++ []) H Q E := ⟨a, ns, rfl, h, q⟩
def spFoldsA (f : Int → Int → Int → Int × Int) : Sp := fun vs H Q _ => ∃ (a b : Addr) (xs : List Int) (refs : List V) (js : List Jo), vs = [.ref a, .ref b] ∧ LT H a (xs.map V.int) ∧ LT H b refs ∧ JsAt H refs js ∧ Rm xs.length 0 0 js ∧ xs.length ≤ 10000 ∧
  ∀ p H', H p = none → Same H H' → H' p = some (.lst ((turnL f xs js).map V.int)) → Q (.ref p) H'
theorem use_foldsA {f : Int → Int → Int → Int × Int} {a b : Addr} {xs : List Int} {refs : List V} {js : List Jo} {H : Hp} {Q : VK} {E : XK} (h1 : LT H a (xs.map V.int)) (h2 : LT H b refs) (h3 : JsAt H refs js) (h4 : Rm xs.length 0 0 js) (h5 : xs.length ≤ 10000)
    (q : ∀ p H', H p = none → Same H H' → H' p = some (.lst ((turnL f xs js).map V.int)) → Q (.ref p) H') : spFoldsA f ([.ref a, .ref b] ++ []) H Q E := ⟨a, b, xs, refs, js, rfl, h1, h2, h3, h4, h5, q⟩
theorem use_foldsAK {f : Int → Int → Int → Int × Int} {a b : Addr} {xs : List Int} {refs : List V} {js : List Jo} {H : Hp} {Q : VK} {E : XK} (h1 : LT H a (xs.map V.int)) (h2 : LT H b refs) (h3 : JsAt H refs js) (h4 : Rm xs.length 0 0 js) (h5 : xs.length ≤ 10000)
    (q : ∀ p H', H p = none → Same H H' → H' p = some (.lst ((turnL f xs js).map V.int)) → Q (.ref p) H') : spFoldsA f (kg 0 2 [1, 0] [] [.ref b, .ref a]) H Q E := ⟨a, b, xs, refs, js, rfl, h1, h2, h3, h4, h5, q⟩
end Z
namespace Z
open PySem PySem.Spec PyProof.Rows L2
/-- the last k binary digits of u, as signs -/
def lowB (u : Nat) : Nat → List Nat
  | 0 => []
  | k + 1 => lowB (u / 2) k ++ [48 + u % 2]
/-- the number of signs -/
def valB (l : List Nat) : Nat := l.foldl (fun a c => 2 * a + (c - 48)) 0
theorem lowB_length (u : Nat) : ∀ k, (lowB u k).length = k
  | 0 => rfl
  | k + 1 => by
    show (lowB (u / 2) k ++ [48 + u % 2]).length = k + 1
    rw [List.length_append, lowB_length (u / 2) k]
    rfl
theorem lowB_bin : ∀ (k u : Nat), ∀ c ∈ lowB u k, c = 48 ∨ c = 49
  | 0, _, c, h => absurd h List.not_mem_nil
  | k + 1, u, c, h => by
    rcases List.mem_append.mp h with h | h
    · exact lowB_bin k (u / 2) c h
    · rw [List.mem_singleton.mp h]
      omega
theorem valB_snoc (l : List Nat) (c : Nat) : valB (l ++ [c]) = 2 * valB l + (c - 48) := by
  unfold valB
  rw [List.foldl_append]
  rfl
theorem valB_lowB : ∀ k u : Nat, valB (lowB u k) = u % 2 ^ k
  | 0, u => by
    show 0 = u % 1
    omega
  | k + 1, u => by
    show valB (lowB (u / 2) k ++ [48 + u % 2]) = _
    rw [valB_snoc, valB_lowB k (u / 2), Nat.pow_succ, Nat.mul_comm (2 ^ k) 2, Nat.mod_mul]
    omega
/-- how many binary digits -/
def nb (u : Nat) : Nat := if u = 0 then 1 else Nat.log2 u + 1
theorem nb_lt (u : Nat) : u < 2 ^ nb u := by
  unfold nb
  split
  · omega
  · exact Nat.lt_log2_self
theorem nb_le {u : Nat} (h : u ≠ 0) : 2 ^ (nb u - 1) ≤ u := by
  unfold nb
  rw [if_neg h]
  exact Nat.log2_self_le h
/-- the binary digits, as Python writes them -/
def binB (u : Nat) : List Nat := lowB u (nb u)
theorem lowB_zero : ∀ a : Nat, lowB 0 a = List.replicate a 48
  | 0 => rfl
  | a + 1 => by
    show lowB 0 a ++ [48] = _
    rw [lowB_zero a, List.replicate_succ']
theorem lowB_big (a : Nat) : ∀ (j u : Nat), u < 2 ^ j → lowB u (a + j) = List.replicate a 48 ++ lowB u j
  | 0, u, h => by
    have e : u = 0 := by have : (2 : Nat) ^ 0 = 1 := rfl; omega
    subst e
    rw [lowB_zero]
    exact (List.append_nil _).symm
  | j + 1, u, h => by
    show lowB (u / 2) (a + j) ++ [48 + u % 2] = List.replicate a 48 ++ (lowB (u / 2) j ++ [48 + u % 2])
    rw [lowB_big a j (u / 2) (by rw [Nat.pow_succ] at h; omega), List.append_assoc]
theorem lowB_front : ∀ (k u : Nat), lowB u (k + 1) = (48 + u / 2 ^ k % 2) :: lowB u k
  | 0, u => by
    show [] ++ [48 + u % 2] = [48 + u / 1 % 2]
    rw [Nat.div_one]
    rfl
  | k + 1, u => by
    show lowB (u / 2) (k + 1) ++ [48 + u % 2] = (48 + u / 2 ^ (k + 1) % 2) :: (lowB (u / 2) k ++ [48 + u % 2])
    rw [lowB_front k (u / 2), Nat.div_div_eq_div_mul, Nat.pow_succ, Nat.mul_comm 2 (2 ^ k)]
    rfl
theorem nb_min {u j : Nat} (h : u < 2 ^ j) (hj : 1 ≤ j) : nb u ≤ j := by
  by_cases e : u = 0
  · unfold nb
    rw [if_pos e]
    exact hj
  · have h1 := nb_le e
    have h2 : 2 ^ (nb u - 1) < 2 ^ j := Nat.lt_of_le_of_lt h1 h
    have h3 := (Nat.pow_lt_pow_iff_right (by decide : 1 < 2)).mp h2
    omega
theorem nb_pos (u : Nat) : 1 ≤ nb u := by
  unfold nb
  split <;> omega
theorem binB_length (u : Nat) : (binB u).length = nb u := lowB_length _ _
/-- the bits of a code number -/
def encB (u k : Nat) : List Nat := if u / 2 ^ k < 20 then List.replicate (u / 2 ^ k) 49 ++ [48] ++ lowB u k else List.replicate (19 + nb u) 49 ++ [48] ++ binB u
theorem encB_len (u k : Nat) : (encB u k).length ≤ 21 + k + 2 * nb u := by
  unfold encB
  split
  · rw [List.length_append, List.length_append, List.length_replicate, lowB_length]
    show _ + 1 + k ≤ _
    omega
  · rw [List.length_append, List.length_append, List.length_replicate, binB_length]
    show _ + 1 + _ ≤ _
    omega
theorem encB_bin (u k : Nat) : ∀ c ∈ encB u k, c = 48 ∨ c = 49 := by
  intro c h
  unfold encB at h
  split at h
  · rcases List.mem_append.mp h with h | h
    · rcases List.mem_append.mp h with h | h
      · exact .inr (List.eq_of_mem_replicate h)
      · exact .inl (List.mem_singleton.mp h)
    · exact lowB_bin _ _ c h
  · rcases List.mem_append.mp h with h | h
    · rcases List.mem_append.mp h with h | h
      · exact .inr (List.eq_of_mem_replicate h)
      · exact .inl (List.mem_singleton.mp h)
    · exact lowB_bin _ _ c h
abbrev Tb := Int × Int
def tbB (t : Tb) (u : Nat) : Tb := if t.2 + 1 > 15 then ((t.1 + (u : Int)) / 2, 8) else (t.1 + (u : Int), t.2 + 1)
def uOf (n : Int) : Nat := (codeU n).toNat
theorem uOf_eq (n : Int) : ((uOf n : Nat) : Int) = codeU n := by
  unfold uOf codeU
  split <;> omega
def wst (ns : List Int) (first : Nat) (T : Tb × Tb) : Nat → List (List Nat) × (Tb × Tb)
  | 0 => ([], T)
  | i + 1 =>
    let s := wst ns first T i
    let u := uOf (ns.getD i 0)
    if i < first then (s.1 ++ [encB u (par s.2.1.1 s.2.1.2)], (tbB s.2.1 u, s.2.2)) else (s.1 ++ [encB u (par s.2.2.1 s.2.2.2)], (s.2.1, tbB s.2.2 u))
/-- a table in its limits, its total at most m -/
def TbOk (m : Int) (t : Tb) : Prop := 0 ≤ t.1 ∧ t.1 ≤ m ∧ 1 ≤ t.2 ∧ t.2 ≤ 15
theorem tbB_ok {m : Int} {t : Tb} {u : Nat} (h : TbOk m t) (hu : (u : Int) ≤ 10 ^ 56) : TbOk (m + 10 ^ 56) (tbB t u) := by
  obtain ⟨h1, h2, h3, h4⟩ := h
  unfold tbB
  split
  · refine ⟨?_, ?_, by show (1 : Int) ≤ 8; decide, by show (8 : Int) ≤ 15; decide⟩
    · show 0 ≤ (t.1 + (u : Int)) / 2
      omega
    · show (t.1 + (u : Int)) / 2 ≤ m + 10 ^ 56
      omega
  · exact ⟨by show 0 ≤ t.1 + (u : Int); omega, by show t.1 + (u : Int) ≤ m + 10 ^ 56; omega, by show 1 ≤ t.2 + 1; omega, by show t.2 + 1 ≤ 15; omega⟩
theorem TbOk.mono {m n : Int} {t : Tb} (h : TbOk m t) (e : m ≤ n) : TbOk n t := ⟨h.1, Int.le_trans h.2.1 e, h.2.2⟩
theorem uOf_le {n : Int} (h : n.natAbs < 10 ^ 55) : ((uOf n : Nat) : Int) ≤ 10 ^ 56 := by
  rw [uOf_eq]
  unfold codeU
  split <;> omega
theorem wst_ok {ns : List Int} {first : Nat} {T : Tb × Tb} (hn : ∀ z ∈ ns, z.natAbs < 10 ^ 55) (h0 : TbOk (10 ^ 58) T.1) (h1 : TbOk (10 ^ 58) T.2) : ∀ i : Nat, i ≤ 64 → TbOk (10 ^ 58 + (i : Int) * 10 ^ 56) (wst ns first T i).2.1 ∧ TbOk (10 ^ 58 + (i : Int) * 10 ^ 56) (wst ns first T i).2.2
  | 0, _ => ⟨h0.mono (by omega), h1.mono (by omega)⟩
  | i + 1, hi => by
    obtain ⟨a, b⟩ := wst_ok (first := first) hn h0 h1 i (by omega)
    have hu : ((uOf (ns.getD i 0) : Nat) : Int) ≤ 10 ^ 56 := uOf_le (by
      rw [List.getD_eq_getElem?_getD]
      cases e : ns[i]? with
      | none => decide
      | some z => exact hn z (List.mem_of_getElem? e))
    show TbOk _ (if i < first then _ else _ : List (List Nat) × (Tb × Tb)).2.1 ∧ TbOk _ (if i < first then _ else _ : List (List Nat) × (Tb × Tb)).2.2
    by_cases c : i < first
    · rw [if_pos c]
      exact ⟨(tbB_ok a hu).mono (by push_cast; omega), b.mono (by push_cast; omega)⟩
    · rw [if_neg c]
      exact ⟨a.mono (by push_cast; omega), (tbB_ok b hu).mono (by push_cast; omega)⟩
end Z
namespace Z
open PySem PySem.Spec PyProof.Rows L2
open SX (S S_len S_cat S_inj)
section
open PySem.Builtin PySem.Builtin.Str PySem.Builtin.Int PySem.Builtin.Float
theorem eb : Str.ofString "b" = S [98] := by rfl
end
end Z
namespace Z
open PySem PySem.Spec PyProof.Rows L2
open SX (S S_len S_cat S_inj)
theorem S_add (a b : List Nat) : S a ++ S b = S (a ++ b) := S_cat a b
def rAddT : R2 := fun x y H Q => ∃ a b : List Nat, x = .str (S a) ∧ y = .str (S b) ∧ a.length + b.length ≤ 16777216 ∧ Q (.str (S (a ++ b))) H
theorem op_addT {X : Cx} : OpR X (binaryOp .Add) rAddT := by
  intro pins s σ H x y v u Q I rx ry h
  obtain ⟨a, b, rfl, rfl, hl, q⟩ := h
  exact op_add_str pins s σ H _ _ v u Q I rx ry ⟨S a, S b, rfl, rfl, by rw [S_len, S_len]; exact hl, by rw [S_add]; exact q⟩
theorem fold_app : ∀ (n : Nat) (a acc : Array Nat), (List.replicate n a).foldl (· ++ ·) acc = acc ++ ((List.replicate n a.toList).flatten).toArray
  | 0, a, acc => by simp
  | n + 1, a, acc => by
    rw [List.replicate_succ, List.foldl_cons, fold_app n a, List.replicate_succ, List.flatten_cons]
    refine Array.toList_inj.mp ?_
    rw [Array.toList_append, Array.toList_append, Array.toList_append, List.append_assoc]
/-- a text, so many times -/
def repL (l : List Nat) (n : Nat) : List Nat := (List.replicate n l).flatten
theorem repL_one (c n : Nat) : repL [c] n = List.replicate n c := by
  induction n with
  | zero => rfl
  | succ n ih =>
    unfold repL at ih ⊢
    rw [List.replicate_succ, List.flatten_cons, ih]
    rfl
theorem repL_length (l : List Nat) : ∀ n, (repL l n).length = n * l.length
  | 0 => by simp [repL]
  | n + 1 => by
    have ih := repL_length l n
    unfold repL at ih ⊢
    rw [List.replicate_succ, List.flatten_cons, List.length_append, ih, Nat.succ_mul, Nat.add_comm]
theorem repL_nil : ∀ n, repL [] n = []
  | 0 => rfl
  | n + 1 => by
    have ih := repL_nil n
    unfold repL at ih ⊢
    rw [List.replicate_succ, List.flatten_cons, ih]
    rfl
def rMulT : R2 := fun x y H Q => ∃ (a : List Nat) (k : Int), x = .str (S a) ∧ y = .int k ∧ -1000000 ≤ k ∧ k ≤ 1000000 ∧ a.length * k.toNat ≤ 1000000 ∧ Q (.str (S (repL a k.toNat))) H
theorem tooLong_no {n : Nat} (h : n ≤ 1000000) : Builtin.Str.tooLong n = false := by
  have z : 1000000 < sizeLine := by decide
  unfold Builtin.Str.tooLong
  first
    | exact decide_eq_false (by omega)
    | (simp; omega)
theorem op_mulT {X : Cx} : OpR X (binaryOp .Mult) rMulT := by
  intro pins s σ H x y v u Q I rx ry h
  obtain ⟨a, k, rfl, rfl, h1, h2, hl, q⟩ := h
  obtain ⟨t, rfl⟩ := rx
  obtain ⟨t', rfl⟩ := ry
  refine P.mul_str (by rw [decide_eq_false (by omega), decide_eq_false (by omega)]; rfl) (fun c _ z => ?_) (fun _ _ => tooLong_no (by rw [S_len]; exact hl)) ?_
  · have hk : (1 : Int) ≤ k := by omega
    rw [S_len] at z
    have hl2 : (a.length : Int) * k ≤ 1000000 := by
      obtain ⟨m, rfl⟩ : ∃ m : Nat, k = (m : Int) := ⟨k.toNat, by omega⟩
      rw [Int.toNat_natCast] at hl
      have z0 := Int.ofNat_le.mpr hl
      rw [Int.natCast_mul] at z0
      exact z0
    have z2 : (a.length : Int) ≤ (a.length : Int) * k := by
      have := Int.mul_le_mul_of_nonneg_left hk (show (0 : Int) ≤ a.length by omega)
      rw [Int.mul_one] at this
      exact this
    have z3 : (1000000 : Int) ≤ (2 ^ 63 - 1) / k := (Int.le_ediv_iff_mul_le (by omega)).mpr (Int.le_trans (Int.mul_le_mul_of_nonneg_left h2 (show (0 : Int) ≤ 1000000 by decide)) (by decide))
    omega
  · by_cases c : k < 1
    · rw [if_pos c]
      have e : k.toNat = 0 := by omega
      rw [e] at q
      exact ⟨by decide, ⟨.str Str.empty, H, I.tok _, ⟨_, rfl⟩, q⟩⟩
    · rw [if_neg c]
      cases d : (k == 1 || (S a).length == 0) with
      | true =>
        rw [if_pos rfl]
        have e : repL a k.toNat = a := by
          rw [Bool.or_eq_true, beq_iff_eq, beq_iff_eq, S_len] at d
          rcases d with d | d
          · rw [d]
            exact List.append_nil a
          · rw [List.length_eq_zero_iff] at d
            rw [d]
            exact repL_nil _
        rw [e] at q
        exact ⟨.str (S a), H, I, ⟨t, rfl⟩, q⟩
      | false =>
        rw [if_neg Bool.false_ne_true]
        have e : (⟨(List.replicate k.toNat (S a).cps).foldl (· ++ ·) #[]⟩ : Str) = S (repL a k.toNat) := by
          rw [fold_app]
          exact TL.ext_tl (by
            show (#[] ++ _ : Array Nat).toList = _
            rw [Array.toList_append]
            rfl)
        rw [e]
        exact ⟨by rw [S_len, repL_length, Nat.mul_comm]; exact Nat.le_trans hl (by decide), ⟨.str _, H, I.tok _, ⟨_, rfl⟩, q⟩⟩
theorem e_empty : Str.ofString "" = S [] := by rfl
theorem e_0 : Str.ofString "0" = S [48] := by rfl
theorem e_1 : Str.ofString "1" = S [49] := by rfl
theorem e_01 : Str.ofString "01" = S [48, 49] := by rfl
section
variable {X : Cx}
def tFmtB (te ts : TE) : TE := fun σ H Q => te σ H fun x H1 => ts σ H1 fun y H2 => ∃ n : Nat, x = .int (n : Int) ∧ y = .str (S [98]) ∧ nb n ≤ 16777216 ∧ Q (.str (S (binB n))) H2
end
theorem joinL_flat : ∀ ys : List (List Nat), TL.joinL [] ys = ys.flatten
  | [] => rfl
  | [p] => (List.append_nil p).symm
  | p :: q :: r => by
    show p ++ ([] ++ TL.joinL [] (q :: r)) = p ++ (q :: r).flatten
    rw [joinL_flat (q :: r)]
    rfl
def rJoin (K : PySem.W.Frag) : V → List V → Hp → VK → Prop := fun x xs H Q => ∃ a p, ∃ ys : List Str, x = .str a ∧ xs = [.ref p] ∧ (SqL K H p (ys.map V.str) ∨ SqT K H p (ys.map V.str)) ∧
    (ys.map (·.length)).sum + ys.length * a.length ≤ 16777216 ∧ Q (.str (Txt.join a ys)) H
section
variable {K : PySem.W.Frag} {σ : L2.St} {H : Hp} {Q : VK}
theorem rd_addT {a b : List Nat} {x y : Str} (e1 : x = S a) (e2 : y = S b) (hl : a.length + b.length ≤ 16777216) (h : Q (.str (S (a ++ b))) H) : rAddT (.str x) (.str y) H Q := ⟨a, b, congrArg V.str e1, congrArg V.str e2, hl, h⟩
theorem rd_mulT {c : Nat} {x : Str} {k : Nat} (e1 : x = S [c]) (hl : k ≤ 1000000) (h : Q (.str (S (List.replicate k c))) H) : rMulT (.str x) (.int (k : Int)) H Q :=
  ⟨[c], (k : Int), congrArg V.str e1, rfl, by omega, by omega, by rw [Int.toNat_natCast]; show 1 * k ≤ _; omega, by rw [Int.toNat_natCast, repL_one]; exact h⟩
theorem rd_lenS {l : List Nat} (hl : l.length ≤ 16777216) (h : Q (.int (l.length : Nat)) H) : rLen K [.str (S l)] H Q := ⟨.str (S l), l.length, rfl, ⟨by rw [S_len]; exact hl, (S_len l).symm⟩, h⟩
theorem rd_slSF {l : List Nat} {k : Nat} (hl : l.length ≤ 16777216) (h : Q (.str (S (l.drop k))) H) : C8.rSlX (.str (S l)) (some (k : Int)) none H Q := ⟨S l, rfl, by rw [S_len]; exact hl, by rw [SX.slice_from (by omega), Int.toNat_natCast]; exact h⟩
theorem rd_slST {l : List Nat} {k : Nat} (hl : l.length ≤ 16777216) (h : Q (.str (S (l.take k))) H) : C8.rSlX (.str (S l)) none (some (k : Int)) H Q := ⟨S l, rfl, by rw [S_len]; exact hl, by rw [SX.slice_to (by omega), Int.toNat_natCast]; exact h⟩
theorem rd_joinS {p : Addr} {ls : List (List Nat)} {x : Str} (e : x = S []) (hp : SqL K H p (ls.map fun l => V.str (S l))) (hl : ls.flatten.length ≤ 16777216) (h : Q (.str (S ls.flatten)) H) : rJoin K (.str x) [.ref p] H Q := by
  refine ⟨S [], p, ls.map S, congrArg V.str e, rfl, .inl ?_, ?_, ?_⟩
  · rw [List.map_map]
    exact hp
  · rw [SX.lens]
    show _ + _ * 0 ≤ _
    rw [Nat.mul_zero, Nat.add_zero, ← List.length_flatten]
    exact hl
  · rw [SX.join_S, joinL_flat]
    exact h
theorem rd_fmtb {te ts : TE} (h : te σ H fun x H1 => ts σ H1 fun y H2 => ∃ n : Nat, x = .int (n : Int) ∧ y = .str (S [98]) ∧ nb n ≤ 16777216 ∧ Q (.str (S (binB n))) H2) : tFmtB te ts σ H Q := h
theorem rd_fmtn {n : Nat} {x : Str} {P : Nat → Prop} (e : x = S [98]) (hl : nb n ≤ 16777216) (h : P n) : ∃ m : Nat, V.int (n : Int) = .int (m : Int) ∧ V.str x = .str (S [98]) ∧ nb m ≤ 16777216 ∧ P m := ⟨n, rfl, congrArg V.str e, hl, h⟩
theorem rd_ixS {l : List Nat} {x : Str} {i c : Nat} (e : x = S l) (hl : l.length ≤ 16777216) (a : l[i]? = some c) (h : Q (.str (S [c])) H) : rIxS (.str x) (.int (i : Int)) H Q := ⟨S l, (i : Int), c, congrArg V.str e, rfl, by rw [S_len]; exact hl, atI_nat a, h⟩
theorem rd_bmS {m : V → List V → Hp → VK → Prop} {to : TE} {ts : TA} (h : to σ H fun x H1 => tyV K "str" x H1 ∧ ts σ H1 fun xs H2 => m x xs H2 Q) : tBM K "str" m to ts σ H Q := h
theorem rd_tyS {x : Str} {P : Prop} (q : P) : tyV K "str" (.str x) H ∧ P := ⟨rfl, q⟩
end
end Z
namespace Z
open PySem PySem.Spec PyProof.Rows L2
open SX (S S_len S_cat S_inj)
def WlN (Pv : Nat → L2.St → Hp → Prop) (N i : Nat) (tb : TS) (D : Ends) (σ : L2.St) (H1 : Hp) : Prop :=
  ∃ Nx : L2.St → Hp → Prop, (∀ σ' H', Nx σ' H' → ∃ m', m' < N - i ∧ ∃ j, m' = N - j ∧ j ≤ N ∧ Pv j σ' H') ∧ tb { D with nx := Nx, ct := Nx, bk := D.nx } σ H1
section
variable {c : TT} {tb : TS} {D : Ends} {σ : L2.St} {H : Hp}
theorem while_n (Pv : Nat → L2.St → Hp → Prop) (N : Nat) (h0 : Pv 0 σ H) (hs : ∀ i σ H, i ≤ N → Pv i σ H → c σ H fun b H1 => if b = true then WlN Pv N i tb D σ H1 else D.nx σ H1) : tWhile c tb D σ H := by
  refine ⟨fun m σ H => ∃ j, m = N - j ∧ j ≤ N ∧ Pv j σ H, ⟨N, 0, rfl, Nat.zero_le _, h0⟩, ?_⟩
  rintro m σ H ⟨j, rfl, hj, p⟩
  exact hs j σ H hj p
theorem while_in {Pv : Nat → L2.St → Hp → Prop} {N i : Nat} (hi : i < N) (h : tb { D with nx := Pv (i + 1), ct := Pv (i + 1), bk := D.nx } σ H) : WlN Pv N i tb D σ H :=
  ⟨Pv (i + 1), fun σ' H' p => ⟨N - (i + 1), by omega, i + 1, rfl, hi, p⟩, h⟩
end
def LK (H H' : Hp) : Prop := ∀ b o, H b = some o → (∀ xs, o ≠ .lst xs) → H' b = some o
section
variable {K : PySem.W.Frag} {H H' H1 : Hp} {a q : Addr} {xs : List V} {o : HO}
theorem LK.refl : LK H H := fun _ _ h _ => h
theorem LK.trans (h : LK H H') (k : LK H' H1) : LK H H1 := fun b o e n => k b o (h b o e n) n
theorem LK.of (s : Same H H') : LK H H' := fun b o e _ => s b o e
theorem LK.new (n : H q = none) : LK H (upd H q o) := .of (same_new n)
theorem LK.at {ys : List V} (n : H q = some (.lst ys)) : LK H (upd H q o) := fun b x e nl => by
  have nb : b ≠ q := fun z => by
    rw [z, n] at e
    exact nl ys (Option.some.inj e).symm
  rw [upd_ne nb]
  exact e
theorem LK.pool {p : Addr} (h : Pool H p) (k : Kp p H H') : LK H H' := fun b x e nl => k b x (fun z => by
  obtain ⟨y1, y2, e2, _⟩ := h
  rw [z, e2] at e
  exact nl _ (Option.some.inj e).symm) e
theorem LK.seqT (s : LK H H') (h : SqT K H a xs) : SqT K H' a xs := by
  rcases h with (h | ⟨o, h⟩) | h
  · exact .inl (.inl (s _ _ h fun _ z => nomatch z))
  · exact .inl (.inr ⟨o, s _ _ h fun _ z => nomatch z⟩)
  · exact .inr h
theorem LK.tyo {t : Value} (ht : t = .type "tuple") (s : LK H H') (h : TyOf K H (.ref a) t) : TyOf K H' (.ref a) t := by
  cases h with
  | lst e => exact absurd ht (by decide)
  | frz e => exact .frz (s _ _ e fun _ z => nomatch z)
  | tup e => exact .tup (s _ _ e fun _ z => nomatch z)
  | dK e => exact .dK (s _ _ e fun _ z => nomatch z)
  | dT e => exact .dT (s _ _ e fun _ z => nomatch z)
  | ins e cl ha hn htk hm => exact .ins (s _ _ e fun _ z => nomatch z) cl ha hn htk hm
theorem LK.tyx (s : LK H H') (h : TyX K H (.ref a) (.type "tuple")) : TyX K H' (.ref a) (.type "tuple") := by
  generalize ht : (Value.type "tuple") = t at h ⊢
  cases h with
  | base b => exact .base (s.tyo ht.symm b)
  | set e => exact .set (s _ _ e fun _ z => nomatch z)
  | kList e c => exact .kList e c
  | kTuple e c => exact .kTuple e c
  | kDict e c => exact .kDict e c
  | fTuple e => exact .fTuple (s _ _ e fun _ z => nomatch z)
  | fDict e => exact .fDict (s _ _ e fun _ z => nomatch z)
theorem TupV.lk (s : LK H H') (h : TupV K H a xs) : TupV K H' a xs := ⟨s.seqT h.1, s.tyx h.2⟩
end
def TbV (K : PySem.W.Frag) (H : Hp) (r : Addr) (t : Tb) : Prop := TupV K H r [.int t.1, .int t.2]
def TbsV (K : PySem.W.Frag) (H : Hp) (a : Addr) (T : Tb × Tb) : Prop := ∃ r0 r1, TupV K H a [.ref r0, .ref r1] ∧ TbV K H r0 T.1 ∧ TbV K H r1 T.2
section
variable {K : PySem.W.Frag} {H H' : Hp} {a p : Addr} {t : Tb} {T : Tb × Tb}
theorem TbV.lk (s : LK H H') (h : TbV K H a t) : TbV K H' a t := TupV.lk s h
theorem TbsV.lk (s : LK H H') (h : TbsV K H a T) : TbsV K H' a T := let ⟨r0, r1, h0, h1, h2⟩ := h; ⟨r0, r1, h0.lk s, h1.lk s, h2.lk s⟩
theorem TbV.of (h : H a = some (.tup [.int t.1, .int t.2])) : TbV K H a t := TupV.of h
def spTblG (K : PySem.W.Frag) : Sp := fun vs H Q _ => ∃ (a : Addr) (t : Tb) (m : Int), vs = [.ref a] ∧ TbV K H a t ∧ TbOk m t ∧ Q (.bl true) H
def spTblsG (K : PySem.W.Frag) : Sp := fun vs H Q _ => ∃ (a : Addr) (T : Tb × Tb) (m : Int), vs = [.ref a] ∧ TbsV K H a T ∧ TbOk m T.1 ∧ TbOk m T.2 ∧ Q (.bl true) H
def spParG (K : PySem.W.Frag) : Sp := fun vs H Q _ => ∃ (a : Addr) (t : Tb) (m : Int), vs = [.ref a] ∧ TbV K H a t ∧ TbOk m t ∧ Q (.int (par t.1 t.2 : Nat)) H
def spBehind (K : PySem.W.Frag) : Sp := fun vs H Q _ => ∃ (a : Addr) (t : Tb) (m : Int) (u : Nat), vs = [.ref a, .int (u : Int)] ∧ TbV K H a t ∧ TbOk m t ∧ ∀ p, H p = none → Q (.ref p) (upd H p (.tup [.int (tbB t u).1, .int (tbB t u).2]))
def spBinary : Sp := fun vs H Q _ => ∃ u : Nat, vs = [.int (u : Int)] ∧ nb u ≤ 100000 ∧ Q (.str (S (if u = 0 then [] else binB u))) H
def spCoding (K : PySem.W.Frag) : Sp := fun vs H Q _ => ∃ (n first : Nat) (a : Addr) (T : Tb × Tb) (m : Int), vs = [.int (n : Int), .int (first : Int), .ref a] ∧ first ≤ n ∧ TbsV K H a T ∧ TbOk m T.1 ∧ TbOk m T.2 ∧ Q .non H
def spWr (K : PySem.W.Frag) : Sp := fun vs H Q _ => ∃ (a : Addr) (ns : List Int) (first : Nat) (b : Addr) (T : Tb × Tb), vs = [.ref a, .int (first : Int), .ref b] ∧ H a = some (.lst (ns.map V.int)) ∧ ns.length ≤ 64 ∧ first ≤ ns.length ∧ (∀ z ∈ ns, z.natAbs < 10 ^ 55) ∧ TbsV K H b T ∧ TbOk (10 ^ 58) T.1 ∧ TbOk (10 ^ 58) T.2 ∧
  ∀ p q H', Same H H' → H p = none → H' p = some (.tup [.str (S (wst ns first T ns.length).1.flatten), .ref q]) → TbsV K H' q (wst ns first T ns.length).2 → Q (.ref p) H'
def spStart (K : PySem.W.Frag) : Sp := fun vs H Q _ => ∃ p, vs = [.ref p] ∧ Pool H p ∧ ∀ a T H', H a = none → TbsV K H' a T → TbOk (10 ^ 56) T.1 → TbOk (10 ^ 56) T.2 → Pool H' p → Kp p H H' → Q (.ref a) H'
end
theorem use_tblG {K : PySem.W.Frag} {H : Hp} {a : Addr} {t : Tb} {m : Int} {Q : VK} {E : XK} (h : TbV K H a t) (ok : TbOk m t) (q : Q (.bl true) H) : spTblG K ([.ref a] ++ []) H Q E := ⟨a, t, m, rfl, h, ok, q⟩
theorem use_tblsG {K : PySem.W.Frag} {H : Hp} {a : Addr} {T : Tb × Tb} {m : Int} {Q : VK} {E : XK} (h : TbsV K H a T) (o1 : TbOk m T.1) (o2 : TbOk m T.2) (q : Q (.bl true) H) : spTblsG K ([.ref a] ++ []) H Q E := ⟨a, T, m, rfl, h, o1, o2, q⟩
theorem use_parG {K : PySem.W.Frag} {H : Hp} {a : Addr} {t : Tb} {m : Int} {Q : VK} {E : XK} (h : TbV K H a t) (ok : TbOk m t) (q : Q (.int (par t.1 t.2 : Nat)) H) : spParG K ([.ref a] ++ []) H Q E := ⟨a, t, m, rfl, h, ok, q⟩
theorem use_behind {K : PySem.W.Frag} {H : Hp} {a : Addr} {t : Tb} {m : Int} {u : Nat} {Q : VK} {E : XK} (h : TbV K H a t) (ok : TbOk m t) (q : ∀ p, H p = none → Q (.ref p) (upd H p (.tup [.int (tbB t u).1, .int (tbB t u).2]))) : spBehind K ([.ref a, .int (u : Int)] ++ []) H Q E := ⟨a, t, m, u, rfl, h, ok, q⟩
theorem use_binary {u : Nat} {H : Hp} {Q : VK} {E : XK} (hu : nb u ≤ 100000) (q : Q (.str (S (if u = 0 then [] else binB u))) H) : spBinary ([.int (u : Int)] ++ []) H Q E := ⟨u, rfl, hu, q⟩
theorem use_coding {K : PySem.W.Frag} {n first : Nat} {a : Addr} {T : Tb × Tb} {m : Int} {H : Hp} {Q : VK} {E : XK} (h1 : first ≤ n) (h2 : TbsV K H a T) (o1 : TbOk m T.1) (o2 : TbOk m T.2) (q : Q .non H) : spCoding K ([.int (n : Int), .int (first : Int), .ref a] ++ []) H Q E := ⟨n, first, a, T, m, rfl, h1, h2, o1, o2, q⟩
theorem use_wr {K : PySem.W.Frag} {a b : Addr} {ns : List Int} {first : Nat} {T : Tb × Tb} {H : Hp} {Q : VK} {E : XK} (h1 : H a = some (.lst (ns.map V.int))) (h2 : ns.length ≤ 64) (h3 : first ≤ ns.length) (h4 : ∀ z ∈ ns, z.natAbs < 10 ^ 55) (h5 : TbsV K H b T) (h6 : TbOk (10 ^ 58) T.1) (h7 : TbOk (10 ^ 58) T.2)
    (q : ∀ p q H', Same H H' → H p = none → H' p = some (.tup [.str (S (wst ns first T ns.length).1.flatten), .ref q]) → TbsV K H' q (wst ns first T ns.length).2 → Q (.ref p) H') : spWr K ([.ref a, .int (first : Int), .ref b] ++ []) H Q E := ⟨a, ns, first, b, T, rfl, h1, h2, h3, h4, h5, h6, h7, q⟩
theorem use_start {K : PySem.W.Frag} {p : Addr} {H : Hp} {Q : VK} {E : XK} (h : Pool H p) (q : ∀ a T H', H a = none → TbsV K H' a T → TbOk (10 ^ 56) T.1 → TbOk (10 ^ 56) T.2 → Pool H' p → Kp p H H' → Q (.ref a) H') : spStart K ([.ref p] ++ []) H Q E := ⟨p, rfl, h, q⟩
theorem par_leG {m : Int} {t : Tb} (h : TbOk m t) (hm : m < 10 ^ 60) : par t.1 t.2 ≤ 300 := par_le h.1 h.2.2.1 (Int.lt_of_le_of_lt h.2.1 hm) h.2.2.2
theorem nb_small {u : Nat} (h : (u : Int) ≤ 10 ^ 56) : nb u ≤ 200 := by
  refine nb_min (j := 200) ?_ (by decide)
  have e : (10 : Nat) ^ 56 < 2 ^ 200 := by decide
  have h2 : u ≤ 10 ^ 56 := by
    have z : ((10 ^ 56 : Nat) : Int) = 10 ^ 56 := by norm_cast
    omega
  exact Nat.lt_of_le_of_lt h2 e
theorem shr_nat (u k : Nat) : ((u : Int) / 2 ^ ((k : Int)).toNat) = ((u / 2 ^ k : Nat) : Int) := by
  rw [Int.toNat_natCast]
  norm_cast
theorem rd_shr {u k : Nat} {H : Hp} {Q : VK} (h : Q (.int ((u / 2 ^ k : Nat) : Int)) H) : rI (fun _ j => 0 ≤ j) (fun i j => V.int (i / 2 ^ j.toNat)) (.int (u : Int)) (.int (k : Int)) H Q := ⟨(u : Int), (k : Int), rfl, rfl, by omega, by show Q (V.int ((u : Int) / 2 ^ ((k : Int)).toNat)) H; rw [shr_nat]; exact h⟩
theorem rd_bit {m : Nat} {H : Hp} {Q : VK} (h : Q (.str (S [48 + m % 2])) H) : rIxS (.str (Str.ofString "01")) (.int ((m : Int) % 2)) H Q := by
  rcases (show m % 2 = 0 ∨ m % 2 = 1 by omega) with e | e
  · rw [e] at h
    have e2 : (m : Int) % 2 = ((0 : Nat) : Int) := by omega
    rw [e2]
    exact rd_ixS e_01 (by decide) rfl h
  · rw [e] at h
    have e2 : (m : Int) % 2 = ((1 : Nat) : Int) := by omega
    rw [e2]
    exact rd_ixS e_01 (by decide) rfl h
theorem rd_listQ {K : PySem.W.Frag} {H : Hp} {Q : VK} {a : Addr} {xs : List V} (h : SqT K H a xs) (q : ∀ l, H l = none → Q (.ref l) (upd H l (.lst xs))) : rToList K [.ref a] H Q := ⟨a, xs, rfl, .inr h, q⟩
theorem half_nat (u : Nat) : ((u : Int) / 2) = ((u / 2 : Nat) : Int) := by omega
theorem wst_lo {ns : List Int} {first : Nat} {T : Tb × Tb} {i : Nat} (h : i < first) : wst ns first T (i + 1) = ((wst ns first T i).1 ++ [encB (uOf (ns.getD i 0)) (par (wst ns first T i).2.1.1 (wst ns first T i).2.1.2)], (tbB (wst ns first T i).2.1 (uOf (ns.getD i 0)), (wst ns first T i).2.2)) := if_pos h
theorem wst_hi {ns : List Int} {first : Nat} {T : Tb × Tb} {i : Nat} (h : ¬ i < first) : wst ns first T (i + 1) = ((wst ns first T i).1 ++ [encB (uOf (ns.getD i 0)) (par (wst ns first T i).2.2.1 (wst ns first T i).2.2.2)], ((wst ns first T i).2.1, tbB (wst ns first T i).2.2 (uOf (ns.getD i 0)))) := if_neg h
theorem uOf_getD {ns : List Int} (hn : ∀ z ∈ ns, z.natAbs < 10 ^ 55) (i : Nat) : ((uOf (ns.getD i 0) : Nat) : Int) ≤ 10 ^ 56 := uOf_le (by
  rw [List.getD_eq_getElem?_getD]
  cases e : ns[i]? with
  | none => decide
  | some z => exact hn z (List.mem_of_getElem? e))
theorem wst_flat {ns : List Int} {first : Nat} {T : Tb × Tb} (hn : ∀ z ∈ ns, z.natAbs < 10 ^ 55) (h0 : TbOk (10 ^ 58) T.1) (h1 : TbOk (10 ^ 58) T.2) : ∀ i : Nat, i ≤ 64 → (wst ns first T i).1.flatten.length ≤ 1000 * i
  | 0, _ => Nat.zero_le _
  | i + 1, hi => by
    have ih := wst_flat (first := first) hn h0 h1 i (by omega)
    obtain ⟨a, b⟩ := wst_ok (first := first) hn h0 h1 i (by omega)
    have hu := nb_small (uOf_getD hn i)
    have bnd : (10 ^ 58 + (i : Int) * 10 ^ 56) < 10 ^ 60 := by omega
    have pa := par_leG a bnd
    have pb := par_leG b bnd
    by_cases c : i < first
    · rw [wst_lo c]
      have e := encB_len (uOf (ns.getD i 0)) (par (wst ns first T i).2.1.1 (wst ns first T i).2.1.2)
      rw [List.flatten_append, List.length_append, List.flatten_cons, List.flatten_nil, List.append_nil]
      omega
    · rw [wst_hi c]
      have e := encB_len (uOf (ns.getD i 0)) (par (wst ns first T i).2.2.1 (wst ns first T i).2.2.2)
      rw [List.flatten_append, List.length_append, List.flatten_cons, List.flatten_nil, List.append_nil]
      omega
theorem par_cond {m : Int} {t : Tb} (h : TbOk m t) {i : Nat} (hi : i ≤ par t.1 t.2) : (t.2 * 2 ^ i < t.1 ↔ i < par t.1 t.2) := by
  obtain ⟨h1, h2⟩ := par_spec h.1 h.2.2.1
  constructor
  · intro c
    by_cases e : i = par t.1 t.2
    · subst e
      omega
    · omega
  · exact h1 i
end Z
namespace Z
open PySem PySem.Spec PyProof.Rows L2
open SX (S S_len S_cat S_inj)
section
open PySem.NumText PySem.Calls Hx
def IsB (c : Nat) : Prop := c = 48 ∨ c = 49
theorem IsB.hex {c : Nat} (h : IsB c) : IsHex c := by
  unfold IsB at h
  unfold IsHex
  omega
theorem hv_b {c : Nat} (h : IsB c) : hv c = c - 48 := by
  unfold IsB at h
  unfold hv
  rw [if_pos (by omega)]
theorem step_b {ds : Array Nat} {b : Bool} {c : Nat} (h : IsB c) : PySem.NumText.step 2 (ds, b) c = some (ds.push (c - 48), true) := by
  have hr := hex_rng h.hex
  unfold PySem.NumText.step
  rw [if_neg (by rw [beq_iff_eq]; exact hr.2.2), digit_hex h.hex, hv_b h]
  exact if_pos (by unfold IsB at h; omega)
theorem foldl_b : ∀ (cs : List Nat) (ds : Array Nat), (∀ c ∈ cs, IsB c) → cs.foldlM (PySem.NumText.step 2) (ds, true) = some (cs.foldl (fun acc c => acc.push (c - 48)) ds, true)
  | [], _, _ => rfl
  | c :: cs, ds, h => by
    rw [List.foldlM_cons, step_b (h c (List.mem_cons_self ..))]
    show cs.foldlM (PySem.NumText.step 2) (ds.push (c - 48), true) = _
    exact foldl_b cs (ds.push (c - 48)) fun d hd => h d (List.mem_cons_of_mem _ hd)
theorem digits_b {cs : List Nat} (h : ∀ c ∈ cs, IsB c) (hne : cs ≠ []) : digits? 2 cs = some (cs.foldl (fun acc c => acc.push (c - 48)) #[]) := by
  cases cs with
  | nil => exact absurd rfl hne
  | cons c cs =>
    unfold digits?
    rw [List.foldlM_cons, step_b (h c (List.mem_cons_self ..))]
    show (cs.foldlM (PySem.NumText.step 2) ((#[] : Array Nat).push (c - 48), true)).bind _ = _
    rw [foldl_b cs _ fun d hd => h d (List.mem_cons_of_mem _ hd)]
    rfl
theorem push_b : ∀ (cs : List Nat) (ds : Array Nat), (cs.foldl (fun acc c => acc.push (c - 48)) ds).foldl (fun acc d => acc * 2 + d) 0 = cs.foldl (fun a c => a * 2 + (c - 48)) (ds.foldl (fun acc d => acc * 2 + d) 0)
  | [], _ => rfl
  | c :: cs, ds => by
    rw [List.foldl_cons, push_b cs (ds.push (c - 48)), List.foldl_cons]
    congr 1
    simp
theorem based_b : ∀ {cs : List Nat}, (∀ c ∈ cs, IsB c) → based 2 cs = (2, false, cs)
  | [], _ => rfl
  | [a], h => by
    rcases h a List.mem_cons_self with rfl | rfl <;> rfl
  | a :: c :: r, h => by
    rcases h a List.mem_cons_self with rfl | rfl <;> rcases h c (List.mem_cons_of_mem _ List.mem_cons_self) with rfl | rfl <;> rfl
theorem valB_two (l : List Nat) : l.foldl (fun a c => a * 2 + (c - 48)) 0 = valB l := by
  unfold valB
  congr 1
  funext a c
  rw [Nat.mul_comm]
theorem read_b {cs : List Nat} (h : ∀ c ∈ cs, IsB c) (hne : cs ≠ []) : (int_private% "readNumeral") 0 2 cs = (int_private% "Numeral.value") ((valB cs : Nat) : Int) := by
  have hr : ∀ c ∈ cs.reverse, IsB c := fun c hc => h c (List.mem_reverse.mp hc)
  refine (readNumeral_eq 0 2 cs).trans ?_
  rw [dropB (fun c hc => (h c hc).hex), signH (fun c hc => (h c hc).hex)]
  show judge 0 false (based 2 cs).1 (based 2 cs).2.1 (digits? (based 2 cs).1 (((based 2 cs).2.2.reverse.dropWhile blank).reverse)) = _
  rw [based_b h]
  show judge 0 false 2 false (digits? 2 ((cs.reverse.dropWhile blank).reverse)) = _
  rw [dropB (fun c hc => (hr c hc).hex), List.reverse_reverse, digits_b h hne]
  show (int_private% "Numeral.value") (((cs.foldl (fun acc c => acc.push (c - 48)) (#[] : Array Nat)).foldl (fun acc d => acc * 2 + d) 0 : Nat) : Int) = _
  have z : (#[] : Array Nat).foldl (fun acc d => acc * 2 + d) 0 = 0 := by first | rfl | simp
  rw [push_b, z, valB_two]
set_option maxHeartbeats 4000000 in
theorem gives_b {x : PySem.Str} {u t : Tok} (hl : x.length ≤ 640) (h : ∀ c ∈ x.cps.toList, IsB c) (hne : x.cps.toList ≠ []) :
    Gives (Builtin.«int.__new__» ⟨[.type "int", .str x u, .int 2 t], []⟩) (.int ((valB x.cps.toList : Nat) : Int)) :=
  .of_wp fun M A E s Q hQ => by
    obtain ⟨hp, g, d, tk, os⟩ := s
    have f1 := F.conv_sub_int
    have f2 := F.madeHere_int
    have f6 : typeOf (.str x u) = pure (.type "str") := rfl
    obtain ⟨e1, e2⟩ := seen_hex (fun c hc => (h c hc).hex)
    have hs : (numSeenOf x).length ≤ 640 := by
      rw [e2, Array.length_toList]
      exact hl
    have hr : (int_private% "readNumeral") 0 2 (numSeenOf x) = (int_private% "Numeral.value") ((valB x.cps.toList : Nat) : Int) := by
      rw [e2]
      exact read_b h hne
    have ha : ((numSeenOf x).length == (numTextOf x).length) = true := by
      rw [e1, e2]
      exact beq_self_eq_true _
    have hk := Hid.mk (And.intro hs (And.intro hr ha))
    clear hs hr ha e1 e2 hl hne h
    repeat (any_goals (first
      | assumption
      | ((with_reducible show wpAny _ _ ((int_private% "intFromText") _ _ _) _ _ _); refine wp_textB hk.out.1 hk.out.2.1 hk.out.2.2 ?_)
      | wp_step))
    all_goals first | exact ⟨_, rfl, hQ⟩ | skip
theorem call_b {prog : Program} {w : World} {A : Around} {E : Value → Shared → Prop} {s : Shared} {Q : Value → Shared → Prop} {x : PySem.Str} {u t : Tok} (hl : x.length ≤ 640) (h : ∀ c ∈ x.cps.toList, IsB c) (hne : x.cps.toList ≠ [])
    (hQ : Q (.int ((valB x.cps.toList : Nat) : Int) s.toks) { s with toks := s.toks + 1 }) : wpAny (model prog w) A (call (.type "int") [.str x u, .int 2 t]) Q E s :=
  callType_new F.called_int F.newNe_int (typeCall_int_2 _ _) (newCall_int_2 _ _) (fun obj => F.initArgs_range_2 obj _ _) F.entry_int_new (gives_b hl h hne).meets (show (Made.int ((valB x.cps.toList : Nat) : Int)).post _ s from ⟨rfl, hQ⟩)
end
def rIntB : List V → Hp → VK → Prop := fun xs H Q => ∃ l : List Nat, xs = [.str (S l), .int 2] ∧ l ≠ [] ∧ l.length ≤ 640 ∧ (∀ c ∈ l, IsB c) ∧ Q (.int ((valB l : Nat) : Int)) H
theorem call_intB {X : Cx} : CallR X (.type "int") rIntB := by
  intro pins s σ H xs us Q I r h
  obtain ⟨l, rfl, hne, hl, hx, q⟩ := h
  obtain ⟨u, w', rfl, r1, r2⟩ := vals2 r
  obtain ⟨t1, rfl⟩ := r1
  obtain ⟨t2, rfl⟩ := r2
  exact call_b (x := S l) (by rw [S_len]; exact hl) hx hne ⟨.int ((valB l : Nat) : Int), H, I.tok _, ⟨_, rfl⟩, q⟩
def onesL : List Nat → Nat
  | [] => 0
  | c :: r => if c = 48 then 0 else onesL r + 1
theorem onesL_le : ∀ m : List Nat, onesL m ≤ m.length
  | [] => Nat.le_refl _
  | c :: r => by
    unfold onesL
    split
    · exact Nat.zero_le _
    · exact Nat.succ_le_succ (onesL_le r)
theorem onesL_lt : ∀ (m : List Nat) (i : Nat), i < onesL m → m[i]? ≠ some 48
  | [], i, h => absurd h (Nat.not_lt_zero _)
  | c :: r, i, h => by
    unfold onesL at h
    split at h
    · exact absurd h (Nat.not_lt_zero _)
    · rename_i e
      rcases i with _ | i
      · intro z
        exact e (Option.some.inj z)
      · exact onesL_lt r i (by omega)
theorem onesL_at : ∀ m : List Nat, onesL m < m.length → m[onesL m]? = some 48
  | [], h => absurd h (Nat.not_lt_zero _)
  | c :: r, h => by
    by_cases e : c = 48
    · have z : onesL (c :: r) = 0 := if_pos e
      rw [z, e]
      rfl
    · have z : onesL (c :: r) = onesL r + 1 := if_neg e
      rw [z] at h ⊢
      exact onesL_at r (by simpa using h)
theorem onesL_rep (n : Nat) (r : List Nat) : onesL (List.replicate n 49 ++ 48 :: r) = n := by
  induction n with
  | zero => rfl
  | succ n ih =>
    show (if (49 : Nat) = 48 then 0 else onesL (List.replicate n 49 ++ 48 :: r) + 1) = n + 1
    rw [if_neg (by decide), ih]
def fzI (l : List Nat) (pl : Nat) : Int := if pl + onesL (l.drop pl) < l.length then ((pl + onesL (l.drop pl) : Nat) : Int) else -1
theorem S_get (l : List Nat) (v : Nat) (hv : v < l.length) : (S l).cps.getD v 0 = 48 ↔ l[v]? = some 48 :=
  ⟨fun h => PySem.StrLaws.getElem?_of_getD (x := S l) (by rw [S_len]; exact hv) h, fun h => PySem.StrLaws.getD_of_getElem? (x := S l) h⟩
theorem find_S (l : List Nat) (pl : Nat) (hpl : pl ≤ l.length) : Txt.find3 (S l) (S [48]) (pl : Int) = fzI l pl := by
  have fi : fromIndex (S l).length (pl : Int) = pl := by
    unfold fromIndex
    omega
  have hd : ∀ v, pl ≤ v → l[v]? = (l.drop pl)[v - pl]? := fun v hv => by rw [List.getElem?_drop]; congr 1; omega
  have hol := onesL_le (l.drop pl)
  rw [List.length_drop] at hol
  rcases PySem.StrLaws.find3_spec (S l) 48 (pl : Int) with ⟨e, hn⟩ | ⟨k, e, h1, h2, h3, h4⟩
  · rw [fi] at hn
    have hlt : ¬ pl + onesL (l.drop pl) < l.length := fun hlt => by
      have a := onesL_at (l.drop pl) (by rw [List.length_drop]; omega)
      refine hn (pl + onesL (l.drop pl)) (by omega) (by rw [S_len]; exact hlt) ((S_get l _ hlt).mpr ?_)
      rw [hd _ (by omega), show pl + onesL (l.drop pl) - pl = onesL (l.drop pl) by omega]
      exact a
    unfold fzI
    rw [if_neg hlt]
    exact e
  · rw [fi] at h1 h4
    rw [S_len] at h2
    have hk := (S_get l k h2).mp h3
    rw [hd k h1] at hk
    have a1 : ¬ k - pl < onesL (l.drop pl) := fun z => onesL_lt _ _ z hk
    have a2 : ¬ onesL (l.drop pl) < k - pl := fun z => by
      have a := onesL_at (l.drop pl) (by rw [List.length_drop]; omega)
      refine h4 (pl + onesL (l.drop pl)) (by omega) (by omega) ((S_get l _ (by omega)).mpr ?_)
      rw [hd _ (by omega), show pl + onesL (l.drop pl) - pl = onesL (l.drop pl) by omega]
      exact a
    have e2 : k = pl + onesL (l.drop pl) := by omega
    unfold fzI
    rw [if_pos (by omega), ← e2]
    exact e
def rdC (l : List Nat) (pl k : Nat) : Option (Nat × Nat) :=
  if pl + onesL (l.drop pl) < l.length then
    if l.length < pl + onesL (l.drop pl) + 1 + (if onesL (l.drop pl) < 20 then k else onesL (l.drop pl) - 19) then none
    else if onesL (l.drop pl) < 20 then some (onesL (l.drop pl) * 2 ^ k + valB ((l.drop (pl + onesL (l.drop pl) + 1)).take k), pl + onesL (l.drop pl) + 1 + k)
    else if (l.drop (pl + onesL (l.drop pl) + 1))[0]? = some 48 ∨ valB ((l.drop (pl + onesL (l.drop pl) + 1)).take (onesL (l.drop pl) - 19)) / 2 ^ k < 20 then none
    else some (valB ((l.drop (pl + onesL (l.drop pl) + 1)).take (onesL (l.drop pl) - 19)), pl + onesL (l.drop pl) + 1 + (onesL (l.drop pl) - 19))
  else none
theorem binB_head {u : Nat} (h : u ≠ 0) : (binB u)[0]? = some 49 := by
  unfold binB
  obtain ⟨m, hm⟩ : ∃ m, nb u = m + 1 := ⟨nb u - 1, by have := nb_pos u; omega⟩
  have h1 := nb_le h
  have h2 := nb_lt u
  rw [hm] at h1 h2 ⊢
  rw [lowB_front]
  have e : u / 2 ^ m = 1 := by
    have h3 : 2 ^ m ≤ u := h1
    rw [Nat.pow_succ] at h2
    have a := (Nat.le_div_iff_mul_le (Nat.two_pow_pos m)).mpr (show 1 * 2 ^ m ≤ u by omega)
    have b := (Nat.div_lt_iff_lt_mul (Nat.two_pow_pos m)).mpr (show u < 2 * 2 ^ m by omega)
    omega
  rw [e]
  rfl
theorem rdC_good (pre post : List Nat) (u k : Nat) : rdC (pre ++ (encB u k ++ post)) pre.length k = some (u, pre.length + (encB u k).length) := by
  have hd : (pre ++ (encB u k ++ post)).drop pre.length = encB u k ++ post := List.drop_left
  have hd2 : ∀ n, (pre ++ (encB u k ++ post)).drop (pre.length + n) = (encB u k ++ post).drop n := fun n => by rw [← List.drop_drop, hd]
  have hl : (pre ++ (encB u k ++ post)).length = pre.length + ((encB u k).length + post.length) := by rw [List.length_append, List.length_append]
  by_cases c : u / 2 ^ k < 20
  · have e : encB u k = List.replicate (u / 2 ^ k) 49 ++ 48 :: lowB u k := by
      unfold encB
      rw [if_pos c, List.append_assoc]
      rfl
    have el : (encB u k).length = u / 2 ^ k + 1 + k := by
      rw [e, List.length_append, List.length_replicate, List.length_cons, lowB_length]
      omega
    have o : onesL (encB u k ++ post) = u / 2 ^ k := by
      rw [e, List.append_assoc]
      exact onesL_rep _ _
    have dd : ((pre ++ (encB u k ++ post)).drop (pre.length + u / 2 ^ k + 1)).take k = lowB u k := by
      rw [Nat.add_assoc, hd2, e, List.append_assoc, List.cons_append]
      rw [show u / 2 ^ k + 1 = (List.replicate (u / 2 ^ k) 49).length + 1 by rw [List.length_replicate]]
      rw [← List.drop_drop, List.drop_left]
      show (lowB u k ++ post).take k = lowB u k
      exact List.take_left' (lowB_length u k)
    unfold rdC
    rw [hd, o, if_pos (by rw [hl, el]; omega), if_pos c, if_neg (by rw [hl, el]; omega), if_pos c, dd, valB_lowB, el]
    rw [Nat.mul_comm, Nat.div_add_mod]
    congr 2
    omega
  · have hu : u ≠ 0 := fun z => c (by rw [z, Nat.zero_div]; decide)
    have hnb := nb_pos u
    have e : encB u k = List.replicate (19 + nb u) 49 ++ 48 :: binB u := by
      unfold encB
      rw [if_neg c, List.append_assoc]
      rfl
    have el : (encB u k).length = 19 + nb u + 1 + nb u := by
      rw [e, List.length_append, List.length_replicate, List.length_cons, binB_length]
      omega
    have o : onesL (encB u k ++ post) = 19 + nb u := by
      rw [e, List.append_assoc]
      exact onesL_rep _ _
    have dd : (pre ++ (encB u k ++ post)).drop (pre.length + (19 + nb u) + 1) = binB u ++ post := by
      rw [Nat.add_assoc, hd2, e, List.append_assoc, List.cons_append]
      rw [show 19 + nb u + 1 = (List.replicate (19 + nb u) 49).length + 1 by rw [List.length_replicate]]
      rw [← List.drop_drop, List.drop_left]
      rfl
    have tk : (binB u ++ post).take (nb u) = binB u := List.take_left' (binB_length u)
    have vb : valB (binB u) = u := by
      unfold binB
      rw [valB_lowB, Nat.mod_eq_of_lt (nb_lt u)]
    have hh : (binB u ++ post)[0]? = some 49 := by
      rw [List.getElem?_append_left (by rw [binB_length]; omega)]
      exact binB_head hu
    unfold rdC
    rw [hd, o, if_pos (by rw [hl, el]; omega), if_neg (show ¬ 19 + nb u < 20 by omega), show 19 + nb u - 19 = nb u by omega, if_neg (by rw [hl, el]; omega), if_neg (show ¬ 19 + nb u < 20 by omega), dd, tk, vb, hh, if_neg, el]
    · congr 2
      omega
    · intro z
      rcases z with z | z
      · cases z
      · exact c z
def unU (u : Nat) : Int := if u % 2 = 0 then ((u / 2 : Nat) : Int) else -((u / 2 : Nat) : Int) - 1
theorem unU_uOf (n : Int) : unU (uOf n) = n := by
  have e := uOf_eq n
  unfold unU
  unfold codeU at e
  split at e <;> split <;> omega
theorem tw_all (p : Nat → Bool) : ∀ l : List Nat, (∀ c ∈ l, p c = true) → l.takeWhile p = l
  | [], _ => rfl
  | c :: r, h => by
    rw [List.takeWhile_cons, if_pos (h c List.mem_cons_self), tw_all p r fun d hd => h d (List.mem_cons_of_mem _ hd)]
theorem strip_B {l : List Nat} (h : ∀ c ∈ l, IsB c) : Txt.stripChars (S l) (S [48, 49]) = S [] := by
  have hc : ∀ c ∈ l, (S [48, 49]).cps.contains c = true := fun c hc => by
    rcases h c hc with e | e
    · rw [e]; decide +kernel
    · rw [e]; decide +kernel
  have tw : l.takeWhile (S [48, 49]).cps.contains = l := tw_all _ l hc
  have lo : stripLo (S [48, 49]).cps.contains true (S l) = l.length := by
    unfold stripLo
    rw [if_pos rfl]
    show (l.takeWhile _).length = _
    rw [tw]
  have hi : stripHi (S [48, 49]).cps.contains true (S l) l.length = l.length := by
    unfold stripHi
    rw [if_pos rfl]
    show (S l).length - ((l.drop l.length).reverse.takeWhile _).length = _
    rw [List.drop_length, S_len]
    rfl
  unfold Txt.stripChars Txt.stripBy
  cases hs : stripSame (S [48, 49]).cps.contains true true (S l) with
  | true =>
    rw [if_pos rfl]
    unfold stripSame at hs
    rw [lo, Bool.and_eq_true, beq_iff_eq] at hs
    rw [List.length_eq_zero_iff.mp hs.1]
  | false =>
    rw [if_neg Bool.false_ne_true]
    unfold stripped
    rw [lo, hi]
    refine TL.ext_tl ?_
    rw [TL.tl_strSub]
    simp
def rFind3 : V → List V → Hp → VK → Prop := fun x xs H Q => ∃ (a b : Str) (i : Int), x = .str a ∧ xs = [.str b, .int i] ∧ Q (.int (Txt.find3 a b i)) H
theorem mt_find3K {X : Cx} : MtR X "str.find" rFind3 := mt_find3
def rStripC : V → List V → Hp → VK → Prop := fun x xs H Q => ∃ a b, x = .str a ∧ xs = [.str b] ∧ a.length ≤ sizeLine ∧ Q (.str (Txt.stripChars a b)) H
theorem mt_stripK {X : Cx} : MtR X "str.strip" rStripC := mt_stripChars
section
variable {H : Hp} {Q : VK}
theorem rd_find {l : List Nat} {x : Str} {pl : Nat} (e : x = S [48]) (hpl : pl ≤ l.length) (h : Q (.int (fzI l pl)) H) : rFind3 (.str (S l)) [.str x, .int (pl : Int)] H Q := ⟨S l, x, (pl : Int), rfl, rfl, by rw [e, find_S l pl hpl]; exact h⟩
theorem rd_strip {l : List Nat} {x : Str} (e : x = S [48, 49]) (hl : l.length ≤ 16777216) (hb : ∀ c ∈ l, IsB c) (h : Q (.str (S [])) H) : rStripC (.str (S l)) [.str x] H Q := ⟨S l, x, rfl, rfl, by rw [S_len]; exact hl, by rw [e, strip_B hb]; exact h⟩
theorem rd_intB {l : List Nat} (hne : l ≠ []) (hl : l.length ≤ 640) (hb : ∀ c ∈ l, IsB c) (h : Q (.int ((valB l : Nat) : Int)) H) : rIntB [.str (S l), .int 2] H Q := ⟨l, rfl, hne, hl, hb, h⟩
theorem rd_slSM {l : List Nat} {a b : Nat} (ha : a ≤ l.length) (hb : b ≤ l.length) (hl : l.length ≤ 16777216) (h : Q (.str (S ((l.drop a).take (b - a)))) H) : C8.rSlX (.str (S l)) (some (a : Int)) (some (b : Int)) H Q := by
  refine ⟨S l, rfl, by rw [S_len]; exact hl, ?_⟩
  rw [← C8.cutS_slice]
  unfold cutS
  rw [S_len, HT.sIx_nat, HT.sIx_nat, Nat.min_eq_left ha, Nat.min_eq_left hb]
  exact h
end
theorem valB_zero (l : List Nat) : valB (48 :: l) = valB l := rfl
def spRdC : Sp := fun vs H Q _ => ∃ (l : List Nat) (pl k : Nat), vs = [.str (S l), .int (pl : Int), .int (k : Int)] ∧ (∀ c ∈ l, IsB c) ∧ l.length ≤ 1000000 ∧ pl ≤ l.length ∧ k ≤ 600 ∧ onesL (l.drop pl) ≤ 600 ∧ (rdC l pl k = none → Q .non H) ∧
  ∀ u e, rdC l pl k = some (u, e) → ∀ p, H p = none → Q (.ref p) (upd H p (.tup [.int ((u : Nat) : Int), .int ((e : Nat) : Int)]))
theorem use_rdC {l : List Nat} {pl k u e : Nat} {H : Hp} {Q : VK} {E : XK} (h1 : ∀ c ∈ l, IsB c) (h2 : l.length ≤ 1000000) (h3 : pl ≤ l.length) (h4 : k ≤ 600) (h5 : onesL (l.drop pl) ≤ 600) (h6 : rdC l pl k = some (u, e))
    (q : ∀ p, H p = none → Q (.ref p) (upd H p (.tup [.int ((u : Nat) : Int), .int ((e : Nat) : Int)]))) : spRdC ([.str (S l), .int (pl : Int), .int (k : Int)] ++ []) H Q E :=
  ⟨l, pl, k, rfl, h1, h2, h3, h4, h5, fun z => (by rw [h6] at z; cases z), fun u' e' z => (by rw [h6] at z; cases z; exact q)⟩
def spNumW : Sp := fun vs H Q _ => ∃ u : Nat, vs = [.int (u : Int)] ∧ Q (.int (unU u)) H
theorem use_numW {u : Nat} {H : Hp} {Q : VK} {E : XK} (q : Q (.int (unU u)) H) : spNumW ([.int (u : Int)] ++ []) H Q E := ⟨u, rfl, q⟩
theorem wst_bin (ns : List Int) (first : Nat) (T : Tb × Tb) : ∀ i, ∀ c ∈ (wst ns first T i).1.flatten, IsB c
  | 0, c, h => absurd h List.not_mem_nil
  | i + 1, c, h => by
    by_cases d : i < first
    · rw [wst_lo d, List.flatten_append] at h
      rcases List.mem_append.mp h with h | h
      · exact wst_bin ns first T i c h
      · rw [List.flatten_cons, List.flatten_nil, List.append_nil] at h
        exact encB_bin _ _ c h
    · rw [wst_hi d, List.flatten_append] at h
      rcases List.mem_append.mp h with h | h
      · exact wst_bin ns first T i c h
      · rw [List.flatten_cons, List.flatten_nil, List.append_nil] at h
        exact encB_bin _ _ c h
/-- what stands behind the i-th word -/
theorem wst_split (ns : List Int) (first : Nat) (T : Tb × Tb) (i : Nat) : ∀ n, i ≤ n → ∃ post, (wst ns first T n).1.flatten = (wst ns first T i).1.flatten ++ post
  | 0, h => by
    obtain rfl : i = 0 := by omega
    exact ⟨[], (List.append_nil _).symm⟩
  | n + 1, h => by
    by_cases e : i = n + 1
    · subst e
      exact ⟨[], (List.append_nil _).symm⟩
    · obtain ⟨post, hp⟩ := wst_split ns first T i n (by omega)
      by_cases d : n < first
      · rw [wst_lo d, List.flatten_append, hp, List.append_assoc]
        exact ⟨_, rfl⟩
      · rw [wst_hi d, List.flatten_append, hp, List.append_assoc]
        exact ⟨_, rfl⟩
theorem ones_enc (u k : Nat) (post : List Nat) (h : nb u ≤ 200) : onesL (encB u k ++ post) ≤ 600 := by
  unfold encB
  split
  · rw [List.append_assoc, List.append_assoc]
    show onesL (List.replicate (u / 2 ^ k) 49 ++ 48 :: _) ≤ 600
    rw [onesL_rep]
    omega
  · rw [List.append_assoc, List.append_assoc]
    show onesL (List.replicate (19 + nb u) 49 ++ 48 :: _) ≤ 600
    rw [onesL_rep]
    omega
theorem rd_notBl {a : Bool} {H : Hp} {Q : VK} (h : Q (.bl (!decide (a = true))) H) : rNotB (.bl a) (.bl true) H Q := by
  first
    | exact ⟨a, true, rfl, rfl, h⟩
    | (refine ⟨_, _, rfl, rfl, ?_⟩; cases a <;> exact h)
end Z
namespace Z
open PySem PySem.Spec PyProof.Rows L2
open SX (S S_len S_cat S_inj)
def bitsOf (z : Str) : Bool := decide (V.str (Txt.stripChars z (S [48, 49])) = V.str (Str.ofString ""))
inductive BitR (H : Hp) : V → Bool → Prop where
  | str {z : Str} (h : z.length ≤ 16000000) : BitR H (.str z) (bitsOf z)
  | non : BitR H .non false
  | int {i : Int} : BitR H (.int i) false
  | lst {a : Addr} {xs : List V} (h : H a = some (.lst xs)) : BitR H (.ref a) false
def layB (ln : V) (b : Bool) (lv st : V) : Bool := (inI ln 1 64 && b) && (inI lv 0 5 && inI st 1 64)
def frB (v0 ln : V) (b : Bool) (lv st mk : V) (c : Bool) : Bool := decide (v0 = V.str (Str.ofString "frame")) && (layB ln b lv st && (inI mk 0 9972 && c))
inductive RecR (H : Hp) : V → Bool → Prop where
  | flat {x : V} (h : scalarV x = true) : RecR H x false
  | lst {a : Addr} {xs : List V} (h : H a = some (.lst xs)) : RecR H (.ref a) false
  | tupn {a : Addr} {xs : List V} (h : H a = some (.tup xs)) (n : xs.length ≠ 2) (m : xs.length ≠ 7) : RecR H (.ref a) false
  | st {a : Addr} {s : Str} {v : V} {b : Bool} (h : H a = some (.tup [.str s, v])) (hv : TSR H v b) : RecR H (.ref a) (decide (V.str s = V.str (Str.ofString "state")) && b)
  | fr {a : Addr} {v0 ln jt lv st mk bt : V} {b c : Bool} (h : H a = some (.tup [v0, ln, jt, lv, st, mk, bt])) (h0 : scalarV v0 = true) (hl : TyV H ln) (hj : JR H jt b) (h3 : TyV H lv) (h4 : TyV H st) (h5 : TyV H mk) (hb : BitR H bt c) : RecR H (.ref a) (frB v0 ln b lv st mk c)
section
variable {H H' : Hp} {x : V} {b : Bool}
theorem tyv_same (s : Same H H') (h : TyV H x) : TyV H' x := by
  cases x with
  | ref a =>
    rcases h with ⟨xs, h⟩ | ⟨xs, h⟩
    · exact .inl ⟨xs, s _ _ h⟩
    · exact .inr ⟨xs, s _ _ h⟩
  | _ => exact h
theorem JR.same (s : Same H H') (h : JR H x b) : JR H' x b := by
  cases h with
  | flat h => exact .flat h
  | lst h => exact .lst (s _ _ h)
  | tupn h n => exact .tupn (s _ _ h) n
  | tup2 h hu hv => exact .tup2 (s _ _ h) (tyv_same s hu) (tyv_same s hv)
theorem TR.same (s : Same H H') (h : TR H x b) : TR H' x b := by
  cases h with
  | flat h => exact .flat h
  | lst h => exact .lst (s _ _ h)
  | tupn h n => exact .tupn (s _ _ h) n
  | tup2 h hu hv => exact .tup2 (s _ _ h) (tyv_same s hu) (tyv_same s hv)
theorem TSR.same (s : Same H H') (h : TSR H x b) : TSR H' x b := by
  cases h with
  | flat h => exact .flat h
  | lst h => exact .lst (s _ _ h)
  | tupn h n => exact .tupn (s _ _ h) n
  | tup2 h hu hv => exact .tup2 (s _ _ h) (hu.same s) (hv.same s)
theorem BitR.same (s : Same H H') (h : BitR H x b) : BitR H' x b := by
  cases h with
  | str h => exact .str h
  | non => exact .non
  | int => exact .int
  | lst h => exact .lst (s _ _ h)
theorem RecR.same (s : Same H H') (h : RecR H x b) : RecR H' x b := by
  cases h with
  | flat h => exact .flat h
  | lst h => exact .lst (s _ _ h)
  | tupn h n m => exact .tupn (s _ _ h) n m
  | st h hv => exact .st (s _ _ h) (hv.same s)
  | fr h h0 hl hj h3 h4 h5 hb => exact .fr (s _ _ h) h0 (tyv_same s hl) (hj.same s) (tyv_same s h3) (tyv_same s h4) (tyv_same s h5) (hb.same s)
end
def spBit : Sp := fun vs H Q _ => ∃ x b, vs = [x] ∧ BitR H x b ∧ Q (.bl b) H
def spLay : Sp := fun vs H Q _ => ∃ (a : Addr) (ln jt lv st : V) (b : Bool), vs = [.ref a] ∧ H a = some (.tup [ln, jt, lv, st]) ∧ TyV H ln ∧ JR H jt b ∧ TyV H lv ∧ TyV H st ∧ Q (.bl (layB ln b lv st)) H
def spRec : Sp := fun vs H Q _ => ∃ x b, vs = [x] ∧ RecR H x b ∧ ∀ H', Same H H' → Q (.bl b) H'
theorem use_bit {x : V} {b : Bool} {H : Hp} {Q : VK} {E : XK} (h : BitR H x b) (q : Q (.bl b) H) : spBit ([x] ++ []) H Q E := ⟨x, b, rfl, h, q⟩
theorem use_lay {a : Addr} {ln jt lv st : V} {b : Bool} {H : Hp} {Q : VK} {E : XK} (h : H a = some (.tup [ln, jt, lv, st])) (hl : TyV H ln) (hj : JR H jt b) (h3 : TyV H lv) (h4 : TyV H st) (q : Q (.bl (layB ln b lv st)) H) : spLay ([.ref a] ++ []) H Q E := ⟨a, ln, jt, lv, st, b, rfl, h, hl, hj, h3, h4, q⟩
theorem use_rec {x : V} {b : Bool} {H : Hp} {Q : VK} {E : XK} (h : RecR H x b) (q : ∀ H', Same H H' → Q (.bl b) H') : spRec ([x] ++ []) H Q E := ⟨x, b, rfl, h, q⟩
/-- is_state by itself: of a state's form its truth, of all else False -/
inductive StR (H : Hp) : V → Bool → Prop where
  | flat {x : V} (h : scalarV x = true) : StR H x false
  | lst {a : Addr} {xs : List V} (h : H a = some (.lst xs)) : StR H (.ref a) false
  | tupn {a : Addr} {xs : List V} (h : H a = some (.tup xs)) (n : xs.length ≠ 2) : StR H (.ref a) false
  | st {a : Addr} {s : Str} {v : V} {b : Bool} (h : H a = some (.tup [.str s, v])) (hv : TSR H v b) : StR H (.ref a) (decide (V.str s = V.str (Str.ofString "state")) && b)
def spSt : Sp := fun vs H Q _ => ∃ x b, vs = [x] ∧ StR H x b ∧ Q (.bl b) H
theorem use_st {x : V} {b : Bool} {H : Hp} {Q : VK} {E : XK} (h : StR H x b) (q : Q (.bl b) H) : spSt ([x] ++ []) H Q E := ⟨x, b, rfl, h, q⟩
inductive FrR (H : Hp) : V → Bool → Prop where
  | flat {x : V} (h : scalarV x = true) : FrR H x false
  | lst {a : Addr} {xs : List V} (h : H a = some (.lst xs)) : FrR H (.ref a) false
  | tupn {a : Addr} {xs : List V} (h : H a = some (.tup xs)) (n : xs.length ≠ 7) : FrR H (.ref a) false
  | fr {a : Addr} {v0 ln jt lv st mk bt : V} {b c : Bool} (h : H a = some (.tup [v0, ln, jt, lv, st, mk, bt])) (h0 : scalarV v0 = true) (hl : TyV H ln) (hj : JR H jt b) (h3 : TyV H lv) (h4 : TyV H st) (h5 : TyV H mk) (hb : BitR H bt c) : FrR H (.ref a) (frB v0 ln b lv st mk c)
def spFr : Sp := fun vs H Q _ => ∃ x b, vs = [x] ∧ FrR H x b ∧ ∀ H', Same H H' → Q (.bl b) H'
theorem use_fr {x : V} {b : Bool} {H : Hp} {Q : VK} {E : XK} (h : FrR H x b) (q : ∀ H', Same H H' → Q (.bl b) H') : spFr ([x] ++ []) H Q E := ⟨x, b, rfl, h, q⟩
theorem scal_str {x : V} {s : Str} (h : scalarV x = true) : scal x (.str s) = true := by
  cases x <;> first | rfl | exact Bool.noConfusion h
theorem rd_slTp {K : PySem.W.Frag} {H : Hp} {Q : VK} {a : Addr} {xs : List V} {lo hi : Option Int} {ys : List V} (h : SqT K H a xs) (e : cutV xs lo hi = ys) (n : ¬ (HT.sIx xs.length 0 lo = 0 ∧ HT.sIx xs.length xs.length hi = xs.length)) (q : ∀ p, H p = none → Q (.ref p) (upd H p (.tup ys))) : rSlT K (.ref a) lo hi H Q := ⟨a, xs, rfl, h, n, fun p hp => by rw [e]; exact q p hp⟩
theorem Pool.ne_tup {H : Hp} {p a : Addr} {ys : List V} (h : Pool H p) (e : H a = some (.tup ys)) : a ≠ p := fun z => by
  obtain ⟨y1, y2, e2, _⟩ := h
  rw [z, e2] at e
  cases e
inductive GR (H : Hp) (a : Addr) : Nat → Prop where
  | st {v : V} (h : H a = some (.tup [.str (Str.ofString "state"), v])) (hv : TSR H v true) : GR H a 80
  | fr {ln lv st mk : Int} {jt : V} {l : List Nat} (h : H a = some (.tup [.str (Str.ofString "frame"), .int ln, jt, .int lv, .int st, .int mk, .str (S l)])) (hj : JR H jt true) (h1 : inI (.int ln) 1 64 = true) (h2 : inI (.int lv) 0 5 = true) (h3 : inI (.int st) 1 64 = true) (h4 : inI (.int mk) 0 9972 = true) (hl : l.length ≤ 1000) (hb : ∀ c ∈ l, IsB c) : GR H a (40 + l.length)
theorem bits_ok {l : List Nat} (h : ∀ c ∈ l, IsB c) : bitsOf (S l) = true := by
  unfold bitsOf
  rw [strip_B h]
  exact decide_eq_true (congrArg V.str e_empty.symm)
theorem GR.same {H H' : Hp} {a : Addr} {n : Nat} (s : Same H H') (h : GR H a n) : GR H' a n := by
  cases h with
  | st h hv => exact .st (s _ _ h) (hv.same s)
  | fr h hj h1 h2 h3 h4 hl hb => exact .fr (s _ _ h) (hj.same s) h1 h2 h3 h4 hl hb
theorem GR.tup {H : Hp} {a : Addr} {n : Nat} (h : GR H a n) : ∃ xs, H a = some (.tup xs) := by
  cases h with
  | st h _ => exact ⟨_, h⟩
  | fr h _ _ _ _ _ _ _ => exact ⟨_, h⟩
theorem st_ne_fr : ¬ V.str (Str.ofString "frame") = V.str (Str.ofString "state") := by decide
/-- what spoils a frame at a place -/
def Bad (H : Hp) : Nat → V → Prop
  | 0, v => scalarV v = true ∧ v ≠ V.str (Str.ofString "frame")
  | 1, v => TyV H v ∧ inI v 1 64 = false
  | 2, v => JR H v false
  | 3, v => TyV H v ∧ inI v 0 5 = false
  | 4, v => TyV H v ∧ inI v 1 64 = false
  | 5, v => TyV H v ∧ inI v 0 9972 = false
  | 6, v => BitR H v false
  | _, _ => False
theorem Bad.same {H H' : Hp} (s : Same H H') : ∀ {n : Nat} {v : V}, Bad H n v → Bad H' n v
  | 0, _, h => h
  | 1, _, h => ⟨tyv_same s h.1, h.2⟩
  | 2, _, h => JR.same s h
  | 3, _, h => ⟨tyv_same s h.1, h.2⟩
  | 4, _, h => ⟨tyv_same s h.1, h.2⟩
  | 5, _, h => ⟨tyv_same s h.1, h.2⟩
  | 6, _, h => BitR.same s h
  | _ + 7, _, h => h
def frL (j : Addr) : List V := [.str (Str.ofString "frame"), .int 4, .ref j, .int 2, .int 1, .int 7, .str (Str.ofString "010")]
theorem cutV_to (xs : List V) (k : Nat) : cutV xs none (some (k : Int)) = xs.take k := by
  unfold cutV
  rw [HT.sIx_none, show HT.sIx xs.length xs.length (some (k : Int)) = min k xs.length from HT.sIx_nat _ _ k, List.drop_zero, Nat.sub_zero, ← List.take_take, List.take_length]
theorem cutV_from (xs : List V) (k : Nat) : cutV xs (some (k : Int)) none = xs.drop (min k xs.length) := by
  unfold cutV
  rw [HT.sIx_none, show HT.sIx xs.length 0 (some (k : Int)) = min k xs.length from HT.sIx_nat _ _ k, List.take_of_length_le (by rw [List.length_drop]; omega)]
theorem rd_slGT {K : PySem.W.Frag} {H : Hp} {Q : VK} {a : Addr} {xs : List V} {k : Nat} (h : SqL K H a xs) (q : ∀ p, H p = none → Q (.ref p) (upd H p (.lst (xs.take k)))) : rSlL K (.ref a) none (some (k : Int)) H Q := ⟨a, xs, rfl, h, fun p hp => by rw [cutV_to]; exact q p hp⟩
theorem rd_slGF {K : PySem.W.Frag} {H : Hp} {Q : VK} {a : Addr} {xs : List V} {k : Nat} (h : SqL K H a xs) (hk : k ≤ xs.length) (q : ∀ p, H p = none → Q (.ref p) (upd H p (.lst (xs.drop k)))) : rSlL K (.ref a) (some (k : Int)) none H Q := ⟨a, xs, rfl, h, fun p hp => by rw [cutV_from, Nat.min_eq_left hk]; exact q p hp⟩
theorem tr_ok {H : Hp} {r : Addr} {t c : Int} (h : H r = some (.tup [.int t, .int c])) (h0 : 0 ≤ t) (h1 : 1 ≤ c) (h2 : c ≤ 15) : TR H (.ref r) true := by
  have z := TR.tup2 h trivial trivial
  rw [show tt (.int t) (.int c) = true by rw [tt_int, decide_eq_true h0]; simp [inI, h1, h2]] at z
  exact z
theorem st_no {H : Hp} {a : Addr} {v : V} (h : H a = some (.tup [.str (Str.ofString "state"), v])) (hv : TSR H v false) : RecR H (.ref a) false := by
  have z := RecR.st h hv
  rw [Bool.and_false] at z
  exact z
def msk (p : Addr) (H : Hp) : Hp := fun a => if a = p then none else H a
section
variable {p a : Addr} {H H' : Hp} {o : HO}
theorem msk_same (s : Same H H') : Same (msk p H) (msk p H') := fun b x e => by
  unfold msk at e ⊢
  split at e
  · cases e
  · rename_i n
    rw [if_neg n]
    exact s _ _ e
end
/-- the tables and the frame of the law's bad records -/
def OS (p tl fr j : Addr) (xs : List V) (G : Hp) : Prop := msk p G tl = some (.lst xs) ∧ xs.length ≤ 20 ∧ (∀ v ∈ xs, TSR (msk p G) v false) ∧ msk p G fr = some (.lst (frL j)) ∧ msk p G j = some (.tup [.int 1, .int 2])
theorem OS.same {p tl fr j : Addr} {xs : List V} {G G' : Hp} (s : Same G G') (h : OS p tl fr j xs G) : OS p tl fr j xs G' := ⟨msk_same s _ _ h.1, h.2.1, fun v hv => (h.2.2.1 v hv).same (msk_same s), msk_same s _ _ h.2.2.2.1, msk_same s _ _ h.2.2.2.2⟩
def Fld (G : Hp) (i : Nat) (v : V) : Prop := ∃ a xs, v = .ref a ∧ G a = some (.lst xs) ∧ xs.length ≤ 10 ∧ ∀ x ∈ xs, Bad G i x
theorem Fld.same {G G' : Hp} (s : Same G G') {i : Nat} {v : V} (h : Fld G i v) : Fld G' i v := let ⟨a, xs, e, e1, n, b⟩ := h; ⟨a, xs, e, s _ _ e1, n, fun x hx => (b x hx).same s⟩
def FldL (G : Hp) (fs : List V) : Prop := ∀ (i : Nat) v, fs[i]? = some v → Fld G i v
theorem FldL.same {G G' : Hp} (s : Same G G') {fs : List V} (h : FldL G fs) : FldL G' fs := fun i v e => (h i v e).same s
theorem FldL.app {G : Hp} {fs ys : List V} (h : FldL G fs) (k : ∀ (i : Nat) v, ys[i]? = some v → Fld G (fs.length + i) v) : FldL G (fs ++ ys) := fun i v e => by
  by_cases c : i < fs.length
  · rw [List.getElem?_append_left c] at e
    exact h i v e
  · rw [List.getElem?_append_right (by omega)] at e
    have z := k _ v e
    rw [show fs.length + (i - fs.length) = i by omega] at z
    exact z
theorem FldL.nil {G : Hp} : FldL G [] := fun i v e => by simp at e
theorem mm_nat2 (n c : Nat) (hc : 1 ≤ c) : (if (if (n : Int) < (c : Int) then (n : Int) else (c : Int)) > 1 then (if (n : Int) < (c : Int) then (n : Int) else (c : Int)) else 1).toNat ≤ c := by
  split
  · split <;> omega
  · omega
end Z
namespace Z
open PySem PySem.Spec PyProof.Rows L2
/-- told: what the errors of a call become, and what its end becomes -/
def ErM (L : List (Addr × Str × (V → List V))) (Q : VK) : XK := fun cls d H' => ∃ e ∈ L, ErL e.1 e.2.1 e.2.2 Q cls d H'
def TTm (L : List (Addr × Str × (V → List V))) (Fin : V → Hp → VK → Prop) : (XK → Hp → VK → Prop) → Hp → VK → Prop := fun tl H Q => ∀ Qn : VK, (∀ v H', Fin v H' Q → Qn v H') → tl (ErM L Q) H Qn
theorem rd_toldM {L : List (Addr × Str × (V → List V))} {Fin : V → Hp → VK → Prop} {tl : XK → Hp → VK → Prop} {H : Hp} {Q : VK} (h : ∀ Qn : VK, (∀ v H', Fin v H' Q → Qn v H') → tl (ErM L Q) H Qn) : TTm L Fin tl H Q := h
/-- the first item that is no integer -/
inductive IT (H : Hp) (xs : List V) : Option Nat → Prop where
  | bad {i : Nat} {v : V} (b : ∀ j, j < i → ∃ z, xs[j]? = some (.int z)) (e : xs[i]? = some v) (n : isI v = false) (t : ∀ x ∈ xs, TyV H x) : IT H xs (some i)
  | good {ns : List Int} (e : xs = ns.map V.int) : IT H xs none
theorem tyvS {H H' : Hp} {v : V} (s : Same H H') (h : TyV H v) : TyV H' v := by
  cases v with
  | ref a => exact h.elim (fun ⟨xs, e⟩ => .inl ⟨xs, s _ _ e⟩) fun ⟨xs, e⟩ => .inr ⟨xs, s _ _ e⟩
  | _ => exact h
theorem IT.same {H H' : Hp} {xs : List V} {o : Option Nat} (s : Same H H') (h : IT H xs o) : IT H' xs o := by
  cases h with
  | bad b e n t => exact .bad b e n fun x hx => tyvS s (t x hx)
  | good e => exact .good e
theorem IT.at {H : Hp} {xs : List V} {o : Option Nat} {i : Nat} {v : V} (h : IT H xs o) (e : xs[i]? = some v) (hi : ∀ k, o = some k → i ≤ k) : (o = some i ∧ isI v = false ∧ TyV H v) ∨ (∃ z, v = .int z) ∧ ∀ k, o = some k → i + 1 ≤ k := by
  cases h with
  | @bad k u b eu n t =>
    have hk := hi k rfl
    by_cases hik : i = k
    · subst hik
      rw [e] at eu
      cases eu
      exact .inl ⟨rfl, n, t v (List.mem_of_getElem? e)⟩
    · obtain ⟨z, hz⟩ := b i (by omega)
      rw [e] at hz
      cases hz
      exact .inr ⟨⟨z, rfl⟩, fun k' e' => by cases e'; omega⟩
  | @good ns eu =>
    subst eu
    rw [List.getElem?_map] at e
    cases g : ns[i]? with
    | none => rw [g] at e; cases e
    | some z => rw [g] at e; cases e; exact .inr ⟨⟨z, rfl⟩, fun k' e' => nomatch e'⟩
theorem IT.len {H : Hp} {xs : List V} {o : Option Nat} (h : IT H xs o) (hi : ∀ k, o = some k → xs.length ≤ k) : o = none := by
  cases h with
  | bad b e n t => exact absurd (hi _ rfl) (Nat.not_le.mpr (List.getElem?_eq_some_iff.mp e).1)
  | good e => rfl
/-- what a block check says of a value -/
inductive BR (H : Hp) : V → Option V → Prop where
  | flat {x : V} (h : scalarV x = true) : BR H x (some .non)
  | tup {a : Addr} {xs : List V} (h : H a = some (.tup xs)) : BR H (.ref a) (some .non)
  | size {a : Addr} {xs : List V} (h : H a = some (.lst xs)) (n : ¬ (1 ≤ xs.length ∧ xs.length ≤ 64)) (m : xs.length ≤ 1000) : BR H (.ref a) (some .non)
  | item {a : Addr} {xs : List V} {o : Option Nat} (h : H a = some (.lst xs)) (n1 : 1 ≤ xs.length) (n2 : xs.length ≤ 64) (t : IT H xs o) : BR H (.ref a) (o.map fun i => .int (i : Nat))
theorem BR.same {H H' : Hp} {x : V} {o : Option V} (s : Same H H') (h : BR H x o) : BR H' x o := by
  cases h with
  | flat h => exact .flat h
  | tup h => exact .tup (s _ _ h)
  | size h n m => exact .size (s _ _ h) n m
  | item h n1 n2 t => exact .item (s _ _ h) n1 n2 (t.same s)
theorem BR.fine {H : Hp} {x : V} (h : BR H x none) : ∃ (a : Addr) (ns : List Int), x = .ref a ∧ H a = some (.lst (ns.map V.int)) ∧ 1 ≤ ns.length ∧ ns.length ≤ 64 := by
  obtain ⟨o, ho, h⟩ : ∃ o : Option V, o = none ∧ BR H x o := ⟨_, rfl, h⟩
  cases h with
  | flat _ => cases ho
  | tup _ => cases ho
  | size _ _ _ => cases ho
  | @item a xs o h n1 n2 t =>
    cases t with
    | bad _ _ _ _ => cases ho
    | @good ns e =>
      subst e
      rw [List.length_map] at n1 n2
      exact ⟨a, ns, rfl, h, n1, n2⟩
theorem BR.ty {H : Hp} {x : V} {o : Option V} (h : BR H x o) : TyV H x := by
  cases h with
  | flat h => cases x <;> first | exact True.intro | exact Bool.noConfusion h
  | tup h => exact .inr ⟨_, h⟩
  | size h _ _ => exact .inl ⟨_, h⟩
  | item h _ _ _ => exact .inl ⟨_, h⟩
def scOk : V → Bool
  | .non => true
  | .bl _ => true
  | .int _ => true
  | .str s => PyData.strOk s
  | _ => false
theorem scOk.sc {v : V} (h : scOk v = true) : scalarV v = true := by cases v <;> first | rfl | exact Bool.noConfusion h
def EV (l : List Addr) (H : Hp) (v : V) : Prop := scOk v = true ∨ ∃ a xs, v = .ref a ∧ a ∉ l ∧ (H a = some (.lst xs) ∨ H a = some (.tup xs)) ∧ ∀ x ∈ xs, scOk x = true
def KpLN (l : List Addr) (H H' : Hp) : Prop := ∀ a o, a ∉ l → H a = some o → (∀ ps, o ≠ .tbl ps) → H' a = some o
section
variable {l : List Addr} {p q : Addr} {H H' H1 H2 : Hp} {o : HO} {v : V} {K : PySem.W.Frag}
theorem nm_cons {a b : Addr} {m : List Addr} (h : a ≠ b) (k : a ∉ m) : a ∉ b :: m := fun z => (List.mem_cons.mp z).elim h k
theorem ne_new {a b : Addr} {u : HO} (h : H a = none) (k : H b = some u) : a ≠ b := fun z => by rw [z, k] at h; cases h
theorem KpLN.refl : KpLN l H H := fun _ _ _ h _ => h
theorem KpLN.trans (a : KpLN l H H1) (b : KpLN l H1 H2) : KpLN l H H2 := fun c o n h t => b c o n (a c o n h t) t
theorem KpLN.ofL (k : KpL l H H') : KpLN l H H' := fun a o n h _ => k a o n h
theorem KpLN.of (s : Same H H') : KpLN l H H' := fun a o _ h _ => s a o h
theorem KpLN.ofN (s : LamX.ExtN H H') : KpLN l H H' := fun a o _ h t => s a o h t
theorem KpLN.ofK (m : p ∈ l) (k : Kp p H H') : KpLN l H H' := .ofL (KpL.ofK m k)
theorem KpLN.new (n : H q = none) : KpLN l H (upd H q o) := .of (same_new n)
theorem KpLN.at (m : q ∈ l) : KpLN l H (upd H q o) := .ofL (KpL.at m)
theorem EV.kp (k : KpLN l H H') (h : EV l H v) : EV l H' v := by
  rcases h with h | ⟨a, xs, e, n, h | h, s⟩
  · exact .inl h
  · exact .inr ⟨a, xs, e, n, .inl (k _ _ n h lst_ntbl), s⟩
  · exact .inr ⟨a, xs, e, n, .inr (k _ _ n h tup_ntbl), s⟩
theorem EV.set {xs : List V} {j : Nat} {S : Addr} {u : HO} (h : ∀ x ∈ xs, EV l H x) (hv : EV l H v) (m : S ∈ l) : ∀ x ∈ xs.set j v, EV l (upd H S u) x := fun x hx => by
  have k : KpLN l H (upd H S u) := .at m
  rcases List.mem_or_eq_of_mem_set hx with hx | rfl
  · exact (h x hx).kp k
  · exact hv.kp k
theorem EV.ty (h : EV l H v) : TyV H v := by
  rcases h with h | ⟨a, xs, rfl, _, h | h, _⟩
  · cases v <;> first | exact True.intro | exact Bool.noConfusion h
  · exact .inl ⟨xs, h⟩
  · exact .inr ⟨xs, h⟩
theorem EV.sm (h : EV l H v) : SmV K H 1 v v := by
  rcases h with h | ⟨a, xs, rfl, _, h | h, s⟩
  · exact .inl ⟨rfl, scOk.sc h⟩
  · exact .inr (.inl ⟨a, a, xs, xs, rfl, rfl, .of h, .of h, rfl, fun i x y e1 e2 => by
      rw [e1] at e2
      exact ⟨Option.some.inj e2, scOk.sc (s x (List.mem_of_getElem? e1))⟩⟩)
  · exact .inr (.inr ⟨a, a, xs, xs, rfl, rfl, .of h, .of h, rfl, fun i x y e1 e2 => by
      rw [e1] at e2
      exact ⟨Option.some.inj e2, scOk.sc (s x (List.mem_of_getElem? e1))⟩⟩)
theorem EV.sc (h : scOk v = true) : EV l H v := .inl h
theorem EV.lst {a : Addr} {xs : List V} (n : a ∉ l) (h : H a = some (.lst xs)) (s : ∀ x ∈ xs, scOk x = true) : EV l H (.ref a) := .inr ⟨a, xs, rfl, n, .inl h, s⟩
theorem EV.tup {a : Addr} {xs : List V} (n : a ∉ l) (h : H a = some (.tup xs)) (s : ∀ x ∈ xs, scOk x = true) : EV l H (.ref a) := .inr ⟨a, xs, rfl, n, .inr h, s⟩
theorem sc_dp (h : scOk v = true) : ∃ d, Dp K H v d ∧ PyData.canLay0 d = true ∧ PyData.depth d = 0 := by
  cases v with
  | non => exact ⟨_, .non, rfl, rfl⟩
  | bl b => exact ⟨_, .bl b, rfl, rfl⟩
  | int i => exact ⟨_, .int i, rfl, rfl⟩
  | str s => exact ⟨_, .str s, h, rfl⟩
  | _ => exact Bool.noConfusion h
theorem all_dp {P : V → Prop} {m : Nat} (hP : ∀ v, P v → ∃ d, Dp K H v d ∧ PyData.canLay0 d = true ∧ PyData.depth d ≤ m) : ∀ xs : List V, (∀ x ∈ xs, P x) → ∃ ds, DpAll K H xs ds ∧ PyData.canLayAll0 ds = true ∧ PyData.depthAll ds ≤ m
  | [], _ => ⟨[], .nil, rfl, Nat.zero_le _⟩
  | x :: r, h => by
    obtain ⟨d, a1, a2, a3⟩ := hP x (h x List.mem_cons_self)
    obtain ⟨ds, b1, b2, b3⟩ := all_dp hP r fun y hy => h y (List.mem_cons_of_mem _ hy)
    exact ⟨d :: ds, .cons a1 b1, by show (_ && _) = true; rw [a2, b2]; rfl, Nat.max_le.mpr ⟨a3, b3⟩⟩
theorem EV.dp (h : EV l H v) : ∃ d, Dp K H v d ∧ PyData.canLay0 d = true ∧ PyData.depth d ≤ 1 := by
  rcases h with h | ⟨a, xs, rfl, _, h | h, s⟩
  · obtain ⟨d, h1, h2, h3⟩ := sc_dp (K := K) (H := H) h
    exact ⟨d, h1, h2, by omega⟩
  · obtain ⟨ds, h1, h2, h3⟩ := all_dp (K := K) (H := H) (P := fun v => scOk v = true) (m := 0) (fun v hv => by obtain ⟨d, a, b, c⟩ := sc_dp (K := K) (H := H) hv; exact ⟨d, a, b, by omega⟩) xs s
    exact ⟨.list ds, .lst (SqL.of h) h1, h2, by show PyData.depthAll ds + 1 ≤ 1; omega⟩
  · obtain ⟨ds, h1, h2, h3⟩ := all_dp (K := K) (H := H) (P := fun v => scOk v = true) (m := 0) (fun v hv => by obtain ⟨d, a, b, c⟩ := sc_dp (K := K) (H := H) hv; exact ⟨d, a, b, by omega⟩) xs s
    exact ⟨.tuple ds, .tup (SqT.of h) h1, h2, by show PyData.depthAll ds + 1 ≤ 1; omega⟩
def spOddE : Sp := fun vs H Q _ => ∃ (p : Addr), vs = [.ref p] ∧ Pool H p ∧ ∀ v H', EV [p] H' v → Pool H' p → Kp p H H' → Q v H'
theorem use_oddE {Q : VK} {E : XK} (h : Pool H p) (q : ∀ v H', EV [p] H' v → Pool H' p → Kp p H H' → Q v H') : spOddE ([.ref p] ++ []) H Q E := ⟨p, rfl, h, q⟩
end
def GV (p : Addr) (H : Hp) (xs : List V) (x : V) : Prop := (∃ a, x = .ref a ∧ a ≠ p ∧ H a = some (.lst xs)) ∨ scalarV x = true ∨ ∃ a ys, x = .ref a ∧ a ≠ p ∧ H a = some (.tup ys)
section
variable {p S : Addr} {H H' H1 H2 H3 : Hp} {xs ys : List V} {x : V} {o : Option V} {T : List (Addr × Str)}
theorem GV.kp (k : KpLN [p] H H') (h : GV p H xs x) : GV p H' xs x := by
  rcases h with ⟨a, e, n, h⟩ | h | ⟨a, ys, e, n, h⟩
  · exact .inl ⟨a, e, n, k _ _ (nm_cons n List.not_mem_nil) h lst_ntbl⟩
  · exact .inr (.inl h)
  · exact .inr (.inr ⟨a, ys, e, n, k _ _ (nm_cons n List.not_mem_nil) h tup_ntbl⟩)
theorem tyvE (s : LamX.ExtN H H') (h : TyV H x) : TyV H' x := by
  cases x with
  | ref a => exact h.elim (fun ⟨xs, e⟩ => .inl ⟨xs, s _ _ e lst_ntbl⟩) fun ⟨xs, e⟩ => .inr ⟨xs, s _ _ e tup_ntbl⟩
  | _ => exact h
theorem BR.ext (s : LamX.ExtN H H') (h : BR H x o) : BR H' x o := by
  cases h with
  | flat h => exact .flat h
  | tup h => exact .tup (s _ _ h tup_ntbl)
  | size h n m => exact .size (s _ _ h lst_ntbl) n m
  | item h n1 n2 t =>
    refine .item (s _ _ h lst_ntbl) n1 n2 ?_
    cases t with
    | bad b e n t => exact .bad b e n fun x hx => tyvE s (t x hx)
    | good e => exact .good e
theorem KpLN.drop {l : List Addr} (k : KpLN (S :: l) H H') (n : H S = none) : KpLN l H H' := fun a o m h t => k a o (nm_cons (fun z => by rw [z, n] at h; cases h) m) h t
theorem Tabs.setL (h : H S = some (.lst xs)) (t : LamX.Tabs T H) : LamX.Tabs T (upd H S (.lst ys)) := fun e he => by
  obtain ⟨ps, h1, h2, h3⟩ := t e he
  refine ⟨ps, by rw [upd_ne (fun z => by rw [z, h] at h1; cases h1)]; exact h1, h2, fun pos cv hc => ?_⟩
  obtain ⟨c, e1, e2⟩ := h3 pos cv hc
  exact ⟨c, e1, by rw [upd_ne (fun z => by rw [z, h] at e2; exact codeO_lst (Option.some.inj e2).symm)]; exact e2⟩
theorem Pool.setL (n : S ≠ p) (h : Pool H p) {u : HO} : Pool (upd H S u) p := by
  obtain ⟨x, y, e, r⟩ := h
  exact ⟨x, y, by rw [upd_ne n.symm]; exact e, r⟩
theorem extN_same (s : Same H H') : LamX.ExtN H H' := .of fun b o e => s b o e
end
end Z
namespace Z
open PySem PySem.Spec PyProof.Rows L2
def PV (l : List Addr) (H : Hp) : Nat → V → Prop
  | 0, v => scOk v = true
  | n + 1, v => scOk v = true ∨ ∃ a xs, v = .ref a ∧ a ∉ l ∧ LT H a xs ∧ ∀ x ∈ xs, PV l H n x
section
variable {l : List Addr} {p q S : Addr} {H H' : Hp} {v : V} {K : PySem.W.Frag}
theorem LT.kpln {a : Addr} {xs : List V} (k : KpLN l H H') (n : a ∉ l) (h : LT H a xs) : LT H' a xs := h.imp (fun e => k _ _ n e lst_ntbl) fun e => k _ _ n e tup_ntbl
theorem PV.kp (k : KpLN l H H') : ∀ {n : Nat} {v : V}, PV l H n v → PV l H' n v
  | 0, _, h => h
  | n + 1, v, h => by
    rcases h with h | ⟨a, xs, e, m, h, s⟩
    · exact .inl h
    · exact .inr ⟨a, xs, e, m, h.kpln k m, fun x hx => PV.kp k (s x hx)⟩
theorem PV.sc (h : scOk v = true) : ∀ {n : Nat}, PV l H n v
  | 0 => h
  | _ + 1 => .inl h
theorem PV.up : ∀ {n : Nat} {v : V}, PV l H n v → PV l H (n + 1) v
  | 0, _, h => .inl h
  | n + 1, v, h => by
    rcases h with h | ⟨a, xs, e, k, h, t⟩
    · exact .inl h
    · exact .inr ⟨a, xs, e, k, h, fun x hx => (t x hx).up⟩
theorem PV.tup {n : Nat} {a : Addr} {xs : List V} (m : a ∉ l) (h : H a = some (.tup xs)) (s : ∀ x ∈ xs, PV l H n x) : PV l H (n + 1) (.ref a) := .inr ⟨a, xs, rfl, m, .inr h, s⟩
theorem PV.lst {n : Nat} {a : Addr} {xs : List V} (m : a ∉ l) (h : H a = some (.lst xs)) (s : ∀ x ∈ xs, PV l H n x) : PV l H (n + 1) (.ref a) := .inr ⟨a, xs, rfl, m, .inl h, s⟩
theorem PV.ty : ∀ {n : Nat} {v : V}, PV l H n v → TyV H v
  | 0, v, h => by cases v <;> first | exact True.intro | exact Bool.noConfusion h
  | n + 1, v, h => by
    rcases h with h | ⟨a, xs, rfl, m, h | h, s⟩
    · cases v <;> first | exact True.intro | exact Bool.noConfusion h
    · exact .inl ⟨xs, h⟩
    · exact .inr ⟨xs, h⟩
theorem PV.dp : ∀ {n : Nat} {v : V}, PV l H n v → ∃ d, Dp K H v d ∧ PyData.canLay0 d = true ∧ PyData.depth d ≤ n
  | 0, v, h => by obtain ⟨d, a, b, c⟩ := sc_dp (K := K) (H := H) (v := v) h; exact ⟨d, a, b, by omega⟩
  | n + 1, v, h => by
    rcases h with h | ⟨a, xs, rfl, m, h | h, s⟩
    · obtain ⟨d, a, b, c⟩ := sc_dp (K := K) (H := H) h
      exact ⟨d, a, b, by omega⟩
    · obtain ⟨ds, h1, h2, h3⟩ := all_dp (K := K) (H := H) (P := PV l H n) (m := n) (fun v hv => PV.dp hv) xs s
      exact ⟨.list ds, .lst (SqL.of h) h1, h2, by show PyData.depthAll ds + 1 ≤ _; omega⟩
    · obtain ⟨ds, h1, h2, h3⟩ := all_dp (K := K) (H := H) (P := PV l H n) (m := n) (fun v hv => PV.dp hv) xs s
      exact ⟨.tuple ds, .tup (SqT.of h) h1, h2, by show PyData.depthAll ds + 1 ≤ _; omega⟩
theorem shaped_PV {n : Nat} (hn : n < 60) {xs : List V} (s : ∀ x ∈ xs, PV l H n x) : ∃ ds, DpAll K H xs ds ∧ SeqAt.shaped (.list ds) = true := by
  obtain ⟨ds, h1, h2, h3⟩ := all_dp (K := K) (H := H) (P := PV l H n) (m := n) (fun v hv => hv.dp) xs s
  refine ⟨ds, h1, ?_⟩
  show (PyData.canLayAll0 ds && decide (PyData.depthAll ds + 1 ≤ 64)) = true
  rw [h2, decide_eq_true (by omega)]
  rfl
theorem rd_nePV {n : Nat} {Q : VK} {xs : List V} (hn : n < 60) (hp : SqL K H p xs) (hq : SqL K H q xs) (s : ∀ x ∈ xs, PV l H n x) (h : Q (.bl false) H) : rNeD K (.ref p) (.ref q) H Q := by
  obtain ⟨ds, h1, sh⟩ := shaped_PV (K := K) hn s
  exact ⟨.list ds, .list ds, .lst hp h1, .lst hq h1, sh, sh, by rw [SeqAt.eqv_refl _ (SeqAt.canLay_of_shaped sh)]; exact h⟩
theorem PV.set {n : Nat} {xs : List V} {j : Nat} {u : HO} (h : ∀ x ∈ xs, PV l H n x) (hv : PV l H n v) (m : S ∈ l) : ∀ x ∈ xs.set j v, PV l (upd H S u) n x := fun x hx => by
  have k : KpLN l H (upd H S u) := .at m
  rcases List.mem_or_eq_of_mem_set hx with hx | rfl
  · exact (h x hx).kp k
  · exact hv.kp k
theorem PV.app {n : Nat} {xs : List V} {u : HO} (h : ∀ x ∈ xs, PV l H n x) (hv : PV l H n v) (m : S ∈ l) : ∀ x ∈ xs ++ [v], PV l (upd H S u) n x := fun x hx => by
  have k : KpLN l H (upd H S u) := .at m
  rcases List.mem_append.mp hx with hx | hx
  · exact (h x hx).kp k
  · rw [List.mem_singleton.mp hx]; exact hv.kp k
theorem isiT_flat {t : Addr} {x : V} {Q : VK} (h : scalarV x = true) (ht : H t = some (.tup [.ty "list", .ty "tuple"])) (q : Q (.bl false) H) : rIsiT K [x, .ref t] H Q := by
  cases x with
  | non => exact ⟨.non, t, _, _, [.type "list", .type "tuple"], false, rfl, ht, .cons (.ty "list") (.cons (.ty "tuple") .nil), .base .non, rfl, q⟩
  | bl b => exact ⟨.bl b, t, _, _, [.type "list", .type "tuple"], false, rfl, ht, .cons (.ty "list") (.cons (.ty "tuple") .nil), .base (.bl b), rfl, q⟩
  | int i => exact ⟨.int i, t, _, _, [.type "list", .type "tuple"], false, rfl, ht, .cons (.ty "list") (.cons (.ty "tuple") .nil), .base (.int i), rfl, q⟩
  | str s => exact ⟨.str s, t, _, _, [.type "list", .type "tuple"], false, rfl, ht, .cons (.ty "list") (.cons (.ty "tuple") .nil), .base (.str s), rfl, q⟩
  | _ => exact Bool.noConfusion h
end
inductive SR (H : Hp) (n : Nat) : V → Option V → Prop where
  | flat {x : V} (h : scalarV x = true) : SR H n x (some .non)
  | seq {a : Addr} {xs : List V} {o : Option Nat} (h : LT H a xs) (e : xs.length = n) (m : n ≤ 1000) (t : IT H xs o) : SR H n (.ref a) (o.map fun i => .int (i : Nat))
inductive PJ (H : Hp) : V → Option (Int × Int × Int) → Prop where
  | flat {x : V} (h : scalarV x = true) : PJ H x none
  | lst {a : Addr} {xs : List V} (h : H a = some (.lst xs)) : PJ H (.ref a) none
  | tupn {a : Addr} {xs : List V} (h : H a = some (.tup xs)) (n : xs.length ≠ 2) : PJ H (.ref a) none
  | noi {a : Addr} {u v : V} (h : H a = some (.tup [u, v])) (t : TyV H u) (n : isI u = false) : PJ H (.ref a) none
  | noj {a : Addr} {i : Int} {v : V} (h : H a = some (.tup [.int i, v])) (t : JR H v false) : PJ H (.ref a) none
  | good {a b : Addr} {i w s : Int} (h : H a = some (.tup [.int i, .ref b])) (g : H b = some (.tup [.int w, .int s])) (t : jt (.int w) (.int s) = true) : PJ H (.ref a) (some (i, w, s))
inductive All2 {α β : Type} (R : α → β → Prop) : List α → List β → Prop where
  | nil : All2 R [] []
  | cons {a : α} {b : β} {as : List α} {bs : List β} (h : R a b) (t : All2 R as bs) : All2 R (a :: as) (b :: bs)
theorem All2.imp {α β : Type} {R S : α → β → Prop} (f : ∀ a b, R a b → S a b) {as : List α} {bs : List β} (h : All2 R as bs) : All2 S as bs := by
  induction h with
  | nil => exact .nil
  | cons h _ ih => exact .cons (f _ _ h) ih
theorem All2.get {α β : Type} {R : α → β → Prop} {as : List α} {bs : List β} (h : All2 R as bs) : ∀ (i : Nat) (a : α), as[i]? = some a → ∃ b r, R a b ∧ bs.drop i = b :: r ∧ bs.drop (i + 1) = r := by
  induction h with
  | nil => intro i a e; simp at e
  | @cons a b as bs h t ih =>
    intro i x e
    cases i with
    | zero => cases e; exact ⟨b, bs, h, rfl, rfl⟩
    | succ i => exact ih i x e
theorem All2.len {α β : Type} {R : α → β → Prop} {as : List α} {bs : List β} (h : All2 R as bs) : as.length = bs.length := by
  induction h with
  | nil => rfl
  | cons _ _ ih => exact congrArg (· + 1) ih
def rmB (n : Nat) (l b : Int) (i w : Int) : Bool := decide (l < i ∧ i < n ∧ l + b + w ≤ i ∧ i + w ≤ n)
/-- the first item that can not stand -/
def jb (n : Nat) : Nat → Int → Int → List (Option (Int × Int × Int)) → Option Nat
  | _, _, _, [] => none
  | k, _, _, none :: _ => some k
  | k, l, b, some (i, w, s) :: r => if rmB n l b i w then jb n (k + 1) i w r else some k
inductive JP (H : Hp) (n : Nat) : V → Option V → Prop where
  | flat {x : V} (h : scalarV x = true) : JP H n x (some .non)
  | seq {a : Addr} {xs : List V} {ps : List (Option (Int × Int × Int))} (h : LT H a xs) (m : xs.length ≤ 1000) (t : All2 (PJ H) xs ps) : JP H n (.ref a) ((jb n 0 0 0 ps).map fun i => .int (i : Nat))
section
variable {H H' : Hp} {n : Nat} {x : V} {o : Option V}
theorem jr_ext (s : LamX.ExtN H H') {b : Bool} (h : JR H x b) : JR H' x b := by
  cases h with
  | flat h => exact .flat h
  | lst h => exact .lst (s _ _ h lst_ntbl)
  | tupn h n => exact .tupn (s _ _ h tup_ntbl) n
  | tup2 h u v => exact .tup2 (s _ _ h tup_ntbl) (tyvE s u) (tyvE s v)
theorem pj_ext (s : LamX.ExtN H H') {j : Option (Int × Int × Int)} (h : PJ H x j) : PJ H' x j := by
  cases h with
  | flat h => exact .flat h
  | lst h => exact .lst (s _ _ h lst_ntbl)
  | tupn h n => exact .tupn (s _ _ h tup_ntbl) n
  | noi h t n => exact .noi (s _ _ h tup_ntbl) (tyvE s t) n
  | noj h t => exact .noj (s _ _ h tup_ntbl) (jr_ext s t)
  | good h g t => exact .good (s _ _ h tup_ntbl) (s _ _ g tup_ntbl) t
theorem lt_ext {a : Addr} {xs : List V} (s : LamX.ExtN H H') (h : LT H a xs) : LT H' a xs := h.imp (fun e => s _ _ e lst_ntbl) fun e => s _ _ e tup_ntbl
theorem it_ext {xs : List V} {o : Option Nat} (s : LamX.ExtN H H') (h : IT H xs o) : IT H' xs o := by
  cases h with
  | bad b e n t => exact .bad b e n fun x hx => tyvE s (t x hx)
  | good e => exact .good e
theorem SR.ext (s : LamX.ExtN H H') (h : SR H n x o) : SR H' n x o := by
  cases h with
  | flat h => exact .flat h
  | seq h e m t => exact .seq (lt_ext s h) e m (it_ext s t)
theorem JP.ext (s : LamX.ExtN H H') (h : JP H n x o) : JP H' n x o := by
  cases h with
  | flat h => exact .flat h
  | seq h m t => exact .seq (lt_ext s h) m (t.imp fun _ _ => pj_ext s)
theorem SR.same (s : Same H H') (h : SR H n x o) : SR H' n x o := h.ext (extN_same s)
theorem JP.same (s : Same H H') (h : JP H n x o) : JP H' n x o := h.ext (extN_same s)
theorem jt_nat {w s : Int} (h : jt (.int w) (.int s) = true) : ∃ a b : Nat, w = (a : Int) ∧ s = (b : Int) ∧ a ≤ 8 ∧ b ≤ 3 ∧ (a = 0 → b = 0) := by
  unfold jt at h
  simp only [Bool.and_eq_true, jx, Bool.or_eq_true, decide_eq_true_eq, inI] at h
  obtain ⟨h1, h2, h3⟩ := h
  exact ⟨w.toNat, s.toNat, by omega, by omega, by omega, by omega, by omega⟩
/-- no item is refused: they are joints with room -/
theorem jb_none : ∀ (ps : List (Option (Int × Int × Int))) (xs : List V) (k l b : Nat), All2 (PJ H) xs ps → jb n k (l : Int) (b : Int) ps = none → ∃ js : List Jo, JsAt H xs js ∧ Rm n l b js
  | _, _, k, l, b, .nil, _ => ⟨[], ⟨rfl, fun i v e => by simp at e⟩, True.intro⟩
  | none :: _, _, k, l, b, .cons _ _, h => by cases h
  | some (i, w, s) :: r, x :: xs, k, l, b, .cons hp t, h => by
    have h' : (if rmB n l b i w then jb n (k + 1) i w r else some k) = none := h
    by_cases c : rmB n l b i w = true
    · rw [if_pos c] at h'
      have c := of_decide_eq_true c
      cases hp with
      | @good a q _ _ _ e1 e2 ht =>
        obtain ⟨w', s', rfl, rfl, w8, s3, w0⟩ := jt_nat ht
        obtain ⟨i', rfl⟩ : ∃ i' : Nat, i = (i' : Int) := ⟨i.toNat, by omega⟩
        obtain ⟨js, hj, hr⟩ := jb_none r xs (k + 1) i' w' t h'
        refine ⟨(i', w', s') :: js, ⟨congrArg (· + 1) hj.1, fun m v e => ?_⟩, ?_⟩
        · cases m with
          | zero => cases e; exact ⟨(i', w', s'), a, q, rfl, rfl, e1, e2⟩
          | succ m => exact hj.2 m v e
        · exact ⟨by dsimp only; omega, by dsimp only; omega, by dsimp only; omega, by dsimp only; omega, w8, s3, w0, hr⟩
    · rw [if_neg c] at h'
      cases h'
end
theorem SR.fine {H : Hp} {n : Nat} {x : V} (h : SR H n x none) : ∃ (a : Addr) (ns : List Int), x = .ref a ∧ LT H a (ns.map V.int) ∧ ns.length = n ∧ n ≤ 1000 := by
  obtain ⟨o, ho, h⟩ : ∃ o : Option V, o = none ∧ SR H n x o := ⟨_, rfl, h⟩
  cases h with
  | flat _ => cases ho
  | @seq a xs o h e m t =>
    cases t with
    | bad _ _ _ _ => cases ho
    | @good ns e2 =>
      subst e2
      exact ⟨a, ns, rfl, h, by rw [← e, List.length_map], m⟩
theorem JP.fine {H : Hp} {n : Nat} {x : V} (h : JP H n x none) : ∃ (a : Addr) (refs : List V) (js : List Jo), x = .ref a ∧ LT H a refs ∧ JsAt H refs js ∧ Rm n 0 0 js := by
  obtain ⟨o, ho, h⟩ : ∃ o : Option V, o = none ∧ JP H n x o := ⟨_, rfl, h⟩
  cases h with
  | flat _ => cases ho
  | @seq a xs ps hL m t =>
    cases g : jb n 0 0 0 ps with
    | some k => rw [g] at ho; cases ho
    | none =>
      obtain ⟨js, h1, h2⟩ := jb_none ps xs 0 0 0 t g
      exact ⟨a, xs, js, rfl, hL, h1, h2⟩
def Al (l : List Addr) (H : Hp) : Prop := ∀ a ∈ l, ∃ o, H a = some o
theorem nm_al {l : List Addr} {p q : Addr} {H H1 : Hp} (hl : Al l H) (k : Kp p H H1) (hp : Pool H1 p) (n : H1 q = none) : q ∉ l := fun z => by
  obtain ⟨o, e⟩ := hl _ z
  by_cases c : q = p
  · obtain ⟨x, y, e2, _⟩ := hp
    rw [c, e2] at n
    cases n
  · rw [k _ _ c e] at n
    cases n
def GQ (p : Addr) (H : Hp) (xs : List V) (x : V) : Prop := (∃ a, x = .ref a ∧ a ≠ p ∧ LT H a xs) ∨ scalarV x = true
section
variable {p : Addr} {H H' : Hp} {xs : List V} {x : V} {m : Nat}
theorem GQ.kp (k : KpLN [p] H H') (h : GQ p H xs x) : GQ p H' xs x := h.imp (fun ⟨a, e, n, h⟩ => ⟨a, e, n, h.kpln k (nm_cons n List.not_mem_nil)⟩) id
end
end Z
namespace Z
open PySem PySem.Spec PyProof.Rows L2
open SX (S S_len S_cat S_inj)
inductive BZ (H : Hp) (n : Nat) : V → Option V → Prop where
  | flat {x : V} (h : scalarV x = true) : BZ H n x (some .non)
  | tup {a : Addr} {xs : List V} (h : H a = some (.tup xs)) : BZ H n (.ref a) (some .non)
  | size {a : Addr} {xs : List V} (h : H a = some (.lst xs)) (e : xs.length = n) (c : 64 < n) (m : n ≤ 1000) : BZ H n (.ref a) (some .non)
  | item {a : Addr} {xs : List V} {o : Option Nat} (h : H a = some (.lst xs)) (e : xs.length = n) (c : n ≤ 64) (t : IT H xs o) : BZ H n (.ref a) (o.map fun i => .int (i : Nat))
section
variable {H H' : Hp} {n : Nat} {x v : V} {o : Option V} {b : Bool} {p : Addr}
theorem BZ.ext (s : LamX.ExtN H H') (h : BZ H n x o) : BZ H' n x o := by
  cases h with
  | flat h => exact .flat h
  | tup h => exact .tup (s _ _ h tup_ntbl)
  | size h e c m => exact .size (s _ _ h lst_ntbl) e c m
  | item h e c t => exact .item (s _ _ h lst_ntbl) e c (it_ext s t)
theorem it_move {xs : List V} {o : Option Nat} (t : ∀ y ∈ xs, TyV H' y) (h : IT H xs o) : IT H' xs o := by
  cases h with
  | bad b e n _ => exact .bad b e n t
  | good e => exact .good e
/-- the pool may be drawn from -/
theorem BZ.kp (k : KpLN [p] H H') (q : ∀ a, x = .ref a → a ≠ p) (t : ∀ a xs, x = .ref a → H a = some (.lst xs) → ∀ y ∈ xs, PV [p] H 1 y) (h : BZ H n x o) : BZ H' n x o := by
  cases h with
  | flat h => exact .flat h
  | @tup a xs h => exact .tup (k _ _ (nm_cons (q a rfl) List.not_mem_nil) h tup_ntbl)
  | @size a xs h e c m => exact .size (k _ _ (nm_cons (q a rfl) List.not_mem_nil) h lst_ntbl) e c m
  | @item a xs o h e c i => exact .item (k _ _ (nm_cons (q a rfl) List.not_mem_nil) h lst_ntbl) e c (it_move (fun y hy => ((t a xs rfl h y hy).kp k).ty) i)
theorem BZ.fine (h : BZ H n x none) : ∃ (a : Addr) (ns : List Int), x = .ref a ∧ H a = some (.lst (ns.map V.int)) ∧ ns.length = n ∧ n ≤ 64 := by
  obtain ⟨o, ho, h⟩ : ∃ o : Option V, o = none ∧ BZ H n x o := ⟨_, rfl, h⟩
  cases h with
  | flat _ => cases ho
  | tup _ => cases ho
  | size _ _ _ _ => cases ho
  | @item a xs o hL e c t =>
    cases t with
    | bad _ _ _ _ => cases ho
    | @good ns e2 =>
      subst e2
      exact ⟨a, ns, rfl, hL, by rw [← e, List.length_map], c⟩
def TbsH (H : Hp) (a : Addr) (T : Tb × Tb) : Prop := ∃ r0 r1, H a = some (.tup [.ref r0, .ref r1]) ∧ H r0 = some (.tup [.int T.1.1, .int T.1.2]) ∧ H r1 = some (.tup [.int T.2.1, .int T.2.2])
def StQ (H : Hp) (v : V) (b : Bool) : Prop := TSR H v b ∧ (b = true → ∃ a T, v = .ref a ∧ TbsH H a T ∧ TbOk (10 ^ 56) T.1 ∧ TbOk (10 ^ 56) T.2)
theorem tr_ext (s : LamX.ExtN H H') (h : TR H v b) : TR H' v b := by
  cases h with
  | flat h => exact .flat h
  | lst h => exact .lst (s _ _ h lst_ntbl)
  | tupn h n => exact .tupn (s _ _ h tup_ntbl) n
  | tup2 h hu hv => exact .tup2 (s _ _ h tup_ntbl) (tyvE s hu) (tyvE s hv)
theorem tsr_ext (s : LamX.ExtN H H') (h : TSR H v b) : TSR H' v b := by
  cases h with
  | flat h => exact .flat h
  | lst h => exact .lst (s _ _ h lst_ntbl)
  | tupn h n => exact .tupn (s _ _ h tup_ntbl) n
  | tup2 h hu hv => exact .tup2 (s _ _ h tup_ntbl) (tr_ext s hu) (tr_ext s hv)
theorem StQ.ext (s : LamX.ExtN H H') (h : StQ H v b) : StQ H' v b := ⟨tsr_ext s h.1, fun z => by
  obtain ⟨a, T, e, ⟨r0, r1, h0, h1, h2⟩, o1, o2⟩ := h.2 z
  exact ⟨a, T, e, ⟨r0, r1, s _ _ h0 tup_ntbl, s _ _ h1 tup_ntbl, s _ _ h2 tup_ntbl⟩, o1, o2⟩⟩
theorem PV.mem {m : Nat} {a : Addr} {xs : List V} (h : PV [p] H (m + 1) (.ref a)) (e : H a = some (.tup xs)) : a ≠ p ∧ ∀ x ∈ xs, PV [p] H m x := by
  rcases h with h | ⟨c, ys, e1, n, h, s⟩
  · exact Bool.noConfusion h
  · cases e1
    rcases h with h | h
    · rw [h] at e; cases e
    · rw [h] at e; cases e; exact ⟨fun z => n (by rw [z]; exact List.mem_singleton.mpr rfl), s⟩
theorem PV.memL {m : Nat} {a : Addr} (h : PV [p] H (m + 1) (.ref a)) : a ≠ p := by
  rcases h with h | ⟨c, ys, e1, n, h, s⟩
  · exact Bool.noConfusion h
  · cases e1
    exact fun z => n (by rw [z]; exact List.mem_singleton.mpr rfl)
theorem tr_kp (k : KpLN [p] H H') (g : PV [p] H 1 v) (h : TR H v b) : TR H' v b := by
  cases h with
  | flat h => exact .flat h
  | lst h => exact .lst (k _ _ (nm_cons g.memL List.not_mem_nil) h lst_ntbl)
  | tupn h n => exact .tupn (k _ _ (nm_cons g.memL List.not_mem_nil) h tup_ntbl) n
  | @tup2 a u v h hu hv =>
    obtain ⟨n, s⟩ := g.mem h
    exact .tup2 (k _ _ (nm_cons n List.not_mem_nil) h tup_ntbl) ((s u (by simp)).kp k).ty ((s v (by simp)).kp k).ty
theorem StQ.kp (k : KpLN [p] H H') (g : PV [p] H 2 v) (h : StQ H v b) : StQ H' v b := by
  obtain ⟨h, q⟩ := h
  refine ⟨?_, fun z => ?_⟩
  · cases h with
    | flat h => exact .flat h
    | lst h => exact .lst (k _ _ (nm_cons g.memL List.not_mem_nil) h lst_ntbl)
    | tupn h n => exact .tupn (k _ _ (nm_cons g.memL List.not_mem_nil) h tup_ntbl) n
    | @tup2 a u v _ _ h hu hv =>
      obtain ⟨n, s⟩ := g.mem h
      exact .tup2 (k _ _ (nm_cons n List.not_mem_nil) h tup_ntbl) (tr_kp k (s u (by simp)) hu) (tr_kp k (s v (by simp)) hv)
  · obtain ⟨a, T, rfl, ⟨r0, r1, h0, h1, h2⟩, o1, o2⟩ := q z
    obtain ⟨n, s⟩ := g.mem h0
    have n0 := (s _ (by simp : V.ref r0 ∈ [V.ref r0, V.ref r1])).mem h1
    have n1 := (s _ (by simp : V.ref r1 ∈ [V.ref r0, V.ref r1])).mem h2
    exact ⟨a, T, rfl, ⟨r0, r1, k _ _ (nm_cons n List.not_mem_nil) h0 tup_ntbl, k _ _ (nm_cons n0.1 List.not_mem_nil) h1 tup_ntbl, k _ _ (nm_cons n1.1 List.not_mem_nil) h2 tup_ntbl⟩, o1, o2⟩
theorem PV.sm {K : PySem.W.Frag} {l : List Addr} : ∀ {n : Nat} {v : V}, PV l H n v → SmV K H n v v
  | 0, _, h => ⟨rfl, scOk.sc h⟩
  | n + 1, v, h => by
    rcases h with h | ⟨a, xs, rfl, m, h | h, s⟩
    · exact .inl ⟨rfl, scOk.sc h⟩
    · exact .inr (.inl ⟨a, a, xs, xs, rfl, rfl, .of h, .of h, rfl, fun i x y e1 e2 => by
        rw [e1] at e2
        cases e2
        exact (s x (List.mem_of_getElem? e1)).sm⟩)
    · exact .inr (.inr ⟨a, a, xs, xs, rfl, rfl, .of h, .of h, rfl, fun i x y e1 e2 => by
        rw [e1] at e2
        cases e2
        exact (s x (List.mem_of_getElem? e1)).sm⟩)
end
def TxR (v : V) : Prop := scalarV v = true ∧ ∀ s, v = .str s → ∃ l : List Nat, s = S l ∧ (∀ c ∈ l, IsB c) ∧ l.length ≤ 100
theorem TbOk.up {m m' : Int} {t : Tb} (h : TbOk m t) (l : m ≤ m') : TbOk m' t := ⟨h.1, by have := h.2.1; omega, h.2.2⟩
def SmallL (H : Hp) (x : V) : Prop := ∀ (a : Addr) (ns : List Int), x = .ref a → H a = some (.lst (ns.map V.int)) → ∀ z ∈ ns, z.natAbs < 10 ^ 55
theorem tsr_ii {H : Hp} {a : Addr} {u v : Int} (h : H a = some (.tup [.int u, .int v])) : TSR H (.ref a) false := show TSR H (.ref a) (false && false) from .tup2 h (.flat rfl) (.flat rfl)
def spStartX : Sp := fun vs H Q _ => ∃ p, vs = [.ref p] ∧ Pool H p ∧ ∀ v b H', PV [p] H' 2 v → StQ H' v b → Pool H' p → Kp p H H' → Q v H'
theorem use_startX {p : Addr} {H : Hp} {Q : VK} {E : XK} (h : Pool H p) (q : ∀ v b H', PV [p] H' 2 v → StQ H' v b → Pool H' p → Kp p H H' → Q v H') : spStartX ([.ref p] ++ []) H Q E := ⟨p, rfl, h, q⟩
def LV (p : Addr) (H : Hp) (v : V) : Prop := scalarV v = true ∨ ∃ a xs, v = .ref a ∧ a ≠ p ∧ LT H a xs ∧ xs.length ≤ 66 ∧ (∀ x ∈ xs, PV [p] H 1 x) ∧ ∀ z : Int, V.int z ∈ xs → z.natAbs < 10 ^ 55
def spListV : Sp := fun vs H Q _ => ∃ p, vs = [.ref p] ∧ Pool H p ∧ ∀ v H', LV p H' v → Pool H' p → Kp p H H' → Q v H'
theorem use_listV {p : Addr} {H : Hp} {Q : VK} {E : XK} (h : Pool H p) (q : ∀ v H', LV p H' v → Pool H' p → Kp p H H' → Q v H') : spListV ([.ref p] ++ []) H Q E := ⟨p, rfl, h, q⟩
section
variable {p : Addr} {H H' : Hp} {v : V}
theorem LV.kp (k : KpLN [p] H H') (h : LV p H v) : LV p H' v := by
  rcases h with h | ⟨a, xs, e, n, h, l, s, z⟩
  · exact .inl h
  · exact .inr ⟨a, xs, e, n, h.kpln k (nm_cons n List.not_mem_nil), l, fun x hx => (s x hx).kp k, z⟩
theorem LV.ne (h : LV p H v) : ∀ a, v = .ref a → a ≠ p := fun a e => by
  rcases h with h | ⟨c, xs, e2, n, _⟩
  · rw [e] at h; exact Bool.noConfusion h
  · rw [e] at e2; cases e2; exact n
theorem LV.small (h : LV p H v) : SmallL H v := fun a ns e e2 z hz => by
  rcases h with h | ⟨c, ys, e3, n, h, l, s, q⟩
  · rw [e] at h; exact Bool.noConfusion h
  · rw [e] at e3; cases e3
    rcases h with h | h
    · rw [h] at e2; cases e2; exact q z (List.mem_map.mpr ⟨z, hz, rfl⟩)
    · rw [h] at e2; cases e2
end
theorem SmallL.ext {H H' : Hp} {x : V} (o : Option V) {n : Nat} (s : LamX.ExtN H H') (b : BZ H n x o) (h : SmallL H x) : SmallL H' x := fun a ns e e2 => by
  refine h a ns e ?_
  cases b with
  | flat f => rw [e] at f; exact Bool.noConfusion f
  | tup f => cases e; rw [s _ _ f tup_ntbl] at e2; cases e2
  | size f _ _ _ => cases e; rw [s _ _ f lst_ntbl] at e2; rw [f]; exact e2
  | item f _ _ _ => cases e; rw [s _ _ f lst_ntbl] at e2; rw [f]; exact e2
section
variable {o : Option V} {m n : Nat} {s f t e : V} {b : Bool} {H : Hp} {x : V}
theorem BZ.le (h : BZ H n x o) (ho : o = none) : n ≤ 64 := by
  subst ho
  obtain ⟨_, _, _, _, _, l⟩ := h.fine
  exact l
theorem TxR.of {v : V} (h : v = .non ∨ (∃ i, v = .int i) ∨ ∃ l : List Nat, v = .str (S l) ∧ (∀ c ∈ l, IsB c) ∧ l.length ≤ 100) : TxR v := by
  rcases h with rfl | ⟨i, rfl⟩ | ⟨l, rfl, h1, h2⟩
  · exact ⟨rfl, fun s e => nomatch e⟩
  · exact ⟨rfl, fun s e => nomatch e⟩
  · exact ⟨rfl, fun s e => ⟨l, (V.str.inj e).symm, h1, h2⟩⟩
end
end Z
namespace Z
open PySem PySem.Spec PyProof.Rows L2 LamX
/-- the object at f is this one -/
def LamO (f : Addr) (ob : Obj) : HO := .ext fun h => h.get? f = some ob
theorem lamO_ntbl {f : Addr} {ob : Obj} (ps : Array Value) : LamO f ob ≠ .tbl ps := fun z => by unfold LamO at z; cases z
/-- what is known of a lambda without parameters: its body's reading is t -/
def IsLam (X : Cx) (k : Nat) (t : XK → TE) (H : Hp) (f : Addr) : Prop := ∃ (params : Arguments) (body : Expr) (scope : Scope) (pm ctv : Value) (c' : Addr), LamS X.env.scope scope ∧ (∀ (q : Str) (cl : List (Str × Addr)) (pm cv ctv : Value), bindArgs (PySem.W.kla_fn "<lambda>" q params body scope cl pm cv ctv) ⟨[], []⟩ = pure []) ∧
  (∀ (A : Around) (outer : List Env) (s : Shared) (H : Hp) (E : XK) (f c' : Addr), Room k (A.deeper (lamEnv X scope s.heap.objs.size f c')) → PE (lamCx X A outer s H E scope f c') body (t E)) ∧
  H f = some (LamO f (PySem.W.kla_obj "<lambda>" (X.env.qual ++ "<lambda>") params body scope (cloFrom X.env.cells scope.names []) pm c' ctv)) ∧ H c' = some (CodeO c' (X.env.qual ++ "<lambda>"))
theorem IsLam.ext {X : Cx} {k : Nat} {t : XK → TE} {H H' : Hp} {f : Addr} (s : ExtN H H') (h : IsLam X k t H f) : IsLam X k t H' f := by
  obtain ⟨p, b, sc, pm, ctv, c', h1, h2, h3, h4, h5⟩ := h
  exact ⟨p, b, sc, pm, ctv, c', h1, h2, h3, s _ _ h4 lamO_ntbl, s _ _ h5 codeO_ne⟩
end Z
namespace Z
open PySem PySem.Spec PyProof.Rows L2
open SX (S S_len S_cat S_inj)
theorem wst_small {ns : List Int} {first : Nat} {T : Tb × Tb} {m : Int} (hn : ∀ z ∈ ns, z.natAbs ≤ 30000) (h1 : TbOk m T.1) (h2 : TbOk m T.2) : ∀ i, i ≤ ns.length → TbOk (m + (i : Int) * 60001) (wst ns first T i).2.1 ∧ TbOk (m + (i : Int) * 60001) (wst ns first T i).2.2
  | 0, _ => ⟨h1.up (by omega), h2.up (by omega)⟩
  | i + 1, hi => by
    obtain ⟨a1, a2⟩ := wst_small (first := first) hn h1 h2 i (by omega)
    have hu : (uOf (ns.getD i 0) : Int) ≤ 60001 := by
      have hz := hn _ (List.getElem_mem (show i < ns.length by omega))
      rw [getD_some (List.getElem?_eq_getElem (show i < ns.length by omega))]
      unfold uOf codeU
      split <;> omega
    have step : ∀ t : Tb, TbOk (m + (i : Int) * 60001) t → TbOk (m + ((i + 1 : Nat) : Int) * 60001) (tbB t (uOf (ns.getD i 0))) := fun t ⟨b1, b2, b3, b4⟩ => by
      unfold tbB
      split
      · exact ⟨by dsimp only; omega, by dsimp only; omega, by dsimp only; omega, by dsimp only; omega⟩
      · exact ⟨by dsimp only; omega, by dsimp only; omega, by dsimp only; omega, by dsimp only; omega⟩
    by_cases c : i < first
    · rw [wst_lo c]
      exact ⟨step _ a1, a2.up (by push_cast; omega)⟩
    · rw [wst_hi c]
      exact ⟨a1.up (by push_cast; omega), step _ a2⟩
theorem last_range {α : Type} (f : Nat → α) (k : Nat) : ((List.range (k + 1)).map f)[k]? = some (f k) := by simp
theorem at_last {xs : List V} {v : V} {k : Nat} (hl : xs.length = k + 1) (h : xs[k]? = some v) : atI xs (-1) = some v := by
  have e : ixN xs.length (-1) = some k := by
    rw [hl]
    unfold ixN
    rw [if_neg (by decide), if_pos (by omega)]
    exact congrArg some (by omega)
  unfold atI
  rw [e]
  exact h
def spTabsX : Sp := fun vs H Q _ => ∃ p, vs = [.ref p] ∧ Pool H p ∧ ∀ t T H', TbsH H' t T → TbOk 100 T.1 → TbOk 100 T.2 → Pool H' p → Kp p H H' → Q (.ref t) H'
theorem use_tabsX {p : Addr} {H : Hp} {Q : VK} {E : XK} (h : Pool H p) (q : ∀ t T H', TbsH H' t T → TbOk 100 T.1 → TbOk 100 T.2 → Pool H' p → Kp p H H' → Q (.ref t) H') : spTabsX ([.ref p] ++ []) H Q E := ⟨p, rfl, h, q⟩
def spSomeX : Sp := fun vs H Q _ => ∃ (p : Addr) (n : Nat), vs = [.ref p, .int (n : Nat)] ∧ Pool H p ∧ n ≤ 64 ∧ ∀ D (ns : List Int) H', H D = none → H' D = some (.lst (ns.map V.int)) → ns.length = n → (∀ z ∈ ns, z.natAbs ≤ 30000) → Pool H' p → Kp p H H' → Q (.ref D) H'
theorem use_someX {p : Addr} {n : Nat} {H : Hp} {Q : VK} {E : XK} (h : Pool H p) (hn : n ≤ 64) (q : ∀ D (ns : List Int) H', H D = none → H' D = some (.lst (ns.map V.int)) → ns.length = n → (∀ z ∈ ns, z.natAbs ≤ 30000) → Pool H' p → Kp p H H' → Q (.ref D) H') : spSomeX ([.ref p, .int (n : Nat)] ++ []) H Q E := ⟨p, n, rfl, h, hn, q⟩
/-- length, width, shape, levels, step -/
abbrev Hd := Nat × Nat × Nat × Nat × Nat
def HdAt (H : Hp) (h : Addr) (j : Addr) (d : Hd) : Prop := H h = some (.tup [.int (d.1 : Nat), .ref j, .int (d.2.2.2.1 : Nat), .int (d.2.2.2.2 : Nat)]) ∧ H j = some (.tup [.int (d.2.1 : Nat), .int (d.2.2.1 : Nat)])
def HdOk (d : Hd) : Prop := 1 ≤ d.1 ∧ d.1 ≤ 64 ∧ d.2.1 ≤ 8 ∧ d.2.2.1 ≤ 3 ∧ (d.2.1 = 0 → d.2.2.1 = 0) ∧ d.2.2.2.1 ≤ 5 ∧ 1 ≤ d.2.2.2.2 ∧ d.2.2.2.2 ≤ 64
/-- the bits of a frame -/
def bitsF (d : Hd) (ns : List Int) (T : Tb × Tb) : List Nat := (wst ns (cc d.1 d.2.2.2.1) T ns.length).1.flatten
def nextF (d : Hd) (ns : List Int) (T : Tb × Tb) : Tb × Tb := (wst ns (cc d.1 d.2.2.2.1) T ns.length).2
def FrAt (H : Hp) (r : Addr) (j : Addr) (d : Hd) (ns : List Int) (T : Tb × Tb) : Prop := H r = some (.tup [.str (Str.ofString "frame"), .int (d.1 : Nat), .ref j, .int (d.2.2.2.1 : Nat), .int (d.2.2.2.2 : Nat), .int (markF ns), .str (S (bitsF d ns T))])
/-- frames that follow each other: the width at the left end of the first, at the right end of the last -/
def Ch : Nat → List Hd → Nat → Prop
  | l, [], e => l = e
  | l, d :: r, e => HdOk d ∧ l + d.2.1 ≤ d.1 ∧ Ch d.2.1 r e
def HdsAt (H : Hp) (refs : List V) (hs : List Hd) : Prop := All2 (fun v d => ∃ h j, v = .ref h ∧ HdAt H h j d) refs hs
theorem HdAt.lk {H H' : Hp} {h j : Addr} {d : Hd} (s : LK H H') (k : HdAt H h j d) : HdAt H' h j d := ⟨s _ _ k.1 (fun _ z => nomatch z), s _ _ k.2 (fun _ z => nomatch z)⟩
theorem HdsAt.lk {H H' : Hp} {refs : List V} {hs : List Hd} (s : LK H H') (k : HdsAt H refs hs) : HdsAt H' refs hs := k.imp fun _ _ ⟨h, j, e, q⟩ => ⟨h, j, e, q.lk s⟩
theorem All2.app {α β : Type} {R : α → β → Prop} {as : List α} {bs : List β} {a : α} {b : β} (h : All2 R as bs) (k : R a b) : All2 R (as ++ [a]) (bs ++ [b]) := by
  induction h with
  | nil => exact .cons k .nil
  | cons h _ ih => exact .cons h ih
def spHeads : Sp := fun vs H Q _ => ∃ (p : Addr) (m : Nat), vs = [.ref p, .int (m : Nat)] ∧ Pool H p ∧ m ≤ 20 ∧ ∀ D refs hs H', H D = none → H' D = some (.lst refs) → HdsAt H' refs hs → Ch 0 hs 0 → hs.length = m → Pool H' p → Kp p H H' → Q (.ref D) H'
theorem use_heads {p : Addr} {m : Nat} {H : Hp} {Q : VK} {E : XK} (h : Pool H p) (hm : m ≤ 20) (q : ∀ D refs hs H', H D = none → H' D = some (.lst refs) → HdsAt H' refs hs → Ch 0 hs 0 → hs.length = m → Pool H' p → Kp p H H' → Q (.ref D) H') : spHeads ([.ref p, .int (m : Nat)] ++ []) H Q E := ⟨p, m, rfl, h, hm, q⟩
inductive Rc where
  | st (T : Tb × Tb)
  | fr (d : Hd) (ns : List Int) (T : Tb × Tb)
def TkOk (T : Tb × Tb) : Prop := TbOk (10 ^ 50) T.1 ∧ TbOk (10 ^ 50) T.2
def RcAt (K : PySem.W.Frag) (H : Hp) (v : V) : Rc → Prop
  | .st T => ∃ a t, v = .ref a ∧ H a = some (.tup [.str (Str.ofString "state"), .ref t]) ∧ TbsV K H t T
  | .fr d ns T => ∃ a j, v = .ref a ∧ FrAt H a j d ns T ∧ H j = some (.tup [.int (d.2.1 : Nat), .int (d.2.2.1 : Nat)])
theorem RcAt.lk {K : PySem.W.Frag} {H H' : Hp} {v : V} (s : LK H H') : ∀ {r : Rc}, RcAt K H v r → RcAt K H' v r
  | .st T, ⟨a, t, e, h, q⟩ => ⟨a, t, e, s _ _ h (fun _ z => nomatch z), q.lk s⟩
  | .fr d ns T, ⟨a, j, e, h, q⟩ => ⟨a, j, e, s _ _ h (fun _ z => nomatch z), s _ _ q (fun _ z => nomatch z)⟩
def RcsAt (K : PySem.W.Frag) (H : Hp) (vs : List V) (rs : List Rc) : Prop := All2 (RcAt K H) vs rs
theorem RcsAt.lk {K : PySem.W.Frag} {H H' : Hp} {vs : List V} {rs : List Rc} (s : LK H H') (h : RcsAt K H vs rs) : RcsAt K H' vs rs := h.imp fun _ _ q => q.lk s
/-- a row of the index: record, place, frame, left joint, origin -/
abbrev Rw := Nat × Nat × Hd × (Nat × Nat) × Nat
structure Run where
  i : Nat
  pl : Nat
  lj : Nat × Nat
  o : Nat
  rows : List Rw
def stpR (s : Run) : Rc → Run
  | .st _ => ⟨s.i + 1, s.pl, s.lj, s.i, s.rows⟩
  | .fr d _ _ => ⟨s.i + 1, s.pl + d.1, (d.2.1, d.2.2.1), s.o, s.rows ++ [(s.i, s.pl, d, s.lj, s.o)]⟩
def runR (rs : List Rc) : Run := rs.foldl stpR ⟨0, 0, (0, 0), 0, []⟩
theorem runR_snoc (rs : List Rc) (r : Rc) : runR (rs ++ [r]) = stpR (runR rs) r := by unfold runR; rw [List.foldl_append]; rfl
theorem runR_i : ∀ rs : List Rc, (runR rs).i = rs.length := fun rs => by
  have key : ∀ (rs : List Rc) (s : Run), (rs.foldl stpR s).i = s.i + rs.length := by
    intro rs
    induction rs with
    | nil => intro s; rfl
    | cons r rs ih =>
      intro s
      rw [List.foldl_cons, ih, List.length_cons]
      cases r <;> (show s.i + 1 + _ = _; omega)
  have z := key rs ⟨0, 0, (0, 0), 0, []⟩
  rw [Nat.zero_add] at z
  exact z
def JtAt (H : Hp) (j : Addr) (x : Nat × Nat) : Prop := H j = some (.tup [.int (x.1 : Nat), .int (x.2 : Nat)])
def RwAt (H : Hp) (v : V) (r : Rw) : Prop := ∃ a jl j, v = .ref a ∧ H a = some (.tup [.int (r.1 : Nat), .int (r.2.1 : Nat), .int (r.2.2.1.1 : Nat), .ref jl, .ref j, .int (r.2.2.1.2.2.2.1 : Nat), .int (r.2.2.1.2.2.2.2 : Nat), .int (r.2.2.2.2 : Nat)]) ∧ JtAt H jl r.2.2.2.1 ∧ JtAt H j (r.2.2.1.2.1, r.2.2.1.2.2.1)
theorem RwAt.lk {H H' : Hp} {v : V} {r : Rw} (s : LK H H') (h : RwAt H v r) : RwAt H' v r := by
  obtain ⟨a, jl, j, e, h1, h2, h3⟩ := h
  exact ⟨a, jl, j, e, s _ _ h1 (fun _ z => nomatch z), s _ _ h2 (fun _ z => nomatch z), s _ _ h3 (fun _ z => nomatch z)⟩
def RwsAt (H : Hp) (vs : List V) (rs : List Rw) : Prop := All2 (RwAt H) vs rs
theorem RwsAt.lk {H H' : Hp} {vs : List V} {rs : List Rw} (s : LK H H') (h : RwsAt H vs rs) : RwsAt H' vs rs := h.imp fun _ _ q => q.lk s
/-- what is kept of the frames -/
def blkF (kf : Hd → List Int → List Int) : List Rc → List (List Int)
  | [] => []
  | .st _ :: r => blkF kf r
  | .fr d ns _ :: r => kf d ns :: blkF kf r
abbrev kfB : Hd → List Int → List Int := fun d ns => joinL (ns.map (· * (d.2.2.2.2 : Int))) d.2.2.2.1
def BksAt (l : List Addr) (H : Hp) (vs : List V) (bs : List (List Int)) : Prop := All2 (fun v b => ∃ a, v = .ref a ∧ a ∉ l ∧ H a = some (.lst (b.map V.int))) vs bs
theorem BksAt.kp {l : List Addr} {H H' : Hp} {vs : List V} {bs : List (List Int)} (k : KpL l H H') (h : BksAt l H vs bs) : BksAt l H' vs bs := h.imp fun _ _ ⟨a, e, n, q⟩ => ⟨a, e, n, k _ _ n q⟩
/-- records that can be read one after the other: from tables and a width at the left, to tables and a width -/
def Vd : Tb × Tb → Nat → List Rc → Tb × Tb → Nat → Prop
  | T, l, [], T2, l2 => T = T2 ∧ l = l2
  | _, l, .st T' :: r, T2, l2 => TkOk T' ∧ Vd T' l r T2 l2
  | T, l, .fr d ns T0 :: r, T2, l2 => T0 = T ∧ HdOk d ∧ l + d.2.1 ≤ d.1 ∧ ns.length = d.1 ∧ (∀ z ∈ ns, z.natAbs ≤ 10 ^ 45) ∧ TkOk T ∧ Vd (nextF d ns T) d.2.1 r T2 l2
theorem Vd.fr' {d : Hd} {ns : List Int} {T2 : Tb × Tb} {l2 : Nat} (a1 : HdOk d) (a2 : l2 + d.2.1 ≤ d.1) (a3 : ns.length = d.1) (a4 : ∀ z ∈ ns, z.natAbs ≤ 10 ^ 45) (a5 : TkOk T2) : ∀ {rs : List Rc} {T : Tb × Tb} {l : Nat}, Vd T l rs T2 l2 → Vd T l (rs ++ [.fr d ns T2]) (nextF d ns T2) d.2.1
  | [], _, _, ⟨e1, e2⟩ => by
    subst e1 e2
    exact ⟨rfl, a1, a2, a3, a4, a5, rfl, rfl⟩
  | .st _ :: _, _, _, ⟨h, q⟩ => ⟨h, Vd.fr' a1 a2 a3 a4 a5 q⟩
  | .fr _ _ _ :: _, _, _, ⟨h1, h2, h3, h4, h5, h6, q⟩ => ⟨h1, h2, h3, h4, h5, h6, Vd.fr' a1 a2 a3 a4 a5 q⟩
def T0 : Tb × Tb := ((2, 1), (2, 1))
/-- what the writing of a stream keeps -/
structure SI (kf : Hd → List Int → List Int) (K : PySem.W.Frag) (p R W B : Addr) (H : Hp) (refs rws bks : List V) (rs : List Rc) (T : Tb × Tb) (jl : Addr) (lj : Nat × Nat) (o pl n : Nat) : Prop where
  eR : H R = some (.lst refs)
  eW : H W = some (.lst rws)
  eB : H B = some (.lst bks)
  rc : RcsAt K H refs rs
  rw : RwsAt H rws (runR rs).rows
  bk : BksAt [p, R, W, B] H bks (blkF kf rs)
  vd : Vd T0 0 rs T lj.1
  jt : JtAt H jl lj
  r1 : (runR rs).lj = lj
  r2 : (runR rs).pl = pl
  r3 : (runR rs).o = o
  ln : refs.length = rs.length
  le : rs.length ≤ n
  po : Pool H p
  nRp : R ≠ p
  nWp : W ≠ p
  nBp : B ≠ p
  nRW : R ≠ W
  nRB : R ≠ B
  nWB : W ≠ B
section
variable {kf : Hd → List Int → List Int} {K : PySem.W.Frag} {p R W B jl : Addr} {H H' : Hp} {refs rws bks : List V} {rs : List Rc} {T : Tb × Tb} {lj : Nat × Nat} {o pl n : Nat}
theorem JtAt.lk {j : Addr} {x : Nat × Nat} (s : LK H H') (h : JtAt H j x) : JtAt H' j x := s _ _ h fun _ z => nomatch z
theorem SI.kp (h : SI kf K p R W B H refs rws bks rs T jl lj o pl n) (k : Kp p H H') (hP : Pool H' p) : SI kf K p R W B H' refs rws bks rs T jl lj o pl n :=
  have lk := LK.pool h.po k
  { h with eR := k _ _ h.nRp h.eR, eW := k _ _ h.nWp h.eW, eB := k _ _ h.nBp h.eB, rc := h.rc.lk lk, rw := h.rw.lk lk, bk := h.bk.kp (KpL.ofK List.mem_cons_self k), jt := h.jt.lk lk, po := hP }
theorem SI.new {q : Addr} {u : HO} (h : SI kf K p R W B H refs rws bks rs T jl lj o pl n) (nq : H q = none) : SI kf K p R W B (upd H q u) refs rws bks rs T jl lj o pl n := h.kp (Kp.new nq) (h.po.new nq)
theorem SI.same (h : SI kf K p R W B H refs rws bks rs T jl lj o pl n) (s : Same H H') : SI kf K p R W B H' refs rws bks rs T jl lj o pl n := h.kp (fun a x _ e => s a x e) (h.po.same s)
end
theorem SI.up {kf : Hd → List Int → List Int} {K : PySem.W.Frag} {p R W B jl : Addr} {H : Hp} {refs rws bks : List V} {rs : List Rc} {T : Tb × Tb} {lj : Nat × Nat} {o pl n m : Nat} (h : SI kf K p R W B H refs rws bks rs T jl lj o pl n) (k : n ≤ m) : SI kf K p R W B H refs rws bks rs T jl lj o pl m := { h with le := Nat.le_trans h.le k }
theorem lc_mapM {K : PySem.W.Frag} {σ : L2.St} {Q : VK} {vs : List Nat} {k : Nat} {a D : Addr} {xs : List Int} {H1 : Hp} {te : TE} (f : Int → Int) (hS : SqL K H1 a (xs.map V.int)) (hn : xs.length ≤ 1000) (hw : ∀ v, wipe ((wipe σ vs).set k (some v)) vs = wipe σ vs) (hD : H1 D = none)
    (turn : ∀ z ∈ xs, ∀ (H : Hp) (Q' : VK), Same H1 H → Q' (.int (f z)) H → te ((wipe σ vs).set k (some (.int z))) H Q')
    (q : ∀ H', Same H1 H' → H' D = some (.lst ((xs.map f).map V.int)) → Q (.ref D) H') : LcW (Itl K a) (gName k) tYes te vs Q σ H1 D := by
  refine lc_list (xs := xs.map V.int) (Pv := fun j H => Same H1 H ∧ H D = some (.lst (((xs.map f).take j).map V.int))) ⟨same_new hD, upd_same⟩ (fun j H _ hI => hI.1.seq hS) (fun j v H hv hI => ?_) (fun H hI => ?_)
  · obtain ⟨hs, hd⟩ := hI
    obtain ⟨z, rfl, hz⟩ : ∃ z, v = .int z ∧ xs[j]? = some z := by
      rw [List.getElem?_map] at hv
      cases g : xs[j]? with
      | none => rw [g] at hv; cases hv
      | some z => rw [g] at hv; exact ⟨z, (Option.some.inj hv).symm, rfl⟩
    have hj := (List.getElem?_eq_some_iff.mp hz).1
    refine ⟨hw _, rd_yes ?_⟩
    refine turn z (List.mem_of_getElem? hz) H _ hs ⟨_, hd, small1000 (by rw [List.length_map, List.length_take, List.length_map]; omega), ?_, ?_⟩
    · exact fun b o e => by rw [upd_ne (ne_of_none e hD)]; exact hs _ _ e
    · have hz2 : (xs.map f)[j]? = some (f z) := by rw [List.getElem?_map, hz]; rfl
      rw [upd_same, List.take_add_one, hz2, List.map_append]
      rfl
  · obtain ⟨hs, hd⟩ := hI
    rw [List.take_of_length_le (by rw [List.length_map, List.length_map]; exact Nat.le_refl _)] at hd
    exact q H hs hd
end Z
namespace Z
open PySem PySem.Spec PyProof.Rows L2
open SX (S S_len S_cat S_inj)
structure Mn (K : PySem.W.Frag) (C : Addr) (x q : Str) (st : Stmt) (ps : List Str) (f : Addr) (fd : FuncData) : Prop where
  F : Fun K x q st f fd
  m : Meth K C x f
  b : Binds K fd ps []
structure StmC (K : PySem.W.Frag) (mg : Str → Option Value) (C : Addr) : Prop where
  cl : Cls K C
  g : mg "Stream" = some (.ref C)
  mks : PySem.W.makesIn K C = true
  kc : PySem.W.keepIn K (.ref C) = true
  nh : NoAttr K C "held"
  nr : NoAttr K C "read"
theorem rd_decT {p : Prop} [Decidable p] {H : Hp} {Q : VK} (h : p) (q : Q (.bl true) H) : Q (.bl (decide p)) H := by rw [decide_eq_true h]; exact q
def spIsB : Sp := fun vs H Q _ => ∃ l : List Nat, vs = [.str (S l)] ∧ (∀ c ∈ l, IsB c) ∧ l.length ≤ 1000000 ∧ Q (.bl true) H
theorem use_isb {l : List Nat} {H : Hp} {Q : VK} {E : XK} (h1 : ∀ c ∈ l, IsB c) (h2 : l.length ≤ 1000000) (q : Q (.bl true) H) : spIsB ([.str (S l)] ++ []) H Q E := ⟨l, rfl, h1, h2, q⟩
def spIsLay : Sp := fun vs H Q _ => ∃ (a j : Addr) (d : Hd), vs = [.ref a] ∧ HdAt H a j d ∧ HdOk d ∧ Q (.bl true) H
theorem use_islay {a j : Addr} {d : Hd} {H : Hp} {Q : VK} {E : XK} (h : HdAt H a j d) (ok : HdOk d) (q : Q (.bl true) H) : spIsLay ([.ref a] ++ []) H Q E := ⟨a, j, d, rfl, h, ok, q⟩
/-- a record that is valid -/
def RcOk : Rc → Prop
  | .st T => TkOk T
  | .fr d ns T => HdOk d ∧ ns.length = d.1 ∧ (∀ z ∈ ns, z.natAbs ≤ 10 ^ 45) ∧ TkOk T
def isSt : Rc → Bool
  | .st _ => true
  | .fr _ _ _ => false
def spIsSt (K : PySem.W.Frag) : Sp := fun vs H Q _ => ∃ v r, vs = [v] ∧ RcAt K H v r ∧ RcOk r ∧ Q (.bl (isSt r)) H
theorem use_isst {K : PySem.W.Frag} {v : V} {r : Rc} {H : Hp} {Q : VK} {E : XK} (h : RcAt K H v r) (ok : RcOk r) (q : Q (.bl (isSt r)) H) : spIsSt K ([v] ++ []) H Q E := ⟨v, r, rfl, h, ok, q⟩
def spIsFr (K : PySem.W.Frag) : Sp := fun vs H Q _ => ∃ v d ns T, vs = [v] ∧ RcAt K H v (.fr d ns T) ∧ RcOk (.fr d ns T) ∧ ∀ H', Same H H' → Q (.bl true) H'
theorem use_isfr {K : PySem.W.Frag} {v : V} {d : Hd} {ns : List Int} {T : Tb × Tb} {H : Hp} {Q : VK} {E : XK} (h : RcAt K H v (.fr d ns T)) (ok : RcOk (.fr d ns T)) (q : ∀ H', Same H H' → Q (.bl true) H') : spIsFr K ([v] ++ []) H Q E := ⟨v, d, ns, T, rfl, h, ok, q⟩
def spIsRc (K : PySem.W.Frag) : Sp := fun vs H Q _ => ∃ v r, vs = [v] ∧ RcAt K H v r ∧ RcOk r ∧ ∀ H', Same H H' → Q (.bl true) H'
theorem bitsF_len {d : Hd} {ns : List Int} {T : Tb × Tb} (ok : RcOk (.fr d ns T)) : (bitsF d ns T).length ≤ 1000000 ∧ ∀ c ∈ bitsF d ns T, IsB c := by
  obtain ⟨h1, h2, h3, h4, h5⟩ := ok
  refine ⟨?_, wst_bin _ _ _ _⟩
  have z := wst_flat (first := cc d.1 d.2.2.2.1) (fun z hz => Nat.lt_of_le_of_lt (h3 z hz) (by decide)) (h4.up (by decide : (10:Int) ^ 50 ≤ 10 ^ 58)) (h5.up (by decide : (10:Int) ^ 50 ≤ 10 ^ 58)) ns.length (by have := h1.2.1; omega)
  have := h1.2.1
  unfold bitsF
  omega
/-- index, place, head, left joint, numbers, tables -/
abbrev Fm := Nat × Nat × Hd × (Nat × Nat) × List Int × (Tb × Tb)
def frR : Nat → Nat → (Nat × Nat) → List Rc → List Fm
  | _, _, _, [] => []
  | i, pl, lj, .st _ :: r => frR (i + 1) pl lj r
  | i, pl, lj, .fr d ns T :: r => (i, pl, d, lj, ns, T) :: frR (i + 1) (pl + d.1) (d.2.1, d.2.2.1) r
def JtV (K : PySem.W.Frag) (H : Hp) (j : Addr) (x : Nat × Nat) : Prop := TupV K H j [.int (x.1 : Nat), .int (x.2 : Nat)]
theorem JtAt.v {K : PySem.W.Frag} {H : Hp} {j : Addr} {x : Nat × Nat} (h : JtAt H j x) : JtV K H j x := TupV.of h
theorem JtV.lk {K : PySem.W.Frag} {H H' : Hp} {j : Addr} {x : Nat × Nat} (s : LK H H') (h : JtV K H j x) : JtV K H' j x := TupV.lk s h
def FmAt (K : PySem.W.Frag) (l : List Addr) (H : Hp) (v : V) (f : Fm) : Prop := ∃ a b jl j m t q, v = .ref a ∧ H a = some (.tup [.ref b, .ref m, .ref t, .ref q]) ∧ H b = some (.tup [.int (f.1 : Nat), .int (f.2.1 : Nat), .int (f.2.2.1.1 : Nat), .ref jl, .ref j]) ∧ JtV K H jl f.2.2.2.1 ∧ JtAt H j (f.2.2.1.2.1, f.2.2.1.2.2.1) ∧
  m ∉ l ∧ H m = some (.lst (f.2.2.2.2.1.map V.int)) ∧ TbsV K H t f.2.2.2.2.2 ∧ TbsV K H q (nextF f.2.2.1 f.2.2.2.2.1 f.2.2.2.2.2)
theorem FmAt.kp {K : PySem.W.Frag} {l : List Addr} {H H' : Hp} {v : V} {f : Fm} (s : LK H H') (k : KpL l H H') (h : FmAt K l H v f) : FmAt K l H' v f := by
  obtain ⟨a, b, jl, j, m, t, q, e, h1, h2, h3, h4, h5, h6, h7, h8⟩ := h
  exact ⟨a, b, jl, j, m, t, q, e, s _ _ h1 (fun _ z => nomatch z), s _ _ h2 (fun _ z => nomatch z), h3.lk s, h4.lk s, h5, k _ _ h5 h6, h7.lk s, h8.lk s⟩
theorem FmAt.same {K : PySem.W.Frag} {l : List Addr} {H H' : Hp} {v : V} {f : Fm} (s : Same H H') (h : FmAt K l H v f) : FmAt K l H' v f := h.kp (.of s) (.ofS s)
theorem FmAt.out {K : PySem.W.Frag} {l : List Addr} {H : Hp} {v : V} {f : Fm} (h : FmAt K l H v f) : FmAt K [] H v f := by
  obtain ⟨a, b, jl, j, m, t, q, e, h1, h2, h3, h4, h5, h⟩ := h
  exact ⟨a, b, jl, j, m, t, q, e, h1, h2, h3, h4, List.not_mem_nil, h⟩
def FmsAt (K : PySem.W.Frag) (l : List Addr) (H : Hp) (vs : List V) (fs : List Fm) : Prop := All2 (FmAt K l H) vs fs
theorem Vd.ok : ∀ {rs : List Rc} {T : Tb × Tb} {l : Nat} {T2 : Tb × Tb} {l2 : Nat}, Vd T l rs T2 l2 → ∀ r ∈ rs, RcOk r
  | [], _, _, _, _, _, r, h => absurd h List.not_mem_nil
  | .st T' :: rs, _, _, _, _, ⟨h, q⟩, r, hm => by
    rcases List.mem_cons.mp hm with rfl | hm
    · exact h
    · exact Vd.ok q r hm
  | .fr d ns T' :: rs, _, _, _, _, ⟨e, h2, h3, h4, h5, h6, q⟩, r, hm => by
    rcases List.mem_cons.mp hm with rfl | hm
    · subst e; exact ⟨h2, h4, h5, h6⟩
    · exact Vd.ok q r hm
theorem All2.drop_head {α β : Type} {R : α → β → Prop} {as : List α} {bs : List β} (h : All2 R as bs) {i : Nat} {a : α} (e : as[i]? = some a) : ∃ b r, R a b ∧ bs.drop i = b :: r ∧ bs.drop (i + 1) = r ∧ b ∈ bs := by
  obtain ⟨b, r, h1, h2, h3⟩ := h.get _ _ e
  exact ⟨b, r, h1, h2, h3, List.mem_of_mem_drop (i := i) (by rw [h2]; exact List.mem_cons_self)⟩
structure FI (K : PySem.W.Frag) (F : Addr) (H0 H : Hp) (rs : List Rc) (Te : Tb × Tb) (i : Nat) (fms : List V) (dn : List Fm) (t : Addr) (T : Tb × Tb) (pl : Nat) (jl : Addr) (lj : Nat × Nat) : Prop where
  eF : H F = some (.lst fms)
  nF : H0 F = none
  fm : FmsAt K [F] H fms dn
  sp : frR 0 0 (0, 0) rs = dn ++ frR i pl lj (rs.drop i)
  vd : Vd T lj.1 (rs.drop i) Te 0
  jt : JtV K H jl lj
  j0 : lj.1 = 0 → lj.2 = 0
  tb : TbsV K H t T
  sm : Same H0 H
  le : dn.length ≤ i
section
variable {K : PySem.W.Frag} {F t jl : Addr} {H0 H H' : Hp} {rs : List Rc} {Te T : Tb × Tb} {i pl : Nat} {fms : List V} {dn : List Fm} {lj : Nat × Nat}
theorem FI.same (h : FI K F H0 H rs Te i fms dn t T pl jl lj) (s : Same H H') : FI K F H0 H' rs Te i fms dn t T pl jl lj :=
  { h with eF := s _ _ h.eF, fm := h.fm.imp fun _ _ q => q.same s, jt := h.jt.lk (.of s), tb := h.tb.lk (.of s), sm := h.sm.trans s }
theorem FI.len (h : FI K F H0 H rs Te i fms dn t T pl jl lj) : fms.length ≤ i := by rw [h.fm.len]; exact h.le
theorem FI.st (h : FI K F H0 H rs Te i fms dn t T pl jl lj) {T' : Tb × Tb} {r : List Rc} (e : rs.drop i = .st T' :: r) (e' : rs.drop (i + 1) = r) {t' : Addr} (ht : TbsV K H t' T') : FI K F H0 H rs Te (i + 1) fms dn t' T' pl jl lj := by
  have sp := h.sp
  have vd := h.vd
  rw [e] at sp vd
  exact { h with sp := by rw [e']; exact sp, vd := by rw [e']; exact vd.2, tb := ht, le := Nat.le_succ_of_le h.le }
theorem FI.fr (h : FI K F H0 H rs Te i fms dn t T pl jl lj) {d : Hd} {ns : List Int} {T0 : Tb × Tb} {r : List Rc} (e : rs.drop i = .fr d ns T0 :: r) (e' : rs.drop (i + 1) = r) {v : V} {q j : Addr} (hv : FmAt K [F] H v (i, pl, d, lj, ns, T)) (hj : JtAt H j (d.2.1, d.2.2.1)) (hq : TbsV K H q (nextF d ns T)) :
    FI K F H0 (upd H F (.lst (fms ++ [v]))) rs Te (i + 1) (fms ++ [v]) (dn ++ [(i, pl, d, lj, ns, T)]) q (nextF d ns T) (pl + d.1) j (d.2.1, d.2.2.1) := by
  have sp := h.sp
  have vd := h.vd
  rw [e] at sp vd
  obtain ⟨rfl, v2, v3, v4, v5, v6, v7⟩ := vd
  have lk : LK H (upd H F (.lst (fms ++ [v]))) := LK.at h.eF
  have kp : KpL [F] H (upd H F (.lst (fms ++ [v]))) := KpL.at (by simp)
  exact { eF := upd_same, nF := h.nF, fm := (h.fm.imp fun _ _ q => q.kp lk kp).app (hv.kp lk kp)
          sp := by rw [e', sp, List.append_assoc]; rfl
          vd := by rw [e']; exact v7
          jt := (hj.lk lk).v, j0 := v2.2.2.2.2.1, tb := hq.lk lk
          sm := fun b o eb => by rw [upd_ne (ne_of_none eb h.nF)]; exact h.sm _ _ eb
          le := by rw [List.length_append]; exact Nat.succ_le_succ h.le }
end
/-- a list of numbers is not the list of frames -/
theorem ne_fms {F m : Addr} {H : Hp} {fms : List V} {ns : List Int} (hF : H F = some (.lst fms)) (hm : H m = some (.lst (ns.map V.int))) (h1 : 1 ≤ ns.length) (hr : ∀ v ∈ fms, ∃ a, v = .ref a) : m ≠ F := fun z => by
  rw [z, hF] at hm
  cases ns with
  | nil => simp at h1
  | cons n ns =>
    have e := HO.lst.inj (Option.some.inj hm)
    obtain ⟨a, ha⟩ := hr _ (by rw [e]; exact List.mem_cons_self)
    cases ha
theorem fms_ref {K : PySem.W.Frag} {l : List Addr} {H : Hp} {vs : List V} {fs : List Fm} (h : FmsAt K l H vs fs) : ∀ v ∈ vs, ∃ a, v = .ref a := by
  induction h with
  | nil => exact fun v h => absurd h List.not_mem_nil
  | cons h _ ih =>
    intro v hv
    rcases List.mem_cons.mp hv with rfl | hv
    · obtain ⟨a, b, jl, j, m, t, q, e, _⟩ := h
      exact ⟨a, e⟩
    · exact ih v hv
def LKI (H H' : Hp) : Prop := ∀ b o, H b = some o → (∀ xs, o ≠ .lst xs) → (∀ C dx fs, o ≠ .ins C dx fs) → H' b = some o
theorem LK.i {H H' : Hp} (s : LK H H') : LKI H H' := fun b o e n _ => s b o e n
theorem LKI.ofK {x C dx : Addr} {fs : List (Str × V)} {H H' : Hp} (hx : H x = some (.ins C dx fs)) (k : Kp x H H') : LKI H H' := fun b o e _ n => k b o (fun z => by
  rw [z, hx] at e
  exact n _ _ _ (Option.some.inj e).symm) e
theorem TupV.lki {K : PySem.W.Frag} {H H' : Hp} {a : Addr} {xs : List V} (s : LKI H H') (h : TupV K H a xs) : TupV K H' a xs := by
  obtain ⟨h1, h2⟩ := h
  refine ⟨?_, ?_⟩
  · rcases h1 with (h | ⟨o, h⟩) | h
    · exact .inl (.inl (s _ _ h (fun _ z => nomatch z) (fun _ _ _ z => nomatch z)))
    · exact .inl (.inr ⟨o, s _ _ h (fun _ z => nomatch z) (fun _ _ _ z => nomatch z)⟩)
    · exact .inr h
  · generalize ht : (Value.type "tuple") = t at h2 ⊢
    cases h2 with
    | base b =>
      cases b with
      | lst e => exact absurd ht (by decide)
      | frz e => exact absurd ht (by decide)
      | tup e => exact .base (.tup (s _ _ e (fun _ z => nomatch z) (fun _ _ _ z => nomatch z)))
      | dK e => exact absurd ht (by decide)
      | dT e => exact absurd ht (by decide)
      | ins e => cases ht
    | set e => exact absurd ht (by decide)
    | kList e c => exact .kList e c
    | kTuple e c => exact .kTuple e c
    | kDict e c => exact .kDict e c
    | fTuple e => exact .fTuple (s _ _ e (fun _ z => nomatch z) (fun _ _ _ z => nomatch z))
    | fDict e => exact absurd ht (by decide)
section
variable {K : PySem.W.Frag} {H H' : Hp}
theorem TbsV.lki {a : Addr} {T : Tb × Tb} (s : LKI H H') (h : TbsV K H a T) : TbsV K H' a T := let ⟨r0, r1, h0, h1, h2⟩ := h; ⟨r0, r1, h0.lki s, TupV.lki s h1, TupV.lki s h2⟩
theorem JtV.lki {j : Addr} {x : Nat × Nat} (s : LKI H H') (h : JtV K H j x) : JtV K H' j x := TupV.lki s h
theorem JtAt.lki {j : Addr} {x : Nat × Nat} (s : LKI H H') (h : JtAt H j x) : JtAt H' j x := s _ _ h (fun _ z => nomatch z) (fun _ _ _ z => nomatch z)
theorem RcAt.lki {v : V} (s : LKI H H') : ∀ {r : Rc}, RcAt K H v r → RcAt K H' v r
  | .st T, ⟨a, t, e, h, q⟩ => ⟨a, t, e, s _ _ h (fun _ z => nomatch z) (fun _ _ _ z => nomatch z), q.lki s⟩
  | .fr d ns T, ⟨a, j, e, h, q⟩ => ⟨a, j, e, s _ _ h (fun _ z => nomatch z) (fun _ _ _ z => nomatch z), s _ _ q (fun _ z => nomatch z) (fun _ _ _ z => nomatch z)⟩
theorem RcsAt.lki {vs : List V} {rs : List Rc} (s : LKI H H') (h : RcsAt K H vs rs) : RcsAt K H' vs rs := h.imp fun _ _ q => q.lki s
theorem FmAt.lki {l : List Addr} {v : V} {f : Fm} (s : LKI H H') (k : ∀ m ns, H m = some (.lst ns) → H' m = some (.lst ns)) (h : FmAt K l H v f) : FmAt K l H' v f := by
  obtain ⟨a, b, jl, j, m, t, q, e, h1, h2, h3, h4, h5, h6, h7, h8⟩ := h
  exact ⟨a, b, jl, j, m, t, q, e, s _ _ h1 (fun _ z => nomatch z) (fun _ _ _ z => nomatch z), s _ _ h2 (fun _ z => nomatch z) (fun _ _ _ z => nomatch z), h3.lki s, h4.lki s, h5, k _ _ h6, h7.lki s, h8.lki s⟩
theorem lst_kp {x C dx : Addr} {fs : List (Str × V)} (hx : H x = some (.ins C dx fs)) (k : Kp x H H') : ∀ m ns, H m = some (.lst ns) → H' m = some (.lst ns) := fun m ns e => k m _ (fun z => by rw [z, hx] at e; cases e) e
theorem FmsAt.fld {l : List Addr} {x C dx : Addr} {fs : List (Str × V)} {vs : List V} {fms : List Fm} (hx : H x = some (.ins C dx fs)) (k : Kp x H H') (h : FmsAt K l H vs fms) : FmsAt K l H' vs fms := h.imp fun _ _ q => q.lki (.ofK hx k) (lst_kp hx k)
end
theorem held_ (L : Addr) : (putF "held" (.ref L) []).lookup ("held" : Str) = some (V.ref L) := by
  rw [lookup_putF, if_pos rfl]
def sf (L F : Addr) : List (Str × V) := putF "read" (.ref F) (putF "held" (.ref L) [])
theorem sf_read (L F : Addr) : (sf L F).lookup ("read" : Str) = some (.ref F) := by
  unfold sf
  rw [lookup_putF, if_pos rfl]
theorem sf_no (L F : Addr) {m : Str} (h1 : ¬ m = "read") (h2 : ¬ m = "held") : (sf L F).lookup m = none := by
  unfold sf
  rw [lookup_putF, if_neg h1, lookup_putF, if_neg h2]
  all_goals rfl
def StmAt (K : PySem.W.Frag) (C : Addr) (H : Hp) (x : Addr) (refs : List V) (rs : List Rc) : Prop := ∃ dx L F fms Te, H x = some (.ins C dx (sf L F)) ∧ H L = some (.lst refs) ∧ refs.length ≤ 400 ∧ RcsAt K H refs rs ∧ Vd T0 0 rs Te 0 ∧ H F = some (.lst fms) ∧ FmsAt K [] H fms (frR 0 0 (0, 0) rs)
theorem StmAt.same {K : PySem.W.Frag} {C x : Addr} {H H' : Hp} {refs : List V} {rs : List Rc} (s : Same H H') (h : StmAt K C H x refs rs) : StmAt K C H' x refs rs := by
  obtain ⟨dx, L, F, fms, Te, h1, h2, h3, h4, h5, h6, h7⟩ := h
  exact ⟨dx, L, F, fms, Te, s _ _ h1, s _ _ h2, h3, h4.lk (.of s), h5, s _ _ h6, h7.imp fun _ _ q => q.same s⟩
def BlAt (K : PySem.W.Frag) (H : Hp) (b : Addr) (f : Fm) : Prop := ∃ jl j, H b = some (.tup [.int (f.1 : Nat), .int (f.2.1 : Nat), .int (f.2.2.1.1 : Nat), .ref jl, .ref j]) ∧ JtV K H jl f.2.2.2.1 ∧ JtAt H j (f.2.2.1.2.1, f.2.2.1.2.2.1)
section
variable {K : PySem.W.Frag} {mg : Str → Option Value} {σ : L2.St} {H : Hp} {Q : VK} {C x L F dx : Addr} {ta : TE}
theorem rd_readV {i : Nat} (T : StmC K mg C) (e : H x = some (.ins C dx (sf L F))) (ei : σ[i]? = some (some (.ref x))) (q : Q (.ref F) H) : tFld K (tVar i) "read" σ H Q := ⟨.ref x, ei, x, C, dx, _, _, rfl, e, T.cl, T.nr, sf_read L F, q⟩
theorem rd_setF {n : L2.St → Hp → Prop} {r : VK} {b c : L2.St → Hp → Prop} {tv : TE} {f : Str} {i : Nat} (h : tv σ H fun y H1 => ∃ x C dx fs, σ[i]? = some (some (.ref x)) ∧ H1 x = some (.ins C dx fs) ∧ Cls K C ∧ NoAttr K C f ∧ fs.length < 1000 ∧ n σ (upd H1 x (.ins C dx (putF f y fs)))) : sFld K (tVar i) tv f ⟨n, r, b, c⟩ σ H := by
  show tv σ H fun y H1 => ∃ v, σ[i]? = some (some v) ∧ ∃ a C dx fs, v = .ref a ∧ H1 a = some (.ins C dx fs) ∧ Cls K C ∧ NoAttr K C f ∧ fs.length < 1000 ∧ n σ (upd H1 a (.ins C dx (putF f y fs)))
  have e : (fun y H1 => ∃ x C dx fs, σ[i]? = some (some (V.ref x)) ∧ H1 x = some (.ins C dx fs) ∧ Cls K C ∧ NoAttr K C f ∧ fs.length < 1000 ∧ n σ (upd H1 x (.ins C dx (putF f y fs)))) = (fun (y : V) (H1 : Hp) => ∃ v, σ[i]? = some (some v) ∧ ∃ a C dx fs, v = V.ref a ∧ H1 a = some (.ins C dx fs) ∧ Cls K C ∧ NoAttr K C f ∧ fs.length < 1000 ∧ n σ (upd H1 a (.ins C dx (putF f y fs)))) := by
    funext y H1
    refine propext ⟨?_, ?_⟩
    · rintro ⟨x, C, dx, fs, e, h⟩
      exact ⟨_, e, x, C, dx, fs, rfl, h⟩
    · rintro ⟨v, e, x, C, dx, fs, rfl, h⟩
      exact ⟨x, C, dx, fs, e, h⟩
  rw [← e]
  exact h
end
def rowsF : Nat → Nat → (Nat × Nat) → Nat → List Rc → List Rw
  | _, _, _, _, [] => []
  | i, pl, lj, _, .st _ :: r => rowsF (i + 1) pl lj i r
  | i, pl, lj, o, .fr d _ _ :: r => (i, pl, d, lj, o) :: rowsF (i + 1) (pl + d.1) (d.2.1, d.2.2.1) o r
theorem run_rows : ∀ (rs : List Rc) (s : Run), (rs.foldl stpR s).rows = s.rows ++ rowsF s.i s.pl s.lj s.o rs
  | [], s => by rw [show rowsF s.i s.pl s.lj s.o [] = [] from rfl, List.append_nil]; rfl
  | .st T :: rs, s => by
    rw [List.foldl_cons, run_rows rs]
    rfl
  | .fr d ns T :: rs, s => by
    rw [List.foldl_cons, run_rows rs]
    show s.rows ++ [(s.i, s.pl, d, s.lj, s.o)] ++ _ = _
    rw [List.append_assoc]
    rfl
theorem runR_rows (rs : List Rc) : (runR rs).rows = rowsF 0 0 (0, 0) 0 rs := run_rows rs ⟨0, 0, (0, 0), 0, []⟩
def RwV (K : PySem.W.Frag) (H : Hp) (v : V) (r : Rw) : Prop := ∃ a jl j, v = .ref a ∧ H a = some (.tup [.int (r.1 : Nat), .int (r.2.1 : Nat), .int (r.2.2.1.1 : Nat), .ref jl, .ref j, .int (r.2.2.1.2.2.2.1 : Nat), .int (r.2.2.1.2.2.2.2 : Nat), .int (r.2.2.2.2 : Nat)]) ∧ JtV K H jl r.2.2.2.1 ∧ JtAt H j (r.2.2.1.2.1, r.2.2.1.2.2.1)
theorem RwV.lk {K : PySem.W.Frag} {H H' : Hp} {v : V} {r : Rw} (s : LK H H') (h : RwV K H v r) : RwV K H' v r := by
  obtain ⟨a, jl, j, e, h1, h2, h3⟩ := h
  exact ⟨a, jl, j, e, s _ _ h1 (fun _ z => nomatch z), h2.lk s, h3.lk s⟩
theorem RwAt.v {K : PySem.W.Frag} {H : Hp} {v : V} {r : Rw} (h : RwAt H v r) : RwV K H v r := by
  obtain ⟨a, jl, j, e, h1, h2, h3⟩ := h
  exact ⟨a, jl, j, e, h1, h2.v, h3⟩
def RwsV (K : PySem.W.Frag) (H : Hp) (vs : List V) (rs : List Rw) : Prop := All2 (RwV K H) vs rs
theorem rd_catT2 {K : PySem.W.Frag} {H : Hp} {Q : VK} {a b : Addr} {xs ys zs : List V} (h : SqT K H a xs) (hb : SqT K H b ys) (n : xs ≠ []) (m : ys ≠ []) (l : xs.length + ys.length ≤ 1000) (ez : xs ++ ys = zs) (q : ∀ p, H p = none → Q (.ref p) (upd H p (.tup zs))) : rCatT K (.ref a) (.ref b) H Q := by
  subst ez
  exact ⟨a, b, xs, ys, rfl, rfl, h, hb, n, Nat.le_of_lt (small1000 l), fun z => absurd z m, fun _ => q⟩
structure II (K : PySem.W.Frag) (D : Addr) (H0 H : Hp) (rs : List Rc) (i : Nat) (idx : List V) (dn : List Rw) (fd : List Fm) (pl : Nat) (lj : Nat × Nat) (o : Nat) : Prop where
  eD : H D = some (.lst idx)
  nD : H0 D = none
  ix : RwsV K H idx dn
  s1 : rowsF 0 0 (0, 0) 0 rs = dn ++ rowsF i pl lj o (rs.drop i)
  s2 : frR 0 0 (0, 0) rs = fd ++ frR i pl lj (rs.drop i)
  ln : dn.length = fd.length
  sm : Same H0 H
  le : dn.length ≤ i
section
variable {K : PySem.W.Frag} {D : Addr} {H0 H H' : Hp} {rs : List Rc} {i pl o : Nat} {idx : List V} {dn : List Rw} {fd : List Fm} {lj : Nat × Nat}
theorem II.same (h : II K D H0 H rs i idx dn fd pl lj o) (s : Same H H') : II K D H0 H' rs i idx dn fd pl lj o :=
  { h with eD := s _ _ h.eD, ix := h.ix.imp fun _ _ q => q.lk (.of s), sm := h.sm.trans s }
theorem II.len (h : II K D H0 H rs i idx dn fd pl lj o) : idx.length ≤ i := by rw [h.ix.len]; exact h.le
theorem II.st (h : II K D H0 H rs i idx dn fd pl lj o) {T' : Tb × Tb} {r : List Rc} (e : rs.drop i = .st T' :: r) (e' : rs.drop (i + 1) = r) : II K D H0 H rs (i + 1) idx dn fd pl lj i := by
  have s1 := h.s1
  have s2 := h.s2
  rw [e] at s1 s2
  exact { h with s1 := by rw [e']; exact s1, s2 := by rw [e']; exact s2, le := Nat.le_succ_of_le h.le }
theorem II.at (h : II K D H0 H rs i idx dn fd pl lj o) {d : Hd} {ns : List Int} {T : Tb × Tb} {r : List Rc} (e : rs.drop i = .fr d ns T :: r) : (frR 0 0 (0, 0) rs)[idx.length]? = some (i, pl, d, lj, ns, T) := by
  have s2 := h.s2
  rw [e] at s2
  rw [s2, h.ix.len, h.ln, List.getElem?_append_right (Nat.le_refl _), Nat.sub_self]
  rfl
theorem II.fr (h : II K D H0 H rs i idx dn fd pl lj o) {d : Hd} {ns : List Int} {T : Tb × Tb} {r : List Rc} (e : rs.drop i = .fr d ns T :: r) (e' : rs.drop (i + 1) = r) {v : V} (hv : RwV K H v (i, pl, d, lj, o)) :
    II K D H0 (upd H D (.lst (idx ++ [v]))) rs (i + 1) (idx ++ [v]) (dn ++ [(i, pl, d, lj, o)]) (fd ++ [(i, pl, d, lj, ns, T)]) (pl + d.1) (d.2.1, d.2.2.1) o := by
  have s1 := h.s1
  have s2 := h.s2
  rw [e] at s1 s2
  have lk : LK H (upd H D (.lst (idx ++ [v]))) := LK.at h.eD
  exact { eD := upd_same, nD := h.nD, ix := (h.ix.imp fun _ _ q => q.lk lk).app (hv.lk lk)
          s1 := by rw [e', s1, List.append_assoc]; rfl
          s2 := by rw [e', s2, List.append_assoc]; rfl
          ln := by rw [List.length_append, List.length_append, h.ln]; rfl
          sm := fun b x eb => by rw [upd_ne (ne_of_none eb h.nD)]; exact h.sm _ _ eb
          le := by rw [List.length_append]; exact Nat.succ_le_succ h.le }
end
theorem RwsAt.v {K : PySem.W.Frag} {H : Hp} {vs : List V} {rs : List Rw} (h : RwsAt H vs rs) : RwsV K H vs rs := h.imp fun _ _ q => q.v
theorem RwsV.lk {K : PySem.W.Frag} {H H' : Hp} {vs : List V} {rs : List Rw} (s : LK H H') (h : RwsV K H vs rs) : RwsV K H' vs rs := h.imp fun _ _ q => q.lk s
theorem rd_mk {σ : L2.St} {H : Hp} {Q : VK} {C : Addr} {sp : Sp} {dvs : List V} {E : XK} {t : TA} (h : t σ H fun vs H1 => ∀ (x dx : Addr), H1 x = none → H1 dx = none → dx ≠ x → sp (.ref x :: (vs ++ dvs)) (upd (upd H1 dx (.own x)) x (.ins C dx [])) (fun v H2 => v = .non ∧ Q (.ref x) H2) E) : tMake C sp dvs E t σ H Q := h
end Z
namespace Z
open PySem PySem.Spec PyProof.Rows L2
section
variable {σ : L2.St} {H : Hp} {n : L2.St → Hp → Prop} {r : VK} {b c : L2.St → Hp → Prop} {te : TE}
theorem rd_aug {i : Nat} {ti : TIp} {x : V} (e : σ[i]? = some (some x)) (h : te σ H fun y H1 => ti x y H1 fun z H2 => n (σ.set i (some z)) H2) : tAug i te ti ⟨n, r, b, c⟩ σ H := ⟨x, e, h⟩
theorem rd_ipI {f : Int → Int → Int} {i j : Int} {Q : VK} (h : Q (.int (f i j)) H) : ipI f (.int i) (.int j) H Q := ⟨i, j, rfl, rfl, h⟩
end
def spTakeB : Sp := fun vs H Q _ => ∃ (p : Addr) (m : Int), vs = [.ref p, .int m] ∧ Pool H p ∧ 0 < m ∧ m < 18446744073709551616 ∧ ∀ r H', 0 ≤ r → r < m → Pool H' p → Kp p H H' → Q (.int r) H'
theorem use_takeB {p : Addr} {m : Int} {H : Hp} {Q : VK} {E : XK} (h1 : Pool H p) (h2 : 0 < m) (h3 : m < 18446744073709551616) (q : ∀ r H', 0 ≤ r → r < m → Pool H' p → Kp p H H' → Q (.int r) H') : spTakeB ([.ref p, .int m] ++ []) H Q E := ⟨p, m, rfl, h1, h2, h3, q⟩
abbrev Sz := Int × Int
def SzAt (H : Hp) (v : V) (s : Sz) : Prop := ∃ a, v = .ref a ∧ H a = some (.tup [.int s.1, .int s.2])
def SzsAt (H : Hp) (vs : List V) (ss : List Sz) : Prop := All2 (SzAt H) vs ss
def LKT (H H' : Hp) : Prop := ∀ b o, H b = some o → (∀ xs, o ≠ .lst xs) → H' b = some o
theorem SzsAt.lk {H H' : Hp} {vs : List V} {ss : List Sz} (s : LKT H H') (h : SzsAt H vs ss) : SzsAt H' vs ss := h.imp fun _ _ ⟨a, e, q⟩ => ⟨a, e, s _ _ q (fun _ z => nomatch z)⟩
theorem LKT.of {H H' : Hp} (s : Same H H') : LKT H H' := fun b o e _ => s b o e
theorem LKT.new {H : Hp} {q : Addr} {o : HO} (n : H q = none) : LKT H (upd H q o) := .of (same_new n)
theorem LKT.trans {H H1 H2 : Hp} (a : LKT H H1) (b : LKT H1 H2) : LKT H H2 := fun x o e n => b x o (a x o e n) n
theorem LKT.at {H : Hp} {q : Addr} {o : HO} {ys : List V} (n : H q = some (.lst ys)) : LKT H (upd H q o) := fun b x e nl => by
  rw [upd_ne (fun z => by rw [z, n] at e; cases e; exact nl _ rfl)]
  exact e
theorem SzsAt.same {H H' : Hp} {vs : List V} {ss : List Sz} (s : Same H H') (h : SzsAt H vs ss) : SzsAt H' vs ss := h.lk (.of s)
theorem All2.at_ {α β : Type} {R : α → β → Prop} {as : List α} {bs : List β} (h : All2 R as bs) : ∀ (i : Nat) (a : α), as[i]? = some a → ∃ b, bs[i]? = some b ∧ R a b ∧ bs.drop i = b :: bs.drop (i + 1) := by
  induction h with
  | nil => intro i a e; simp at e
  | @cons a b as bs h t ih =>
    intro i x e
    cases i with
    | zero => cases e; exact ⟨b, rfl, h, rfl⟩
    | succ i => exact ih i x e
end Z
namespace Z
open PySem PySem.Spec PyProof.Rows L2
def rend (r : Rw) : Nat := r.2.1 + r.2.2.1.1
def rnear (r : Rw) : Int := (r.2.1 : Int) - (r.2.2.2.1.1 : Int)
def rfar (r : Rw) : Int := (r.2.1 : Int) + (r.2.2.1.1 : Int) + (r.2.2.1.2.1 : Int)
def lenW (rows : List Rw) : Nat := match rows.getLast? with
  | none => 0
  | some r => rend r
structure RwO (r : Rw) : Prop where
  o : r.2.2.2.2 ≤ r.1
  l1 : 1 ≤ r.2.2.1.1
  l2 : r.2.2.1.1 ≤ 64
  w : r.2.2.1.2.1 ≤ 8
  v : r.2.2.2.1.1 ≤ 8
structure RunO (s : Run) : Prop where
  each : ∀ r ∈ s.rows, RwO r ∧ r.1 < s.i ∧ r.2.2.2.2 ≤ s.o ∧ rend r ≤ s.pl
  asc : s.rows.Pairwise fun a b => a.1 < b.1 ∧ a.2.2.2.2 ≤ b.2.2.2.2
  last : lenW s.rows = s.pl
  oi : s.o ≤ s.i
  pl : s.pl ≤ 64 * s.rows.length
  lj : s.lj.1 ≤ 8
  le : s.rows.length ≤ s.i
theorem RunO.step {s : Run} {r : Rc} (h : RunO s) (ok : RcOk r) : RunO (stpR s r) := by
  cases r with
  | st T =>
    exact { each := fun r hr => by
              obtain ⟨a, b, c, d⟩ := h.each r hr
              exact ⟨a, by show r.1 < s.i + 1; omega, by show _ ≤ s.i; have := a.o; omega, d⟩
            asc := h.asc, last := h.last, oi := Nat.le_succ s.i, pl := h.pl, lj := h.lj, le := Nat.le_succ_of_le h.le }
  | fr d ns T =>
    obtain ⟨hd, _, _, _⟩ := id ok
    obtain ⟨d1, d2, d3, _⟩ := hd
    have hlen : (s.rows ++ [(s.i, s.pl, d, s.lj, s.o)]).length = s.rows.length + 1 := by simp
    exact { each := fun r hr => by
              rcases List.mem_append.mp hr with hr | hr
              · obtain ⟨a, b, c, e⟩ := h.each r hr
                exact ⟨a, by show r.1 < s.i + 1; omega, c, by show _ ≤ s.pl + d.1; omega⟩
              · rw [List.mem_singleton.mp hr]
                exact ⟨⟨h.oi, d1, d2, d3, h.lj⟩, Nat.lt_succ_self _, Nat.le_refl _, Nat.le_refl _⟩
            asc := by
              show (s.rows ++ [(s.i, s.pl, d, s.lj, s.o)]).Pairwise _
              rw [List.pairwise_append]
              refine ⟨h.asc, List.pairwise_singleton _ _, fun a ha b hb => ?_⟩
              rw [List.mem_singleton.mp hb]
              exact ⟨(h.each a ha).2.1, (h.each a ha).2.2.1⟩
            last := by
              show lenW (s.rows ++ [(s.i, s.pl, d, s.lj, s.o)]) = s.pl + d.1
              unfold lenW
              rw [List.getLast?_append]
              rfl
            oi := Nat.le_succ_of_le h.oi
            pl := by
              show s.pl + d.1 ≤ 64 * (s.rows ++ [(s.i, s.pl, d, s.lj, s.o)]).length
              rw [hlen]
              have := h.pl
              omega
            lj := d3
            le := by
              show (s.rows ++ [(s.i, s.pl, d, s.lj, s.o)]).length ≤ s.i + 1
              rw [hlen]
              have := h.le
              omega }
theorem RunO.fold : ∀ (rs : List Rc) (s : Run), RunO s → (∀ r ∈ rs, RcOk r) → RunO (rs.foldl stpR s)
  | [], _, h, _ => h
  | r :: rs, s, h, ok => RunO.fold rs _ (h.step (ok r List.mem_cons_self)) fun x hx => ok x (List.mem_cons_of_mem _ hx)
theorem runO {rs : List Rc} (ok : ∀ r ∈ rs, RcOk r) : RunO (runR rs) := RunO.fold rs _ { each := fun r hr => (List.not_mem_nil hr).elim, asc := .nil, last := rfl, oi := Nat.le_refl _, pl := Nat.le_refl _, lj := Nat.zero_le _, le := Nat.le_refl _ } ok
def selW (s e : Int) (r : Rw) : Bool := decide (rnear r < e) && decide (s < rfar r)
def ndW (s e : Int) (rows : List Rw) : List Rw := if s = e then [] else rows.filter (selW s e)
end Z
namespace Z
open PySem PySem.Spec PyProof.Rows L2
theorem RwV.same {K : PySem.W.Frag} {H H' : Hp} {v : V} {r : Rw} (s : Same H H') (h : RwV K H v r) : RwV K H' v r := h.lk (.of s)
theorem RwsV.same {K : PySem.W.Frag} {H H' : Hp} {vs : List V} {rs : List Rw} (s : Same H H') (h : RwsV K H vs rs) : RwsV K H' vs rs := h.imp fun _ _ q => q.same s
/-- rows that stand in order -/
structure RowsO (rows : List Rw) : Prop where
  each : ∀ r ∈ rows, RwO r ∧ r.1 < 40
  asc : rows.Pairwise fun a b => a.1 < b.1 ∧ a.2.2.2.2 ≤ b.2.2.2.2
theorem RowsO.sub {rows sel : List Rw} (h : RowsO rows) (s : sel.Sublist rows) : RowsO sel := ⟨fun r hr => h.each r (s.subset hr), h.asc.sublist s⟩
theorem RunO.rows {s : Run} (h : RunO s) (i : s.i ≤ 40) : RowsO s.rows := ⟨fun r hr => ⟨(h.each r hr).1, by have := (h.each r hr).2.1; omega⟩, h.asc⟩
end Z
namespace Z
open PySem PySem.Spec PyProof.Rows L2
def ixsW (f : Rw → Bool) (rows : List Rw) (i : Nat) : List Nat := (List.range i).filter fun j => match rows[j]? with
  | some r => f r
  | none => false
theorem RowsO.near {rows : List Rw} (o : RowsO rows) {r : Rw} (h : r ∈ rows) : rnear r < rfar r := by
  have := (o.each r h).1.l1
  unfold rnear rfar
  omega
end Z
namespace Z
open PySem PySem.Spec PyProof.Rows L2
/-- the words of a record -/
def numsR : Rc → List Int
  | .st T => [T.1.1, T.1.2, T.2.1, T.2.2]
  | .fr d ns T => [d.1, d.2.1, d.2.2.1, d.2.2.2.1, d.2.2.2.2, markF ns]
def wordsR : Rc → List Str
  | .st T => Str.ofString "state" :: ((numsR (.st T)).map fun z => ((toString z : String) : Str))
  | .fr d ns T => Str.ofString "frame" :: ((numsR (.fr d ns T)).map fun z => ((toString z : String) : Str)) ++ [SX.S (bitsF d ns T)]
theorem nums_small {r : Rc} (ok : RcOk r) : ∀ z ∈ numsR r, z.natAbs < 2 ^ 200 := by
  cases r with
  | st T =>
    obtain ⟨⟨a1, a2, a3, a4⟩, b1, b2, b3, b4⟩ := ok
    intro z hz
    simp only [numsR, List.mem_cons, List.not_mem_nil, or_false] at hz
    rcases hz with rfl | rfl | rfl | rfl <;> omega
  | fr d ns T =>
    obtain ⟨⟨h1, h2, h3, h4, h5, h6, h7, h8⟩, _⟩ := ok
    have hm := markF_bound ns
    intro z hz
    simp only [numsR, List.mem_cons, List.not_mem_nil, or_false] at hz
    rcases hz with rfl | rfl | rfl | rfl | rfl | rfl <;> omega
theorem encB_pos (u k : Nat) : 1 ≤ (encB u k).length := by
  unfold encB
  split
  · simp only [List.length_append, List.length_cons, List.length_nil]
    omega
  · simp only [List.length_append, List.length_cons, List.length_nil]
    omega
theorem str_S (x : Str) : x = SX.S x.cps.toList := rfl
theorem rd_addX {i j : Str} {H : Hp} {Q : VK} (l : i.length + j.length ≤ 16777216) (h : Q (.str (i ++ j)) H) : rAddT (.str i) (.str j) H Q := ⟨i.cps.toList, j.cps.toList, congrArg V.str (str_S i), congrArg V.str (str_S j), l, by
  have e : SX.S (i.cps.toList ++ j.cps.toList) = i ++ j := by rw [← SX.S_cat, ← str_S, ← str_S]
  rw [e]
  exact h⟩
theorem same_mk {H : Hp} {x dx : Addr} {o : HO} (hx : H x = none) (hdx : H dx = none) : Same H (upd (upd H dx (.own x)) x o) := fun b u e => by
  rw [upd_ne (ne_of_none e hx), upd_ne (ne_of_none e hdx)]
  exact e
end Z
namespace Z
open PySem PySem.Spec PyProof.Rows L2
def hitL (ns : List Int) (r : Rw) : Bool := !((ns.filter fun x => decide ((r.2.2.2.2 : Int) ≤ x) && decide (x ≤ (r.1 : Int))).isEmpty)
theorem hitL_iff {ns : List Int} {r : Rw} : hitL ns r = true ↔ ∃ x ∈ ns, (r.2.2.2.2 : Int) ≤ x ∧ x ≤ (r.1 : Int) := by
  unfold hitL
  rw [Bool.not_eq_true', List.isEmpty_eq_false_iff, ne_eq, List.filter_eq_nil_iff]
  constructor
  · intro h
    by_cases c : ∃ x ∈ ns, (r.2.2.2.2 : Int) ≤ x ∧ x ≤ (r.1 : Int)
    · exact c
    · refine (h fun x hx z => c ⟨x, hx, ?_⟩).elim
      rw [Bool.and_eq_true, decide_eq_true_eq, decide_eq_true_eq] at z
      exact z
  · rintro ⟨x, hx, h1, h2⟩ h
    exact h x hx (by rw [decide_eq_true h1, decide_eq_true h2]; rfl)
abbrev Iv := Int × Int
def cov (S : List Iv) (p : Int) : Bool := S.any fun v => decide (v.1 ≤ p) && decide (p < v.2)
theorem cov_iff {S : List Iv} {p : Int} : cov S p = true ↔ ∃ v ∈ S, v.1 ≤ p ∧ p < v.2 := by
  unfold cov
  rw [List.any_eq_true]
  constructor
  · rintro ⟨v, h, q⟩
    rw [Bool.and_eq_true, decide_eq_true_eq, decide_eq_true_eq] at q
    exact ⟨v, h, q⟩
  · rintro ⟨v, h, q1, q2⟩
    exact ⟨v, h, by rw [decide_eq_true q1, decide_eq_true q2]; rfl⟩
def mg1 (S : List Iv) (v : Iv) : List Iv := match S.getLast? with
  | none => [v]
  | some u => if v.1 ≤ u.2 then S.dropLast ++ [(u.1, v.2)] else S ++ [v]
def mgA (vs : List Iv) : List Iv := vs.foldl mg1 []
theorem mg1_nil (v : Iv) : mg1 [] v = [v] := rfl
theorem mg1_yes {S : List Iv} {u v : Iv} (h : v.1 ≤ u.2) : mg1 (S ++ [u]) v = S ++ [(u.1, v.2)] := by
  unfold mg1
  rw [List.getLast?_concat]
  show (if v.1 ≤ u.2 then _ else _) = _
  rw [if_pos h, List.dropLast_concat]
theorem mg1_no {S : List Iv} {u v : Iv} (h : ¬ v.1 ≤ u.2) : mg1 (S ++ [u]) v = S ++ [u] ++ [v] := by
  unfold mg1
  rw [List.getLast?_concat]
  show (if v.1 ≤ u.2 then _ else _) = _
  rw [if_neg h]
theorem last_or {α : Type} (xs : List α) : xs = [] ∨ ∃ ys x, xs = ys ++ [x] := by
  cases h : xs.getLast? with
  | none => exact .inl (List.getLast?_eq_none_iff.mp h)
  | some x =>
    obtain ⟨ys, e⟩ := List.getLast?_eq_some_iff.mp h
    exact .inr ⟨ys, x, e⟩
structure MgI (S pre : List Iv) : Prop where
  ok : ∀ v ∈ S, v.1 < v.2
  sep : S.Pairwise fun a b => a.2 < b.1
  cv : ∀ p, cov S p = cov pre p
  l1 : ∀ u, S.getLast? = some u → (∃ w ∈ pre, u.1 = w.1) ∧ ∃ w ∈ pre, u.2 = w.2
theorem MgI.step {S pre : List Iv} {v : Iv} (h : MgI S pre) (hv : v.1 < v.2) (hm : ∀ w ∈ pre, w.1 ≤ v.1 ∧ w.2 ≤ v.2) : MgI (mg1 S v) (pre ++ [v]) := by
  have covs : ∀ (A B : List Iv) p, cov (A ++ B) p = (cov A p || cov B p) := fun A B p => List.any_append
  rcases last_or S with rfl | ⟨S0, u, rfl⟩
  · rw [mg1_nil]
    refine ⟨fun w hw => by rw [List.mem_singleton.mp hw]; exact hv, List.pairwise_singleton _ _, fun p => ?_, fun u hu => ?_⟩
    · have e := h.cv p
      rw [covs, ← e]
      rfl
    · cases hu
      exact ⟨⟨v, List.mem_append_right _ List.mem_cons_self, rfl⟩, ⟨v, List.mem_append_right _ List.mem_cons_self, rfl⟩⟩
  · obtain ⟨⟨w1, hw1, e1⟩, w2, hw2, e2⟩ := h.l1 u List.getLast?_concat
    have b1 := (hm w1 hw1).1
    have b2 := (hm w2 hw2).2
    have hu := h.ok u (List.mem_append_right _ List.mem_cons_self)
    obtain ⟨p1, p2, p3⟩ := List.pairwise_append.mp h.sep
    by_cases c : v.1 ≤ u.2
    · rw [mg1_yes c]
      refine ⟨fun w hw => ?_, ?_, fun p => ?_, fun w hw => ?_⟩
      · rcases List.mem_append.mp hw with hw | hw
        · exact h.ok w (List.mem_append_left _ hw)
        · rw [List.mem_singleton.mp hw]
          show u.1 < v.2
          omega
      · refine List.pairwise_append.mpr ⟨p1, List.pairwise_singleton _ _, fun a ha b hb => ?_⟩
        rw [List.mem_singleton.mp hb]
        exact p3 a ha u List.mem_cons_self
      · have e := h.cv p
        rw [covs] at e ⊢
        rw [covs, ← e]
        have e3 : cov [(u.1, v.2)] p = (cov [u] p || cov [v] p) := by
          show ((decide (u.1 ≤ p) && decide (p < v.2)) || false) = (((decide (u.1 ≤ p) && decide (p < u.2)) || false) || ((decide (v.1 ≤ p) && decide (p < v.2)) || false))
          rw [Bool.eq_iff_iff]
          simp only [Bool.or_eq_true, Bool.and_eq_true, decide_eq_true_eq, Bool.false_eq_true, or_false]
          omega
        rw [e3, Bool.or_assoc]
      · rw [List.getLast?_concat] at hw
        cases hw
        exact ⟨⟨w1, List.mem_append_left _ hw1, e1⟩, ⟨v, List.mem_append_right _ List.mem_cons_self, rfl⟩⟩
    · rw [mg1_no c]
      refine ⟨fun w hw => ?_, ?_, fun p => ?_, fun w hw => ?_⟩
      · rcases List.mem_append.mp hw with hw | hw
        · exact h.ok w hw
        · rw [List.mem_singleton.mp hw]
          exact hv
      · refine List.pairwise_append.mpr ⟨h.sep, List.pairwise_singleton _ _, fun a ha b hb => ?_⟩
        rw [List.mem_singleton.mp hb]
        rcases List.mem_append.mp ha with ha | ha
        · have := p3 a ha u List.mem_cons_self
          omega
        · rw [List.mem_singleton.mp ha]
          omega
      · rw [covs (S0 ++ [u]) [v], covs pre [v], h.cv p]
      · rw [List.getLast?_concat] at hw
        cases hw
        exact ⟨⟨v, List.mem_append_right _ List.mem_cons_self, rfl⟩, ⟨v, List.mem_append_right _ List.mem_cons_self, rfl⟩⟩
theorem MgI.fold : ∀ (vs S pre : List Iv), MgI S pre → (∀ v ∈ vs, v.1 < v.2) → ((pre ++ vs).Pairwise fun a b => a.1 ≤ b.1 ∧ a.2 ≤ b.2) → MgI (vs.foldl mg1 S) (pre ++ vs)
  | [], S, pre, h, _, _ => by rw [List.append_nil]; exact h
  | v :: vs, S, pre, h, hv, hp => by
    have e : pre ++ v :: vs = (pre ++ [v]) ++ vs := by rw [List.append_assoc]; rfl
    rw [e] at hp ⊢
    refine MgI.fold vs _ _ (h.step (hv v List.mem_cons_self) fun w hw => ?_) (fun w hw => hv w (List.mem_cons_of_mem _ hw)) hp
    exact (List.pairwise_append.mp (List.pairwise_append.mp hp).1).2.2 w hw v List.mem_cons_self
theorem mgA_ok {vs : List Iv} (hv : ∀ v ∈ vs, v.1 < v.2) (hp : vs.Pairwise fun a b => a.1 ≤ b.1 ∧ a.2 ≤ b.2) : MgI (mgA vs) vs := by
  have h := MgI.fold vs [] [] ⟨fun v h => (List.not_mem_nil h).elim, .nil, fun _ => rfl, fun u h => nomatch h⟩ hv hp
  exact h
def ivW (r : Rw) : Iv := (rnear r, rfar r)
structure RowsM (rows : List Rw) (N : Nat) : Prop where
  lo : ∀ r ∈ rows, 0 ≤ rnear r
  hi : ∀ r ∈ rows, rfar r ≤ N
  ne : ∀ r ∈ rows, rnear r < rfar r
  mo : rows.Pairwise fun a b => rnear a ≤ rnear b ∧ rfar a ≤ rfar b
def plE : List Rc → Nat
  | [] => 0
  | .st _ :: r => plE r
  | .fr d _ _ :: r => d.1 + plE r
theorem foldl_pl : ∀ (rs : List Rc) (s : Run), (rs.foldl stpR s).pl = s.pl + plE rs
  | [], s => rfl
  | .st T :: rs, s => foldl_pl rs _
  | .fr d ns T :: rs, s => by
    rw [List.foldl_cons, foldl_pl rs]
    show s.pl + d.1 + plE rs = s.pl + (d.1 + plE rs)
    omega
theorem rowsF_mono : ∀ (rs : List Rc) (i pl : Nat) (lj : Nat × Nat) (o : Nat) {T T2 : Tb × Tb} {l2 : Nat}, Vd T lj.1 rs T2 l2 → lj.1 ≤ pl →
    (pl + lj.1 ≤ pl + plE rs + l2) ∧ (∀ r ∈ rowsF i pl lj o rs, (pl : Int) - lj.1 ≤ rnear r ∧ (pl : Int) + lj.1 ≤ rfar r ∧ rnear r < rfar r ∧ rfar r ≤ (pl + plE rs + l2 : Nat)) ∧ (rowsF i pl lj o rs).Pairwise fun a b => rnear a ≤ rnear b ∧ rfar a ≤ rfar b
  | [], i, pl, lj, o, T, T2, l2, h, _ => by
    have e : lj.1 = l2 := h.2
    exact ⟨by rw [e]; exact Nat.le_refl _, fun r hr => (List.not_mem_nil hr).elim, .nil⟩
  | .st T' :: rs, i, pl, lj, o, T, T2, l2, h, hp => rowsF_mono rs (i + 1) pl lj i h.2 hp
  | .fr d ns T' :: rs, i, pl, lj, o, T, T2, l2, h, hp => by
    obtain ⟨_, hd, hl, _, _, _, hv⟩ := h
    have d1 := hd.1
    obtain ⟨a, b, c⟩ := rowsF_mono rs (i + 1) (pl + d.1) (d.2.1, d.2.2.1) o hv (by show d.2.1 ≤ pl + d.1; omega)
    have a : pl + d.1 + d.2.1 ≤ pl + d.1 + plE rs + l2 := a
    have ep : plE (.fr d ns T' :: rs) = d.1 + plE rs := rfl
    have n0 : rnear (i, pl, d, lj, o) = (pl : Int) - (lj.1 : Nat) := rfl
    have f0 : rfar (i, pl, d, lj, o) = (pl : Int) + (d.1 : Nat) + (d.2.1 : Nat) := rfl
    refine ⟨by rw [ep]; omega, fun r hr => ?_, List.pairwise_cons.mpr ⟨fun r hr => ?_, c⟩⟩
    · rcases List.mem_cons.mp hr with rfl | hr
      · rw [n0, f0, ep]
        refine ⟨by omega, by omega, by omega, by push_cast; omega⟩
      · obtain ⟨b1, b2, b3, b4⟩ := b r hr
        have b1 : ((pl + d.1 : Nat) : Int) - (d.2.1 : Nat) ≤ rnear r := b1
        have b2 : ((pl + d.1 : Nat) : Int) + (d.2.1 : Nat) ≤ rfar r := b2
        rw [ep]
        refine ⟨by omega, by omega, b3, by push_cast at b4 ⊢; omega⟩
    · obtain ⟨b1, b2, b3, b4⟩ := b r hr
      have b1 : ((pl + d.1 : Nat) : Int) - (d.2.1 : Nat) ≤ rnear r := b1
      have b2 : ((pl + d.1 : Nat) : Int) + (d.2.1 : Nat) ≤ rfar r := b2
      rw [n0, f0]
      exact ⟨by omega, by omega⟩
theorem rowsM_of {rs : List Rc} {T : Tb × Tb} (h : Vd T0 0 rs T 0) : RowsM (runR rs).rows (lenW (runR rs).rows) := by
  obtain ⟨a, b, c⟩ := rowsF_mono rs 0 0 (0, 0) 0 h (Nat.zero_le _)
  have e : lenW (runR rs).rows = plE rs := by
    rw [(runO h.ok).last]
    show (rs.foldl stpR ⟨0, 0, (0, 0), 0, []⟩).pl = _
    rw [foldl_pl]
    exact Nat.zero_add _
  rw [e]
  rw [← runR_rows] at b c
  exact ⟨fun r hr => by have := (b r hr).1; exact this, fun r hr => by have := (b r hr).2.2.2; rw [Nat.zero_add, Nat.add_zero] at this; exact this, fun r hr => (b r hr).2.2.1, c⟩
/-- the rows at these places -/
def rowsAt (rows : List Rw) (js : List Nat) : List Rw := js.filterMap fun j => rows[j]?
theorem rowsAt_mem {rows : List Rw} {js : List Nat} {r : Rw} (h : r ∈ rowsAt rows js) : r ∈ rows := by
  obtain ⟨j, _, e⟩ := List.mem_filterMap.mp h
  exact List.mem_of_getElem? e
theorem rowsAt_mono {rows : List Rw} {N : Nat} (m : RowsM rows N) : ∀ {js : List Nat}, js.Pairwise (· < ·) → (rowsAt rows js).Pairwise fun a b => rnear a ≤ rnear b ∧ rfar a ≤ rfar b
  | [], _ => .nil
  | j :: js, h => by
    obtain ⟨h1, h2⟩ := List.pairwise_cons.mp h
    have ih := rowsAt_mono m h2
    cases e : rows[j]? with
    | none =>
      have e2 : rowsAt rows (j :: js) = rowsAt rows js := List.filterMap_cons_none e
      rw [e2]
      exact ih
    | some r =>
      have e2 : rowsAt rows (j :: js) = r :: rowsAt rows js := List.filterMap_cons_some e
      rw [e2]
      refine List.pairwise_cons.mpr ⟨fun s hs => ?_, ih⟩
      obtain ⟨k, hk, ek⟩ := List.mem_filterMap.mp hs
      have lt := h1 k hk
      obtain ⟨a1, a2⟩ := List.getElem?_eq_some_iff.mp e
      obtain ⟨b1, b2⟩ := List.getElem?_eq_some_iff.mp ek
      have := List.pairwise_iff_getElem.mp m.mo j k a1 b1 lt
      rw [a2, b2] at this
      exact this
def PrAt (H : Hp) (v : V) (p : Iv) : Prop := ∃ t, v = .ref t ∧ H t = some (.tup [.int p.1, .int p.2])
def PrsAt (H : Hp) (vs : List V) (ps : List Iv) : Prop := All2 (PrAt H) vs ps
theorem PrAt.lk {H H' : Hp} {v : V} {p : Iv} (s : LK H H') (h : PrAt H v p) : PrAt H' v p := let ⟨t, e, q⟩ := h; ⟨t, e, s _ _ q fun _ z => nomatch z⟩
theorem PrsAt.lk {H H' : Hp} {vs : List V} {ps : List Iv} (s : LK H H') (h : PrsAt H vs ps) : PrsAt H' vs ps := h.imp fun _ _ q => q.lk s
def tchW (rows : List Rw) (ns : List Int) : List Iv := mgA ((rowsAt rows (ixsW (hitL ns) rows rows.length)).map ivW)
end Z
namespace Z
open PySem PySem.Spec PyProof.Rows L2
/-- length, width, shape of frames that follow each other -/
abbrev Fw := Nat × Nat × Nat
def Chn : Nat → List Fw → Prop
  | _, [] => True
  | wb, f :: r => 1 ≤ f.1 ∧ wb + f.2.1 ≤ f.1 ∧ f.2.1 ≤ 8 ∧ f.2.2 ≤ 3 ∧ (f.2.1 = 0 → f.2.2 = 0) ∧ Chn f.2.1 r
theorem Chn.low {wb : Nat} : ∀ {fs : List Fw}, Chn wb fs → Chn 0 fs
  | [], _ => trivial
  | f :: r, ⟨h1, h2, h3⟩ => ⟨h1, by omega, h3⟩
def plJ : Nat → List Fw → List Jo
  | _, [] => []
  | p, f :: r => (p + f.1, f.2.1, f.2.2) :: plJ (p + f.1) r
def totW (fs : List Fw) : Nat := (fs.map (·.1)).sum
theorem totW_cons (f : Fw) (r : List Fw) : totW (f :: r) = f.1 + totW r := by unfold totW; rw [List.map_cons, List.sum_cons]
theorem plJ_rm : ∀ (fs : List Fw) (p wb n : Nat), Chn wb fs → n = p + totW fs → Rm n p wb (plJ p fs).dropLast
  | [], _, _, _, _, _ => trivial
  | [f], _, _, _, _, _ => trivial
  | f :: g :: r, p, wb, n, ⟨h1, h2, h3, h4, h5, h6⟩, hn => by
    have ih := plJ_rm (g :: r) (p + f.1) f.2.1 n h6 (by rw [hn, totW_cons]; omega)
    obtain ⟨g1, g2, _⟩ := h6
    rw [totW_cons, totW_cons] at hn
    exact ⟨by show p < p + f.1; omega, by show p + f.1 < n; omega, by show p + wb + f.2.1 ≤ p + f.1; omega, by show p + f.1 + f.2.1 ≤ n; omega, h3, h4, h5, ih⟩
/-- the samples -/
def sndW (fs : List Fw) (bs : List (List Int)) : List Int := turnL unfoldP bs.flatten (plJ 0 fs).dropLast
def fwR : List Rc → List Fw
  | [] => []
  | .st _ :: r => fwR r
  | .fr d _ _ :: r => (d.1, d.2.1, d.2.2.1) :: fwR r
theorem Vd.chn : ∀ {rs : List Rc} {T : Tb × Tb} {l : Nat} {T2 : Tb × Tb} {l2 : Nat}, Vd T l rs T2 l2 → Chn l (fwR rs)
  | [], _, _, _, _, _ => trivial
  | .st _ :: rs, _, _, _, _, ⟨_, q⟩ => Vd.chn (rs := rs) q
  | .fr d ns T' :: rs, _, _, _, _, ⟨_, hd, h3, _, _, _, q⟩ => ⟨hd.1, h3, hd.2.2.1, hd.2.2.2.1, hd.2.2.2.2.1, Vd.chn (rs := rs) q⟩
def bkF (f : Fm) : List Int := kfB f.2.2.1 f.2.2.2.2.1
theorem frR_le : ∀ (rs : List Rc) (i pl : Nat) (lj : Nat × Nat), (frR i pl lj rs).length ≤ rs.length
  | [], _, _, _ => Nat.le_refl _
  | .st _ :: rs, i, pl, lj => Nat.le_succ_of_le (frR_le rs (i + 1) pl lj)
  | .fr d ns T :: rs, i, pl, lj => Nat.succ_le_succ (frR_le rs (i + 1) (pl + d.1) (d.2.1, d.2.2.1))
def BsAt (H : Hp) (vs : List V) (bs : List (List Int)) : Prop := All2 (fun v b => ∃ q, v = .ref q ∧ H q = some (.lst (b.map V.int))) vs bs
theorem BsAt.same {H H' : Hp} {vs : List V} {bs : List (List Int)} (s : Same H H') (h : BsAt H vs bs) : BsAt H' vs bs := h.imp fun _ _ ⟨q, e, h⟩ => ⟨q, e, s _ _ h⟩
def JfAt (H : Hp) (vs : List V) (fs : List Fw) : Prop := All2 (fun v f => ∃ j, v = .ref j ∧ JtAt H j (f.2.1, f.2.2)) vs fs
theorem JfAt.same {H H' : Hp} {vs : List V} {fs : List Fw} (s : Same H H') (h : JfAt H vs fs) : JfAt H' vs fs := h.imp fun _ _ ⟨q, e, h⟩ => ⟨q, e, s _ _ h⟩
theorem All2.at2 {α β : Type} {R : α → β → Prop} {as : List α} {bs : List β} (h : All2 R as bs) {i : Nat} {a : α} (e : as[i]? = some a) : ∃ b, bs[i]? = some b ∧ R a b := by
  obtain ⟨b, r, h1, h2, h3⟩ := h.get _ _ e
  refine ⟨b, ?_, h1⟩
  have := congrArg (fun l => l[0]?) h2
  simpa using this
theorem cut_drop (xs : List V) : cutV xs none (some (-1)) = xs.dropLast := by
  unfold cutV
  rw [HT.sIx_none, List.drop_zero, Nat.sub_zero, List.dropLast_eq_take]
  congr 1
  show (if (-1 : Int) < 0 then ((-1 : Int) + (xs.length : Int)).toNat else min (-1 : Int).toNat xs.length) = xs.length - 1
  rw [if_pos (by decide)]
  omega
theorem rd_slD {K : PySem.W.Frag} {H : Hp} {Q : VK} {a : Addr} {xs : List V} (h : SqL K H a xs) (q : ∀ p, H p = none → Q (.ref p) (upd H p (.lst xs.dropLast))) : rSlL K (.ref a) none (some (-1)) H Q := ⟨a, xs, rfl, h, fun p hp => by rw [cut_drop]; exact q p hp⟩
theorem JsAt.drop {H : Hp} {vs : List V} {js : List Jo} (h : JsAt H vs js) : JsAt H vs.dropLast js.dropLast := ⟨by rw [List.length_dropLast, List.length_dropLast, h.1], fun i v e => by
  have hl : i < vs.length - 1 := by
    have := (List.getElem?_eq_some_iff.mp e).1
    rw [List.length_dropLast] at this
    exact this
  rw [List.dropLast_eq_take, List.getElem?_take_of_lt (by omega)] at e
  obtain ⟨j, a, q, e1, e2, e3, e4⟩ := h.2 i v e
  refine ⟨j, a, q, ?_, e2, e3, e4⟩
  rw [List.dropLast_eq_take, List.getElem?_take_of_lt (by rw [← h.1]; omega)]
  exact e1⟩
def spBlkV : Sp := fun vs H Q _ => ∃ (a : Addr) (ns : List Int) (k st : Nat), vs = [.ref a, .int (k : Nat), .int (st : Nat)] ∧ H a = some (.lst (ns.map V.int)) ∧ 1 ≤ ns.length ∧ ns.length ≤ 64 ∧ k ≤ 5 ∧ st ≤ 64 ∧ ∀ D H', H D = none → Same H H' → H' D = some (.lst ((joinL (ns.map (· * (st : Int))) k).map V.int)) → Q (.ref D) H'
end Z
namespace Z
open PySem PySem.Spec PyProof.Rows L2
def qL (st : Nat) (vs : List Int) : List Int := vs.map fun v => (2 * v + (st : Int)) / (2 * (st : Int))
/-- the numbers of a frame -/
def nsQ (d : Hd) (vs : List Int) : List Int := qL d.2.2.2.2 (splitL vs d.2.2.2.1)
def stB (g i : Nat) : Bool := decide (0 < g) && (decide (0 < i) && decide (i % g = 0))
def encR (g : Nat) : Nat → Tb × Tb → List Hd → List Int → List Rc
  | _, _, [], _ => []
  | i, T, d :: hs, vs => (if stB g i = true then [Rc.st T] else []) ++ .fr d (nsQ d (vs.take d.1)) T :: encR g (i + 1) (nextF d (nsQ d (vs.take d.1)) T) hs (vs.drop d.1)
def hdW (d : Hd) : Fw := (d.1, d.2.1, d.2.2.1)
def totH (hs : List Hd) : Nat := totW (hs.map hdW)
def plH (hs : List Hd) : List Jo := (plJ 0 (hs.map hdW)).dropLast
def encA (g : Nat) (hs : List Hd) (xs : List Int) : List Rc := encR g 0 T0 hs (turnL foldP xs (plH hs))
theorem Ch.chn : ∀ {hs : List Hd} {l e : Nat}, Ch l hs e → Chn l (hs.map hdW)
  | [], _, _, _ => trivial
  | d :: r, l, e, ⟨h1, h2, h3⟩ => ⟨h1.1, h2, h1.2.2.1, h1.2.2.2.1, h1.2.2.2.2.1, h3.chn⟩
/-- what the encoding keeps -/
structure EI (K : PySem.W.Frag) (R : Addr) (H0 H : Hp) (g : Nat) (hs : List Hd) (xs : List Int) (Te : Tb × Tb) (i : Nat) (ws : List V) (dn : List Rc) (t : Addr) (T : Tb × Tb) : Prop where
  eR : H R = some (.lst ws)
  rc : RcsAt K H ws dn
  tb : TbsV K H t T
  le : ws.length ≤ 2 * i
  sp : encA g hs xs = dn ++ encR g i T (hs.drop i) ((turnL foldP xs (plH hs)).drop (totH (hs.take i)))
  vd : ∃ l, Vd T l (encR g i T (hs.drop i) ((turnL foldP xs (plH hs)).drop (totH (hs.take i)))) Te 0
  sm : Same H0 H
theorem EI.same {K : PySem.W.Frag} {R : Addr} {H0 H H' : Hp} {g : Nat} {hs : List Hd} {xs : List Int} {Te : Tb × Tb} {i : Nat} {ws : List V} {dn : List Rc} {t : Addr} {T : Tb × Tb} (h : EI K R H0 H g hs xs Te i ws dn t T) (s : Same H H') : EI K R H0 H' g hs xs Te i ws dn t T :=
  { h with eR := s _ _ h.eR, rc := h.rc.lk (.of s), tb := h.tb.lk (.of s), sm := h.sm.trans s }
def spTakeV : Sp := fun vs H Q _ => ∃ (p : Addr) (m : Int), vs = [.ref p, .int m] ∧ Pool H p ∧ 0 < m ∧ m < 10 ^ 40 ∧ ∀ r H', 0 ≤ r → r < m → Pool H' p → Kp p H H' → Q (.int r) H'
theorem use_takeV {p : Addr} {m : Int} {H : Hp} {Q : VK} {E : XK} (h1 : Pool H p) (h2 : 0 < m) (h3 : m < 10 ^ 40) (q : ∀ r H', 0 ≤ r → r < m → Pool H' p → Kp p H H' → Q (.int r) H') : spTakeV ([.ref p, .int m] ++ []) H Q E := ⟨p, m, rfl, h1, h2, h3, q⟩
end Z
namespace Z
open PySem PySem.Spec PyProof.Rows L2
theorem Ch.all : ∀ {hs : List Hd} {l e : Nat}, Ch l hs e → ∀ d ∈ hs, HdOk d
  | [], _, _, _, d, hd => absurd hd List.not_mem_nil
  | c :: r, l, e, ⟨h1, h2, h3⟩, d, hd => by
    rcases List.mem_cons.mp hd with rfl | hd
    · exact h1
    · exact h3.all d hd
end Z
namespace Z
open PySem PySem.Spec PyProof.Rows L2
open SX (S S_len S_cat S_inj)
theorem dig_log (m : Nat) : ((m % 2 : Nat) : Int).natAbs.log2 < 1920 := by
  rcases (show m % 2 = 0 ∨ m % 2 = 1 by omega) with e | e
  · rw [e]; decide
  · rw [e]; decide
theorem dig_str (m : Nat) : Str.ofString (toString ((m % 2 : Nat) : Int)) = S [48 + m % 2] := by
  rcases (show m % 2 = 0 ∨ m % 2 = 1 by omega) with e | e
  · rw [e]; decide +kernel
  · rw [e]; decide +kernel
theorem lowB_mod : ∀ (k u : Nat), lowB (u % 2 ^ k) k = lowB u k
  | 0, u => rfl
  | k + 1, u => by
    rw [lowB_front, lowB_front]
    have h1 : u % 2 ^ (k + 1) / 2 ^ k % 2 = u / 2 ^ k % 2 := by
      rw [Nat.pow_succ, Nat.mod_mul_right_div_self]
      omega
    have h2 : lowB (u % 2 ^ (k + 1)) k = lowB u k := by
      rw [← lowB_mod k (u % 2 ^ (k + 1)), ← lowB_mod k u, Nat.mod_mod_of_dvd u (Nat.pow_dvd_pow 2 (Nat.le_succ k))]
    rw [h1, h2]
theorem bits_fit {t : Int} {k : Nat} (h0 : 0 ≤ t) (h1 : t < 10 ^ 60) (hk : k ≤ 1000) : CShl t (k : Int) := by
  refine ⟨by omega, ?_⟩
  have : Builtin.Int.intBits t ≤ 1000 := intBits_le_iff.mpr (by
    have h : (10 : Nat) ^ 60 < 2 ^ 1000 := by decide +kernel
    have h2 : t.natAbs < 10 ^ 60 := by
      have z : ((10 ^ 60 : Nat) : Int) = 10 ^ 60 := by norm_cast
      omega
    omega)
  have : (Builtin.Int.intBits t : Int) + (k : Int) ≤ 2000 := by omega
  exact Int.le_trans this (by decide)
def spBitsT (K : PySem.W.Frag) : Sp := fun vs H Q _ => ∃ (a : Addr) (t : Tb) (m : Int) (u : Nat), vs = [.ref a, .int (u : Int)] ∧ TbV K H a t ∧ TbOk m t ∧ m < 10 ^ 60 ∧ nb u ≤ 1000 ∧ Q (.str (S (encB u (par t.1 t.2)))) H
theorem use_bitsT {K : PySem.W.Frag} {a : Addr} {t : Tb} {m : Int} {u : Nat} {H : Hp} {Q : VK} {E : XK} (h : TbV K H a t) (ok : TbOk m t) (hm : m < 10 ^ 60) (hu : nb u ≤ 1000) (q : Q (.str (S (encB u (par t.1 t.2)))) H) : spBitsT K ([.ref a, .int (u : Int)] ++ []) H Q E := ⟨a, t, m, u, rfl, h, ok, hm, hu, q⟩
def spParM (K : PySem.W.Frag) : Sp := fun vs H Q _ => ∃ (a : Addr) (t : Tb) (m : Int), vs = [.ref a] ∧ TbV K H a t ∧ TbOk m t ∧ m < 10 ^ 60 ∧ Q (.int (par t.1 t.2 : Nat)) H
theorem use_parM {K : PySem.W.Frag} {a : Addr} {t : Tb} {m : Int} {H : Hp} {Q : VK} {E : XK} (h : TbV K H a t) (ok : TbOk m t) (hm : m < 10 ^ 60) (q : Q (.int (par t.1 t.2 : Nat)) H) : spParM K ([.ref a] ++ []) H Q E := ⟨a, t, m, rfl, h, ok, hm, q⟩
theorem dig_low {u k : Nat} : List.replicate (k - (if u % 2 ^ k = 0 then [] else binB (u % 2 ^ k)).length) 48 ++ (if u % 2 ^ k = 0 then [] else binB (u % 2 ^ k)) = lowB u k := by
  have e : lowB u k = lowB (u % 2 ^ k) k := by
    refine (lowB_mod k u).symm
  rw [e]
  have hlt : u % 2 ^ k < 2 ^ k := Nat.mod_lt _ (Nat.two_pow_pos k)
  generalize u % 2 ^ k = w at hlt ⊢
  by_cases z : w = 0
  · rw [if_pos z, z, lowB_zero, List.append_nil, List.length_nil, Nat.sub_zero]
  · rw [if_neg z, binB_length]
    have hk : 1 ≤ k := by
      rcases k with _ | k
      · have : (2 : Nat) ^ 0 = 1 := rfl
        omega
      · omega
    have hn := nb_min hlt hk
    have := lowB_big (k - nb w) (nb w) w (nb_lt w)
    rw [show k - nb w + nb w = k by omega] at this
    rw [this]
    rfl
end Z
namespace Z
open PySem PySem.Spec PyProof.Rows L2
open SX (S S_len S_cat S_inj)
def ef (n : Nat) : Nat → Nat
  | 0 => 0
  | k + 1 => if cc n k > 1 then k + 1 else ef n k
theorem ef_le (n : Nat) : ∀ k, ef n k ≤ k
  | 0 => Nat.le_refl _
  | k + 1 => by
    unfold ef
    split
    · exact Nat.le_refl _
    · exact Nat.le_succ_of_le (ef_le n k)
theorem ef_cc (n : Nat) : ∀ k, cc n (ef n k) = cc n k
  | 0 => rfl
  | k + 1 => by
    unfold ef
    split
    · rfl
    · rw [ef_cc n k]
      show cc n k = (cc n k + 1) / 2
      omega
theorem ef_full {n : Nat} : ∀ {k : Nat}, cc n k > 1 → ef n k = k
  | 0, _ => rfl
  | k + 1, h => by
    have := cc_le n k
    exact if_pos (by omega)
def spSizL : Sp := fun vs H Q _ => ∃ n k : Nat, vs = [.int (n : Nat), .int (k : Nat)] ∧ k ≤ 5 ∧ ∀ D H', H D = none → Same H H' → H' D = some (.lst ((List.range (ef n k + 1)).map fun i => V.int (cc n i : Nat))) → Q (.ref D) H'
theorem use_sizL {n k : Nat} {H : Hp} {Q : VK} {E : XK} (h : k ≤ 5) (q : ∀ D H', H D = none → Same H H' → H' D = some (.lst ((List.range (ef n k + 1)).map fun i => V.int (cc n i : Nat))) → Q (.ref D) H') : spSizL ([.int (n : Nat), .int (k : Nat)] ++ []) H Q E := ⟨n, k, rfl, h, q⟩
def ljE : (Nat × Nat) → List Rc → Nat × Nat
  | lj, [] => lj
  | lj, .st _ :: r => ljE lj r
  | _, .fr d _ _ :: r => ljE (d.2.1, d.2.2.1) r
theorem fwR_st (T : Tb × Tb) : ∀ (rs : List Rc), fwR (rs ++ [.st T]) = fwR rs
  | [] => rfl
  | .st _ :: r => fwR_st T r
  | .fr d _ _ :: r => congrArg ((d.1, d.2.1, d.2.2.1) :: ·) (fwR_st T r)
theorem fwR_fr (d : Hd) (ns : List Int) (T : Tb × Tb) : ∀ (rs : List Rc), fwR (rs ++ [.fr d ns T]) = fwR rs ++ [(d.1, d.2.1, d.2.2.1)]
  | [] => rfl
  | .st _ :: r => fwR_fr d ns T r
  | .fr d' _ _ :: r => congrArg ((d'.1, d'.2.1, d'.2.2.1) :: ·) (fwR_fr d ns T r)
/-- what the law tells of a frame: its block, numbers, values, the tables before and behind it -/
def TlAt (K : PySem.W.Frag) (l : List Addr) (H : Hp) (v : V) (f : Fm) : Prop := ∃ a b m q t t2 jl j, v = .ref a ∧ a ∉ l ∧ m ∉ l ∧ q ∉ l ∧ H a = some (.lst [.ref b, .ref m, .ref q, .ref t, .ref t2]) ∧
  H b = some (.tup [.int (f.1 : Nat), .int (f.2.1 : Nat), .int (f.2.2.1.1 : Nat), .ref jl, .ref j]) ∧ JtAt H jl f.2.2.2.1 ∧ JtAt H j (f.2.2.1.2.1, f.2.2.1.2.2.1) ∧ H m = some (.lst (f.2.2.2.2.1.map V.int)) ∧ H q = some (.lst ((bkF f).map V.int)) ∧
  TbsV K H t f.2.2.2.2.2 ∧ TbsV K H t2 (nextF f.2.2.1 f.2.2.2.2.1 f.2.2.2.2.2)
theorem TlAt.kp {K : PySem.W.Frag} {l : List Addr} {H H' : Hp} {v : V} {f : Fm} (k : KpL l H H') (lk : LK H H') (h : TlAt K l H v f) : TlAt K l H' v f := by
  obtain ⟨a, b, m, q, t, t2, jl, j, e, n1, n2, n3, h1, h2, h3, h4, h5, h6, h7, h8⟩ := h
  exact ⟨a, b, m, q, t, t2, jl, j, e, n1, n2, n3, k _ _ n1 h1, lk _ _ h2 (fun _ z => nomatch z), lk _ _ h3 (fun _ z => nomatch z), lk _ _ h4 (fun _ z => nomatch z), k _ _ n2 h5, k _ _ n3 h6, h7.lk lk, h8.lk lk⟩
end Z
namespace Z
open PySem PySem.Spec PyProof.Rows L2
structure BI (K : PySem.W.Frag) (p R W S : Addr) (H0 H : Hp) (hrefs : List V) (hs : List Hd) (i m : Nat) (refs tls : List V) (rs : List Rc) (t : Addr) (T : Tb × Tb) (jl : Addr) : Prop where
  eR : H R = some (.lst refs)
  eW : H W = some (.lst tls)
  eS : H S = some (.lst hrefs)
  rc : RcsAt K H refs rs
  vd : Vd T0 0 rs T (ljE (0, 0) rs).1
  tl : All2 (TlAt K [p, R, W] H) tls (frR 0 0 (0, 0) rs)
  tb : TbsV K H t T
  t1 : TbOk (2 * 10 ^ 14 * (i : Int) + 100) T.1
  t2 : TbOk (2 * 10 ^ 14 * (i : Int) + 100) T.2
  jt : JtAt H jl (ljE (0, 0) rs)
  le : refs.length ≤ m
  fw : fwR rs = (hs.take i).map hdW
  po : Pool H p
  hh : HdsAt H hrefs hs
  kp : Kp p H0 H
  nRp : R ≠ p
  nWp : W ≠ p
  nSp : S ≠ p
  nRW : R ≠ W
  nSR : S ≠ R
  nSW : S ≠ W
  nR0 : H0 R = none
  nW0 : H0 W = none
  ch : Ch (ljE (0, 0) rs).1 (hs.drop i) 0
section
variable {K : PySem.W.Frag} {p R W S t jl : Addr} {H0 H H' : Hp} {hrefs refs tls : List V} {hs : List Hd} {i m : Nat} {rs : List Rc} {T : Tb × Tb}
theorem BI.move (h : BI K p R W S H0 H hrefs hs i m refs tls rs t T jl) (k : Kp p H H') (hP : Pool H' p) : BI K p R W S H0 H' hrefs hs i m refs tls rs t T jl :=
  have lk := LK.pool h.po k
  { h with eR := k _ _ h.nRp h.eR, eW := k _ _ h.nWp h.eW, eS := k _ _ h.nSp h.eS, rc := h.rc.lk lk, tl := h.tl.imp fun _ _ z => z.kp (KpL.ofK List.mem_cons_self k) lk
           tb := h.tb.lk lk, jt := lk _ _ h.jt (fun _ z => nomatch z), po := hP, hh := h.hh.lk lk, kp := h.kp.trans k }
theorem BI.same (h : BI K p R W S H0 H hrefs hs i m refs tls rs t T jl) (s : Same H H') : BI K p R W S H0 H' hrefs hs i m refs tls rs t T jl := h.move (fun a x _ e => s a x e) (h.po.same s)
end
end Z
namespace Z
open PySem PySem.Spec PyProof.Rows L2
open SX (S S_len S_cat S_inj)
theorem BlAt.same {K : PySem.W.Frag} {H H' : Hp} {b : Addr} {f : Fm} (s : Same H H') (h : BlAt K H b f) : BlAt K H' b f := by
  obtain ⟨jl, j, h1, h2, h3⟩ := h
  exact ⟨jl, j, s _ _ h1, h2.lk (.of s), s _ _ h3⟩
theorem TlAt.same {K : PySem.W.Frag} {l : List Addr} {H H' : Hp} {v : V} {f : Fm} (s : Same H H') (h : TlAt K l H v f) : TlAt K l H' v f := h.kp (KpL.ofS s) (LK.of s)
end Z
namespace Z
open PySem PySem.Spec PyProof.Rows L2
/-- a def that is called while no text is being made -/
structure FnG (P : Program) (w : World) (K : PySem.W.Frag) (mg : Str → Option Value) (base : Heap) (CX : CXT) (k : Nat) (f : Addr) (fd : FuncData) (ps : List Str) (sp : Sp) : Prop where
  many : ∀ vs H Q E, sp vs H Q E → vs.length = ps.length
  runs : ∀ (A : Around) (stack : List Env) (s : Shared) (H : Hp) (args : Args) (us : List Value) (vs : List V) (Q : VK) (E : XK), Room k A → A.guards = some [] → Env0 P w K mg base A stack s H → BindsTo s fd args (ps.zip us) → Vals vs us →
    sp vs H Q E → codeAny (model P w) A (.call (.ref f) args) (CR CX stack P w H s Q E) s
section
variable {P : Program} {w : World} {K : PySem.W.Frag} {mg : Str → Option Value} {base : Heap} {CX : CXT} {k : Nat} {f : Addr} {fd : FuncData} {ps : List Str} {sp : Sp}
theorem FnG.mono {j : Nat} (F : FnG P w K mg base CX j f fd ps sp) (h : j ≤ k) : FnG P w K mg base CX k f fd ps sp := ⟨F.many, fun A stack s H args us vs Q E r => F.runs A stack s H args us vs Q E (r.mono h)⟩
end
def Sh (n m : Nat) (d : PyData) : Prop := d.showable = true ∧ d.hasDict = false ∧ d.depth ≤ n ∧ d.shown.length ≤ m
theorem Sh.up {n m n' m' : Nat} {d : PyData} (h : Sh n m d) (a : n ≤ n') (b : m ≤ m') : Sh n' m' d := ⟨h.1, h.2.1, Nat.le_trans h.2.2.1 a, Nat.le_trans h.2.2.2 b⟩
theorem Sh.int {i : Int} (h : i.natAbs < 2 ^ 1920) : Sh 0 1921 (.int i) := by
  have l : i.natAbs.log2 < 1920 := by
    by_cases c : i.natAbs = 0
    · rw [c]
      decide
    · exact (Nat.log2_lt c).mpr h
  exact ⟨decide_eq_true l, rfl, Nat.le_refl _, int_text_len_1921 l⟩
theorem sh_all {n m : Nat} : ∀ {ds : List PyData}, (∀ d ∈ ds, Sh n m d) → PyData.showableAll ds = true ∧ PyData.hasDictAll ds = false ∧ PyData.depthAll ds ≤ n ∧ ((PyData.shownAll ds).map (·.length)).sum ≤ ds.length * m ∧ (PyData.shownAll ds).length = ds.length
  | [], _ => ⟨rfl, rfl, Nat.zero_le _, Nat.zero_le _, rfl⟩
  | d :: r, h => by
    obtain ⟨a1, a2, a3, a4, a5⟩ := sh_all (ds := r) fun x hx => h x (List.mem_cons_of_mem _ hx)
    obtain ⟨b1, b2, b3, b4⟩ := h d List.mem_cons_self
    refine ⟨?_, ?_, Nat.max_le.mpr ⟨b3, a3⟩, ?_, congrArg (· + 1) a5⟩
    · show (d.showable && PyData.showableAll r) = true
      rw [b1, a1]
      rfl
    · show (d.hasDict || PyData.hasDictAll r) = false
      rw [b2, a2]
      rfl
    · show d.shown.length + ((PyData.shownAll r).map (·.length)).sum ≤ (r.length + 1) * m
      rw [Nat.add_mul, Nat.one_mul]
      omega
theorem Sh.list {n m k : Nat} {ds : List PyData} (h : ∀ d ∈ ds, Sh n m d) (l : ds.length ≤ k) : Sh (n + 1) (k * (m + 2) + 3) (.list ds) := by
  obtain ⟨a1, a2, a3, a4, a5⟩ := sh_all h
  refine ⟨a1, a2, Nat.succ_le_succ a3, Nat.le_trans (listText_len_le _) ?_⟩
  rw [a5]
  have : ds.length * (m + 2) ≤ k * (m + 2) := Nat.mul_le_mul_right _ l
  rw [Nat.mul_add] at this
  omega
theorem Sh.tup {n m k : Nat} {ds : List PyData} (h : ∀ d ∈ ds, Sh n m d) (l : ds.length ≤ k) : Sh (n + 1) (k * (m + 2) + 3) (.tuple ds) := by
  obtain ⟨a1, a2, a3, a4, a5⟩ := sh_all h
  refine ⟨a1, a2, Nat.succ_le_succ a3, Nat.le_trans (tupleText_len_le _) ?_⟩
  rw [a5]
  have : ds.length * (m + 2) ≤ k * (m + 2) := Nat.mul_le_mul_right _ l
  rw [Nat.mul_add] at this
  omega
def hdD (d : Hd) : PyData := .tuple [.int (d.1 : Nat), .tuple [.int (d.2.1 : Nat), .int (d.2.2.1 : Nat)], .int (d.2.2.2.1 : Nat), .int (d.2.2.2.2 : Nat)]
theorem sh_nat {n : Nat} (h : n ≤ 1000) : Sh 0 1921 (.int (n : Nat)) := .int (Nat.lt_of_le_of_lt (show _ ≤ 1000 by omega) (by decide +kernel))
theorem Sh.hd {d : Hd} (ok : HdOk d) : Sh 2 20000 (hdD d) := by
  obtain ⟨o1, o2, o3, o4, o5, o6, o7, o8⟩ := ok
  refine (Sh.tup (n := 1) (m := 4000) (k := 4) (fun x hx => ?_) (Nat.le_refl _)).up (Nat.le_refl _) (by decide)
  simp only [List.mem_cons, List.not_mem_nil, or_false] at hx
  rcases hx with rfl | rfl | rfl | rfl
  · exact (sh_nat (by omega)).up (by decide) (by decide)
  · refine (Sh.tup (n := 0) (m := 1921) (k := 2) (fun y hy => ?_) (Nat.le_refl _)).up (by decide) (by decide)
    simp only [List.mem_cons, List.not_mem_nil, or_false] at hy
    rcases hy with rfl | rfl
    · exact sh_nat (by omega)
    · exact sh_nat (by omega)
  · exact (sh_nat (by omega)).up (by decide) (by decide)
  · exact (sh_nat (by omega)).up (by decide) (by decide)
end Z
namespace Z
open PySem PySem.Spec PyProof.Rows L2 LamX NdefX
/-- what is not told of stays, but for slots -/
def PreH (H H' : Hp) (h h' : Heap) : Prop := ∀ b o, h.get? b = some o → H b = none → (∃ sl, h'.get? b = some { o with slots := sl }) ∧ H' b = none
section
variable {H H1 H2 H' : Hp} {h h1 h2 h' : Heap} {cl : List (Str × Addr)} {fr : List Str} {ws : List (Option V)}
theorem PreH.refl : PreH H H h h := fun b o e n => ⟨⟨o.slots, e⟩, n⟩
theorem PreH.trans (a : PreH H H1 h h1) (b : PreH H1 H2 h1 h2) : PreH H H2 h h2 := fun c o e n => by
  obtain ⟨⟨sl, e1⟩, n1⟩ := a c o e n
  obtain ⟨⟨sl2, e2⟩, n2⟩ := b c _ e1 n1
  exact ⟨⟨sl2, e2⟩, n2⟩
theorem PreH.of {fs : List Addr} (u : Un fs [] H H' h h') : PreH H H' h h' := fun b o e n => ⟨u.any e n List.not_mem_nil, u.free b o e n List.not_mem_nil⟩
end
/-- what a function that was given does, called with these values -/
abbrev TL := List V → Hp → VK → Prop
/-- the function at f, its code at c, can be called from here on: t is what it does -/
structure Can (P : Program) (w : World) (K : PySem.W.Frag) (mg : Str → Option Value) (base : Heap) (m : Nat) (f c : Addr) (t : TL) (h : Heap) (H : Hp) : Prop where
  run : ∀ (A : Around) (stack : List Env) (s : Shared) (H' : Hp) (us : List Value) (vs : List V) (Q : VK), Room m A → Env0 P w K mg base A stack s H' → PreH H H' h s.heap → H' f = H f → H' c = H c → Vals vs us → t vs H' Q →
    codeAny (model P w) A (.call (.ref f) ⟨us, []⟩) (CR CX0 stack P w H' s Q E0) s
  fn : ∀ (H' : Hp) (h' : Heap), HOk P w H' h' → H' f = H f → PySem.W.FnAt f h'
section
variable {P : Program} {w : World} {K : PySem.W.Frag} {mg : Str → Option Value} {base : Heap} {m k : Nat} {f c : Addr} {t : TL} {h h' : Heap} {H H' : Hp}
theorem Can.mono (C : Can P w K mg base m f c t h H) (l : m ≤ k) : Can P w K mg base k f c t h H := ⟨fun A stack s G us vs Q r => C.run A stack s G us vs Q (r.mono l), C.fn⟩
theorem Can.imp {t' : TL} (C : Can P w K mg base m f c t h H) (i : ∀ vs H Q, t' vs H Q → t vs H Q) : Can P w K mg base m f c t' h H := ⟨fun A stack s G us vs Q r e0 q a b rv z => C.run A stack s G us vs Q r e0 q a b rv (i _ _ _ z), C.fn⟩
end
abbrev SpC := Addr → Addr → TL → Sp
structure FnC (P : Program) (w : World) (K : PySem.W.Frag) (mg : Str → Option Value) (base : Heap) (k m : Nat) (g : Addr) (fd : FuncData) (ps : List Str) (sp : SpC) : Prop where
  many : ∀ f c t vs H Q E, sp f c t vs H Q E → vs.length = ps.length
  runs : ∀ (f c : Addr) (t : TL) (A : Around) (stack : List Env) (s : Shared) (H : Hp) (args : Args) (us : List Value) (vs : List V) (Q : VK) (E : XK), Room k A → Can P w K mg base m f c t s.heap H → Env0 P w K mg base A stack s H → BindsTo s fd args (ps.zip us) → Vals vs us →
    sp f c t vs H Q E → codeAny (model P w) A (.call (.ref g) args) (CR CX0 stack P w H s Q E) s
section
variable {P : Program} {w : World} {K : PySem.W.Frag} {mg : Str → Option Value} {base : Heap} {k m : Nat} {g : Addr} {fd : FuncData} {ps : List Str} {sp : SpC}
theorem FnC.mono {j : Nat} (F : FnC P w K mg base j m g fd ps sp) (h : j ≤ k) : FnC P w K mg base k m g fd ps sp := ⟨F.many, fun f c t A stack s H args us vs Q E r => F.runs f c t A stack s H args us vs Q E (r.mono h)⟩
end
end Z
namespace Z
open PySem PySem.Spec PyProof.Rows L2
open SX (S S_len S_cat S_inj)
/-- all but lists and dicts stays -/
def LKD (H H' : Hp) : Prop := ∀ b o, H b = some o → (∀ xs, o ≠ .lst xs) → (∀ k, o ≠ .dK k) → H' b = some o
section
variable {K : PySem.W.Frag} {H H' H1 : Hp} {a q : Addr} {xs : List V} {o : HO}
theorem LKD.trans (h : LKD H H') (k : LKD H' H1) : LKD H H1 := fun b o e n m => k b o (h b o e n m) n m
theorem LKD.lk (s : LK H H') : LKD H H' := fun b o e n _ => s b o e n
theorem LKD.of (s : Same H H') : LKD H H' := fun b o e _ _ => s b o e
theorem LKD.at {k : List (Key × V)} (n : H q = some (.dK k)) : LKD H (upd H q o) := fun b x e _ nk => by
  have nb : b ≠ q := fun z => by
    rw [z, n] at e
    exact nk k (Option.some.inj e).symm
  rw [upd_ne nb]
  exact e
theorem LKD.tup (s : LKD H H') (h : H a = some (.tup xs)) : H' a = some (.tup xs) := s _ _ h (fun _ z => nomatch z) fun _ z => nomatch z
theorem LKD.seqT (s : LKD H H') (h : SqT K H a xs) : SqT K H' a xs := by
  rcases h with (h | ⟨o, h⟩) | h
  · exact .inl (.inl (s.tup h))
  · exact .inl (.inr ⟨o, s _ _ h (fun _ z => nomatch z) fun _ z => nomatch z⟩)
  · exact .inr h
theorem LKD.tyo {t : Value} (ht : t = .type "tuple") (s : LKD H H') (h : TyOf K H (.ref a) t) : TyOf K H' (.ref a) t := by
  cases h with
  | lst e => exact absurd ht (by decide)
  | frz e => exact .frz (s _ _ e (fun _ z => nomatch z) fun _ z => nomatch z)
  | tup e => exact .tup (s.tup e)
  | dK e => exact absurd ht (by decide)
  | dT e => exact .dT (s _ _ e (fun _ z => nomatch z) fun _ z => nomatch z)
  | ins e cl ha hn htk hm => exact .ins (s _ _ e (fun _ z => nomatch z) fun _ z => nomatch z) cl ha hn htk hm
theorem LKD.tyx (s : LKD H H') (h : TyX K H (.ref a) (.type "tuple")) : TyX K H' (.ref a) (.type "tuple") := by
  generalize ht : (Value.type "tuple") = t at h ⊢
  cases h with
  | base b => exact .base (s.tyo ht.symm b)
  | set e => exact .set (s _ _ e (fun _ z => nomatch z) fun _ z => nomatch z)
  | kList e c => exact .kList e c
  | kTuple e c => exact .kTuple e c
  | kDict e c => exact .kDict e c
  | fTuple e => exact .fTuple (s _ _ e (fun _ z => nomatch z) fun _ z => nomatch z)
  | fDict e => exact absurd ht (by decide)
end
/-- all but lists, dicts and tables stays -/
def LKX (H H' : Hp) : Prop := ∀ b o, H b = some o → (∀ xs, o ≠ .lst xs) → (∀ k, o ≠ .dK k) → (∀ ps, o ≠ .tbl ps) → H' b = some o
theorem LKX.ext {H H' : Hp} (s : LamX.ExtN H H') : LKX H H' := fun b o e _ _ y => s b o e y
section
variable {K : PySem.W.Frag} {H H' H1 : Hp} {a q : Addr} {xs : List V} {o : HO}
theorem LKX.trans (h : LKX H H') (k : LKX H' H1) : LKX H H1 := fun b o e n m y => k b o (h b o e n m y) n m y
theorem LKX.lk (s : LK H H') : LKX H H' := fun b o e n _ _ => s b o e n
theorem LKX.of (s : Same H H') : LKX H H' := fun b o e _ _ _ => s b o e
theorem LKX.at {k : List (Key × V)} (n : H q = some (.dK k)) : LKX H (upd H q o) := fun b x e _ nk _ => by
  have nb : b ≠ q := fun z => by
    rw [z, n] at e
    exact nk k (Option.some.inj e).symm
  rw [upd_ne nb]
  exact e
theorem LKX.tup (s : LKX H H') (h : H a = some (.tup xs)) : H' a = some (.tup xs) := s _ _ h (fun _ z => nomatch z) (fun _ z => nomatch z) fun _ z => nomatch z
theorem LKX.seqT (s : LKX H H') (h : SqT K H a xs) : SqT K H' a xs := by
  rcases h with (h | ⟨o, h⟩) | h
  · exact .inl (.inl (s.tup h))
  · exact .inl (.inr ⟨o, s _ _ h (fun _ z => nomatch z) (fun _ z => nomatch z) fun _ z => nomatch z⟩)
  · exact .inr h
theorem LKX.tyo {t : Value} (ht : t = .type "tuple") (s : LKX H H') (h : TyOf K H (.ref a) t) : TyOf K H' (.ref a) t := by
  cases h with
  | lst e => exact absurd ht (by decide)
  | frz e => exact .frz (s _ _ e (fun _ z => nomatch z) (fun _ z => nomatch z) fun _ z => nomatch z)
  | tup e => exact .tup (s.tup e)
  | dK e => exact absurd ht (by decide)
  | dT e => exact .dT (s _ _ e (fun _ z => nomatch z) (fun _ z => nomatch z) fun _ z => nomatch z)
  | ins e cl ha hn htk hm => exact .ins (s _ _ e (fun _ z => nomatch z) (fun _ z => nomatch z) fun _ z => nomatch z) cl ha hn htk hm
theorem LKX.tyx (s : LKX H H') (h : TyX K H (.ref a) (.type "tuple")) : TyX K H' (.ref a) (.type "tuple") := by
  generalize ht : (Value.type "tuple") = t at h ⊢
  cases h with
  | base b => exact .base (s.tyo ht.symm b)
  | set e => exact .set (s _ _ e (fun _ z => nomatch z) (fun _ z => nomatch z) fun _ z => nomatch z)
  | kList e c => exact .kList e c
  | kTuple e c => exact .kTuple e c
  | kDict e c => exact .kDict e c
  | fTuple e => exact .fTuple (s _ _ e (fun _ z => nomatch z) (fun _ z => nomatch z) fun _ z => nomatch z)
  | fDict e => exact absurd ht (by decide)
end
def rcT : Rc → Tb × Tb
  | .st T => T
  | .fr d ns T => nextF d ns T
def rcN : Rc → List Int
  | .st _ => []
  | .fr _ ns _ => ns
/-- the tables behind the first i records -/
def tbG : Tb × Tb → List Rc → Nat → Tb × Tb
  | T, _, 0 => T
  | T, [], _ + 1 => T
  | _, r :: t, i + 1 => tbG (rcT r) t i
theorem Vd.tb : ∀ {rs : List Rc} {T : Tb × Tb} {l : Nat} {T2 : Tb × Tb} {l2 : Nat}, Vd T l rs T2 l2 → ∀ {i : Nat} {d : Hd} {ns : List Int} {T' : Tb × Tb}, rs[i]? = some (.fr d ns T') → T' = tbG T rs i
  | [], _, _, _, _, _, i, _, _, _, e => by cases e
  | .st T0 :: r, T, _, _, _, ⟨_, q⟩, 0, _, _, _, e => by cases e
  | .st T0 :: r, T, _, _, _, ⟨_, q⟩, i + 1, _, _, _, e => Vd.tb (rs := r) q (i := i) e
  | .fr d ns T0 :: r, T, _, _, _, ⟨e0, _, _, _, _, _, q⟩, 0, _, _, _, e => by
    cases e
    exact e0
  | .fr d ns T0 :: r, T, _, _, _, ⟨e0, _, _, _, _, _, q⟩, i + 1, _, _, _, e => by
    have := Vd.tb (rs := r) q (i := i) e
    rw [this, e0]
    rfl
/-- rows that tell of these records -/
structure RowsOf (rs : List Rc) (rows : List Rw) : Prop where
  fr : ∀ r ∈ rows, ∃ ns T, rs[r.1]? = some (.fr r.2.2.1 ns T)
  og : ∀ r ∈ rows, r.2.2.2.2 = 0 ∨ ∃ T, rs[r.2.2.2.2]? = some (.st T)
  all : ∀ u d ns T, rs[u]? = some (.fr d ns T) → ∃ r ∈ rows, r.1 = u ∧ r.2.2.1 = d
  near : ∀ r ∈ rows, ∀ (u : Nat) T, rs[u]? = some (.st T) → u ≤ r.1 → u ≤ r.2.2.2.2
theorem list_snoc {α : Type} {P : List α → Prop} (h0 : P []) (h1 : ∀ xs x, P xs → P (xs ++ [x])) : ∀ xs, P xs := fun xs => by
  have key : ∀ ys : List α, P ys.reverse := fun ys => by
    induction ys with
    | nil => exact h0
    | cons y r ih =>
      rw [List.reverse_cons]
      exact h1 _ _ ih
  have := key xs.reverse
  rwa [List.reverse_reverse] at this
theorem rowsOf' : ∀ rs : List Rc, RowsOf rs (runR rs).rows ∧ ((runR rs).o = 0 ∨ ∃ T, rs[(runR rs).o]? = some (.st T)) ∧ (∀ (u : Nat) T, rs[u]? = some (.st T) → u ≤ (runR rs).o) ∧ ∀ r ∈ (runR rs).rows, r.1 < rs.length := list_snoc ⟨⟨fun r h => absurd h List.not_mem_nil, fun r h => absurd h List.not_mem_nil, fun u d ns T e => (nomatch e), fun r h => absurd h List.not_mem_nil⟩, .inl rfl, fun u T e => (nomatch e), fun r h => absurd h List.not_mem_nil⟩ (fun rs x ⟨h, ho, hm, hlt⟩ => by
  have hi := runR_i rs
  have up : ∀ {u : Nat} {y : Rc}, rs[u]? = some y → (rs ++ [x])[u]? = some y := fun {u y} e => by
    rw [List.getElem?_append_left (List.getElem?_eq_some_iff.mp e).1]
    exact e
  have last : (rs ++ [x])[rs.length]? = some x := by rw [List.getElem?_append_right (Nat.le_refl _), Nat.sub_self]; rfl
  have old : ∀ {u : Nat} {y : Rc}, (rs ++ [x])[u]? = some y → rs[u]? = some y ∨ (u = rs.length ∧ y = x) := fun {u y} e => by
    by_cases c : u < rs.length
    · rw [List.getElem?_append_left c] at e
      exact .inl e
    · have l := (List.getElem?_eq_some_iff.mp e).1
      rw [List.length_append, List.length_singleton] at l
      have c2 : u = rs.length := by omega
      subst c2
      rw [last] at e
      exact .inr ⟨rfl, (Option.some.inj e).symm⟩
  have ll : (rs ++ [x]).length = rs.length + 1 := by rw [List.length_append]; rfl
  rw [runR_snoc]
  cases x with
  | st T =>
    refine ⟨⟨fun r hr => ?_, fun r hr => ?_, fun u d ns T' e => ?_, fun r hr u T' e l => ?_⟩, .inr ⟨T, ?_⟩, fun u T' e => ?_, fun r hr => ?_⟩
    · obtain ⟨ns, T', e⟩ := h.fr r hr
      exact ⟨ns, T', up e⟩
    · rcases h.og r hr with z | ⟨T', z⟩
      · exact .inl z
      · exact .inr ⟨T', up z⟩
    · rcases old e with z | ⟨_, z⟩
      · exact h.all u d ns T' z
      · cases z
    · have := hlt r hr
      rcases old e with z | ⟨z, _⟩
      · exact h.near r hr u T' z l
      · omega
    · show (rs ++ [Rc.st T])[(runR rs).i]? = _
      rw [hi]
      exact last
    · show u ≤ (runR rs).i
      have := (List.getElem?_eq_some_iff.mp e).1
      omega
    · have := hlt r hr
      omega
  | fr d ns T =>
    have ho' : (runR rs).o = 0 ∨ ∃ T', (rs ++ [Rc.fr d ns T])[(runR rs).o]? = some (.st T') := ho.elim .inl fun ⟨T', z⟩ => .inr ⟨T', up z⟩
    have hm' : ∀ (u : Nat) T', (rs ++ [Rc.fr d ns T])[u]? = some (.st T') → u ≤ (runR rs).o := fun u T' e => by
      rcases old e with z | ⟨_, z⟩
      · exact hm u T' z
      · cases z
    refine ⟨⟨fun r hr => ?_, fun r hr => ?_, fun u d' ns' T' e => ?_, fun r hr u T' e l => ?_⟩, ho', hm', fun r hr => ?_⟩
    · rcases List.mem_append.mp hr with hr | hr
      · obtain ⟨ns', T', e⟩ := h.fr r hr
        exact ⟨ns', T', up e⟩
      · rw [List.mem_singleton.mp hr]
        refine ⟨ns, T, ?_⟩
        show (rs ++ [Rc.fr d ns T])[(runR rs).i]? = _
        rw [hi]
        exact last
    · rcases List.mem_append.mp hr with hr | hr
      · rcases h.og r hr with z | ⟨T', z⟩
        · exact .inl z
        · exact .inr ⟨T', up z⟩
      · rw [List.mem_singleton.mp hr]
        exact ho'
    · rcases old e with z | ⟨z1, z⟩
      · obtain ⟨r, hr, e1, e2⟩ := h.all u d' ns' T' z
        exact ⟨r, List.mem_append.mpr (.inl hr), e1, e2⟩
      · cases z
        exact ⟨_, List.mem_append.mpr (.inr List.mem_cons_self), by rw [z1]; exact hi, rfl⟩
    · rcases List.mem_append.mp hr with hr | hr
      · rcases old e with z | ⟨z, y⟩
        · exact h.near r hr u T' z l
        · cases y
      · rw [List.mem_singleton.mp hr]
        exact hm' u T' e
    · rcases List.mem_append.mp hr with hr | hr
      · have := hlt r hr
        omega
      · rw [List.mem_singleton.mp hr]
        show (runR rs).i < _
        omega)
theorem rowsOf (rs : List Rc) : RowsOf rs (runR rs).rows := (rowsOf' rs).1
def IdxD (K : PySem.W.Frag) (H : Hp) (kvs : List (Key × V)) (rows : List Rw) : Prop := ∀ u : Nat, (∃ r ∈ rows, r.1 = u ∧ ∃ v, valV kvs (.inl (u : Int)) = some v ∧ RwV K H v r) ∨ ((∀ r ∈ rows, r.1 ≠ u) ∧ valV kvs (.inl (u : Int)) = none)
theorem IdxD.nil {K : PySem.W.Frag} {H : Hp} : IdxD K H [] [] := fun u => .inr ⟨fun r h => absurd h List.not_mem_nil, rfl⟩
theorem IdxD.lk {K : PySem.W.Frag} {H H' : Hp} {kvs : List (Key × V)} {rows : List Rw} (s : LK H H') (h : IdxD K H kvs rows) : IdxD K H' kvs rows := fun u => by
  rcases h u with ⟨r, a, b, v, c, d⟩ | z
  · exact .inl ⟨r, a, b, v, c, d.lk s⟩
  · exact .inr z
def spRdM (K : PySem.W.Frag) : Sp := fun vs H Q _ => ∃ (ns : List Int) (first : Nat) (b : Addr) (T : Tb × Tb), vs = [.str (S (wst ns first T ns.length).1.flatten), .int (ns.length : Nat), .int (first : Int), .ref b] ∧ ns.length ≤ 64 ∧ first ≤ ns.length ∧ (∀ z ∈ ns, z.natAbs < 10 ^ 55) ∧ TbsV K H b T ∧ TbOk (10 ^ 58) T.1 ∧ TbOk (10 ^ 58) T.2 ∧
  ∀ p m q H', H m = none → Same H H' → H p = none → H' p = some (.tup [.ref m, .ref q]) → H' m = some (.lst (ns.map V.int)) → TbsV K H' q (wst ns first T ns.length).2 → Q (.ref p) H'
theorem use_rdM {K : PySem.W.Frag} {ns : List Int} {first n : Nat} {b : Addr} {T : Tb × Tb} {l : List Nat} {H : Hp} {Q : VK} {E : XK} (e : l = (wst ns first T ns.length).1.flatten) (en : n = ns.length) (h1 : ns.length ≤ 64) (h2 : first ≤ ns.length) (h3 : ∀ z ∈ ns, z.natAbs < 10 ^ 55) (h4 : TbsV K H b T) (o1 : TbOk (10 ^ 58) T.1) (o2 : TbOk (10 ^ 58) T.2)
    (q : ∀ p m q H', H m = none → Same H H' → H p = none → H' p = some (.tup [.ref m, .ref q]) → H' m = some (.lst (ns.map V.int)) → TbsV K H' q (wst ns first T ns.length).2 → Q (.ref p) H') : spRdM K ([.str (S l), .int (n : Nat), .int (first : Int), .ref b] ++ []) H Q E := by
  subst e en
  exact ⟨ns, first, b, T, rfl, h1, h2, h3, h4, o1, o2, q⟩
def spRfM (K : PySem.W.Frag) : Sp := fun vs H Q _ => ∃ v d ns T t, vs = [v, .ref t] ∧ RcAt K H v (.fr d ns T) ∧ RcOk (.fr d ns T) ∧ TbsV K H t T ∧
  ∀ p m q H', H m = none → Same H H' → H p = none → H' p = some (.tup [.ref m, .ref q]) → H' m = some (.lst (ns.map V.int)) → TbsV K H' q (nextF d ns T) → Q (.ref p) H'
theorem use_rfM0 {K : PySem.W.Frag} {v : V} {d : Hd} {ns : List Int} {T : Tb × Tb} {t : Addr} {H : Hp} {Q : VK} {E : XK} (h : RcAt K H v (.fr d ns T)) (ok : RcOk (.fr d ns T)) (hT : TbsV K H t T)
    (q : ∀ p m q H', Same H H' → H p = none → H' p = some (.tup [.ref m, .ref q]) → H' m = some (.lst (ns.map V.int)) → TbsV K H' q (nextF d ns T) → Q (.ref p) H') : spRfM K ([v, .ref t] ++ []) H Q E := ⟨v, d, ns, T, t, rfl, h, ok, hT, fun p m q2 H' _ => q p m q2 H'⟩
def LogAt (C : Option Addr) (H : Hp) (cs : List Int) : Prop := match C with
  | none => True
  | some c => H c = some (.lst (cs.map V.int))
def logU (C : Option Addr) (H : Hp) (cs : List Int) (u : Int) : Hp := match C with
  | none => H
  | some c => upd H c (.lst ((cs ++ [u]).map V.int))
theorem LogAt.up {C : Option Addr} {H : Hp} {cs : List Int} {u : Int} : LogAt C (logU C H cs u) (cs ++ [u]) := by
  cases C with
  | none => trivial
  | some c => exact upd_same
theorem LogAt.same {C : Option Addr} {H H' : Hp} {cs : List Int} (s : Same H H') (h : LogAt C H cs) : LogAt C H' cs := by
  cases C with
  | none => trivial
  | some c => exact s _ _ h
/-- what is given fetches these records, from here on, and keeps this log -/
def Fetches (K : PySem.W.Frag) (t : TL) (rs : List Rc) (us : List Nat) (C : Option Addr) (H0 : Hp) : Prop := ∀ (H : Hp) (u : Nat) (r : Rc) (cs : List Int) (Q : VK), KpL C.toList H0 H → LogAt C H cs → cs.length ≤ 900 → u ∈ us → rs[u]? = some r → (∀ v, RcAt K (logU C H cs u) v r → Q v (logU C H cs u)) → t [.int (u : Nat)] H Q
theorem Fetches.kp {K : PySem.W.Frag} {t : TL} {rs : List Rc} {us : List Nat} {C : Option Addr} {H0 H1 : Hp} (k : KpL C.toList H0 H1) (h : Fetches K t rs us C H0) : Fetches K t rs us C H1 := fun H u r cs Q k1 => h H u r cs Q (k.trans k1)
/-- the dict of numbers -/
def NumD (C : Option Addr) (H : Hp) (kvs : List (Key × V)) (rs : List Rc) (us : List Nat) : Prop := ∀ u : Nat, (u ∈ us ∧ ∃ r a, rs[u]? = some r ∧ valV kvs (.inl (u : Int)) = some (.ref a) ∧ C ≠ some a ∧ H a = some (.lst ((rcN r).map V.int))) ∨ (u ∉ us ∧ valV kvs (.inl (u : Int)) = none)
theorem NumD.nil {C : Option Addr} {H : Hp} {rs : List Rc} : NumD C H [] rs [] := fun u => .inr ⟨List.not_mem_nil, rfl⟩
theorem NumD.same {C : Option Addr} {H H' : Hp} {kvs : List (Key × V)} {rs : List Rc} {us : List Nat} (s : Same H H') (h : NumD C H kvs rs us) : NumD C H' kvs rs us := fun u => by
  rcases h u with ⟨m, r, a, e1, e2, e4, e3⟩ | z
  · exact .inl ⟨m, r, a, e1, e2, e4, s _ _ e3⟩
  · exact .inr z
theorem LogAt.ne {C : Option Addr} {H : Hp} {cs : List Int} {a : Addr} (h : LogAt C H cs) (n : H a = none) : C ≠ some a := fun z => by
  subst z
  have h : H a = some (.lst (cs.map V.int)) := h
  rw [n] at h
  cases h
theorem LogAt.kp {C : Option Addr} {H H' : Hp} {cs : List Int} {N : Addr} (h : LogAt C H cs) (n : C ≠ some N) {o : HO} (e : H' = upd H N o) : LogAt C H' cs := by
  cases C with
  | none => trivial
  | some c =>
    show H' c = _
    rw [e, upd_ne (fun z => n (congrArg some z))]
    exact h
def rwF (r : Rw) : Fw := (r.2.2.1.1, r.2.2.1.2.1, r.2.2.1.2.2.1)
def nsA (rs : List Rc) (u : Nat) : List Int := match rs[u]? with
  | some r => rcN r
  | none => []
def blS (rs : List Rc) (p : Rw → Bool) (r : Rw) : List Int := if p r = true then kfB r.2.2.1 (nsA rs r.1) else List.replicate r.2.2.1.1 0
theorem kfB_len2 {d : Hd} {ns : List Int} (h : ns.length = d.1) : (kfB d ns).length = d.1 := by
  show (joinL (ns.map (· * (d.2.2.2.2 : Int))) d.2.2.2.1).length = _
  rw [joinL_length, List.length_map, h]
theorem blS_len {rs : List Rc} {p : Rw → Bool} {r : Rw} (h : p r = true → (nsA rs r.1).length = r.2.2.1.1) : (blS rs p r).length = r.2.2.1.1 := by
  unfold blS
  split
  · rename_i c
    exact kfB_len2 (h c)
  · exact List.length_replicate ..
theorem rows_fw : ∀ rs : List Rc, (runR rs).rows.map rwF = fwR rs := list_snoc rfl fun rs x h => by
  rw [runR_snoc]
  cases x with
  | st T => rw [fwR_st]; exact h
  | fr d ns T =>
    rw [fwR_fr, ← h]
    show ((runR rs).rows ++ [_]).map rwF = _
    rw [List.map_append]
    rfl
/-- what is known of a row's record -/
theorem RowsOf.at_ {rs : List Rc} {rows : List Rw} {Te : Tb × Tb} (h : RowsOf rs rows) (v : Vd T0 0 rs Te 0) {r : Rw} (hr : r ∈ rows) : ∃ ns T, rs[r.1]? = some (.fr r.2.2.1 ns T) ∧ nsA rs r.1 = ns ∧ HdOk r.2.2.1 ∧ ns.length = r.2.2.1.1 := by
  obtain ⟨ns, T, e⟩ := h.fr r hr
  have ok := v.ok _ (List.mem_of_getElem? e)
  obtain ⟨a, b, _⟩ := ok
  exact ⟨ns, T, e, by unfold nsA; rw [e]; rfl, a, b⟩
end Z
namespace Z
open PySem PySem.Spec PyProof.Rows L2
theorem ixsW_at {f : Rw → Bool} {rows : List Rw} {i : Nat} {r : Rw} (h : rows[i]? = some r) : decide (i ∈ ixsW f rows rows.length) = f r := by
  have hl := (List.getElem?_eq_some_iff.mp h).1
  unfold ixsW
  rw [Bool.eq_iff_iff, decide_eq_true_eq, List.mem_filter, List.mem_range, h]
  exact ⟨fun z => z.2, fun z => ⟨hl, z⟩⟩
theorem All2.ta {α β : Type} {R : α → β → Prop} {as : List α} {bs : List β} (h : All2 R as bs) {i : Nat} {b : β} (e : bs[i]? = some b) : ∃ a, as[i]? = some a ∧ R a b := by
  have l := (List.getElem?_eq_some_iff.mp e).1
  have e2 := List.getElem?_eq_getElem (show i < as.length by rw [h.len]; exact l)
  obtain ⟨b', e3, r⟩ := h.at2 e2
  rw [e] at e3
  cases e3
  exact ⟨_, e2, r⟩
theorem Tabs.lk {T : List (Addr × Str)} {H H' : Hp} (k : LK H H') (t : LamX.Tabs T H) : LamX.Tabs T H' := fun e he => by
  obtain ⟨ps, h1, h2, h3⟩ := t e he
  refine ⟨ps, k _ _ h1 (fun _ z => nomatch z), h2, fun pos cv hc => ?_⟩
  obtain ⟨c, e1, e2⟩ := h3 pos cv hc
  exact ⟨c, e1, k _ _ e2 fun _ => codeO_lst⟩
end Z
namespace Z
open PySem PySem.Spec PyProof.Rows L2
theorem mem_prs {js : List Jo} {t : Nat × Nat × Nat} : t ∈ prs js ↔ ∃ j ∈ js, t ∈ prs1 j j.2.1 := by
  unfold prs
  rw [List.mem_flatMap]
/-- a place of a part is as the same place of the whole: no other joint is near -/
theorem seg_get {f : Int → Int → Int → Int × Int} {n m a k : Nat} {xs ys : List Int} {js jb : List Jo} (hn : xs.length = n) (h : Rm n 0 0 js) (hm : ys.length = m) (hb : Rm m 0 0 jb) (hx : ∀ i, i < m → xs[a + i]? = ys[i]?) (h1 : ∀ j ∈ jb, (j.1 + a, j.2) ∈ js)
    (h2 : ∀ j ∈ js, (∃ j' ∈ jb, j = (j'.1 + a, j'.2)) ∨ j.1 + j.2.1 ≤ a + k ∨ a + k + j.2.1 < j.1) (hk : k < m) : (turnL f xs js)[a + k]? = (turnL f ys jb)[k]? := by
  have wb := rm_all jb 0 0 hb
  have sh : ∀ t ∈ prs jb, (t.1, t.2.1 + a, t.2.2 + a) ∈ prs js := fun t ht => by
    obtain ⟨j, hj, ht⟩ := mem_prs.mp ht
    obtain ⟨i, hi, rfl⟩ := mem_prs1.mp ht
    have := wb j hj
    refine mem_prs.mpr ⟨_, h1 j hj, mem_prs1.mpr ⟨i, hi, ?_⟩⟩
    show (j.2.2, j.1 - 1 - i + a, j.1 + i + a) = (j.2.2, j.1 + a - 1 - i, j.1 + a + i)
    rw [show j.1 - 1 - i + a = j.1 + a - 1 - i by omega, show j.1 + i + a = j.1 + a + i by omega]
  have gd : ∀ i, i < m → xs.getD (i + a) 0 = ys.getD i 0 := fun i hi => by
    rw [List.getD_eq_getElem?_getD, List.getD_eq_getElem?_getD, Nat.add_comm i a, hx i hi]
  cases e : prt jb k with
  | none =>
    rw [turn_none hb e, ← hx k hk]
    refine get_out _ _ _ fun t ht => ?_
    obtain ⟨j, hj, ht⟩ := mem_prs.mp ht
    have wj := rm_all js 0 0 h j hj
    rcases h2 j hj with ⟨j', hj', rfl⟩ | c | c
    · obtain ⟨i, hi, rfl⟩ := mem_prs1.mp ht
      have w := wb j' hj'
      have z := prt_none jb k e (fun j hj => (wb j hj).1) _ (mem_prs.mpr ⟨j', hj', mem_prs1.mpr ⟨i, hi, rfl⟩⟩)
      have hi : i < j'.2.1 := hi
      have z : j'.1 - 1 - i ≠ k ∧ j'.1 + i ≠ k := z
      show j'.1 + a - 1 - i ≠ a + k ∧ j'.1 + a + i ≠ a + k
      omega
    · obtain ⟨i, hi, rfl⟩ := mem_prs1.mp ht
      show j.1 - 1 - i ≠ a + k ∧ j.1 + i ≠ a + k
      omega
    · obtain ⟨i, hi, rfl⟩ := mem_prs1.mp ht
      show j.1 - 1 - i ≠ a + k ∧ j.1 + i ≠ a + k
      omega
  | some c =>
    obtain ⟨t, ht, q⟩ := prt_some jb k c e wb
    have mt := rm_mem jb 0 0 hb t ht
    have g1 := get_in (f := f) (prs js) xs hn (rm_ap js 0 0 h) _ (sh t ht)
    have g2 := get_in (f := f) (prs jb) ys hm (rm_ap jb 0 0 hb) t ht
    have g1 : (turnL f xs js)[t.2.1 + a]? = some (f t.1 (xs.getD (t.2.1 + a) 0) (xs.getD (t.2.2 + a) 0)).1 ∧ (turnL f xs js)[t.2.2 + a]? = some (f t.1 (xs.getD (t.2.1 + a) 0) (xs.getD (t.2.2 + a) 0)).2 := g1
    have g2 : (turnL f ys jb)[t.2.1]? = some (f t.1 (ys.getD t.2.1 0) (ys.getD t.2.2 0)).1 ∧ (turnL f ys jb)[t.2.2]? = some (f t.1 (ys.getD t.2.1 0) (ys.getD t.2.2 0)).2 := g2
    rw [gd t.2.1 (by omega), gd t.2.2 (by omega)] at g1
    rcases q with ⟨q1, q2⟩ | ⟨q1, q2⟩
    · rw [← q1, Nat.add_comm a, g1.1, g2.1]
    · rw [← q1, Nat.add_comm a, g1.2, g2.2]
def Til : Nat → Nat → List Rw → Prop
  | _, _, [] => True
  | p, w, r :: t => r.2.1 = p ∧ r.2.2.2.1.1 = w ∧ Til (p + r.2.2.1.1) r.2.2.1.2.1 t
theorem Til.app {Y : List Rw} : ∀ {X : List Rw} {p w : Nat}, Til p w (X ++ Y) → Til p w X ∧ ∃ w', Til (p + totW (X.map rwF)) w' Y
  | [], p, w, h => ⟨trivial, w, h⟩
  | r :: t, p, w, ⟨a, b, h⟩ => by
    obtain ⟨h1, w', h2⟩ := Til.app (X := t) h
    refine ⟨⟨a, b, h1⟩, w', ?_⟩
    rw [List.map_cons, totW_cons, ← Nat.add_assoc]
    exact h2
def jrR (r : Rw) : Jo := (rend r, r.2.2.1.2.1, r.2.2.1.2.2.1)
theorem plJ_til : ∀ {rows : List Rw} {p w : Nat}, Til p w rows → plJ p (rows.map rwF) = rows.map jrR
  | [], _, _, _ => rfl
  | r :: t, p, w, ⟨a, _, h⟩ => by
    show (p + r.2.2.1.1, r.2.2.1.2.1, r.2.2.1.2.2.1) :: plJ (p + r.2.2.1.1) (t.map rwF) = _ :: t.map jrR
    rw [plJ_til h, ← a]
    rfl
theorem plJ_sh : ∀ (fs : List Fw) (p a : Nat), plJ (p + a) fs = (plJ p fs).map fun j => (j.1 + a, j.2)
  | [], _, _ => rfl
  | f :: r, p, a => by
    show (p + a + f.1, f.2.1, f.2.2) :: plJ (p + a + f.1) r = (p + f.1 + a, f.2.1, f.2.2) :: (plJ (p + f.1) r).map _
    rw [show p + a + f.1 = p + f.1 + a by omega, plJ_sh r (p + f.1) a]
theorem Til.cover : ∀ {rows : List Rw} {p w x : Nat}, Til p w rows → p ≤ x → x < p + totW (rows.map rwF) → ∃ r ∈ rows, r.2.1 ≤ x ∧ x < rend r
  | [], p, w, x, _, h1, h2 => by
    have : totW ([] : List Fw) = 0 := rfl
    rw [List.map_nil, this] at h2
    omega
  | r :: t, p, w, x, ⟨a, b, h⟩, h1, h2 => by
    rw [List.map_cons, totW_cons] at h2
    have h2 : x < p + (r.2.2.1.1 + totW (t.map rwF)) := h2
    by_cases c : x < p + r.2.2.1.1
    · exact ⟨r, List.mem_cons_self, by omega, by unfold rend; omega⟩
    · obtain ⟨q, hq, z⟩ := Til.cover (x := x) h (by omega) (by omega)
      exact ⟨q, List.mem_cons_of_mem _ hq, z⟩
theorem Til.bd : ∀ {rows : List Rw} {p w : Nat}, Til p w rows → ∀ r ∈ rows, p ≤ r.2.1 ∧ rend r ≤ p + totW (rows.map rwF)
  | [], _, _, _, r, h => absurd h List.not_mem_nil
  | q :: t, p, w, ⟨a, b, h⟩, r, hr => by
    rw [List.map_cons, totW_cons]
    show p ≤ r.2.1 ∧ rend r ≤ p + (q.2.2.1.1 + totW (t.map rwF))
    rcases List.mem_cons.mp hr with rfl | hr
    · unfold rend
      omega
    · have := Til.bd h r hr
      omega
/-- the joint on the right of a row is the one on the left of the next -/
theorem Til.next : ∀ {C : List Rw} {z : Rw} {p w : Nat}, Til p w (z :: C) → ∀ r ∈ (z :: C).dropLast, ∃ r' ∈ C, r'.2.1 = rend r ∧ r'.2.2.2.1.1 = r.2.2.1.2.1
  | [], z, _, _, _, r, h => by cases h
  | c :: t, z, p, w, ⟨a, b, h⟩, r, hr => by
    rw [List.dropLast_cons₂] at hr
    rcases List.mem_cons.mp hr with rfl | hr
    · obtain ⟨h1, h2, _⟩ := h
      exact ⟨c, List.mem_cons_self, by unfold rend; omega, h2⟩
    · obtain ⟨r', m, q⟩ := Til.next h r hr
      exact ⟨r', List.mem_cons_of_mem _ m, q⟩
theorem split_rows {s e : Int} : ∀ {rows : List Rw}, (rows.Pairwise fun a b => rnear a ≤ rnear b ∧ rfar a ≤ rfar b) → ∃ A C, rows = A ++ rows.filter (selW s e) ++ C ∧ (∀ r ∈ A, rfar r ≤ s) ∧ (∀ r ∈ C, e ≤ rnear r)
  | [], _ => ⟨[], [], rfl, fun r h => absurd h List.not_mem_nil, fun r h => absurd h List.not_mem_nil⟩
  | r :: t, h => by
    obtain ⟨h1, h2⟩ := List.pairwise_cons.mp h
    obtain ⟨A, C, e1, hA, hC⟩ := split_rows (s := s) (e := e) h2
    by_cases c : rfar r ≤ s
    · have z : selW s e r = false := by
        unfold selW
        rw [decide_eq_false (show ¬ s < rfar r by omega), Bool.and_false]
      refine ⟨r :: A, C, ?_, fun q hq => ?_, hC⟩
      · rw [List.filter_cons_of_neg (by rw [z]; exact Bool.false_ne_true), List.cons_append, List.cons_append, ← e1]
      · rcases List.mem_cons.mp hq with rfl | hq
        · exact c
        · exact hA q hq
    · by_cases d : rnear r < e
      · have z : selW s e r = true := by
          unfold selW
          rw [decide_eq_true d, decide_eq_true (show s < rfar r by omega)]
          rfl
        have nA : A = [] := by
          cases A with
          | nil => rfl
          | cons x A =>
            have := hA x List.mem_cons_self
            have := (h1 x (by rw [e1]; exact List.mem_append_left _ (List.mem_append_left _ List.mem_cons_self))).2
            omega
        subst nA
        refine ⟨[], C, ?_, hA, hC⟩
        rw [List.filter_cons_of_pos z, List.nil_append, List.cons_append]
        congr 1
      · have all : ∀ q ∈ r :: t, e ≤ rnear q := fun q hq => by
          rcases List.mem_cons.mp hq with rfl | hq
          · omega
          · have := (h1 q hq).1
            omega
        refine ⟨[], r :: t, ?_, fun q hq => absurd hq List.not_mem_nil, all⟩
        rw [List.filter_eq_nil_iff.mpr fun q hq => ?_]
        · rfl
        · have := all q hq
          unfold selW
          rw [decide_eq_false (show ¬ rnear q < e by omega), Bool.false_and]
          exact Bool.false_ne_true
theorem blk_len {blk : Rw → List Int} : ∀ {rows : List Rw}, (∀ r ∈ rows, (blk r).length = r.2.2.1.1) → (rows.map blk).flatten.length = totW (rows.map rwF)
  | [], _ => rfl
  | r :: t, h => by
    rw [List.map_cons, List.flatten_cons, List.length_append, blk_len fun q hq => h q (List.mem_cons_of_mem _ hq), List.map_cons, totW_cons, h r List.mem_cons_self]
    rfl
theorem chn_app {Y : List Fw} : ∀ {X : List Fw} {w : Nat}, Chn w (X ++ Y) → Chn w X ∧ ∃ w', Chn w' Y
  | [], w, h => ⟨trivial, w, h⟩
  | f :: r, w, ⟨a, b, c, d, g, h⟩ => by
    obtain ⟨h1, h2⟩ := chn_app (X := r) h
    exact ⟨⟨a, b, c, d, g, h1⟩, h2⟩
/-- the samples of a stretch from the rows that it needs -/
theorem part_eq {rows : List Rw} {blk : Rw → List Int} {s e : Nat} (T : Til 0 0 rows) (hc : Chn 0 (rows.map rwF)) (mo : rows.Pairwise fun a b => rnear a ≤ rnear b ∧ rfar a ≤ rfar b) (hl : ∀ r ∈ rows, (blk r).length = r.2.2.1.1) (se : s < e) (le : e ≤ totW (rows.map rwF)) :
    ∃ r B, ndW (s : Int) (e : Int) rows = r :: B ∧ r.2.1 ≤ s ∧ e ≤ r.2.1 + totW ((r :: B).map rwF) ∧ Chn 0 ((r :: B).map rwF) ∧ (∀ q ∈ r :: B, q ∈ rows) ∧
      ((sndW (rows.map rwF) (rows.map blk)).drop s).take (e - s) = ((sndW ((r :: B).map rwF) ((r :: B).map blk)).drop (s - r.2.1)).take (e - s) := by
  obtain ⟨A, C, e1, hA, hC⟩ := split_rows (s := (s : Int)) (e := (e : Int)) mo
  have en : ndW (s : Int) (e : Int) rows = rows.filter (selW s e) := if_neg (by omega)
  have sel : ∀ r ∈ rows, ∀ x : Nat, s ≤ x → x < e → r.2.1 ≤ x → x < rend r → r ∈ rows.filter (selW s e) := fun r hr x h1 h2 h3 h4 => by
    refine List.mem_filter.mpr ⟨hr, ?_⟩
    unfold selW rnear rfar
    unfold rend at h4
    rw [decide_eq_true (by omega), decide_eq_true (by omega)]
    rfl
  obtain ⟨r0, m0, a0, b0⟩ := T.cover (Nat.zero_le s) (by omega)
  obtain ⟨r1, m1, a1, b1⟩ := T.cover (Nat.zero_le (e - 1)) (by omega)
  have f0 := sel r0 m0 s (Nat.le_refl _) se a0 b0
  have f1 := sel r1 m1 (e - 1) (by omega) (by omega) a1 b1
  have sub : ∀ q ∈ rows.filter (selW s e), q ∈ rows := fun q hq => (List.mem_filter.mp hq).1
  generalize rows.filter (selW (s : Int) (e : Int)) = F at *
  have nF : F ≠ [] := fun z => by
    rw [z] at f0
    cases f0
  obtain ⟨F', z, rfl⟩ : ∃ F' z, F = F' ++ [z] := ⟨F.dropLast, F.getLast nF, (List.dropLast_concat_getLast nF).symm⟩
  have e2 : rows = A ++ ((F' ++ [z]) ++ C) := by rw [e1, List.append_assoc]
  have e3 : rows = (A ++ F') ++ (z :: C) := by rw [e1]; simp
  have T2 := T
  rw [e2] at T2
  obtain ⟨TA, w', T3⟩ := Til.app T2
  obtain ⟨TF, w2, TC⟩ := Til.app T3
  have T4 := T
  rw [e3] at T4
  obtain ⟨_, w3, Tz⟩ := Til.app T4
  have hc2 := hc
  rw [e2, List.map_append, List.map_append] at hc2
  obtain ⟨_, w4, hc3⟩ := chn_app hc2
  have cF := (chn_app hc3).1.low
  have bF := TF.bd
  have x0 := bF _ f0
  have x1 := bF _ f1
  obtain ⟨r, B, eF⟩ : ∃ r B, F' ++ [z] = r :: B := by
    cases F' with
    | nil => exact ⟨z, [], rfl⟩
    | cons r t => exact ⟨r, t ++ [z], rfl⟩
  have pr : r.2.1 = totW (A.map rwF) := by
    have TF := TF
    rw [eF] at TF
    have := TF.1
    omega
  refine ⟨r, B, by rw [en, eF], by omega, ?_, by rw [← eF]; exact cF, fun q hq => sub q (by rw [eF]; exact hq), ?_⟩
  · rw [← eF, pr]
    omega
  rw [← eF, pr]
  generalize ha : totW (A.map rwF) = a at *
  have hlA : ∀ q ∈ A, (blk q).length = q.2.2.1.1 := fun q hq => hl q (by rw [e2]; exact List.mem_append_left _ hq)
  have hlF : ∀ q ∈ F' ++ [z], (blk q).length = q.2.2.1.1 := fun q hq => hl q (sub q hq)
  have lA := blk_len hlA
  have lF := blk_len hlF
  have lR := blk_len hl
  have ex : (rows.map blk).flatten = (A.map blk).flatten ++ (((F' ++ [z]).map blk).flatten ++ (C.map blk).flatten) := by
    rw [e2, List.map_append, List.map_append, List.flatten_append, List.flatten_append]
  have ejs : (plJ 0 (rows.map rwF)).dropLast = (A ++ F').map jrR ++ (z :: C).dropLast.map jrR := by
    rw [plJ_til T, ← List.map_dropLast, e3, List.dropLast_append_of_ne_nil (by simp), List.map_append]
  have ejb : F'.map jrR = ((plJ 0 ((F' ++ [z]).map rwF)).dropLast).map fun j => (j.1 + a, j.2) := by
    have z1 := plJ_til TF
    rw [plJ_sh _ 0 a] at z1
    have z2 := congrArg List.dropLast z1
    rw [← List.map_dropLast, ← List.map_dropLast, List.dropLast_concat] at z2
    exact z2.symm
  have jf : ∀ q : Rw, (jrR q).1 = rend q ∧ (jrR q).2.1 = q.2.2.1.2.1 := fun q => ⟨rfl, rfl⟩
  have key : ∀ i, i < e - s → (sndW (rows.map rwF) (rows.map blk))[s + i]? = (sndW ((F' ++ [z]).map rwF) ((F' ++ [z]).map blk))[s - a + i]? := fun i hi => by
    have es : s + i = a + (s - a + i) := by omega
    rw [es]
    refine seg_get (n := totW (rows.map rwF)) (m := totW ((F' ++ [z]).map rwF)) lR (plJ_rm _ 0 0 _ hc (Nat.zero_add _).symm) lF (plJ_rm _ 0 0 _ cF (Nat.zero_add _).symm) (fun i hi => ?_) (fun j hj => ?_) (fun j hj => ?_) (by omega)
    · rw [ex, List.getElem?_append_right (by rw [lA, ha]; omega), lA, ha, Nat.add_sub_cancel_left, List.getElem?_append_left (by rw [lF]; exact hi)]
    · have m := List.mem_map_of_mem (f := fun j : Jo => (j.1 + a, j.2)) hj
      rw [← ejb] at m
      rw [ejs, List.map_append]
      exact List.mem_append_left _ (List.mem_append_right _ m)
    · rw [ejs, List.map_append] at hj
      rcases List.mem_append.mp hj with hj | hj
      · rcases List.mem_append.mp hj with hj | hj
        · obtain ⟨q, hq, rfl⟩ := List.mem_map.mp hj
          have := hA q hq
          unfold rfar at this
          refine .inr (.inl ?_)
          rw [(jf q).1, (jf q).2]
          unfold rend
          omega
        · rw [ejb] at hj
          obtain ⟨j', hj', e'⟩ := List.mem_map.mp hj
          exact .inl ⟨j', hj', e'.symm⟩
      · obtain ⟨q, hq, rfl⟩ := List.mem_map.mp hj
        obtain ⟨r', hr', k1, k2⟩ := Til.next Tz q hq
        have := hC r' hr'
        unfold rnear at this
        refine .inr (.inr ?_)
        rw [(jf q).1, (jf q).2]
        omega
  refine List.ext_getElem? fun i => ?_
  rw [List.getElem?_take, List.getElem?_take]
  split
  · rename_i c
    rw [List.getElem?_drop, List.getElem?_drop, key i c]
  · rfl
theorem til_rowsF : ∀ (rs : List Rc) (i pl : Nat) (lj : Nat × Nat) (o : Nat), Til pl lj.1 (rowsF i pl lj o rs)
  | [], _, _, _, _ => trivial
  | .st _ :: r, i, pl, lj, o => til_rowsF r (i + 1) pl lj i
  | .fr d _ _ :: r, i, pl, lj, o => ⟨rfl, rfl, til_rowsF r (i + 1) (pl + d.1) (d.2.1, d.2.2.1) o⟩
theorem til_run (rs : List Rc) : Til 0 0 (runR rs).rows := by
  rw [runR_rows]
  exact til_rowsF rs 0 0 (0, 0) 0
def allB (rs : List Rc) (rows : List Rw) : List (List Int) := rows.map fun r => kfB r.2.2.1 (nsA rs r.1)
end Z
namespace Z
open PySem PySem.Spec PyProof.Rows L2 LamX NdefX
/-- all but the pool and the tables of code stay -/
def KpT (p : Addr) (H H' : Hp) : Prop := ∀ b o, b ≠ p → H b = some o → (∀ ps, o ≠ .tbl ps) → H' b = some o
section
variable {p : Addr} {H H' H1 H2 H3 : Hp}
theorem KpT.refl : KpT p H H := fun _ _ _ e _ => e
theorem KpT.trans (a : KpT p H H1) (b : KpT p H1 H2) : KpT p H H2 := fun c o n e t => b c o n (a c o n e t) t
theorem KpT.of (k : Kp p H H') : KpT p H H' := fun b o n e _ => k b o n e
theorem KpT.ext (s : LamX.ExtN H H') : KpT p H H' := fun b o _ e t => s b o e t
theorem KpT.same (s : Same H H') : KpT p H H' := fun b o _ e _ => s b o e
theorem KpT.new {q : Addr} {o : HO} (n : H q = none) : KpT p H (upd H q o) := KpT.same (same_new n)
theorem KpT.lst {b : Addr} {xs : List V} (k : KpT p H H') (n : b ≠ p) (e : H b = some (.lst xs)) : H' b = some (.lst xs) := k _ _ n e lst_ntbl
end
end Z
namespace Z
open PySem PySem.Spec PyProof.Rows L2 LamX
/-- records of small numbers -/
def SmR (rs : List Rc) : Prop := ∀ r ∈ rs, match r with
  | .st T => TbOk (10 ^ 8) T.1 ∧ TbOk (10 ^ 8) T.2
  | .fr _ ns _ => ∀ z ∈ ns, z.natAbs ≤ 30000
theorem SmR.nil : SmR [] := fun _ h => absurd h List.not_mem_nil
theorem SmR.st {rs : List Rc} {T : Tb × Tb} (h : SmR rs) (h1 : TbOk (10 ^ 8) T.1) (h2 : TbOk (10 ^ 8) T.2) : SmR (rs ++ [.st T]) := fun r hr => by
  rcases List.mem_append.mp hr with m | m
  · exact h r m
  · rw [List.mem_singleton.mp m]
    exact ⟨h1, h2⟩
theorem SmR.fr {rs : List Rc} {d : Hd} {ns : List Int} {T : Tb × Tb} (h : SmR rs) (h1 : ∀ z ∈ ns, z.natAbs ≤ 30000) : SmR (rs ++ [.fr d ns T]) := fun r hr => by
  rcases List.mem_append.mp hr with m | m
  · exact h r m
  · rw [List.mem_singleton.mp m]
    exact h1
/-- b is a with other numbers in the frame wh and, if ab, in those behind it up to the next state; k frames so far, o: such a one was met since the last state -/
inductive OthP (wh : Nat) (ab : Bool) : List Rc → List Rc → Nat → Bool → Prop
  | nil : OthP wh ab [] [] 0 false
  | st {a b : List Rc} {k : Nat} {o : Bool} {T : Tb × Tb} : OthP wh ab a b k o → OthP wh ab (a ++ [.st T]) (b ++ [.st T]) k false
  | fr {a b : List Rc} {k : Nat} {o : Bool} {d : Hd} {ns ms : List Int} {T T' : Tb × Tb} (c : Bool) : OthP wh ab a b k o → (c = true → k = wh ∨ (o = true ∧ ab = true)) → (c = false → ms = ns) → OthP wh ab (a ++ [.fr d ns T]) (b ++ [.fr d ms T']) (k + 1) (o || c)
theorem OthP.run {wh : Nat} {ab : Bool} {a b : List Rc} {k : Nat} {o : Bool} (h : OthP wh ab a b k o) : runR b = runR a ∧ (runR a).rows.length = k ∧ b.length = a.length := by
  induction h with
  | nil => exact ⟨rfl, rfl, rfl⟩
  | st h ih =>
    rw [runR_snoc, runR_snoc, ih.1]
    exact ⟨rfl, ih.2.1, by rw [List.length_append, List.length_append, ih.2.2]⟩
  | fr c h _ _ ih =>
    rw [runR_snoc, runR_snoc, ih.1]
    refine ⟨rfl, ?_, by rw [List.length_append, List.length_append, ih.2.2, List.length_singleton, List.length_singleton]⟩
    show ((runR _).rows ++ [_]).length = _
    rw [List.length_append, ih.2.1]
    rfl
theorem run_o : ∀ rs : List Rc, (runR rs).o ≤ rs.length := list_snoc (Nat.le_refl _) fun rs x h => by
  rw [runR_snoc, List.length_append]
  cases x with
  | st T =>
    show (runR rs).i ≤ _
    rw [runR_i]
    exact Nat.le_add_right _ _
  | fr d ns T => exact Nat.le_trans h (Nat.le_add_right _ _)
theorem nsA_app {rs : List Rc} {x : Rc} {u : Nat} (h : u < rs.length) : nsA (rs ++ [x]) u = nsA rs u := by
  unfold nsA
  rw [List.getElem?_append_left h]
theorem nsA_last {rs : List Rc} {d : Hd} {ns : List Int} {T : Tb × Tb} : nsA (rs ++ [.fr d ns T]) rs.length = ns := by
  unfold nsA
  rw [List.getElem?_append_right (Nat.le_refl _), Nat.sub_self]
  rfl
/-- only frames that cannot be read without that record have other numbers -/
theorem OthP.ns {wh : Nat} {ab : Bool} {a b : List Rc} {k : Nat} {o : Bool} (h : OthP wh ab a b k o) : (o = true → ∃ w, (runR a).rows[wh]? = some w ∧ (runR a).o ≤ w.1) ∧ ∀ r ∈ (runR a).rows, nsA b r.1 = nsA a r.1 ∨ ∃ w, (runR a).rows[wh]? = some w ∧ r.2.2.2.2 ≤ w.1 ∧ w.1 ≤ r.1 := by
  induction h with
  | nil => exact ⟨fun z => (nomatch z), fun r hr => absurd hr List.not_mem_nil⟩
  | @st a b k o T h ih =>
    have lt := (rowsOf' a).2.2.2
    have lb := h.run.2.2
    refine ⟨fun z => (nomatch z), fun r hr => ?_⟩
    rw [runR_snoc] at hr ⊢
    rw [nsA_app (by rw [lb]; exact lt r hr), nsA_app (lt r hr)]
    exact ih.2 r hr
  | @fr a b k o d ns ms T T' c h hc hn ih =>
    have lt := (rowsOf' a).2.2.2
    have lb := h.run.2.2
    have lk := h.run.2.1
    have er : (runR (a ++ [Rc.fr d ns T])).rows = (runR a).rows ++ [((runR a).i, (runR a).pl, d, (runR a).lj, (runR a).o)] := by rw [runR_snoc]; rfl
    have eo : (runR (a ++ [Rc.fr d ns T])).o = (runR a).o := by rw [runR_snoc]; rfl
    have ro := run_o a
    have up : ∀ {w : Rw}, (runR a).rows[wh]? = some w → ((runR a).rows ++ [((runR a).i, (runR a).pl, d, (runR a).lj, (runR a).o)])[wh]? = some w := fun e => by
      rw [List.getElem?_append_left (List.getElem?_eq_some_iff.mp e).1]
      exact e
    have own : k = wh → ((runR a).rows ++ [((runR a).i, (runR a).pl, d, (runR a).lj, (runR a).o)])[wh]? = some ((runR a).i, (runR a).pl, d, (runR a).lj, (runR a).o) := fun e => by
      rw [← e, ← lk, List.getElem?_append_right (Nat.le_refl _), Nat.sub_self]
      rfl
    rw [er, eo]
    refine ⟨fun z => ?_, fun r hr => ?_⟩
    · by_cases ho : o = true
      · obtain ⟨w, e, l⟩ := ih.1 ho
        exact ⟨w, up e, l⟩
      · have hct : c = true := by
          cases o with
          | true => exact absurd rfl ho
          | false => exact z
        rcases hc hct with e | ⟨e, _⟩
        · refine ⟨_, own e, ?_⟩
          show (runR a).o ≤ (runR a).i
          rw [runR_i]
          exact ro
        · exact absurd e ho
    · rcases List.mem_append.mp hr with m | m
      · rw [nsA_app (by rw [lb]; exact lt r m), nsA_app (lt r m)]
        rcases ih.2 r m with z | ⟨w, e, l⟩
        · exact .inl z
        · exact .inr ⟨w, up e, l⟩
      · obtain rfl := List.mem_singleton.mp m
        have ei := runR_i a
        have e1 : nsA (a ++ [Rc.fr d ns T]) (runR a).i = ns := by rw [ei]; exact nsA_last
        have e2 : nsA (b ++ [Rc.fr d ms T']) (runR a).i = ms := by rw [ei, ← lb]; exact nsA_last
        cases c with
        | false => exact .inl (e2.trans ((hn rfl).trans e1.symm))
        | true =>
          rcases hc rfl with e | ⟨e, _⟩
          · exact .inr ⟨_, own e, by show (runR a).o ≤ (runR a).i; omega, Nat.le_refl _⟩
          · obtain ⟨w, ew, l⟩ := ih.1 e
            have := lt w (List.mem_of_getElem? ew)
            exact .inr ⟨w, up ew, l, by show w.1 ≤ (runR a).i; omega⟩
/-- a sample is told by the frames that reach it -/
theorem snd_at {rows : List Rw} {b1 b2 : Rw → List Int} (T : Til 0 0 rows) (hc : Chn 0 (rows.map rwF)) (mo : rows.Pairwise fun a b => rnear a ≤ rnear b ∧ rfar a ≤ rfar b) (l1 : ∀ r ∈ rows, (b1 r).length = r.2.2.1.1) (l2 : ∀ r ∈ rows, (b2 r).length = r.2.2.1.1) {t : Nat} (ht : t < totW (rows.map rwF))
    (ag : ∀ r ∈ rows, rnear r ≤ t → (t : Int) < rfar r → b1 r = b2 r) : (sndW (rows.map rwF) (rows.map b1))[t]? = (sndW (rows.map rwF) (rows.map b2))[t]? := by
  obtain ⟨r, B, e, _, _, _, m, q1⟩ := part_eq (blk := b1) T hc mo l1 (Nat.lt_succ_self t) ht
  obtain ⟨r', B', e', _, _, _, _, q2⟩ := part_eq (blk := b2) T hc mo l2 (Nat.lt_succ_self t) ht
  rw [e] at e'
  obtain ⟨rfl, rfl⟩ := List.cons.inj e'
  have same : (r :: B).map b1 = (r :: B).map b2 := List.map_congr_left fun x hx => by
    have hx2 : x ∈ ndW (t : Int) ((t + 1 : Nat) : Int) rows := by rw [e]; exact hx
    unfold ndW at hx2
    rw [if_neg (by omega)] at hx2
    obtain ⟨hm, hs⟩ := List.mem_filter.mp hx2
    unfold selW at hs
    simp only [Bool.and_eq_true, decide_eq_true_eq] at hs
    exact ag x hm (by omega) hs.2
  rw [same] at q1
  have q := q1.trans q2.symm
  have h := congrArg List.head? q
  rw [List.head?_take, List.head?_take, if_neg (by omega), if_neg (by omega), List.head?_drop, List.head?_drop] at h
  exact h
theorem touched_cov {rows : List Rw} {ns : List Int} {N : Nat} (m : RowsM rows N) (p : Int) : cov (tchW rows ns) p = true ↔ ∃ r ∈ rows, hitL ns r = true ∧ rnear r ≤ p ∧ p < rfar r := by
  have asc : (ixsW (hitL ns) rows rows.length).Pairwise (· < ·) := (List.pairwise_lt_range).sublist (List.filter_sublist)
  have hv : ∀ v ∈ (rowsAt rows (ixsW (hitL ns) rows rows.length)).map ivW, v.1 < v.2 := fun v hv => by
    obtain ⟨r, hr, rfl⟩ := List.mem_map.mp hv
    exact m.ne r (rowsAt_mem hr)
  have hp : ((rowsAt rows (ixsW (hitL ns) rows rows.length)).map ivW).Pairwise fun a b => a.1 ≤ b.1 ∧ a.2 ≤ b.2 := List.pairwise_map.mpr (rowsAt_mono m asc)
  unfold tchW
  rw [(mgA_ok hv hp).cv, cov_iff]
  constructor
  · rintro ⟨v, h, h1, h2⟩
    obtain ⟨r, hr, rfl⟩ := List.mem_map.mp h
    obtain ⟨j, hj, e⟩ := List.mem_filterMap.mp hr
    refine ⟨r, List.mem_of_getElem? e, ?_, h1, h2⟩
    exact (ixsW_at (f := hitL ns) e).symm.trans (decide_eq_true hj)
  · rintro ⟨r, hr, hh, h1, h2⟩
    obtain ⟨j, e⟩ := List.mem_iff_getElem?.mp hr
    refine ⟨ivW r, List.mem_map.mpr ⟨r, List.mem_filterMap.mpr ⟨j, ?_, e⟩, rfl⟩, h1, h2⟩
    exact of_decide_eq_true ((ixsW_at (f := hitL ns) e).trans hh)
section
variable {rs rs2 : List Rc} {wh k : Nat} {o : Bool} {w : Rw} {Te Te2 : Tb × Tb}
theorem OthP.keep (hO : OthP wh true rs rs2 k o) (hw : (runR rs).rows[wh]? = some w) {r : Rw} (hr : r ∈ (runR rs).rows) (hh : hitL [(w.1 : Int)] r = false) : nsA rs2 r.1 = nsA rs r.1 := by
  rcases hO.ns.2 r hr with z | ⟨w', e, l1, l2⟩
  · exact z
  · rw [hw] at e
    cases e
    have : hitL [(w.1 : Int)] r = true := hitL_iff.mpr ⟨_, List.mem_cons_self, by omega, by omega⟩
    rw [hh] at this
    cases this
theorem OthP.len (hO : OthP wh true rs rs2 k o) (hV2 : Vd T0 0 rs2 Te2 0) {r : Rw} (hr : r ∈ (runR rs).rows) : (nsA rs2 r.1).length = r.2.2.1.1 := by
  rw [← hO.run.1] at hr
  obtain ⟨ns, T, e1, e2, e3, e4⟩ := (rowsOf rs2).at_ hV2 hr
  rw [e2, e4]
theorem OthP.out (hO : OthP wh true rs rs2 k o) (hV : Vd T0 0 rs Te 0) (hV2 : Vd T0 0 rs2 Te2 0) (hw : (runR rs).rows[wh]? = some w) {t : Nat} (ht : t < totW (fwR rs)) (hc : cov (tchW (runR rs).rows [(w.1 : Int)]) t = false) :
    (sndW (fwR rs) (allB rs2 (runR rs).rows))[t]? = (sndW (fwR rs) (allB rs (runR rs).rows))[t]? ∧ (sndW (fwR rs) ((runR rs).rows.map (blS rs fun r => !hitL [(w.1 : Int)] r)))[t]? = (sndW (fwR rs) (allB rs (runR rs).rows))[t]? := by
  have til := til_run rs
  have m := rowsM_of hV
  have hfw := rows_fw rs
  have chn : Chn 0 ((runR rs).rows.map rwF) := by rw [hfw]; exact hV.chn
  have ht2 : t < totW ((runR rs).rows.map rwF) := by rw [hfw]; exact ht
  have no : ∀ r ∈ (runR rs).rows, rnear r ≤ t → (t : Int) < rfar r → hitL [(w.1 : Int)] r = false := fun r hr h1 h2 => by
    cases h : hitL [(w.1 : Int)] r with
    | false => rfl
    | true =>
      have := (touched_cov (ns := [(w.1 : Int)]) m t).mpr ⟨r, hr, h, h1, h2⟩
      rw [hc] at this
      cases this
  have l1 : ∀ r ∈ (runR rs).rows, (nsA rs r.1).length = r.2.2.1.1 := fun r hr => by
    obtain ⟨ns, T, e1, e2, e3, e4⟩ := (rowsOf rs).at_ hV hr
    rw [e2, e4]
  rw [← hfw]
  exact ⟨snd_at til chn m.mo (fun r hr => kfB_len2 (hO.len hV2 hr)) (fun r hr => kfB_len2 (l1 r hr)) ht2 fun r hr h1 h2 => by rw [hO.keep hw hr (no r hr h1 h2)],
    snd_at til chn m.mo (fun r hr => blS_len fun _ => l1 r hr) (fun r hr => kfB_len2 (l1 r hr)) ht2 fun r hr h1 h2 => by show (if (!hitL [(w.1 : Int)] r) = true then _ else _) = _; rw [no r hr h1 h2]; rfl⟩
end
theorem OthP.lens {rs rs2 : List Rc} {wh k : Nat} {o : Bool} {Te Te2 : Tb × Tb} (hO : OthP wh true rs rs2 k o) (hV : Vd T0 0 rs Te 0) (hV2 : Vd T0 0 rs2 Te2 0) (p : Rw → Bool) : (sndW (fwR rs) (allB rs (runR rs).rows)).length = totW (fwR rs) ∧ (sndW (fwR rs) (allB rs2 (runR rs).rows)).length = totW (fwR rs) ∧ (sndW (fwR rs) ((runR rs).rows.map (blS rs p))).length = totW (fwR rs) := by
  have l1 : ∀ r ∈ (runR rs).rows, (nsA rs r.1).length = r.2.2.1.1 := fun r hr => by
    obtain ⟨ns, T, e1, e2, e3, e4⟩ := (rowsOf rs).at_ hV hr
    rw [e2, e4]
  unfold sndW
  rw [turnL_length, turnL_length, turnL_length, ← rows_fw rs]
  exact ⟨blk_len fun r hr => kfB_len2 (l1 r hr), blk_len fun r hr => kfB_len2 (hO.len hV2 hr), blk_len fun r hr => blS_len fun _ => l1 r hr⟩
end Z
namespace Z
open PySem PySem.Spec PyProof.Rows L2
theorem passes_callL {X : Cx} {W : WX} {E : XK} (tk : Takes X W) (hW : ∀ cls d σ H, σ.length = X.N.length → E cls d H → W cls d σ H) : ∀ (pins : List (Addr × Obj)) (σ : L2.St) (H : Hp) (s : Shared) (e : Value) (s' : Shared), Inv X pins σ H s → L2.CX X.prog X.w X.stack H s E e s' → X.xe e s' :=
  fun _ σ _ _ e s' I c => tk e s' (XE.of_call I (fun cls d H' h => hW cls d σ H' I.len h) c)
def repV : V → Str
  | .non => "None"
  | .bl b => if b then "True" else "False"
  | .int i => toString i
  | .str x => reprText x
  | _ => ""
def okR : V → Prop
  | .non => True
  | .bl _ => True
  | .int i => i.natAbs.log2 < 1920
  | .str x => (reprText x).length ≤ sizeLine
  | _ => False
def rReprS : List V → Hp → VK → Prop := fun xs H Q => ∃ v, xs = [v] ∧ okR v ∧ Q (.str (repV v)) H
theorem call_reprS {X : Cx} : CallR X (.builtin "repr") rReprS := by
  intro pins s σ H xs us Q I r h
  obtain ⟨v, rfl, ok, q⟩ := h
  obtain ⟨u, rfl, ru⟩ := vals1 r
  cases v with
  | non =>
    cases ru
    exact PySem.P.repr_of_none ⟨.str _, H, I.tok _, ⟨_, rfl⟩, q⟩
  | bl b =>
    cases ru
    refine PySem.P.repr_of_bool ⟨.str _, H, I.tok _, ⟨_, by cases b <;> rfl⟩, q⟩
  | int i =>
    obtain ⟨t, rfl⟩ := ru
    exact PySem.P.repr_of_int ok ⟨.str _, H, I.tok _, ⟨_, rfl⟩, q⟩
  | str x =>
    obtain ⟨t, rfl⟩ := ru
    exact PySem.P.repr_of_str ⟨.str _, H, I.tok _, ⟨_, rfl⟩, q⟩ ok
  | ref a => exact ok.elim
  | byt b => exact ok.elim
  | flt x => exact ok.elim
  | ty x => exact ok.elim
theorem rd_reprS {v : V} {H : Hp} {Q : VK} (ok : okR v) (q : Q (.str (repV v)) H) : rReprS ([v] ++ []) H Q := ⟨v, rfl, ok, q⟩
abbrev EvR := Nat × Nat × Nat
def PlAt (K : PySem.W.Frag) (H : Hp) (lv st : Nat) (v : V) (r : EvR) : Prop := ∃ h j, v = .ref h ∧ H h = some (.tup [.int (r.1 : Nat), .ref j, .int (lv : Nat), .int (st : Nat)]) ∧ JtV K H j r.2
theorem PlAt.lk {K : PySem.W.Frag} {H H' : Hp} {lv st : Nat} {v : V} {r : EvR} (s : LK H H') (h : PlAt K H lv st v r) : PlAt K H' lv st v r := by
  obtain ⟨a, j, e, h1, h2⟩ := h
  exact ⟨a, j, e, s _ _ h1 (fun _ z => nomatch z), h2.lk s⟩
def PlsAt (H : Hp) (vs : List V) (hss : List (List Hd)) : Prop := All2 (fun v hs => ∃ b refs, v = .ref b ∧ H b = some (.lst refs) ∧ HdsAt H refs hs ∧ refs.length ≤ 200) vs hss
theorem PlsAt.same {H H' : Hp} {vs : List V} {hss : List (List Hd)} (s : Same H H') (h : PlsAt H vs hss) : PlsAt H' vs hss := h.imp fun _ _ ⟨b, refs, e, h1, h2, h3⟩ => ⟨b, refs, e, s _ _ h1, h2.lk (.of s), h3⟩
/-- the first of the least of the first n numbers -/
def MinAt (zs : List Int) (n i : Nat) (z : Int) : Prop := zs[i]? = some z ∧ i < n ∧ ∀ k y, k < n → zs[k]? = some y → z ≤ y ∧ (k < i → z < y)
theorem MinAt.keep {zs : List Int} {n i : Nat} {z y : Int} (h : MinAt zs n i z) (e : zs[n]? = some y) (c : ¬ y < z) : MinAt zs (n + 1) i z := ⟨h.1, Nat.lt_succ_of_lt h.2.1, fun k x hk ex => by
  by_cases ck : k < n
  · exact h.2.2 k x ck ex
  · obtain rfl : k = n := by omega
    rw [e] at ex
    cases ex
    exact ⟨by omega, fun c2 => by have := h.2.1; omega⟩⟩
theorem MinAt.new {zs : List Int} {n i : Nat} {z y : Int} (h : MinAt zs n i z) (e : zs[n]? = some y) (c : y < z) : MinAt zs (n + 1) n y := ⟨e, Nat.lt_succ_self _, fun k x hk ex => by
  by_cases ck : k < n
  · have := (h.2.2 k x ck ex).1
    exact ⟨by omega, fun _ => by omega⟩
  · obtain rfl : k = n := by omega
    rw [e] at ex
    cases ex
    exact ⟨Int.le_refl _, fun c2 => absurd c2 (Nat.lt_irrefl _)⟩⟩
def eR (o v : V) (i k : Nat) : V := if 5 ≤ i + k then o else v
end Z
namespace Z
open PySem PySem.Spec PyProof.Rows L2
open SX (S S_len S_cat S_inj)
theorem str_num (n : Nat) : ((toString ((n : Nat) : Int) : String) : Str) = S (TL.numL n) := TL.ext_tl (TL.tl_num n)
theorem numL_0 : TL.numL 0 = [48] := by rw [TL.numL_lt (by decide)]
theorem numL_head {n : Nat} (h : n ≠ 0) : ∃ c r, TL.numL n = c :: r ∧ c ≠ 48 := by
  induction n using Nat.strongRecOn with
  | _ n ih =>
    by_cases c : n < 10
    · exact ⟨48 + n, [], TL.numL_lt c, by omega⟩
    · rw [TL.numL_step (by omega)]
      obtain ⟨d, r, e, hd⟩ := ih (n / 10) (by omega) (by omega)
      rw [e]
      exact ⟨d, r ++ [48 + n % 10], rfl, hd⟩
theorem num_len {n : Nat} (h : n < 2 ^ 200) : (TL.numL n).length ≤ 100 := TL.numL_len (by decide) (Nat.lt_of_lt_of_le h (by decide))
theorem nums_nat {r : Rc} (ok : RcOk r) : ∀ z ∈ numsR r, ∃ n : Nat, z = (n : Int) ∧ n < 2 ^ 200 := fun z hz => by
  have h := nums_small ok z hz
  have h0 : 0 ≤ z := by
    cases r with
    | st T =>
      obtain ⟨⟨a1, a2, a3, a4⟩, b1, b2, b3, b4⟩ := ok
      simp only [numsR, List.mem_cons, List.not_mem_nil, or_false] at hz
      rcases hz with rfl | rfl | rfl | rfl <;> omega
    | fr d ns T =>
      have hm := markF_bound ns
      simp only [numsR, List.mem_cons, List.not_mem_nil, or_false] at hz
      rcases hz with rfl | rfl | rfl | rfl | rfl | rfl <;> omega
  exact ⟨z.toNat, by omega, by omega⟩
/-- two promises of one def -/
theorem fn_or {P : Program} {w : World} {K : PySem.W.Frag} {mg : Str → Option Value} {base : Heap} {CX : CXT} {j k n : Nat} {f : Addr} {fd : FuncData} {ps : List Str} {sp sp' so : Sp} (F : FnOk P w K mg base CX j f fd ps sp) (G : FnOk P w K mg base CX k f fd ps sp') (hj : j ≤ n) (hk : k ≤ n)
    (h : ∀ vs H Q E, so vs H Q E → sp vs H Q E ∨ sp' vs H Q E) : FnOk P w K mg base CX n f fd ps so :=
  ⟨fun vs H Q E q => (h _ _ _ _ q).elim (F.len vs H Q E) (G.len vs H Q E), fun A outer s H args us vs Q E hr he hb hv hs => (h _ _ _ _ hs).elim ((F.mono hj).run A outer s H args us vs Q E hr he hb hv) ((G.mono hk).run A outer s H args us vs Q E hr he hb hv)⟩
end Z
namespace Z
open PySem PySem.Spec PyProof.Rows L2
open SX (S S_len S_cat S_inj)
section
open PySem.NumText PySem.Calls Hx
theorem read_bL {cs : List Nat} (lim : Nat) (h : ∀ c ∈ cs, IsB c) (hne : cs ≠ []) : (int_private% "readNumeral") lim 2 cs = (int_private% "Numeral.value") ((valB cs : Nat) : Int) := by
  have hr : ∀ c ∈ cs.reverse, IsB c := fun c hc => h c (List.mem_reverse.mp hc)
  refine (readNumeral_eq lim 2 cs).trans ?_
  rw [dropB (fun c hc => (h c hc).hex), signH (fun c hc => (h c hc).hex)]
  show judge lim false (based 2 cs).1 (based 2 cs).2.1 (digits? (based 2 cs).1 (((based 2 cs).2.2.reverse.dropWhile blank).reverse)) = _
  rw [based_b h]
  show judge lim false 2 false (digits? 2 ((cs.reverse.dropWhile blank).reverse)) = _
  rw [dropB (fun c hc => (hr c hc).hex), List.reverse_reverse, digits_b h hne]
  show (int_private% "Numeral.value") (((cs.foldl (fun acc c => acc.push (c - 48)) (#[] : Array Nat)).foldl (fun acc d => acc * 2 + d) 0 : Nat) : Int) = _
  have z : (#[] : Array Nat).foldl (fun acc d => acc * 2 + d) 0 = 0 := by first | rfl | simp
  rw [push_b, z, valB_two]
theorem wp_textL {M : Model} {A : Around} {E : Value → Shared → Prop} {s : Shared} {Q : Value → Shared → Prop} {v : Value} {text : List Nat} {n : Int} (hd : s.heap.NoDigits)
    (hr : ∀ lim, (int_private% "readNumeral") lim 2 (text.takeWhile (· != 0)) = (int_private% "Numeral.value") n)
    (ha : ((text.takeWhile (· != 0)).length == text.length) = true) (h : Q (.int n s.toks) { s with toks := s.toks + 1 }) :
    wpAny M A ((int_private% "intFromText") v text 2) Q E s := by
  by_cases hs : (text.takeWhile (· != 0)).length ≤ 640
  · exact wp_textB hs (hr 0) ha h
  · obtain ⟨mc, hns, hnone⟩ := hd
    show wpAny M A (do
      let limit ← if (text.takeWhile (· != 0)).length ≤ 640 then pure 0 else Builtin.intMaxStrDigits
      _) Q E s
    rw [if_neg hs]
    unfold Builtin.intMaxStrDigits
    refine wpAny_bind (wpAny_bind (wpAny_nsGet hns ?_))
    rw [hnone]
    refine wpAny_pure ?_
    simp only [hr]
    obtain ⟨hp, g, d, tk, os⟩ := s
    repeat (any_goals (first
      | assumption
      | (with_reducible refine wpAny_ite_true (decide_eq_true ha) ?_)
      | (with_reducible refine wpAny_ite_true ha ?_)
      | wp_step))
set_option maxHeartbeats 4000000 in
theorem meets_bL {x : PySem.Str} {u t : Tok} (h : ∀ c ∈ x.cps.toList, IsB c) (hne : x.cps.toList ≠ []) :
    Meets (Builtin.«int.__new__» ⟨[.type "int", .str x u, .int 2 t], []⟩) (fun _ R s => s.heap.NoDigits ∧ R (.ok (.ret (.int ((valB x.cps.toList : Nat) : Int) s.toks))) { s with toks := s.toks + 1 }) :=
  .of_wp fun prog w A R s hQ => by
    obtain ⟨hp, g, d, tk, os⟩ := s
    obtain ⟨hd, hQ⟩ := hQ
    have f1 := F.conv_sub_int
    have f2 := F.madeHere_int
    have f6 : typeOf (.str x u) = pure (.type "str") := rfl
    obtain ⟨e1, e2⟩ := seen_hex (fun c hc => (h c hc).hex)
    have hr : ∀ lim, (int_private% "readNumeral") lim 2 (numSeenOf x) = (int_private% "Numeral.value") ((valB x.cps.toList : Nat) : Int) := fun lim => by
      rw [e2]
      exact read_bL lim h hne
    have ha : ((numSeenOf x).length == (numTextOf x).length) = true := by
      rw [e1, e2]
      exact beq_self_eq_true _
    have hk := Hid.mk (And.intro hd (And.intro hr ha))
    clear hr ha e1 e2 hne h hd
    repeat (any_goals (first
      | assumption
      | ((with_reducible show wpAny _ _ ((int_private% "intFromText") _ _ _) _ _ _); refine wp_textL hk.out.1 hk.out.2.1 hk.out.2.2 ?_)
      | wp_step))
    all_goals first | exact ⟨_, rfl, hQ⟩ | skip
theorem call_bL {prog : Program} {w : World} {A : Around} {E : Value → Shared → Prop} {s : Shared} {Q : Value → Shared → Prop} {x : PySem.Str} {u t : Tok} (hd : s.heap.NoDigits) (h : ∀ c ∈ x.cps.toList, IsB c) (hne : x.cps.toList ≠ [])
    (hQ : Q (.int ((valB x.cps.toList : Nat) : Int) s.toks) { s with toks := s.toks + 1 }) : wpAny (model prog w) A (call (.type "int") [.str x u, .int 2 t]) Q E s :=
  callType_new F.called_int F.newNe_int (typeCall_int_2 _ _) (newCall_int_2 _ _) (fun obj => F.initArgs_range_2 obj _ _) F.entry_int_new (meets_bL h hne) ⟨hd, rfl, hQ⟩
end
def rIntL : List V → Hp → VK → Prop := fun xs H Q => ∃ l : List Nat, xs = [.str (S l), .int 2] ∧ l ≠ [] ∧ (∀ c ∈ l, IsB c) ∧ Q (.int ((valB l : Nat) : Int)) H
/-- the limit on digits has not been set -/
def DgK (K : PySem.W.Frag) : Prop := PySem.W.nsOkIn K cStatics = true ∧ PySem.W.nsIn K cStatics "sys.int_max_str_digits" = some none
theorem call_intL {X : Cx} (z : DgK X.K) : CallR X (.type "int") rIntL := by
  intro pins s σ H xs us Q I r h
  obtain ⟨l, rfl, hne, hx, q⟩ := h
  obtain ⟨u, w', rfl, r1, r2⟩ := vals2 r
  obtain ⟨t1, rfl⟩ := r1
  obtain ⟨t2, rfl⟩ := r2
  have hd : s.heap.NoDigits := by
    have G := Heap.Ns.of_isNs (PySem.W.isNs_of_in I.kIn z.1)
    exact ⟨_, G, PySem.W.ns_none_of I.kIn G z.2⟩
  exact call_bL (x := S l) hd hx hne ⟨.int ((valB l : Nat) : Int), H, I.tok _, ⟨_, rfl⟩, q⟩
theorem rd_intL {l : List Nat} {H : Hp} {Q : VK} (hne : l ≠ []) (hb : ∀ c ∈ l, IsB c) (h : Q (.int ((valB l : Nat) : Int)) H) : rIntL [.str (S l), .int 2] H Q := ⟨l, rfl, hne, hb, h⟩
theorem par_leB {t c : Int} {b : Nat} (ht : 0 ≤ t) (hc : 1 ≤ c) (hb : t < 2 ^ b) : par t c ≤ b := by
  rcases Nat.lt_or_ge b (par t c) with h | h
  · have h1 := (par_spec ht hc).1 b h
    have h2 : 1 * (2 : Int) ^ b ≤ c * 2 ^ b := Int.mul_le_mul_of_nonneg_right hc (Int.le_of_lt (Int.pow_pos (by decide)))
    omega
  · exact h
theorem par_two {t c : Int} (ht : 0 ≤ t) (hc : 1 ≤ c) : (2 : Int) ^ par t c ≤ 2 * t + 1 := by
  rcases e : par t c with _ | j
  · show (1 : Int) ≤ _
    omega
  · have h1 := (par_spec ht hc).1 j (by omega)
    have h2 : 1 * (2 : Int) ^ j ≤ c * 2 ^ j := Int.mul_le_mul_of_nonneg_right hc (Int.le_of_lt (Int.pow_pos (by decide)))
    rw [Int.pow_succ]
    omega
theorem valB_goB (l : List Nat) (h : ∀ c ∈ l, IsB c) : ∀ a : Nat, l.foldl (fun a c => 2 * a + (c - 48)) a < (a + 1) * 2 ^ l.length := by
  induction l with
  | nil => intro a; show a < (a + 1) * 1; omega
  | cons c r ih =>
    intro a
    have hc := h c List.mem_cons_self
    have h1 := ih (fun d hd => h d (List.mem_cons_of_mem _ hd)) (2 * a + (c - 48))
    rw [List.foldl_cons, List.length_cons, Nat.pow_succ]
    have h2 : (2 * a + (c - 48) + 1) * 2 ^ r.length ≤ (2 * a + 2) * 2 ^ r.length := Nat.mul_le_mul_right _ (by unfold IsB at hc; omega)
    have h3 : (2 * a + 2) * 2 ^ r.length = (a + 1) * (2 ^ r.length * 2) := by
      rw [show 2 * a + 2 = (a + 1) * 2 by omega, Nat.mul_assoc, Nat.mul_comm 2]
    omega
theorem valB_ltB {l : List Nat} (h : ∀ c ∈ l, IsB c) : valB l < 2 ^ l.length := by
  have := valB_goB l h 0
  rw [Nat.zero_add, Nat.one_mul] at this
  exact this
def rdN (l : List Nat) (first : Nat) (T : Tb × Tb) : Nat → Option (List Int × (Tb × Tb) × Nat)
  | 0 => some ([], T, 0)
  | i + 1 => match rdN l first T i with
    | none => none
    | some (ns, T', pl) =>
      if i < first then
        match rdC l pl (par T'.1.1 T'.1.2) with
        | none => none
        | some (u, e) => some (ns ++ [unU u], (tbB T'.1 u, T'.2), e)
      else
        match rdC l pl (par T'.2.1 T'.2.2) with
        | none => none
        | some (u, e) => some (ns ++ [unU u], (T'.1, tbB T'.2 u), e)
def rdA (l : List Nat) (n first : Nat) (T : Tb × Tb) : Option (List Int × (Tb × Tb)) := match rdN l first T n with
  | none => none
  | some (ns, T', pl) => if pl = l.length then some (ns, T') else none
theorem rdC_bd {l : List Nat} {pl k u e : Nat} (hb : ∀ c ∈ l, IsB c) (h : rdC l pl k = some (u, e)) : pl < e ∧ e ≤ l.length ∧ (u < 20 * 2 ^ k ∨ u < 2 ^ l.length) := by
  unfold rdC at h
  generalize onesL (l.drop pl) = o at h
  have vlt : ∀ m n : Nat, valB ((l.drop m).take n) < 2 ^ n := fun m n => by
    refine Nat.lt_of_lt_of_le (valB_ltB fun c hc => hb c (List.mem_of_mem_drop (List.mem_of_mem_take hc))) (Nat.pow_le_pow_right (by decide) ?_)
    rw [List.length_take]
    omega
  split at h
  · rename_i hz
    by_cases c : o < 20
    · rw [if_pos c] at h
      split at h
      · cases h
      · rename_i hl
        cases h
        refine ⟨by omega, by omega, .inl ?_⟩
        have := vlt (pl + o + 1) k
        have h1 : o * 2 ^ k ≤ 19 * 2 ^ k := Nat.mul_le_mul_right _ (by omega)
        omega
    · rw [if_neg c] at h
      split at h
      · cases h
      · rename_i hl
        split at h
        · cases h
        · cases h
          refine ⟨by omega, by omega, .inr ?_⟩
          exact Nat.lt_of_lt_of_le (vlt (pl + o + 1) (o - 19)) (Nat.pow_le_pow_right (by decide) (by omega))
  · cases h
/-- a table whose total is below 2 ^ b -/
def TbB (b : Nat) (t : Tb) : Prop := TbOk (2 ^ b) t ∧ t.1 < 2 ^ b
theorem two_mono {b c : Nat} (h : b ≤ c) : (2 : Int) ^ b ≤ 2 ^ c := by exact_mod_cast Nat.pow_le_pow_right (n := 2) (by decide) h
theorem TbB.mono {b c : Nat} {t : Tb} (h : TbB b t) (k : b ≤ c) : TbB c t := by
  have := two_mono k
  exact ⟨h.1.mono this, by have := h.2; omega⟩
theorem TbB.par {b : Nat} {t : Tb} (h : TbB b t) : Z.par t.1 t.2 ≤ b := par_leB h.1.1 h.1.2.2.1 h.2
theorem TbB.next {b m u : Nat} {t : Tb} (h : TbB b t) (hm : m ≤ b) (h5 : 5 ≤ b) (hu : u < 20 * 2 ^ Z.par t.1 t.2 ∨ u < 2 ^ m) : TbB (b + 7) (tbB t u) := by
  obtain ⟨⟨a1, a2, a3, a4⟩, a5⟩ := h
  have p2 := par_two a1 a3
  have e7 : (2 : Int) ^ (b + 7) = 128 * 2 ^ b := by rw [Int.pow_add]; omega
  have b32 : (32 : Int) ≤ 2 ^ b := by have := two_mono h5; omega
  have hu' : (u : Int) ≤ 41 * 2 ^ b := by
    rcases hu with hu | hu
    · have hu : (u : Int) < 20 * 2 ^ Z.par t.1 t.2 := by exact_mod_cast hu
      omega
    · have hu : (u : Int) < 2 ^ m := by exact_mod_cast hu
      have := two_mono hm
      omega
  have hu0 : (0 : Int) ≤ u := by omega
  unfold tbB
  split
  · refine ⟨⟨?_, ?_, ?_, ?_⟩, ?_⟩ <;> dsimp only <;> omega
  · rename_i c
    refine ⟨⟨?_, ?_, ?_, ?_⟩, ?_⟩ <;> dsimp only <;> omega
/-- what is known while bits are read -/
theorem rdN_bd {l : List Nat} {first : Nat} {T : Tb × Tb} {b : Nat} (hb : ∀ c ∈ l, IsB c) (hl : l.length ≤ b) (h5 : 5 ≤ b) (h1 : TbB b T.1) (h2 : TbB b T.2) : ∀ (i : Nat) (ns : List Int) (T' : Tb × Tb) (pl : Nat), rdN l first T i = some (ns, T', pl) → ns.length = i ∧ pl ≤ l.length ∧ TbB (b + 7 * i) T'.1 ∧ TbB (b + 7 * i) T'.2
  | 0, ns, T', pl, h => by
    cases h
    exact ⟨rfl, Nat.zero_le _, h1, h2⟩
  | i + 1, ns, T', pl, h => by
    unfold rdN at h
    cases g : rdN l first T i with
    | none => rw [g] at h; cases h
    | some r =>
      obtain ⟨ms, S', q⟩ := r
      obtain ⟨k1, k2, k3, k4⟩ := rdN_bd hb hl h5 h1 h2 i ms S' q g
      rw [g] at h
      dsimp only at h
      split at h
      · cases g2 : rdC l q (par S'.1.1 S'.1.2) with
        | none => rw [g2] at h; cases h
        | some r2 =>
          obtain ⟨u, e⟩ := r2
          rw [g2] at h
          cases h
          obtain ⟨m1, m2, m3⟩ := rdC_bd hb g2
          exact ⟨by rw [List.length_append, k1]; rfl, m2, k3.next (m := l.length) (by omega) (by omega) m3, k4.mono (by omega)⟩
      · cases g2 : rdC l q (par S'.2.1 S'.2.2) with
        | none => rw [g2] at h; cases h
        | some r2 =>
          obtain ⟨u, e⟩ := r2
          rw [g2] at h
          cases h
          obtain ⟨m1, m2, m3⟩ := rdC_bd hb g2
          exact ⟨by rw [List.length_append, k1]; rfl, m2, k3.mono (by omega), k4.next (m := l.length) (by omega) (by omega) m3⟩
end Z
namespace Z
open PySem PySem.Spec PyProof.Rows L2
open SX (S S_len S_cat S_inj)
def isNum (l : List Nat) : Bool := decide (1 ≤ l.length ∧ l.length ≤ 4000) && (l.all fun c => decide (48 ≤ c ∧ c ≤ 57)) && (decide (l = [48]) || decide (l.head? ≠ some 48))
def numV (l : List Nat) : V := if isNum l then .int ((NumText.digitsVal l : Nat) : Int) else .non
theorem numV_num (n : Nat) (h : (TL.numL n).length ≤ 4000) : numV (TL.numL n) = .int (n : Int) := by
  have hne := TL.numL_ne n
  have hd := TL.numL_digits n
  have e : isNum (TL.numL n) = true := by
    unfold isNum
    rw [Bool.and_eq_true, Bool.and_eq_true]
    refine ⟨⟨decide_eq_true ⟨?_, h⟩, List.all_eq_true.mpr fun c hc => decide_eq_true (hd c hc)⟩, ?_⟩
    · cases z : TL.numL n with
      | nil => exact absurd z hne
      | cons a b => exact Nat.succ_pos _
    · by_cases z : n = 0
      · subst z
        rw [numL_0]
        rfl
      · obtain ⟨c, r, e, hc⟩ := numL_head z
        rw [e, decide_eq_true (show (c :: r).head? ≠ some 48 from fun y => hc (Option.some.inj y)), Bool.or_true]
  unfold numV
  rw [if_pos e, TL.numL_val]
end Z
namespace Z
open PySem PySem.Spec PyProof.Rows L2
open SX (S S_len S_cat S_inj)
def nV (ws : List Str) (i : Nat) : V := numV (ws.getD i (S [])).cps.toList
def bitW (w : Str) : Str := if w = Str.ofString "-" then Str.ofString "" else w
end Z
namespace Z
open PySem PySem.Spec PyProof.Rows L2
open SX (S S_len S_cat S_inj)
/-- the record that words denote -/
def RecSh (H : Hp) (v : V) (ws : List Str) : Prop := ∃ a, v = .ref a ∧
  ((∃ t t1 t2, ws.length = 5 ∧ ws.head? = some (Str.ofString "state") ∧ H a = some (.tup [.str (Str.ofString "state"), .ref t]) ∧ H t = some (.tup [.ref t1, .ref t2]) ∧ H t1 = some (.tup [nV ws 1, nV ws 2]) ∧ H t2 = some (.tup [nV ws 3, nV ws 4])) ∨
   (∃ j, ws.length = 8 ∧ ws.head? = some (Str.ofString "frame") ∧ H a = some (.tup [.str (Str.ofString "frame"), nV ws 1, .ref j, nV ws 4, nV ws 5, nV ws 6, .str (bitW (ws.getD 7 (S [])))]) ∧ H j = some (.tup [nV ws 2, nV ws 3])))
theorem RecSh.same {H H' : Hp} {v : V} {ws : List Str} (s : Same H H') (h : RecSh H v ws) : RecSh H' v ws := by
  obtain ⟨a, e, ⟨t, t1, t2, h1, h0, h2, h3, h4, h5⟩ | ⟨j, h1, h0, h2, h3⟩⟩ := h
  · exact ⟨a, e, .inl ⟨t, t1, t2, h1, h0, s _ _ h2, s _ _ h3, s _ _ h4, s _ _ h5⟩⟩
  · exact ⟨a, e, .inr ⟨j, h1, h0, s _ _ h2, s _ _ h3⟩⟩
theorem nV_num {ws : List Str} {i n : Nat} (h : ws[i]? = some ((toString ((n : Nat) : Int) : String) : Str)) (hn : n < 2 ^ 200) : nV ws i = .int (n : Int) := by
  unfold nV
  rw [List.getD_eq_getElem?_getD, h]
  show numV (((toString ((n : Nat) : Int) : String) : Str)).cps.toList = _
  rw [str_num]
  exact numV_num n (Nat.le_trans (num_len hn) (by decide))
theorem bitW_bits {d : Hd} {ns : List Int} {T : Tb × Tb} (ok : RcOk (.fr d ns T)) : bitW (SX.S (bitsF d ns T)) = SX.S (bitsF d ns T) := by
  unfold bitW
  refine if_neg fun z => ?_
  have bb : ∀ c ∈ bitsF d ns T, IsB c := (bitsF_len ok).2
  have z : SX.S (bitsF d ns T) = SX.S [45] := z
  have z := SX.S_inj z
  rw [z] at bb
  have := bb 45 List.mem_cons_self
  unfold IsB at this
  omega
section
variable {r : Rc}
theorem words_nV (ok : RcOk r) : (∀ T, r = .st T → nV (wordsR r) 1 = .int T.1.1 ∧ nV (wordsR r) 2 = .int T.1.2 ∧ nV (wordsR r) 3 = .int T.2.1 ∧ nV (wordsR r) 4 = .int T.2.2) ∧
    ∀ d ns T, r = .fr d ns T → nV (wordsR r) 1 = .int (d.1 : Nat) ∧ nV (wordsR r) 2 = .int (d.2.1 : Nat) ∧ nV (wordsR r) 3 = .int (d.2.2.1 : Nat) ∧ nV (wordsR r) 4 = .int (d.2.2.2.1 : Nat) ∧ nV (wordsR r) 5 = .int (d.2.2.2.2 : Nat) ∧ nV (wordsR r) 6 = .int (markF ns) := by
  have key : ∀ z ∈ numsR r, ∀ i, (wordsR r)[i]? = some ((toString z : String) : Str) → nV (wordsR r) i = .int z := fun z hz i h => by
    obtain ⟨n, rfl, hn⟩ := nums_nat ok z hz
    exact nV_num h hn
  refine ⟨fun T e => ?_, fun d ns T e => ?_⟩
  · subst e
    exact ⟨key _ (by simp [numsR]) 1 rfl, key _ (by simp [numsR]) 2 rfl, key _ (by simp [numsR]) 3 rfl, key _ (by simp [numsR]) 4 rfl⟩
  · subst e
    exact ⟨key _ (by simp [numsR]) 1 rfl, key _ (by simp [numsR]) 2 rfl, key _ (by simp [numsR]) 3 rfl, key _ (by simp [numsR]) 4 rfl, key _ (by simp [numsR]) 5 rfl, key _ (by simp [numsR]) 6 rfl⟩
theorem RecSh.rc {K : PySem.W.Frag} {H : Hp} {v : V} (ok : RcOk r) (h : RecSh H v (wordsR r)) : RcAt K H v r := by
  obtain ⟨n1, n2⟩ := words_nV ok
  obtain ⟨a, e, ⟨t, t1, t2, h1, h0, h2, h3, h4, h5⟩ | ⟨j, h1, h0, h2, h3⟩⟩ := h
  · cases r with
    | st T =>
      obtain ⟨a1, a2, a3, a4⟩ := n1 T rfl
      rw [a1, a2] at h4
      rw [a3, a4] at h5
      exact ⟨a, t, e, h2, t1, t2, .of h3, .of h4, .of h5⟩
    | fr d ns T => exact absurd h1 (by show ¬ (8 : Nat) = 5; decide)
  · cases r with
    | st T => exact absurd h1 (by show ¬ (5 : Nat) = 8; decide)
    | fr d ns T =>
      obtain ⟨a1, a2, a3, a4, a5, a6⟩ := n2 d ns T rfl
      rw [a1, a4, a5, a6] at h2
      rw [a2, a3] at h3
      have e7 : bitW ((wordsR (.fr d ns T)).getD 7 (S [])) = SX.S (bitsF d ns T) := bitW_bits ok
      rw [e7] at h2
      exact ⟨a, j, e, h2, h3⟩
end
structure FIW (K : PySem.W.Frag) (F : Addr) (H0 H : Hp) (rs : List Rc) (Te : Tb × Tb) (w : Nat) (i : Nat) (fms : List V) (dn : List Fm) (t : Addr) (T : Tb × Tb) (pl : Nat) (jl : Addr) (lj : Nat × Nat) : Prop where
  eF : H F = some (.lst fms)
  nF : H0 F = none
  fm : FmsAt K [F] H fms dn
  sp : frR 0 0 (0, 0) rs = dn ++ frR i pl lj (rs.drop i)
  vd : Vd T lj.1 (rs.drop i) Te w
  jt : JtV K H jl lj
  j0 : lj.1 = 0 → lj.2 = 0
  tb : TbsV K H t T
  sm : Same H0 H
  le : dn.length ≤ i
  nz : lj.1 = 0 ∨ dn ≠ []
section
variable {K : PySem.W.Frag} {F t jl : Addr} {H0 H H' : Hp} {rs : List Rc} {Te T : Tb × Tb} {w i pl : Nat} {fms : List V} {dn : List Fm} {lj : Nat × Nat}
theorem FIW.same (h : FIW K F H0 H rs Te w i fms dn t T pl jl lj) (s : Same H H') : FIW K F H0 H' rs Te w i fms dn t T pl jl lj :=
  { h with eF := s _ _ h.eF, fm := h.fm.imp fun _ _ q => q.same s, jt := h.jt.lk (.of s), tb := h.tb.lk (.of s), sm := h.sm.trans s }
theorem FIW.len (h : FIW K F H0 H rs Te w i fms dn t T pl jl lj) : fms.length ≤ i := by rw [h.fm.len]; exact h.le
theorem FIW.st (h : FIW K F H0 H rs Te w i fms dn t T pl jl lj) {T' : Tb × Tb} {r : List Rc} (e : rs.drop i = .st T' :: r) (e' : rs.drop (i + 1) = r) {t' : Addr} (ht : TbsV K H t' T') : FIW K F H0 H rs Te w (i + 1) fms dn t' T' pl jl lj := by
  have sp := h.sp
  have vd := h.vd
  rw [e] at sp vd
  exact { h with sp := by rw [e']; exact sp, vd := by rw [e']; exact vd.2, tb := ht, le := Nat.le_succ_of_le h.le }
theorem FIW.fr (h : FIW K F H0 H rs Te w i fms dn t T pl jl lj) {d : Hd} {ns : List Int} {T0 : Tb × Tb} {r : List Rc} (e : rs.drop i = .fr d ns T0 :: r) (e' : rs.drop (i + 1) = r) {v : V} {q j : Addr} (hv : FmAt K [F] H v (i, pl, d, lj, ns, T)) (hj : JtAt H j (d.2.1, d.2.2.1)) (hq : TbsV K H q (nextF d ns T)) :
    FIW K F H0 (upd H F (.lst (fms ++ [v]))) rs Te w (i + 1) (fms ++ [v]) (dn ++ [(i, pl, d, lj, ns, T)]) q (nextF d ns T) (pl + d.1) j (d.2.1, d.2.2.1) := by
  have sp := h.sp
  have vd := h.vd
  rw [e] at sp vd
  obtain ⟨rfl, v2, v3, v4, v5, v6, v7⟩ := vd
  have lk : LK H (upd H F (.lst (fms ++ [v]))) := LK.at h.eF
  have kp : KpL [F] H (upd H F (.lst (fms ++ [v]))) := KpL.at (by simp)
  exact { eF := upd_same, nF := h.nF, fm := (h.fm.imp fun _ _ q => q.kp lk kp).app (hv.kp lk kp)
          sp := by rw [e', sp, List.append_assoc]; rfl
          vd := by rw [e']; exact v7
          jt := (hj.lk lk).v, j0 := v2.2.2.2.2.1, tb := hq.lk lk
          sm := fun b o eb => by rw [upd_ne (ne_of_none eb h.nF)]; exact h.sm _ _ eb
          le := by rw [List.length_append]; exact Nat.succ_le_succ h.le
          nz := .inr (by simp) }
end
theorem fms_last {K : PySem.W.Frag} {l : List Addr} {H : Hp} {fms : List V} {ds : List Fm} {f : Fm} (h : FmsAt K l H fms (ds ++ [f])) : ∃ vs v, fms = vs ++ [v] ∧ vs.length = ds.length ∧ FmAt K l H v f := by
  have hl := h.len
  rw [List.length_append] at hl
  have hne : fms ≠ [] := fun z => by rw [z] at hl; cases hl
  have e := (List.dropLast_concat_getLast hne).symm
  obtain ⟨vs, v, e⟩ : ∃ vs v, fms = vs ++ [v] := ⟨_, _, e⟩
  subst e
  have hvl : vs.length = ds.length := by
    rw [List.length_append] at hl
    exact Nat.succ.inj hl
  refine ⟨vs, v, rfl, hvl, ?_⟩
  have hg : (vs ++ [v])[vs.length]? = some v := by rw [List.getElem?_append_right (Nat.le_refl _), Nat.sub_self]; rfl
  obtain ⟨b, r, h1, h2, _⟩ := h.get _ _ hg
  rw [hvl, List.drop_left] at h2
  rw [(List.cons.inj h2).1]
  exact h1
theorem rd_neT2n {K : PySem.W.Frag} {H : Hp} {Q : VK} {p q : Addr} {a b c d : Int} (hp : SqT K H p [.int a, .int b]) (hq : SqT K H q [.int c, .int d]) (e1 : a ≠ c) (h : Q (.bl true) H) : rNeD K (.ref p) (.ref q) H Q :=
  ⟨_, _, .tup hp (dp_ints [a, b]), .tup hq (dp_ints [c, d]), rfl, rfl, by
    have e : PyData.eqv (.tuple ([a, b].map PyData.int)) (.tuple ([c, d].map PyData.int)) = false := by simp [PyData.eqv, PyData.eqvAll, e1]
    rw [e]
    exact h⟩
theorem rd_raiseR {K : PySem.W.Frag} {σ : L2.St} {H H1 : Hp} {C : Addr} {f : Str} {W : WX} {D : Ends} {te : TE} {v : V} (h : ∀ Q : VK, Q v H1 → te σ H Q) (h2 : ∀ d, H1 d = none → W (.ref C) (some d) σ (upd H1 d (.xd [(f, v)]))) : tRaiseX K C f W (tCons te tNil) D σ H := by
  show te σ H _
  refine h _ ?_
  refine ⟨by simp, fun a ha => ⟨a, v, rfl, upd_same, fun dx hdx hne => ⟨rfl, dx, [(f, v)], upd_same, ?_, ?_, ?_⟩⟩⟩
  · rw [upd_ne hne, upd_same]
  · rw [upd_ne hne] at hdx
    exact hdx
  · rw [mk_heap ha hne]
    rw [upd_ne hne] at hdx
    exact h2 dx hdx
/-- how an error leaves from a place where only x was changed -/
def ErrP (C : Addr) (f : Str) (v : V) (x : Addr) (H : Hp) (E : XK) : Prop := ∀ d H', Kp x H H' → H d = none → H' d = some (.xd [(f, v)]) → E (.ref C) (some d) H'
theorem nd_ {x d : Addr} {o' : HO} {H H1 : Hp} (n : H1 d = none) (k : Kp x H H1) (hx : H1 x = some o') : H d = none := by
  cases e : H d with
  | none => rfl
  | some o =>
    by_cases z : d = x
    · rw [z, hx] at n
      cases n
    · rw [k d o z e] at n
      cases n
theorem Vd.take : ∀ {rs : List Rc} {T : Tb × Tb} {l : Nat} {T2 : Tb × Tb} {l2 : Nat} (k : Nat), Vd T l rs T2 l2 → ∃ T3 l3, Vd T l (rs.take k) T3 l3
  | _, T, l, _, _, 0, _ => ⟨T, l, rfl, rfl⟩
  | [], T, l, _, _, k + 1, _ => ⟨T, l, rfl, rfl⟩
  | .st T' :: rs, T, l, _, _, k + 1, ⟨h, q⟩ => by
    obtain ⟨T3, l3, z⟩ := Vd.take k q
    exact ⟨T3, l3, h, z⟩
  | .fr d ns T' :: rs, T, l, _, _, k + 1, ⟨e, h2, h3, h4, h5, h6, q⟩ => by
    obtain ⟨T3, l3, z⟩ := Vd.take k q
    exact ⟨T3, l3, e, h2, h3, h4, h5, h6, z⟩
theorem All2.takeN {α β : Type} {R : α → β → Prop} {as : List α} {bs : List β} (h : All2 R as bs) : ∀ k, All2 R (as.take k) (bs.take k) := by
  induction h with
  | nil => intro k; rw [List.take_nil, List.take_nil]; exact .nil
  | cons h t ih =>
    intro k
    cases k with
    | zero => exact .nil
    | succ k => exact .cons h (ih k)
end Z
namespace Z
open PySem PySem.Spec PyProof.Rows L2
open SX (S S_len S_cat S_inj)
theorem lowB_modB : ∀ (k u : Nat), lowB (u % 2 ^ k) k = lowB u k
  | 0, u => rfl
  | k + 1, u => by
    rw [lowB_front, lowB_front]
    have h1 : u % 2 ^ (k + 1) / 2 ^ k % 2 = u / 2 ^ k % 2 := by
      rw [Nat.pow_succ, Nat.mod_mul_right_div_self]
      omega
    have h2 : lowB (u % 2 ^ (k + 1)) k = lowB u k := by
      rw [← lowB_modB k (u % 2 ^ (k + 1)), ← lowB_modB k u, Nat.mod_mod_of_dvd u (Nat.pow_dvd_pow 2 (Nat.le_succ k))]
    rw [h1, h2]
theorem lowB_valB : ∀ (n : Nat) (d : List Nat), d.length = n → (∀ c ∈ d, IsB c) → lowB (valB d) n = d := by
  intro n
  induction n with
  | zero =>
    intro d hl _
    rw [List.length_eq_zero_iff.mp hl]
    rfl
  | succ n ih =>
    intro d hl hb
    obtain ⟨r, c, rfl⟩ : ∃ r c, d = r ++ [c] := ⟨d.dropLast, d.getLast (fun z => by rw [z] at hl; cases hl), (List.dropLast_concat_getLast _).symm⟩
    have hc := hb c (List.mem_append_right _ List.mem_cons_self)
    rw [List.length_append, List.length_singleton] at hl
    show lowB (valB (r ++ [c]) / 2) n ++ [48 + valB (r ++ [c]) % 2] = r ++ [c]
    rw [valB_snoc]
    unfold IsB at hc
    rw [show (2 * valB r + (c - 48)) / 2 = valB r by omega, show 48 + (2 * valB r + (c - 48)) % 2 = c by omega, ih r (by omega) fun x hx => hb x (List.mem_append_left _ hx)]
theorem ones_split : ∀ (m : List Nat), (∀ c ∈ m, IsB c) → onesL m < m.length → m = List.replicate (onesL m) 49 ++ 48 :: m.drop (onesL m + 1)
  | [], _, h => absurd h (Nat.not_lt_zero _)
  | c :: r, hb, h => by
    by_cases e : c = 48
    · have z : onesL (c :: r) = 0 := if_pos e
      rw [z, e]
      rfl
    · have z : onesL (c :: r) = onesL r + 1 := if_neg e
      have hc := hb c List.mem_cons_self
      have c9 : c = 49 := by unfold IsB at hc; omega
      rw [z] at h ⊢
      rw [List.replicate_succ, List.cons_append, ← c9]
      congr 1
      exact c9 ▸ ones_split r (fun x hx => hb x (List.mem_cons_of_mem _ hx)) (by simpa using h)
theorem take_reps (o n : Nat) (d : List Nat) : (List.replicate o 49 ++ 48 :: d).take (o + 1 + n) = List.replicate o 49 ++ 48 :: d.take n := by
  have e : (List.replicate o 49 ++ 48 :: d : List Nat).take ((List.replicate o 49 : List Nat).length + (1 + n)) = List.replicate o 49 ++ (48 :: d).take (1 + n) := List.take_length_add_append _
  rw [List.length_replicate, ← Nat.add_assoc, Nat.add_comm 1 n] at e
  exact e
theorem long_nb {d : List Nat} (hb : ∀ c ∈ d, IsB c) (h0 : d[0]? ≠ some 48) (hn : d ≠ []) : nb (valB d) = d.length ∧ binB (valB d) = d := by
  cases d with
  | nil => exact absurd rfl hn
  | cons c r =>
    have hc := hb c List.mem_cons_self
    have c9 : c = 49 := by
      unfold IsB at hc
      have : c ≠ 48 := fun z => h0 (by rw [z]; rfl)
      omega
    have hlt := valB_ltB hb
    have hge : 2 ^ r.length ≤ valB (c :: r) := by
      subst c9
      have key : ∀ (m : List Nat) (a : Nat), a * 2 ^ m.length ≤ m.foldl (fun a c => 2 * a + (c - 48)) a := by
        intro m
        induction m with
        | nil => intro a; show a * 1 ≤ a; omega
        | cons x t ih =>
          intro a
          rw [List.foldl_cons, List.length_cons, Nat.pow_succ]
          have h1 := ih (2 * a + (x - 48))
          have h2 : (2 * a) * 2 ^ t.length ≤ (2 * a + (x - 48)) * 2 ^ t.length := Nat.mul_le_mul_right _ (by omega)
          have h3 : (2 * a) * 2 ^ t.length = a * (2 ^ t.length * 2) := by rw [Nat.mul_comm 2 a, Nat.mul_assoc, Nat.mul_comm 2]
          omega
      have := key r 1
      rw [Nat.one_mul] at this
      exact this
    have e : nb (valB (c :: r)) = (c :: r).length := by
      have h1 := nb_min hlt (by rw [List.length_cons]; omega)
      have h2 := nb_lt (valB (c :: r))
      rcases Nat.lt_or_ge (nb (valB (c :: r))) (c :: r).length with z | z
      · have : 2 ^ nb (valB (c :: r)) ≤ 2 ^ r.length := Nat.pow_le_pow_right (by decide) (by rw [List.length_cons] at z; omega)
        omega
      · omega
    refine ⟨e, ?_⟩
    unfold binB
    rw [e]
    exact lowB_valB _ _ rfl hb
/-- what is read was written so -/
theorem rdC_enc {l : List Nat} {pl k u e : Nat} (hb : ∀ c ∈ l, IsB c) (h : rdC l pl k = some (u, e)) : (l.drop pl).take (e - pl) = encB u k := by
  have hbd : ∀ c ∈ l.drop pl, IsB c := fun c hc => hb c (List.mem_of_mem_drop hc)
  have hsp := ones_split (l.drop pl) hbd
  have hld : (l.drop pl).length = l.length - pl := List.length_drop ..
  have hdd : (l.drop pl).drop (onesL (l.drop pl) + 1) = l.drop (pl + onesL (l.drop pl) + 1) := by rw [List.drop_drop]; rfl
  unfold rdC at h
  rw [hdd] at hsp
  generalize onesL (l.drop pl) = o at h hsp
  split at h
  · rename_i hz
    have hsp := hsp (by omega)
    have hdl : (l.drop (pl + o + 1)).length = l.length - (pl + o + 1) := List.length_drop ..
    have hb2 : ∀ c ∈ l.drop (pl + o + 1), IsB c := fun c hc => hb c (List.mem_of_mem_drop hc)
    generalize l.drop (pl + o + 1) = d0 at h hsp hdl hb2
    by_cases c : o < 20
    · rw [if_pos c] at h
      split at h
      · cases h
      · rename_i hl
        have hk : (d0.take k).length = k := by rw [List.length_take]; omega
        have hb3 : ∀ c ∈ d0.take k, IsB c := fun c hc => hb2 c (List.mem_of_mem_take hc)
        have hv : valB (d0.take k) < 2 ^ k := by have := valB_ltB hb3; rw [hk] at this; exact this
        have h := Option.some.inj h
        obtain ⟨rfl, rfl⟩ : o * 2 ^ k + valB (d0.take k) = u ∧ pl + o + 1 + k = e := ⟨congrArg Prod.fst h, congrArg Prod.snd h⟩
        have hq : (o * 2 ^ k + valB (d0.take k)) / 2 ^ k = o := by rw [Nat.mul_comm, Nat.mul_add_div (Nat.two_pow_pos k), Nat.div_eq_of_lt hv, Nat.add_zero]
        have hm : (o * 2 ^ k + valB (d0.take k)) % 2 ^ k = valB (d0.take k) := by rw [Nat.mul_comm, Nat.mul_add_mod, Nat.mod_eq_of_lt hv]
        unfold encB
        rw [hq, if_pos c, hsp, show pl + o + 1 + k - pl = o + 1 + k by omega, take_reps, ← lowB_modB, hm, lowB_valB k _ hk hb3, List.append_assoc]
        rfl
    · rw [if_neg c] at h
      split at h
      · cases h
      · rename_i hl
        split at h
        · cases h
        · rename_i hz2
          have h := Option.some.inj h
          obtain ⟨rfl, rfl⟩ : valB (d0.take (o - 19)) = u ∧ pl + o + 1 + (o - 19) = e := ⟨congrArg Prod.fst h, congrArg Prod.snd h⟩
          have hk : (d0.take (o - 19)).length = o - 19 := by rw [List.length_take]; omega
          have hb3 : ∀ c ∈ d0.take (o - 19), IsB c := fun c hc => hb2 c (List.mem_of_mem_take hc)
          have h0 : (d0.take (o - 19))[0]? = d0[0]? := by rw [List.getElem?_take, if_pos (by omega)]
          obtain ⟨e1, e2⟩ := long_nb hb3 (by rw [h0]; exact fun z => hz2 (.inl z)) (fun z => by rw [z] at hk; simp at hk; omega)
          unfold encB
          rw [if_neg (fun z => hz2 (.inr z)), e1, e2, hk, hsp, show pl + o + 1 + (o - 19) - pl = o + 1 + (o - 19) by omega, take_reps, show 19 + (o - 19) = o by omega, List.append_assoc]
          rfl
  · cases h
theorem uOf_unU (u : Nat) : uOf (unU u) = u := by
  have e := uOf_eq (unU u)
  rcases Nat.mod_two_eq_zero_or_one u with z | z
  · have h : unU u = ((u / 2 : Nat) : Int) := if_pos z
    rw [h] at e ⊢
    unfold codeU at e
    split at e <;> omega
  · have h : unU u = -((u / 2 : Nat) : Int) - 1 := if_neg (by omega)
    rw [h] at e ⊢
    unfold codeU at e
    split at e <;> omega
theorem rdN_wst {l : List Nat} {first : Nat} {T : Tb × Tb} (hb : ∀ c ∈ l, IsB c) : ∀ (i : Nat) (ns : List Int) (T' : Tb × Tb) (pl : Nat), rdN l first T i = some (ns, T', pl) → ns.length = i ∧ ∀ post, (wst (ns ++ post) first T i).1.flatten = l.take pl ∧ (wst (ns ++ post) first T i).2 = T'
  | 0, ns, T', pl, h => by
    cases h
    exact ⟨rfl, fun post => ⟨rfl, rfl⟩⟩
  | i + 1, ns, T', pl, h => by
    unfold rdN at h
    cases g : rdN l first T i with
    | none => rw [g] at h; cases h
    | some r =>
      obtain ⟨ms, S', q⟩ := r
      obtain ⟨k1, k2⟩ := rdN_wst hb i ms S' q g
      rw [g] at h
      dsimp only at h
      have tk : ∀ u e k, rdC l q k = some (u, e) → l.take e = l.take q ++ encB u k := fun u e k hr => by
        obtain ⟨m1, m2, _⟩ := rdC_bd hb hr
        rw [← rdC_enc hb hr, show e = q + (e - q) by omega, List.take_add, show q + (e - q) - q = e - q by omega]
      have gd : ∀ u post, (ms ++ [unU u] ++ post).getD i 0 = unU u := fun u post => by
        rw [List.getD_eq_getElem?_getD, List.append_assoc, List.getElem?_append_right (by omega), k1, Nat.sub_self]
        rfl
      split at h
      · rename_i c
        cases g2 : rdC l q (par S'.1.1 S'.1.2) with
        | none => rw [g2] at h; cases h
        | some r2 =>
          obtain ⟨u, e⟩ := r2
          rw [g2] at h
          cases h
          refine ⟨by rw [List.length_append, k1]; rfl, fun post => ?_⟩
          have k3 := k2 ([unU u] ++ post)
          rw [← List.append_assoc] at k3
          rw [wst_lo c, k3.2, gd, uOf_unU]
          refine ⟨?_, rfl⟩
          show ((wst (ms ++ [unU u] ++ post) first T i).1 ++ [encB u (par S'.1.1 S'.1.2)]).flatten = _
          rw [List.flatten_append, k3.1, tk u pl _ g2]
          simp
      · rename_i c
        cases g2 : rdC l q (par S'.2.1 S'.2.2) with
        | none => rw [g2] at h; cases h
        | some r2 =>
          obtain ⟨u, e⟩ := r2
          rw [g2] at h
          cases h
          refine ⟨by rw [List.length_append, k1]; rfl, fun post => ?_⟩
          have k3 := k2 ([unU u] ++ post)
          rw [← List.append_assoc] at k3
          rw [wst_hi c, k3.2, gd, uOf_unU]
          refine ⟨?_, rfl⟩
          show ((wst (ms ++ [unU u] ++ post) first T i).1 ++ [encB u (par S'.2.1 S'.2.2)]).flatten = _
          rw [List.flatten_append, k3.1, tk u pl _ g2]
          simp
/-- the numbers before the i-th one -/
theorem rdN_pre {l : List Nat} {first : Nat} {T : Tb × Tb} : ∀ (n : Nat) (ns : List Int) (T' : Tb × Tb) (pl : Nat), rdN l first T n = some (ns, T', pl) → ∀ i, i ≤ n → ∃ ms S' q post, rdN l first T i = some (ms, S', q) ∧ ns = ms ++ post
  | 0, ns, T', pl, h, i, hi => by
    obtain rfl : i = 0 := by omega
    exact ⟨ns, T', pl, [], h, (List.append_nil _).symm⟩
  | n + 1, ns, T', pl, h, i, hi => by
    by_cases e : i = n + 1
    · subst e
      exact ⟨ns, T', pl, [], h, (List.append_nil _).symm⟩
    · unfold rdN at h
      cases g : rdN l first T n with
      | none => rw [g] at h; cases h
      | some r =>
        obtain ⟨ms, S', q⟩ := r
        obtain ⟨ms2, S2, q2, post, h1, h2⟩ := rdN_pre n ms S' q g i (by omega)
        rw [g] at h
        dsimp only at h
        split at h
        · cases g2 : rdC l q (par S'.1.1 S'.1.2) with
          | none => rw [g2] at h; cases h
          | some r2 => rw [g2] at h; cases h; exact ⟨ms2, S2, q2, post ++ [unU r2.1], h1, by rw [h2, List.append_assoc]⟩
        · cases g2 : rdC l q (par S'.2.1 S'.2.2) with
          | none => rw [g2] at h; cases h
          | some r2 => rw [g2] at h; cases h; exact ⟨ms2, S2, q2, post ++ [unU r2.1], h1, by rw [h2, List.append_assoc]⟩
theorem rdA_wst {l : List Nat} {n first b : Nat} {T T' : Tb × Tb} {ns : List Int} (hb : ∀ c ∈ l, IsB c) (hl : l.length ≤ b) (h5 : 5 ≤ b) (h1 : TbB b T.1) (h2 : TbB b T.2) (h : rdA l n first T = some (ns, T')) :
    ns.length = n ∧ (wst ns first T ns.length).1.flatten = l ∧ (wst ns first T ns.length).2 = T' ∧ ∀ i, i ≤ n → TbB (b + 7 * n) (wst ns first T i).2.1 ∧ TbB (b + 7 * n) (wst ns first T i).2.2 := by
  unfold rdA at h
  cases g : rdN l first T n with
  | none => rw [g] at h; cases h
  | some r =>
    obtain ⟨ms, S', q⟩ := r
    rw [g] at h
    dsimp only at h
    split at h
    · rename_i e
      cases h
      obtain ⟨k1, k2⟩ := rdN_wst hb n ns T' q g
      have k3 := k2 []
      rw [List.append_nil] at k3
      refine ⟨k1, by rw [k1, k3.1, e, List.take_length], by rw [k1]; exact k3.2, fun i hi => ?_⟩
      obtain ⟨ms2, S2, q2, post, g2, e2⟩ := rdN_pre n ns T' q g i hi
      obtain ⟨_, m2⟩ := rdN_wst hb i ms2 S2 q2 g2
      obtain ⟨_, _, m3, m4⟩ := rdN_bd hb hl h5 h1 h2 i ms2 S2 q2 g2
      rw [e2, (m2 post).2]
      exact ⟨m3.mono (by omega), m4.mono (by omega)⟩
    · cases h
theorem tw_lt (p : Nat → Bool) : ∀ l : List Nat, (∃ c ∈ l, p c = false) → (l.takeWhile p).length < l.length
  | [], h => by obtain ⟨c, hc, _⟩ := h; exact absurd hc List.not_mem_nil
  | c :: r, h => by
    rw [List.takeWhile_cons]
    cases e : p c with
    | false => rw [if_neg Bool.false_ne_true]; exact Nat.succ_pos _
    | true =>
      rw [if_pos rfl]
      obtain ⟨d, hd, h2⟩ := h
      rcases List.mem_cons.mp hd with z | z
      · rw [z, e] at h2; cases h2
      · exact Nat.succ_lt_succ (tw_lt p r ⟨d, z, h2⟩)
theorem tw_drop (p : Nat → Bool) : ∀ l : List Nat, (∃ c ∈ l, p c = false) → ∃ c r, l.drop (l.takeWhile p).length = c :: r ∧ p c = false
  | [], h => by obtain ⟨c, hc, _⟩ := h; exact absurd hc List.not_mem_nil
  | c :: r, h => by
    rw [List.takeWhile_cons]
    cases e : p c with
    | false => rw [if_neg Bool.false_ne_true]; exact ⟨c, r, rfl, e⟩
    | true =>
      rw [if_pos rfl]
      obtain ⟨d, hd, h2⟩ := h
      rcases List.mem_cons.mp hd with z | z
      · rw [z, e] at h2; cases h2
      · exact tw_drop p r ⟨d, z, h2⟩
theorem strip_no {l : List Nat} (h : ∃ c ∈ l, (S [48, 49]).cps.contains c = false) : Txt.stripChars (S l) (S [48, 49]) ≠ S [] := by
  have a1 := tw_lt _ l h
  obtain ⟨c0, r0, e0, p0⟩ := tw_drop _ l h
  have lo : stripLo (S [48, 49]).cps.contains true (S l) = (l.takeWhile (S [48, 49]).cps.contains).length := rfl
  have hi : stripHi (S [48, 49]).cps.contains true (S l) (l.takeWhile (S [48, 49]).cps.contains).length = l.length - ((l.drop (l.takeWhile (S [48, 49]).cps.contains).length).reverse.takeWhile (S [48, 49]).cps.contains).length := by
    unfold stripHi
    rw [if_pos rfl]
    show (S l).length - _ = _
    rw [S_len]
  have a2 := tw_lt (S [48, 49]).cps.contains (l.drop (l.takeWhile (S [48, 49]).cps.contains).length).reverse ⟨c0, List.mem_reverse.mpr (by rw [e0]; exact List.mem_cons_self), p0⟩
  rw [List.length_reverse, List.length_drop] at a2
  intro z
  have z2 := congrArg Str.length z
  unfold Txt.stripChars Txt.stripBy at z2
  rw [S_len] at z2
  cases hs : stripSame (S [48, 49]).cps.contains true true (S l) with
  | true =>
    rw [hs, if_pos rfl, S_len] at z2
    simp only [List.length_nil] at z2
    omega
  | false =>
    rw [hs, if_neg Bool.false_ne_true] at z2
    unfold stripped at z2
    rw [lo, hi] at z2
    have z3 : ((S l).cps.extract (l.takeWhile (S [48, 49]).cps.contains).length (l.length - ((l.drop (l.takeWhile (S [48, 49]).cps.contains).length).reverse.takeWhile (S [48, 49]).cps.contains).length)).size = 0 := z2
    rw [Array.size_extract] at z3
    have z4 : (S l).cps.size = l.length := S_len l
    omega
theorem isB_con {c : Nat} : (S [48, 49]).cps.contains c = true ↔ IsB c := by
  unfold IsB
  show (#[48, 49] : Array Nat).contains c = true ↔ _
  rw [Array.contains_iff]
  simp
theorem bits_iff {l : List Nat} : bitsOf (S l) = true ↔ ∀ c ∈ l, IsB c := by
  constructor
  · intro h
    by_cases e : ∃ c ∈ l, (S [48, 49]).cps.contains c = false
    · exact absurd (V.str.inj (of_decide_eq_true h)) (by rw [e_empty]; exact strip_no e)
    · intro c hc
      refine isB_con.mp ?_
      cases e2 : (S [48, 49]).cps.contains c with
      | true => rfl
      | false => exact absurd ⟨c, hc, e2⟩ e
  · exact bits_ok
inductive BtR (H : Hp) : V → Option (List Nat) → Prop where
  | good {l : List Nat} (hb : ∀ c ∈ l, IsB c) (hl : l.length ≤ 15000) : BtR H (.str (S l)) (some l)
  | odd {l : List Nat} (hb : ¬ ∀ c ∈ l, IsB c) (hl : l.length ≤ 15000) (hc : ∀ c ∈ l, c < 1114112) : BtR H (.str (S l)) none
  | non : BtR H .non none
  | bl {k : Bool} : BtR H (.bl k) none
  | int {i : Int} : BtR H (.int i) none
  | lst {a : Addr} {xs : List V} (h : H a = some (.lst xs)) : BtR H (.ref a) none
  | tup {a : Addr} {xs : List V} (h : H a = some (.tup xs)) : BtR H (.ref a) none
theorem BtR.same {H H' : Hp} {x : V} {o : Option (List Nat)} (s : Same H H') (h : BtR H x o) : BtR H' x o := by
  cases h with
  | good hb hl => exact .good hb hl
  | odd hb hl hc => exact .odd hb hl hc
  | non => exact .non
  | bl => exact .bl
  | int => exact .int
  | lst h => exact .lst (s _ _ h)
  | tup h => exact .tup (s _ _ h)
def spRdL : Sp := fun vs H Q _ => ∃ (l : List Nat) (pl k : Nat), vs = [.str (S l), .int (pl : Int), .int (k : Int)] ∧ (∀ c ∈ l, IsB c) ∧ l.length ≤ 15000 ∧ pl ≤ l.length ∧ k ≤ 16000 ∧ (rdC l pl k = none → Q .non H) ∧
  ∀ u e, rdC l pl k = some (u, e) → ∀ p, H p = none → Q (.ref p) (upd H p (.tup [.int ((u : Nat) : Int), .int ((e : Nat) : Int)]))
theorem use_rdL {l : List Nat} {pl k : Nat} {H : Hp} {Q : VK} {E : XK} (h1 : ∀ c ∈ l, IsB c) (h2 : l.length ≤ 15000) (h3 : pl ≤ l.length) (h4 : k ≤ 16000) (q1 : rdC l pl k = none → Q .non H)
    (q2 : ∀ u e, rdC l pl k = some (u, e) → ∀ p, H p = none → Q (.ref p) (upd H p (.tup [.int ((u : Nat) : Int), .int ((e : Nat) : Int)]))) : spRdL ([.str (S l), .int (pl : Int), .int (k : Int)] ++ []) H Q E := ⟨l, pl, k, rfl, h1, h2, h3, h4, q1, q2⟩
def rdV (o : Option (List Nat)) (n first : Nat) (T : Tb × Tb) : Option (List Int × (Tb × Tb)) := match o with
  | none => none
  | some l => rdA l n first T
def spRdV (K : PySem.W.Frag) : Sp := fun vs H Q _ => ∃ (x : V) (o : Option (List Nat)) (n first : Nat) (b : Addr) (T : Tb × Tb), vs = [x, .int (n : Nat), .int (first : Int), .ref b] ∧ BtR H x o ∧ n ≤ 64 ∧ first ≤ n ∧ TbsV K H b T ∧ TbB 15000 T.1 ∧ TbB 15000 T.2 ∧ (rdV o n first T = none → ∀ H', Same H H' → Q .non H') ∧
  ∀ ns T', rdV o n first T = some (ns, T') → ∀ p m q H', Same H H' → H p = none → H m = none → H' p = some (.tup [.ref m, .ref q]) → H' m = some (.lst (ns.map V.int)) → TbsV K H' q T' → Q (.ref p) H'
theorem use_rdV {K : PySem.W.Frag} {x : V} {o : Option (List Nat)} {n first : Nat} {b : Addr} {T : Tb × Tb} {H : Hp} {Q : VK} {E : XK} (h : BtR H x o) (h1 : n ≤ 64) (h2 : first ≤ n) (h3 : TbsV K H b T) (h4 : TbB 15000 T.1) (h5 : TbB 15000 T.2) (q1 : rdV o n first T = none → ∀ H', Same H H' → Q .non H')
    (q2 : ∀ ns T', rdV o n first T = some (ns, T') → ∀ p m q H', Same H H' → H p = none → H m = none → H' p = some (.tup [.ref m, .ref q]) → H' m = some (.lst (ns.map V.int)) → TbsV K H' q T' → Q (.ref p) H') : spRdV K ([x, .int (n : Nat), .int (first : Int), .ref b] ++ []) H Q E := ⟨x, o, n, first, b, T, rfl, h, h1, h2, h3, h4, h5, q1, q2⟩
theorem rdN_none {l : List Nat} {first : Nat} {T : Tb × Tb} {i : Nat} (h : rdN l first T i = none) : ∀ n, i ≤ n → rdN l first T n = none := by
  intro n hn
  induction n with
  | zero => obtain rfl : i = 0 := by omega
            exact h
  | succ n ih =>
    by_cases e : i = n + 1
    · subst e; exact h
    · unfold rdN
      rw [ih (by omega)]
theorem rdN_lo {l : List Nat} {first i : Nat} {T S' : Tb × Tb} {ms : List Int} {q : Nat} (c : i < first) (h : rdN l first T i = some (ms, S', q)) : rdN l first T (i + 1) = match rdC l q (par S'.1.1 S'.1.2) with | none => none | some (u, e) => some (ms ++ [unU u], (tbB S'.1 u, S'.2), e) := by
  show (match rdN l first T i with | none => none | some (ns, T', pl) => if i < first then (match rdC l pl (par T'.1.1 T'.1.2) with | none => none | some (u, e) => some (ns ++ [unU u], (tbB T'.1 u, T'.2), e)) else (match rdC l pl (par T'.2.1 T'.2.2) with | none => none | some (u, e) => some (ns ++ [unU u], (T'.1, tbB T'.2 u), e))) = _
  rw [h]
  exact if_pos c
theorem rdN_hi {l : List Nat} {first i : Nat} {T S' : Tb × Tb} {ms : List Int} {q : Nat} (c : ¬ i < first) (h : rdN l first T i = some (ms, S', q)) : rdN l first T (i + 1) = match rdC l q (par S'.2.1 S'.2.2) with | none => none | some (u, e) => some (ms ++ [unU u], (S'.1, tbB S'.2 u), e) := by
  show (match rdN l first T i with | none => none | some (ns, T', pl) => if i < first then (match rdC l pl (par T'.1.1 T'.1.2) with | none => none | some (u, e) => some (ns ++ [unU u], (tbB T'.1 u, T'.2), e)) else (match rdC l pl (par T'.2.1 T'.2.2) with | none => none | some (u, e) => some (ns ++ [unU u], (T'.1, tbB T'.2 u), e))) = _
  rw [h]
  exact if_neg c
end Z
namespace Z
open PySem PySem.Spec PyProof.Rows L2
open SX (S S_len S_cat S_inj)
theorem bin_one {c : Nat} (h : IsB c) : ∀ x ∈ [c], IsB x := fun x hx => by rw [List.mem_singleton.mp hx]; exact h
theorem b0 : ∀ c ∈ [48], IsB c := bin_one (.inl rfl)
theorem b1 : ∀ c ∈ [49], IsB c := bin_one (.inr rfl)
theorem tbB_of {t : Tb} (h : TbOk (10 ^ 56) t) : TbB 15000 t := by
  have e : (10 : Int) ^ 56 < 2 ^ 200 := by decide
  have e2 := two_mono (show 200 ≤ 15000 by decide)
  generalize (2 : Int) ^ 15000 = b at *
  obtain ⟨h1, h2, h3, h4⟩ := h
  have key : ∀ c : Int, 10 ^ 56 < c → TbOk c t ∧ t.1 < c := fun c hc => ⟨⟨h1, by omega, h3, h4⟩, by omega⟩
  exact key _ (Int.lt_of_lt_of_le e (two_mono (by decide)))
end Z
namespace Z
open PySem PySem.Spec PyProof.Rows L2
open SX (S S_len S_cat S_inj)
def FrG (H : Hp) (a : Addr) (ln : Nat) (j : Addr) (lv st : Nat) (mk : Int) (l : List Nat) : Prop := H a = some (.tup [.str (Str.ofString "frame"), .int (ln : Nat), .ref j, .int (lv : Nat), .int (st : Nat), .int mk, .str (S l)])
/-- what read_frame finds -/
def rdF (ln lv : Nat) (mk : Int) (l : List Nat) (T : Tb × Tb) : Option (List Int × (Tb × Tb)) := match rdA l ln (cc ln lv) T with
  | none => none
  | some (ns, T') => if markF ns = mk then some (ns, T') else none
def spRfV (K : PySem.W.Frag) : Sp := fun vs H Q _ => ∃ (a b j : Addr) (ln lv st : Nat) (mk : Int) (l : List Nat) (T : Tb × Tb), vs = [.ref a, .ref b] ∧ FrG H a ln j lv st mk l ∧ 1 ≤ ln ∧ ln ≤ 64 ∧ lv ≤ 5 ∧ (∀ c ∈ l, IsB c) ∧ l.length ≤ 15000 ∧ TbsV K H b T ∧ TbB 15000 T.1 ∧ TbB 15000 T.2 ∧ (rdF ln lv mk l T = none → ∀ H', Same H H' → Q .non H') ∧
  ∀ ns T', rdF ln lv mk l T = some (ns, T') → ∀ p m q H', Same H H' → H p = none → H m = none → H' p = some (.tup [.ref m, .ref q]) → H' m = some (.lst (ns.map V.int)) → TbsV K H' q T' → Q (.ref p) H'
theorem use_rfV {K : PySem.W.Frag} {a b j : Addr} {ln lv st : Nat} {mk : Int} {l : List Nat} {T : Tb × Tb} {H : Hp} {Q : VK} {E : XK} (h : FrG H a ln j lv st mk l) (h1 : 1 ≤ ln) (h2 : ln ≤ 64) (h3 : lv ≤ 5) (hb : ∀ c ∈ l, IsB c) (hl : l.length ≤ 15000) (hT : TbsV K H b T) (o1 : TbB 15000 T.1) (o2 : TbB 15000 T.2) (q1 : rdF ln lv mk l T = none → ∀ H', Same H H' → Q .non H')
    (q2 : ∀ ns T', rdF ln lv mk l T = some (ns, T') → ∀ p m q H', Same H H' → H p = none → H m = none → H' p = some (.tup [.ref m, .ref q]) → H' m = some (.lst (ns.map V.int)) → TbsV K H' q T' → Q (.ref p) H') : spRfV K ([.ref a, .ref b] ++ []) H Q E := ⟨a, b, j, ln, lv, st, mk, l, T, rfl, h, h1, h2, h3, hb, hl, hT, o1, o2, q1, q2⟩
/-- what stands behind good records: nothing, or a frame that cannot be read there -/
inductive TlZ (H : Hp) (T : Tb × Tb) (w : Nat) : List V → Bool → Prop where
  | nil : TlZ H T w [] false
  | bad {a j : Addr} {ln lv st wd sh : Nat} {mk : Int} {l : List Nat} {post : List V} (h : FrG H a ln j lv st mk l) (hj : H j = some (.tup [.int (wd : Nat), .int (sh : Nat)])) (h1 : 1 ≤ ln) (h2 : ln ≤ 64) (h3 : lv ≤ 5) (hb : ∀ c ∈ l, IsB c) (hl : l.length ≤ 15000) (hx : ln < w + wd ∨ rdF ln lv mk l T = none) : TlZ H T w (.ref a :: post) true
theorem TlZ.same {H H' : Hp} {T : Tb × Tb} {w : Nat} {tl : List V} {o : Bool} (s : Same H H') (h : TlZ H T w tl o) : TlZ H' T w tl o := by
  cases h with
  | nil => exact .nil
  | bad h hj h1 h2 h3 hb hl hx => exact .bad (s _ _ h) (s _ _ hj) h1 h2 h3 hb hl hx
theorem TlZ.lki {H H' : Hp} {T : Tb × Tb} {w : Nat} {tl : List V} {o : Bool} (s : LKI H H') (h : TlZ H T w tl o) : TlZ H' T w tl o := by
  cases h with
  | nil => exact .nil
  | bad h hj h1 h2 h3 hb hl hx => exact .bad (s _ _ h (fun _ z => nomatch z) (fun _ _ _ z => nomatch z)) (s _ _ hj (fun _ z => nomatch z) (fun _ _ _ z => nomatch z)) h1 h2 h3 hb hl hx
def spFrsZ (K : PySem.W.Frag) (C : Addr) : Sp := fun vs H Q E => ∃ a refs tl o rs T w, vs = [.ref a] ∧ H a = some (.lst (refs ++ tl)) ∧ (refs ++ tl).length ≤ 400 ∧ RcsAt K H refs rs ∧ TlZ H T w tl o ∧ Vd T0 0 rs T w ∧ (o = true → TbB 15000 T.1 ∧ TbB 15000 T.2) ∧ (o = false → w = 0 → ∀ F fms H', H F = none → H' F = some (.lst fms) → FmsAt K [] H' fms (frR 0 0 (0, 0) rs) → Same H H' → Q (.ref F) H') ∧ (o = true → Err C "index" (.int (rs.length : Nat)) H E) ∧ (o = false → w ≠ 0 → ∀ f, (frR 0 0 (0, 0) rs).getLast? = some f → Err C "index" (.int (f.1 : Nat)) H E)
theorem use_frsZ {K : PySem.W.Frag} {C a : Addr} {refs tl : List V} {o : Bool} {rs : List Rc} {T : Tb × Tb} {w : Nat} {H : Hp} {Q : VK} {E : XK} (h : H a = some (.lst (refs ++ tl))) (hl : (refs ++ tl).length ≤ 400) (hR : RcsAt K H refs rs) (ht : TlZ H T w tl o) (hV : Vd T0 0 rs T w) (ho : o = true → TbB 15000 T.1 ∧ TbB 15000 T.2) (q : o = false → w = 0 → ∀ F fms H', H F = none → H' F = some (.lst fms) → FmsAt K [] H' fms (frR 0 0 (0, 0) rs) → Same H H' → Q (.ref F) H') (q1 : o = true → Err C "index" (.int (rs.length : Nat)) H E) (q2 : o = false → w ≠ 0 → ∀ f, (frR 0 0 (0, 0) rs).getLast? = some f → Err C "index" (.int (f.1 : Nat)) H E) : spFrsZ K C ([.ref a] ++ []) H Q E := ⟨a, refs, tl, o, rs, T, w, rfl, h, hl, hR, ht, hV, ho, q, q1, q2⟩
section
variable {H : Hp} {K : PySem.W.Frag}
theorem isiT_dZ {t a : Addr} (e : H a = some (.dK [])) (ht : H t = some (.tup [.ty "list", .ty "tuple"])) (q : Q (.bl false) H) : rIsiT K [.ref a, .ref t] H Q :=
  ⟨.ref a, t, _, _, [.type "list", .type "tuple"], false, rfl, ht, .cons (.ty "list") (.cons (.ty "tuple") .nil), .base (.dK e), rfl, q⟩
end
/-- the first that is false -/
def fstF : List Bool → Option Nat
  | [] => none
  | true :: r => (fstF r).map (· + 1)
  | false :: _ => some 0
inductive CkR (H : Hp) : V → Option V → Prop where
  | flat {x : V} (h : scalarV x = true) : CkR H x (some .non)
  | dct {a : Addr} (h : H a = some (.dK [])) : CkR H (.ref a) (some .non)
  | seq {a : Addr} {xs : List V} {bs : List Bool} (h : LT H a xs) (hx : All2 (RecR H) xs bs) : CkR H (.ref a) ((fstF bs).map fun i => .int (i : Nat))
def spCkZ (C : Addr) : Sp := fun vs H Q E => ∃ v o, vs = [v] ∧ CkR H v o ∧ (∀ u, o = some u → Err C "index" u H E) ∧ (o = none → ∀ H', Same H H' → Q .non H')
theorem use_ckZ {C : Addr} {v : V} {o : Option V} {H : Hp} {Q : VK} {E : XK} (h : CkR H v o) (e : ∀ u, o = some u → Err C "index" u H E) (q : o = none → ∀ H', Same H H' → Q .non H') : spCkZ C ([v] ++ []) H Q E := ⟨v, o, rfl, h, e, q⟩
theorem fst_drop {bs : List Bool} {i : Nat} {b : Bool} {r : List Bool} (h : bs.drop i = b :: r) (hd : (fstF (bs.drop i)).map (· + i) = fstF bs) : (b = false → fstF bs = some i) ∧ (b = true → (fstF r).map (· + (i + 1)) = fstF bs) := by
  rw [h] at hd
  refine ⟨fun z => ?_, fun z => ?_⟩
  · subst z
    have hd : (some 0).map (· + i) = fstF bs := hd
    rw [← hd]
    simp
  · subst z
    have hd : ((fstF r).map (· + 1)).map (· + i) = fstF bs := hd
    rw [← hd, Option.map_map]
    congr 1
    funext n
    show n + (i + 1) = n + 1 + i
    omega
/-- a stream, as far as its refusals see it: so many frames; its lists are not p's -/
def StmL (C p : Addr) (H : Hp) (x : Addr) (n : Nat) : Prop := ∃ dx L F fms, H x = some (.ins C dx (sf L F)) ∧ H F = some (.lst fms) ∧ fms.length = n ∧ F ≠ p ∧ x ≠ p
theorem StmL.kp {C p x : Addr} {H H' : Hp} {n : Nat} (k : Kp p H H') (h : StmL C p H x n) : StmL C p H' x n := by
  obtain ⟨dx, L, F, fms, h1, h2, h3, h4, h5⟩ := h
  exact ⟨dx, L, F, fms, k _ _ h5 h1, k _ _ h4 h2, h3, h4, h5⟩
theorem StmAt.toL {K : PySem.W.Frag} {C p x : Addr} {H : Hp} {refs : List V} {rs : List Rc} (hP : Pool H p) (h : StmAt K C H x refs rs) : StmL C p H x (frR 0 0 (0, 0) rs).length := by
  obtain ⟨dx, L, F, fms, Te, h1, h2, h3, h4, h5, h6, h7⟩ := h
  obtain ⟨y1, y2, e2, _⟩ := hP
  refine ⟨dx, L, F, fms, h1, h6, h7.len, fun z => ?_, fun z => ?_⟩
  · subst z
    rw [h6] at e2
    have e3 : fms = [.int y1, .int y2] := HO.lst.inj (Option.some.inj e2)
    subst e3
    generalize frR 0 0 (0, 0) rs = fs at h7
    cases h7 with
    | cons h _ =>
      obtain ⟨a, b, jl, j, m, t, q, e, _⟩ := h
      cases e
  · subst z
    rw [h1] at e2
    cases e2
theorem rd_methL {C p x : Addr} {H : Hp} {n : Nat} {σ : L2.St} {Q : VK} {i : Nat} {m : Str} {sp : Sp} {dvs : List V} {E : XK} {t : TA} (hS : StmL C p H x n) (ei : σ[i]? = some (some (.ref x))) (h1 : ¬ m = "read") (h2 : ¬ m = "held") (h : t σ H fun vs H2 => sp (.ref x :: (vs ++ dvs)) H2 Q E) : tMeth C m sp dvs E (tVar i) t σ H Q := by
  obtain ⟨dx, L, F, fms, e, _⟩ := hS
  exact ⟨.ref x, ei, x, dx, _, rfl, e, sf_no L F h1 h2, h⟩
def spPartX (C CP : Addr) : Sp := fun vs H Q E => ∃ (x p : Addr) (n : Nat) (v : V) (k : Int), vs = [.ref x, v, .int k] ∧ StmL C p H x n ∧ TyV H v ∧ inI v 0 ((n : Nat) - 1) = false ∧ Err CP "value" v H E
theorem use_partX {C CP x p : Addr} {n : Nat} {v : V} {k : Int} {H : Hp} {Q : VK} {E : XK} (hS : StmL C p H x n) (t : TyV H v) (hi : inI v 0 ((n : Nat) - 1) = false) (e : Err CP "value" v H E) : spPartX C CP (.ref x :: ([v, .int k] ++ [])) H Q E := ⟨x, p, n, v, k, rfl, hS, t, hi, e⟩
def spMetX (C CP : Addr) : Sp := fun vs H Q E => ∃ (x p : Addr) (n : Nat) (v : V), vs = [.ref x, v] ∧ StmL C p H x n ∧ TyV H v ∧ inI v 0 ((n : Nat) - 1) = false ∧ Err CP "value" v H E
theorem use_metX {C CP x p : Addr} {n : Nat} {v : V} {H : Hp} {Q : VK} {E : XK} (hS : StmL C p H x n) (t : TyV H v) (hi : inI v 0 ((n : Nat) - 1) = false) (e : Err CP "value" v H E) : spMetX C CP (.ref x :: ([v] ++ [])) H Q E := ⟨x, p, n, v, rfl, hS, t, hi, e⟩
def spInitZ (K : PySem.W.Frag) (C CI : Addr) : Sp := fun vs H Q E => ∃ (x dx : Addr) (v : V) (o : Option V), vs = [.ref x, v] ∧ H x = some (.ins C dx []) ∧ CkR H v o ∧ (∀ u, o = some u → ErrP CI "index" u x H E) ∧ (o = none → ∃ (a : Addr) (refs tl : List V) (t : Bool) (rs : List Rc) (T : Tb × Tb) (w : Nat), v = .ref a ∧ H a = some (.lst (refs ++ tl)) ∧ (refs ++ tl).length ≤ 400 ∧ RcsAt K H refs rs ∧ TlZ H T w tl t ∧ Vd T0 0 rs T w ∧ (t = true → TbB 15000 T.1 ∧ TbB 15000 T.2) ∧
  (t = false → w = 0 → ∀ H', StmAt K C H' x refs rs → Kp x H H' → Q .non H') ∧ (t = true → ErrP CI "index" (.int (rs.length : Nat)) x H E) ∧ (t = false → w ≠ 0 → ∀ f, (frR 0 0 (0, 0) rs).getLast? = some f → ErrP CI "index" (.int (f.1 : Nat)) x H E))
end Z
namespace Z
open PySem PySem.Spec PyProof.Rows L2
open SX (S S_len S_cat S_inj)
/-- written bits, then others: what is read is what was written -/
theorem rdN_good {first : Nat} {T : Tb × Tb} (ns : List Int) (post : List Nat) : ∀ i, i ≤ ns.length → ∀ p2, (wst ns first T i).1.flatten ++ p2 = (wst ns first T ns.length).1.flatten ++ post → rdN ((wst ns first T ns.length).1.flatten ++ post) first T i = some (ns.take i, (wst ns first T i).2, (wst ns first T i).1.flatten.length)
  | 0, _, _, _ => by
    rw [List.take_zero]
    rfl
  | i + 1, hi, p2, e => by
    have hz := getD_some (List.getElem?_eq_getElem (show i < ns.length from hi))
    have htk : ns.take (i + 1) = ns.take i ++ [ns.getD i 0] := by rw [hz, List.take_add_one, List.getElem?_eq_getElem (show i < ns.length from hi)]; rfl
    by_cases c : i < first
    · have hw : (wst ns first T (i + 1)).1.flatten = (wst ns first T i).1.flatten ++ encB (uOf (ns.getD i 0)) (par (wst ns first T i).2.1.1 (wst ns first T i).2.1.2) := by
        rw [wst_lo c, List.flatten_append]
        simp
      have e1 : (wst ns first T i).1.flatten ++ (encB (uOf (ns.getD i 0)) (par (wst ns first T i).2.1.1 (wst ns first T i).2.1.2) ++ p2) = (wst ns first T ns.length).1.flatten ++ post := by rw [← e, hw, List.append_assoc]
      have ih := rdN_good ns post i (by omega) _ e1
      rw [rdN_lo c ih, ← e1, rdC_good]
      dsimp only
      rw [unU_uOf, htk, hw, List.length_append, wst_lo c]
    · have hw : (wst ns first T (i + 1)).1.flatten = (wst ns first T i).1.flatten ++ encB (uOf (ns.getD i 0)) (par (wst ns first T i).2.2.1 (wst ns first T i).2.2.2) := by
        rw [wst_hi c, List.flatten_append]
        simp
      have e1 : (wst ns first T i).1.flatten ++ (encB (uOf (ns.getD i 0)) (par (wst ns first T i).2.2.1 (wst ns first T i).2.2.2) ++ p2) = (wst ns first T ns.length).1.flatten ++ post := by rw [← e, hw, List.append_assoc]
      have ih := rdN_good ns post i (by omega) _ e1
      rw [rdN_hi c ih, ← e1, rdC_good]
      dsimp only
      rw [unU_uOf, htk, hw, List.length_append, wst_hi c]
theorem rdN_whole {first : Nat} {T : Tb × Tb} (ns : List Int) (post : List Nat) : rdN ((wst ns first T ns.length).1.flatten ++ post) first T ns.length = some (ns, (wst ns first T ns.length).2, (wst ns first T ns.length).1.flatten.length) := by
  have z := rdN_good (first := first) (T := T) ns post ns.length (Nat.le_refl _) post rfl
  rw [List.take_length] at z
  exact z
section
variable {d : Hd} {ns : List Int} {T : Tb × Tb}
theorem rdA_bits (hl : ns.length = d.1) : rdA (bitsF d ns T) d.1 (cc d.1 d.2.2.2.1) T = some (ns, nextF d ns T) := by
  have z := rdN_whole (first := cc d.1 d.2.2.2.1) (T := T) ns []
  rw [List.append_nil] at z
  unfold rdA bitsF nextF
  rw [hl] at z ⊢
  rw [z]
  dsimp only
  rw [if_pos rfl]
theorem rdA_more (hl : ns.length = d.1) {x : List Nat} (hx : x ≠ []) : rdA (bitsF d ns T ++ x) d.1 (cc d.1 d.2.2.2.1) T = none := by
  have z := rdN_whole (first := cc d.1 d.2.2.2.1) (T := T) ns x
  unfold rdA bitsF
  rw [hl] at z ⊢
  rw [z]
  dsimp only
  refine if_neg fun e => hx ?_
  rw [List.length_append] at e
  exact List.length_eq_zero_iff.mp (by omega)
theorem rdA_less {l x : List Nat} (hl : ns.length = d.1) (hx : x ≠ []) (e : l ++ x = bitsF d ns T) (hb : ∀ c ∈ l, IsB c) (hll : l.length ≤ 15000) (o1 : TbB 15000 T.1) (o2 : TbB 15000 T.2) : rdA l d.1 (cc d.1 d.2.2.2.1) T = none := by
  cases h : rdA l d.1 (cc d.1 d.2.2.2.1) T with
  | none => rfl
  | some r =>
    obtain ⟨ns', T'⟩ := r
    exfalso
    obtain ⟨h1, h2, h3, _⟩ := rdA_wst hb hll (by decide) o1 o2 h
    have z := rdN_whole (first := cc d.1 d.2.2.2.1) (T := T) ns' x
    rw [h2, e, h1] at z
    have z2 := rdN_whole (first := cc d.1 d.2.2.2.1) (T := T) ns []
    rw [List.append_nil, hl] at z2
    have e3 : bitsF d ns T = (wst ns (cc d.1 d.2.2.2.1) T d.1).1.flatten := by unfold bitsF; rw [hl]
    rw [← e3, z] at z2
    have z3 := congrArg (fun o : Option (List Int × (Tb × Tb) × Nat) => o.map fun q => q.2.2) z2
    have z3 : some l.length = some (bitsF d ns T).length := z3
    have z3 := Option.some.inj z3
    rw [← e, List.length_append] at z3
    exact hx (List.length_eq_zero_iff.mp (by omega))
theorem rdF_mark (hl : ns.length = d.1) {mk : Int} (h : mk ≠ markF ns) : rdF d.1 d.2.2.2.1 mk (bitsF d ns T) T = none := by
  unfold rdF
  rw [rdA_bits hl]
  exact if_neg fun z => h z.symm
theorem rdF_none {l : List Nat} {mk : Int} (h : rdA l d.1 (cc d.1 d.2.2.2.1) T = none) : rdF d.1 d.2.2.2.1 mk l T = none := by
  unfold rdF
  rw [h]
end
/-- a frame as the law makes it -/
def Md (r : Rc) : Prop := ∃ (d : Hd) (ns : List Int) (T : Tb × Tb), r = .fr d ns T ∧ 8 ≤ d.1 ∧ d.1 ≤ 10 ∧ d.2.1 ≤ 4 ∧ (∀ z ∈ ns, z.natAbs ≤ 4) ∧ TbOk (10 ^ 50) T.1 ∧ TbOk (10 ^ 50) T.2
def spMade (K : PySem.W.Frag) : Sp := fun vs H Q _ => ∃ (p : Addr) (m : Nat), vs = [.ref p, .int (m : Nat)] ∧ Pool H p ∧ m ≤ 9 ∧ ∀ D refs rs T H', H D = none → H' D = some (.lst refs) → RcsAt K H' refs rs → Vd T0 0 rs T 0 → rs.length = m → (∀ r ∈ rs, Md r) → Pool H' p → Kp p H H' → Q (.ref D) H'
theorem use_made {K : PySem.W.Frag} {p : Addr} {m : Nat} {H : Hp} {Q : VK} {E : XK} (h : Pool H p) (hm : m ≤ 9) (q : ∀ D refs rs T H', H D = none → H' D = some (.lst refs) → RcsAt K H' refs rs → Vd T0 0 rs T 0 → rs.length = m → (∀ r ∈ rs, Md r) → Pool H' p → Kp p H H' → Q (.ref D) H') : spMade K ([.ref p, .int (m : Nat)] ++ []) H Q E := ⟨p, m, rfl, h, hm, q⟩
def spPlace (C : Addr) : Sp := fun vs H Q _ => ∃ (x p : Addr) (n : Nat) (w : Int) (v : V), vs = [.ref x, .int w, v] ∧ StmL C p H x n ∧ TyV H v ∧ inI v 0 ((n : Nat) - 1) = false ∧ scalarV v = true ∧ okR v ∧ ∀ H', Same H H' → Q (.str (repV v)) H'
theorem use_place {C x p : Addr} {n : Nat} {w : Int} {v : V} {H : Hp} {Q : VK} {E : XK} (hS : StmL C p H x n) (t : TyV H v) (hi : inI v 0 ((n : Nat) - 1) = false) (hs : scalarV v = true) (ho : okR v) (q : ∀ H', Same H H' → Q (.str (repV v)) H') : spPlace C ([.ref x, .int w, v] ++ []) H Q E := ⟨x, p, n, w, v, rfl, hS, t, hi, hs, ho, q⟩
theorem wst_sml4 {ns : List Int} {first : Nat} {T : Tb × Tb} (hn : ∀ z ∈ ns, z.natAbs ≤ 4) (o1 : TbOk (10 ^ 58) T.1) (o2 : TbOk (10 ^ 58) T.2) (hl : ns.length ≤ 64) : ∀ i, i ≤ ns.length → (wst ns first T i).1.flatten.length ≤ 309 * i
  | 0, _ => Nat.le_refl _
  | i + 1, hi => by
    have ih := wst_sml4 (first := first) hn o1 o2 hl i (by omega)
    obtain ⟨k1, k2⟩ := wst_ok (first := first) (fun z hz => Nat.lt_of_le_of_lt (hn z hz) (by decide)) o1 o2 i (by omega)
    have bnd : (10 ^ 58 + (i : Int) * 10 ^ 56) < 10 ^ 60 := by omega
    have hz := getD_some (List.getElem?_eq_getElem (show i < ns.length from hi))
    have hu : uOf (ns.getD i 0) ≤ 8 := by
      have := hn (ns.getD i 0) (by rw [hz]; exact List.getElem_mem _)
      unfold uOf codeU
      split <;> omega
    have he : ∀ k, k ≤ 300 → (encB (uOf (ns.getD i 0)) k).length ≤ 309 := fun k hk => by
      have hd : uOf (ns.getD i 0) / 2 ^ k ≤ 8 := Nat.le_trans (Nat.div_le_self _ _) hu
      unfold encB
      rw [if_pos (by omega), List.length_append, List.length_append, List.length_replicate, lowB_length]
      show _ + 1 + k ≤ 309
      omega
    by_cases c : i < first
    · rw [wst_lo c]
      dsimp only
      rw [List.flatten_append, List.length_append, List.flatten_cons, List.flatten_nil, List.append_nil]
      have := he _ (par_leG k1 bnd)
      omega
    · rw [wst_hi c]
      dsimp only
      rw [List.flatten_append, List.length_append, List.flatten_cons, List.flatten_nil, List.append_nil]
      have := he _ (par_leG k2 bnd)
      omega
end Z
namespace Z
open PySem PySem.Spec PyProof.Rows L2 Builtin Builtin.ObjectAttr
/-- what is known of the class at C, whose base is B -/
structure OexG (K : PySem.W.Frag) (C : Addr) (B nw ini : String) (bm : List Value) : Prop where
  fb : ExcBaseFacts B nw ini bm
  fs : StoreFacts B bm "object.__setattr__" "object"
  l : ∃ n1 n2 N l1 n3 l2 b1 b2 b3 m1 m2 m3 m4 m5, K.lookup C = some (excClassObj n1 n2 C N l1 bm true n3 l2 b1 b2 b3 m1 m2 m3 m4 m5 nw)
  sa : PySem.W.findIn K (.ref C) "__setattr__" = some (some (.builtin "object.__setattr__"))
  sub : PySem.W.subIn K (.ref C) (.type "BaseException") = some true
  ty : PySem.W.typeIn K (.ref C) = some (.type "type")
  kp : PySem.W.keepIn K (.ref C) = true
section
variable {prog : Program} {w : World} {A : Around} {R : Result → Shared → Prop} {hp : Heap} {g : Array GenState} {dr : Drawn} {tk0 : Nat} {os : OsState} {K : PySem.W.Frag} {C x : Addr} {B nw ini : String} {bm : List Value}
/-- the first field of such an exception is set -/
theorem osaG {f : Str} {tk : Tok} {v : Value} {fv : Array Value} (T : OexG K C B nw ini bm) (X : K.In hp) (ex : hp.get? x = some { cls := .ref C, data := .fields fv }) (no : PySem.W.findIn K (.ref C) f = some none)
    (q : ∀ h' tk' dx, (∀ b o, b ≠ x → hp.get? b = some o → h'.get? b = some o) → hp.objs.size ≤ dx → dx ≠ x → h'.get? x = some { cls := .ref C, dict := some dx, data := .fields fv } → h'.Ns1 dx (fun y => if y = f then some v else none) → R (.ok (.ret .none)) ⟨h', g, dr, tk', os⟩) :
    codeAny (model prog w) A (.call (.builtin "object.__setattr__") ⟨[.ref x, .str f tk, v], []⟩) R ⟨hp, g, dr, tk0, os⟩ := by
  obtain ⟨n1, n2, N, l1, n3, l2, b1, b2, b3, m1, m2, m3, m4, m5, hC⟩ := T.l
  obtain ⟨cd, ecd, ed⟩ : ∃ cd : ClassData, PySem.W.clsIn K C = some cd ∧ cd = { name := n1, bases := l1, mro := .ref C :: bm, ns := N, qualname := n2, hasDict := true, slotNames := n3, subclasses := l2, abstract := b1, collection := b2, hasDel := false } := ⟨_, by unfold PySem.W.clsIn; rw [hC] <;> rfl, rfl⟩
  have ob : (Value.ref C :: bm).contains (.type "object") = true := by rw [List.contains_cons, T.fs.hasOwner, Bool.or_true]
  have J : PySem.W.InstAt hp x { cls := .ref C, data := .fields fv } C none := ⟨ex, rfl, rfl, trivial⟩
  have ob' : PySem.W.mroIn K C (.type "object") = some true := by
    unfold PySem.W.mroIn
    rw [ecd, Option.bind_some, ed, if_neg (show ¬ (List.isEmpty (Value.ref C :: bm) = true) from fun z => Bool.noConfusion z)]
    exact congrArg some ob
  have isO : PySem.W.Looks (model prog w) hp (isInstance (.ref x) (.type "object")) true := J.type.andThen (PySem.W.looks_mroIn X ob')
  have G := F.store_object
  refine codeAny_call_builtin G.slot.plain G.entry (@PySem.W.check_slot (model prog w) _ _ ⟨hp, g, dr, tk0, os⟩ "object.__setattr__" "object" "__setattr__" (.ref x) [.str f tk, v] [] _ G.kind G.split isO (G.args (.ref x) (.str f tk) v) ?_)
  have lm : PySem.W.Looks (model prog w) hp (mroOf (.ref C)) cd.mro := (PySem.W.looks_clsIn X ecd).andThen .now
  have lc : PySem.W.Looks (model prog w) hp (classData C) cd := PySem.W.looks_clsIn X ecd
  have ln : PySem.W.Looks (model prog w) hp (Builtin.ObjectAttr.storeTaker? none) none := .now
  subst ed
  rw [PySem.W.osa_eq, refuse_eq]
  refine wpAny_bind (wpAny_bind (J.type.at (wpAny_bind (lm.at ?_))))
  rw [show (_ : List Value) = Value.ref C :: bm from rfl, refuseLoop_ref, T.fs.passes]
  refine wpAny_pure (wpAny_bind (J.type.at (wpAny_bind ((PySem.W.looks_findIn X no).at (wpAny_bind (ln.at ?_))))))
  unfold storeInOwnDict ownDictForStores
  have xs : x ≠ hp.objs.size := Nat.ne_of_lt (Heap.lt_size ex)
  repeat (first
    | (with_reducible refine PySem.HandSPX.store_in_new ?_ ?_)
    | (with_reducible refine wpAny_loadPart_at ex ?_)
    | (with_reducible refine lc.at ?_)
    | wp_step)
  · exact ⟨_, #[], _, (Heap.get?_update_ne _ _ _ _ xs.symm).trans (Heap.get?_push_at rfl rfl), rfl, fun y hy => absurd hy (by simp), fun _ => rfl⟩
  · intro h1 t1 ns1 sb
    have ex1 : (hp.push { cls := .type "dict", data := .dict #[] }).get? x = some { cls := .ref C, data := .fields fv } := Heap.get?_push_of_some _ ex
    exact q h1 t1 hp.objs.size (fun b o nb eb => (sb.2 b (Nat.ne_of_lt (Heap.lt_size eb))).trans ((Heap.get?_update_ne _ _ _ _ nb).trans (Heap.get?_push_of_some _ eb))) (Nat.le_refl _) xs.symm ((sb.2 x xs).trans (Heap.get?_update_self _ ex1 rfl)) ns1
end
section
variable {X : Cx} {pins : List (Addr × Obj)} {σ : L2.St} {H : Hp} {s : Shared} {a C : Addr} {f : Str} {y : V} {u : Value} {Q : Unit → Shared → Prop} {E : Value → Shared → Prop} {A : Around} {B nw ini : String} {bm : List Value}
theorem ostG (T : OexG X.K C B nw ini bm) (I : Inv X pins σ H s) (e : H a = some (exo a C none)) (no : PySem.W.findIn X.K (.ref C) f = some none) (ry : RelV y u)
    (q : ∀ dx s', H dx = none → dx ≠ a → Inv X pins σ (upd (upd H dx (exd dx [(f, y)])) a (exo a C (some dx))) s' → Q () s') : wpAny (model X.prog X.w) A (setAttr (.ref a) f u) Q E s := by
  obtain ⟨w1, at1⟩ := exo_at I.hok e
  obtain ⟨h0, gs, dr, tk, os⟩ := s
  refine PySem.W.set_plain I.kIn (ox := { cls := .ref C, dict := none, data := .fields #[.ref w1, .none, .none, .none, .bool false, .none] }) (od := none) ⟨at1, rfl, rfl, trivial⟩ T.sa ?_
  refine osaG T I.kIn at1 no fun h1 tk1 dx kp fresh ndx at2 ns1 => ?_
  have fx : H dx = none := I.hok.fresh fresh
  have ltx : ∀ {b : Addr} {o : Obj}, h0.get? b = some o → b ≠ dx := fun {b o} z => Nat.ne_of_lt (Nat.lt_of_lt_of_le (Heap.lt_size z) fresh)
  have nea : ∀ {b : Addr}, H b = none → b ≠ a := fun {b} z w => by
    rw [w, e] at z
    cases z
  have two : ∀ {b : Addr} {o : HO}, b ≠ a → b ≠ dx → H b = some o → (upd (upd H dx (exd dx [(f, y)])) a (exo a C (some dx))) b = some o := fun {b o} n1 n2 z => by rw [upd_ne n1, upd_ne n2]; exact z
  have un : Un X.fs [] H (upd (upd H dx (exd dx [(f, y)])) a (exo a C (some dx))) h0 h1 := by
    constructor
    · exact fun b o z n _ _ => kp b o (nea n) z
    · exact fun b o z n _ _ => ⟨o.slots, kp b o (nea n) z⟩
    · intro b o z n _
      rw [upd_ne (nea n), upd_ne (ltx z)]
      exact n
    · intro b o z _
      rcases Nat.decEq b a with n | rfl
      · exact ⟨o, kp b o n z⟩
      · exact ⟨_, at2⟩
    · exact fun b xs z => two (at_ne e z exo_tup) (ne_of_none z fx) z
    · exact fun b o v z => two (at_ne e z exo_frz) (ne_of_none z fx) z
    · exact fun b ps z => ⟨#[], by rw [two (at_ne e z exo_tbl) (ne_of_none z fx) z]; simp⟩
  refine q dx _ fx ndx (I.un (t' := tk1) un fun b o z => ?_)
  by_cases c1 : b = a
  · subst c1
    rw [upd_same] at z
    cases z
    exact exo_ok at2
  rw [upd_ne c1] at z
  by_cases c2 : b = dx
  · subst c2
    rw [upd_same] at z
    cases z
    exact exd_ok ns1 (relO_put (fs := []) ry fun _ => trivial)
  rw [upd_ne c2] at z
  refine (I.hok b o z).stay (fun c v hc ec => kp c v ?_ ec) (fun c hc => two (at_ne e hc exo_own) (ne_of_none hc fx) hc) fun c xs hc => two (at_ne e hc exo_tup) (ne_of_none hc fx) hc
  rcases hc with rfl | hc
  · exact c1
  · exact at_ne e hc exo_own
end
/-- self.f = e, in such an exception's __init__ -/
def tOstG (K : PySem.W.Frag) (f : Str) (to te : TE) : TS := fun D σ H => te σ H fun y H1 => to σ H1 fun x H2 => ∃ (a C : Addr) (B nw ini : String) (bm : List Value), x = .ref a ∧ OexG K C B nw ini bm ∧ PySem.W.findIn K (.ref C) f = some none ∧ H2 a = some (exo a C none) ∧
  ∀ dx, H2 dx = none → dx ≠ a → D.nx σ (upd (upd H2 dx (exd dx [(f, y)])) a (exo a C (some dx)))
section
variable {X : Cx} {o e : Expr} {es : List Expr} {to te : TE} {ta : TA} {f x : Str} {p p' pos : Pos} {C fI : Addr} {B nw ini : String} {bm : List Value}
theorem ps_ostG (ho : PE X o to) (he : PE X e te) (sw : swapsWith e (some (.Attribute o f p')) pos.line X.env = pure false := by rfl) : PS X (.Assign [.Attribute o f p'] e pos) (tOstG X.K f to te) := ⟨fun pins s σ H D I h => by
  refine plainObj_wpAny_Assign_Attribute ?_ sw
  refine thn (he.run pins s σ H _ I h) fun v s1 z => ?_
  obtain ⟨y, H1, I1, ry, z⟩ := z
  refine thn (ho.run pins s1 σ H1 _ I1 z) fun u s2 z2 => ?_
  obtain ⟨x, H2, I2, rx, a, C, B, nw, ini, bm, rfl, T, no, ea, q⟩ := z2
  cases rx
  exact ostG T I2 ea no ry fun dx s' n ne J => ⟨σ, _, J, q dx n ne⟩⟩
/-- such an exception is made -/
theorem pmkG {CX : CXT} {k : Nat} {fd : FuncData} {ps : List Str} {sp : Sp} (T : OexG X.K C B nw ini bm) (iC : PySem.W.findIn X.K (.ref C) "__init__" = some (some (.ref fI))) (tI : PySem.W.typeIn X.K (.ref fI) = some (.type "function"))
    (F1 : FnOk X.prog X.w X.K X.mg X.base CX k fI fd ps sp) (room : Room (k + 1) X.A) (bd : Binds X.K fd ps []) (psx : Passes CX X (fun _ _ _ => False)) (hg : Gl X x) (hm : X.mg x = some (.ref C)) (ha : PA X (e :: es) ta)
    (d1 : (x == ("__debug__" : Str)) = false := by decide) (d2 : starEach (e :: es) X.env = (false, eval e X.env) :: starEach es X.env := by rfl) (d3 : (backTo pos (starEach es X.env)).any (·.1) = false := by rfl) :
    PMk X (.Call (.Name x p) (e :: es) [] pos) (tMkO C sp [] ta) := fun pins s σ H Q I h => by
  obtain ⟨n1, n2, N, l1, n3, l2, b1, b2, b3, m1, m2, m3, m4, m5, hC⟩ := T.l
  refine wpAny_Call_Name_kw (ld_glob I hg hm ?_ d1)
  refine PySem.W.callWith_K (h₀ := X.base) I.ok.mod.kin T.kp ?_ d2 d3
  refine thn (ha.run pos pins s σ H _ I h) fun us s1 z => ?_
  obtain ⟨vs, H1, I1, rv, lv, q1⟩ := z
  refine ⟨I1.kIn, ?_⟩
  show wpAny _ _ (call (.ref C) us) _ _ _
  obtain ⟨h0, gs, dr, tk, os⟩ := s1
  have above : h0.objs.size ≤ h0.objs.size + 1 := by omega
  have want := q1 (h0.objs.size + 1) (I1.hok.fresh above)
  have grow : ∀ b u, h0.get? b = some u → ((h0.push (PySem.W.kdv_tup us)).push (PySem.HandSPX.excO C h0.objs.size)).get? b = some u := fun b u z => by
    refine Heap.get?_push_of_some _ ?_
    exact Heap.get?_push_of_some _ z
  have its : ((h0.push (PySem.W.kdv_tup us)).push (PySem.HandSPX.excO C h0.objs.size)).get? (h0.objs.size + 1) = some (PySem.HandSPX.excO C h0.objs.size) := by heap_get
  have I2 := I1.laid (t' := tk) (a := h0.objs.size + 1) (o := exo (h0.objs.size + 1) C none) (h' := (h0.push (PySem.W.kdv_tup us)).push (PySem.HandSPX.excO C h0.objs.size)) grow above (exo_ok its)
  have rv2 : Vals (V.ref (h0.objs.size + 1) :: (vs ++ [])) (Value.ref (h0.objs.size + 1) :: (us ++ [])) := .cons rfl (rv.append .nil)
  have many := rv2.length
  rw [F1.len _ _ _ _ want] at many
  have few : us.length ≤ sizeLine := by
    have := rv.length
    rw [sizeLine_eq]
    omega
  have lk : (Value.ref (h0.objs.size + 1) :: us ++ []).length = ps.length := many.symm
  have bound : BindsTo _ fd ⟨Value.ref (h0.objs.size + 1) :: us, []⟩ (ps.zip (Value.ref (h0.objs.size + 1) :: (us ++ []))) := bd _ (Value.ref (h0.objs.size + 1) :: us) I2.kIn lk
  have run := F1.run (X.A.under (.builtin "type.__call__" ⟨.ref C :: us, []⟩)) X.stack _ _ ⟨Value.ref (h0.objs.size + 1) :: us, []⟩ (Value.ref (h0.objs.size + 1) :: (us ++ [])) _ _ (fun _ _ _ => False) (room.make C us []) (I2.env0.make C us []) bound rv2 want
  refine wpAny_call (PySem.HandSPX.call_own T.fb (fun _ => rfl) (I1.kIn _ _ hC) (PySem.W.looks_findIn I1.kIn iC) (fun self => PySem.W.bind_fn I1.kIn self tI) few (codeAny_mono run fun r s' z => ?_))
  rcases r with er | fl
  · exact psx pins σ _ _ er s' I2 z
  · rcases fl with _ | _ | _ | u
    · exact z.elim
    · exact z.elim
    · exact z.elim
    · obtain ⟨v, H2, os2, bare2, un2, hok2, ru, ev, d, fs, ea, ed, n1', q2⟩ := z
      subst ev
      obtain ⟨h2, g2, dr2, tk2, os'⟩ := s'
      exact ⟨ru, mk_end (raises_own T.sub T.ty) I1 above grow un2 hok2 os2 bare2 ea ed n1' q2⟩
end
/-- such a class C, its name x, its one field f, its __init__ at fI -/
structure EG (K : PySem.W.Frag) (mg : Str → Option Value) (x f : Str) (C fI : Addr) (B nw ini : String) (bm : List Value) : Prop where
  o : OexG K C B nw ini bm
  xf : XfC K C
  ec : ExcC K C
  g : mg x = some (.ref C)
  noF : PySem.W.findIn K (.ref C) f = some none
  te : PySem.W.exmOne K (.ref C) (.ref C) = some true
  iC : PySem.W.findIn K (.ref C) "__init__" = some (some (.ref fI))
  tI : PySem.W.typeIn K (.ref fI) = some (.type "function")
/-- ready to be made -/
def ErrG (P : Program) (w : World) (K : PySem.W.Frag) (mg : Str → Option Value) (base : Heap) (x f : Str) (C : Addr) : Prop :=
  ∃ (B nw ini : String) (bm : List Value) (fI : Addr) (fd : FuncData), EG K mg x f C fI B nw ini bm ∧ FnOk P w K mg base CX0 1 fI fd ["self", f] (spInit K C f) ∧ Binds K fd ["self", f] []
section
variable {P : Program} {w : World} {K : PySem.W.Frag} {mg : Str → Option Value} {base : Heap} {x f : Str} {C : Addr}
theorem ErrG.eg (T : ErrG P w K mg base x f C) : ∃ fI B nw ini bm, EG K mg x f C fI B nw ini bm := let ⟨B, nw, ini, bm, fI, _, t, _⟩ := T; ⟨fI, B, nw, ini, bm, t⟩
theorem ErrG.g (T : ErrG P w K mg base x f C) : mg x = some (.ref C) := let ⟨_, _, _, _, _, t⟩ := T.eg; t.g
theorem ErrG.xf (T : ErrG P w K mg base x f C) : XfC K C := let ⟨_, _, _, _, _, t⟩ := T.eg; t.xf
theorem ErrG.ec (T : ErrG P w K mg base x f C) : ExcC K C := let ⟨_, _, _, _, _, t⟩ := T.eg; t.ec
theorem ErrG.noF (T : ErrG P w K mg base x f C) : PySem.W.findIn K (.ref C) f = some none := let ⟨_, _, _, _, _, t⟩ := T.eg; t.noF
theorem ErrG.te (T : ErrG P w K mg base x f C) : PySem.W.exmOne K (.ref C) (.ref C) = some true := let ⟨_, _, _, _, _, t⟩ := T.eg; t.te
end
section
variable {X : Cx} {C : Addr} {x f : Str} {W : WX} {e : Expr} {ta : TA} {p pos pos2 : Pos}
theorem ps_raiseG (T : ErrG X.prog X.w X.K X.mg X.base x f C) (hc : X.calm = true) (hr : Room 2 X.A) (tk : Takes X W) (ha : PA X [e] ta) (hg : Gl X x := by rfl)
    (d1 : (x == ("__debug__" : Str)) = false := by decide) (d2 : starEach (e :: []) X.env = (false, eval e X.env) :: starEach [] X.env := by rfl) (d3 : (backTo pos (starEach [] X.env)).any (·.1) = false := by rfl) :
    PS X (.Raise (some (.Call (.Name x p) [e] [] pos)) none pos2) (tRaiseX X.K C f W ta) := by
  obtain ⟨B, nw, ini, bm, fI, fd, t, F, b⟩ := T
  exact ps_raise hc tk (pmkG t.o t.iC t.tI F hr b (fun _ _ _ _ _ _ _ z => z.elim) hg t.g ha d1 d2 d3)
end
/-- the facts of such a class, gathered -/
theorem eg_mk {K : PySem.W.Frag} {mg : Str → Option Value} {x f : Str} {C fI N : Addr} {n1 n2 : Str} {l1 : List Value} {n3 : List Str} {l2 : List Value} {b1 : Bool} {b2 : Option Bool} {b3 : Option Addr} {m1 m2 m3 m4 m5 : Option Value} {B nw ini : String} {bm : List Value}
    (fb : ExcBaseFacts B nw ini bm) (fs : StoreFacts B bm "object.__setattr__" "object") (g : mg x = some (.ref C)) (l : K.lookup C = some (excClassObj n1 n2 C N l1 bm true n3 l2 b1 b2 b3 m1 m2 m3 m4 m5 nw))
    (sa : PySem.W.findIn K (.ref C) "__setattr__" = some (some (.builtin "object.__setattr__"))) (ga : PySem.W.findIn K (.ref C) "__getattribute__" = some (some (.builtin "BaseException.__getattribute__")))
    (gg : PySem.W.findIn K (.ref C) "__getattr__" = some none) (nf : PySem.W.findIn K (.ref C) f = some none) (ic : PySem.W.findIn K (.ref C) "__init__" = some (some (.ref fI))) (ti : PySem.W.typeIn K (.ref fI) = some (.type "function"))
    (ca : PySem.W.findIn K (.ref C) "__class__" = some (some (.builtin "object.__class__"))) (cn : PySem.W.specialIn K (.builtin "object.__class__") "__get__" = some (some (.builtin "getset_descriptor.__get__")))
    (ct : PySem.W.takesIn K (.builtin "object.__class__") = some true) (cm : PySem.W.mroIn K C (.type "object") = some true) (kp : PySem.W.keepIn K (.ref C) = true) (sb : PySem.W.subIn K (.ref C) (.type "BaseException") = some true)
    (tc : PySem.W.typeIn K (.ref C) = some (.type "type")) (hd : PySem.W.hasDictIn K C = true) (ss : PySem.W.subIn K (.ref C) (.ref C) = some true) : EG K mg x f C fI B nw ini bm :=
  ⟨⟨fb, fs, ⟨n1, n2, N, l1, n3, l2, b1, b2, b3, m1, m2, m3, m4, m5, l⟩, sa, sb, tc, kp⟩, ⟨ga, gg, sb, hd⟩, ⟨ga, gg, sb, hd, ca, cn, ct, cm⟩, g, nf, PySem.W.exm_ref sb hd tc ss, ic, ti⟩
end Z
namespace Z
open PySem PySem.Spec PyProof.Rows L2
open SX (S S_len S_cat S_inj)
theorem Vd.app : ∀ {as bs : List Rc} {T : Tb × Tb} {l : Nat} {T2 : Tb × Tb} {l2 : Nat} {T3 : Tb × Tb} {l3 : Nat}, Vd T l as T3 l3 → Vd T3 l3 bs T2 l2 → Vd T l (as ++ bs) T2 l2
  | [], _, _, _, _, _, _, _, ⟨e1, e2⟩, h => by subst e1 e2; exact h
  | .st _ :: _, _, _, _, _, _, _, _, ⟨h, q⟩, k => ⟨h, Vd.app q k⟩
  | .fr _ _ _ :: _, _, _, _, _, _, _, _, ⟨h1, h2, h3, h4, h5, h6, q⟩, k => ⟨h1, h2, h3, h4, h5, h6, Vd.app q k⟩
theorem Vd.split : ∀ {as bs : List Rc} {T : Tb × Tb} {l : Nat} {T2 : Tb × Tb} {l2 : Nat}, Vd T l (as ++ bs) T2 l2 → ∃ T3 l3, Vd T l as T3 l3 ∧ Vd T3 l3 bs T2 l2
  | [], _, T, l, _, _, h => ⟨T, l, ⟨rfl, rfl⟩, h⟩
  | .st _ :: _, _, _, _, _, _, ⟨h, q⟩ => by
    obtain ⟨T3, l3, a, b⟩ := Vd.split q
    exact ⟨T3, l3, ⟨h, a⟩, b⟩
  | .fr _ _ _ :: _, _, _, _, _, _, ⟨h1, h2, h3, h4, h5, h6, q⟩ => by
    obtain ⟨T3, l3, a, b⟩ := Vd.split q
    exact ⟨T3, l3, ⟨h1, h2, h3, h4, h5, h6, a⟩, b⟩
def wdI (rs : List Rc) (i : Nat) : Nat := match rs[i]? with
  | some (.fr d _ _) => d.2.1
  | _ => 0
def lnI (rs : List Rc) (i : Nat) : Nat := match rs[i]? with
  | some (.fr d _ _) => d.1
  | _ => 0
def ltI (rs : List Rc) (i : Nat) : Nat := if 0 < i then wdI rs (i - 1) else 0
theorem wdI_of {rs : List Rc} {i : Nat} {d : Hd} {ns : List Int} {T : Tb × Tb} (h : rs[i]? = some (.fr d ns T)) : wdI rs i = d.2.1 := by unfold wdI; rw [h]
theorem lnI_of {rs : List Rc} {i : Nat} {d : Hd} {ns : List Int} {T : Tb × Tb} (h : rs[i]? = some (.fr d ns T)) : lnI rs i = d.1 := by unfold lnI; rw [h]
theorem md_at {rs : List Rc} (hm : ∀ r ∈ rs, Md r) {i : Nat} (hi : i < rs.length) : ∃ d ns T, rs[i]? = some (.fr d ns T) ∧ Md (.fr d ns T) := by
  obtain ⟨d, ns, T, e, q⟩ := hm _ (List.getElem_mem hi)
  exact ⟨d, ns, T, by rw [List.getElem?_eq_getElem hi, e], ⟨d, ns, T, rfl, q⟩⟩
theorem take_last {rs : List Rc} {i : Nat} {r : Rc} (h : rs[i]? = some r) : rs.take (i + 1) = rs.take i ++ [r] := by
  rw [List.take_add_one, h]
  rfl
theorem list_cut {α : Type} {rs : List α} {i : Nat} {r : α} (h : rs[i]? = some r) : rs = rs.take i ++ r :: rs.drop (i + 1) := by
  obtain ⟨hi, e⟩ := List.getElem?_eq_some_iff.mp h
  rw [← e, ← List.drop_eq_getElem_cons hi, List.take_append_drop]
theorem Vd.endsW {rs : List Rc} (hm : ∀ r ∈ rs, Md r) : ∀ {i : Nat} {T : Tb × Tb} {T2 : Tb × Tb} {l2 : Nat}, Vd T 0 (rs.take i) T2 l2 → i ≤ rs.length → l2 = ltI rs i
  | 0, _, _, _, h, _ => by
    rw [List.take_zero] at h
    exact h.2.symm
  | i + 1, _, _, _, h, hi => by
    obtain ⟨d, ns, T, e, _⟩ := md_at hm (show i < rs.length from hi)
    rw [take_last e] at h
    obtain ⟨T3, l3, _, b⟩ := Vd.split h
    obtain ⟨_, _, _, _, _, _, _, b⟩ := b
    unfold ltI
    rw [if_pos (Nat.succ_pos i), Nat.add_sub_cancel, wdI_of e]
    exact b.symm
theorem Vd.at {rs : List Rc} {Te : Tb × Tb} (hV : Vd T0 0 rs Te 0) (hm : ∀ r ∈ rs, Md r) {i : Nat} {d : Hd} {ns : List Int} {T : Tb × Tb} (e : rs[i]? = some (.fr d ns T)) : Vd T0 0 (rs.take i) T (ltI rs i) ∧ HdOk d ∧ ltI rs i + d.2.1 ≤ d.1 ∧ ns.length = d.1 ∧ (∀ z ∈ ns, z.natAbs ≤ 10 ^ 45) ∧ TkOk T ∧ Vd (nextF d ns T) d.2.1 (rs.drop (i + 1)) Te 0 := by
  obtain ⟨hi, _⟩ := List.getElem?_eq_some_iff.mp e
  have h := hV
  rw [list_cut e] at h
  obtain ⟨T3, l3, a, b⟩ := Vd.split h
  have e3 := Vd.endsW hm a (Nat.le_of_lt hi)
  subst e3
  obtain ⟨rfl, h2, h3, h4, h5, h6, q⟩ := b
  exact ⟨a, h2, h3, h4, h5, h6, q⟩
/-- the record that is due -/
def dueZ (rs : List Rc) (i k : Nat) : Option Nat :=
  if k = 0 then some i else if 1 < k ∨ lnI rs i < ltI rs i + 8 then some i else if i + 1 < rs.length ∧ lnI rs (i + 1) < 8 + wdI rs (i + 1) then some (i + 1) else if i + 1 = rs.length then some i else none
/-- what Stream makes of a value: an error with an index, or a stream -/
inductive IdxO (K : PySem.W.Frag) (H : Hp) : V → Option V → Prop where
  | pre {v u : V} (h : CkR H v (some u)) : IdxO K H v (some u)
  | bad {a : Addr} {refs tl : List V} {rs : List Rc} {T : Tb × Tb} {w : Nat} (h : H a = some (.lst (refs ++ tl))) (hl : (refs ++ tl).length ≤ 400) (hc : CkR H (.ref a) none) (hR : RcsAt K H refs rs) (ht : TlZ H T w tl true) (hV : Vd T0 0 rs T w) (hT : TbB 15000 T.1 ∧ TbB 15000 T.2) : IdxO K H (.ref a) (some (.int (rs.length : Nat)))
  | hard {a : Addr} {refs : List V} {rs : List Rc} {T : Tb × Tb} {w : Nat} {f : Fm} (h : H a = some (.lst refs)) (hl : refs.length ≤ 400) (hc : CkR H (.ref a) none) (hR : RcsAt K H refs rs) (hV : Vd T0 0 rs T w) (hw : w ≠ 0) (hf : (frR 0 0 (0, 0) rs).getLast? = some f) : IdxO K H (.ref a) (some (.int (f.1 : Nat)))
  | ok {a : Addr} {refs : List V} {rs : List Rc} {T : Tb × Tb} (h : H a = some (.lst refs)) (hl : refs.length ≤ 400) (hc : CkR H (.ref a) none) (hR : RcsAt K H refs rs) (hV : Vd T0 0 rs T 0) : IdxO K H (.ref a) none
/-- a frame spoilt in one of four ways -/
inductive SpV (K : PySem.W.Frag) (H : Hp) (d : Hd) (ns : List Int) (T : Tb × Tb) : Nat → V → Prop where
  | none {v : V} (h : RecR H v false) : SpV K H d ns T 0 v
  | wide {v : V} (h : RcAt K H v (.fr (d.1, 8, 1, d.2.2.2.1, d.2.2.2.2) ns T)) : SpV K H d ns T 1 v
  | bad {a j : Addr} {mk : Int} {l : List Nat} {k : Nat} (hk : 2 ≤ k) (h : FrG H a d.1 j d.2.2.2.1 d.2.2.2.2 mk l) (hj : H j = some (.tup [.int (d.2.1 : Nat), .int (d.2.2.1 : Nat)])) (m0 : 0 ≤ mk) (m1 : mk < 9973) (hb : ∀ c ∈ l, IsB c) (hl : l.length ≤ 15000) (hx : rdF d.1 d.2.2.2.1 mk l T = none) : SpV K H d ns T k (.ref a)
theorem rec_G {H : Hp} {a j : Addr} {d : Hd} {mk : Int} {l : List Nat} (h : FrG H a d.1 j d.2.2.2.1 d.2.2.2.2 mk l) (hj : H j = some (.tup [.int (d.2.1 : Nat), .int (d.2.2.1 : Nat)])) (ok : HdOk d) (m0 : 0 ≤ mk) (m1 : mk < 9973) (hb : ∀ c ∈ l, IsB c) (hl : l.length ≤ 1000000) : RecR H (.ref a) true := by
  obtain ⟨k1, k2, k3, k4, k5, k6, k7, k8⟩ := ok
  have iw : ∀ (x : Int) (lo hi : Int), lo ≤ x → x ≤ hi → inI (.int x) lo hi = true := fun x lo hi a b => by
    exact decide_eq_true ⟨a, b⟩
  have z := RecR.fr h rfl trivial (JR.tup2 hj trivial trivial) trivial trivial trivial (.str (z := S l) (by rw [S_len]; exact Nat.le_trans hl (by decide)))
  have e : frB (.str (Str.ofString "frame")) (.int (d.1 : Nat)) (jt (.int (d.2.1 : Nat)) (.int (d.2.2.1 : Nat))) (.int (d.2.2.2.1 : Nat)) (.int (d.2.2.2.2 : Nat)) (.int mk) (bitsOf (S l)) = true := by
    unfold frB layB
    rw [iw _ 1 64 (by omega) (by omega), iw _ 0 5 (by omega) (by omega), iw _ 1 64 (by omega) (by omega), iw _ 0 9972 (by omega) (by omega), bits_ok hb, decide_eq_true rfl, jt_ok (j := (0, d.2.1, d.2.2.1)) k3 k4 k5]
    rfl
  rw [e] at z
  exact z
theorem rc_recR {K : PySem.W.Frag} {H : Hp} {v : V} {r : Rc} (h : RcAt K H v r) (hm : Md r) (ok : RcOk r) : RecR H v true := by
  obtain ⟨d, ns, T, rfl, _⟩ := hm
  obtain ⟨a, j, rfl, h1, h2⟩ := h
  have hb := bitsF_len ok
  have hk := markF_bound ns
  exact rec_G (mk := markF ns) (l := bitsF d ns T) h1 h2 ok.1 hk.1 hk.2 hb.2 hb.1
theorem rcs_recR {K : PySem.W.Frag} {H : Hp} {vs : List V} {rs : List Rc} (h : RcsAt K H vs rs) (hm : ∀ r ∈ rs, Md r) (ok : ∀ r ∈ rs, RcOk r) : All2 (RecR H) vs (rs.map fun _ => true) := by
  induction h with
  | nil => exact .nil
  | cons h _ ih => exact .cons (rc_recR h (hm _ List.mem_cons_self) (ok _ List.mem_cons_self)) (ih (fun r hr => hm r (List.mem_cons_of_mem _ hr)) fun r hr => ok r (List.mem_cons_of_mem _ hr))
theorem fst_app : ∀ (l : List Rc) (bs : List Bool), fstF (l.map (fun _ => true) ++ bs) = (fstF bs).map (· + l.length)
  | [], bs => by
    show fstF bs = _
    simp
  | _ :: l, bs => by
    show (fstF (l.map (fun _ => true) ++ bs)).map (· + 1) = _
    rw [fst_app l bs, Option.map_map]
    congr 1
theorem fst_all (l : List Rc) : fstF (l.map fun _ => true) = none := by
  have z := fst_app l []
  rw [List.append_nil] at z
  exact z
theorem All2.apN {α β : Type} {R : α → β → Prop} {as cs : List α} {bs ds : List β} (h : All2 R as bs) (g : All2 R cs ds) : All2 R (as ++ cs) (bs ++ ds) := by
  induction h with
  | nil => exact g
  | cons h _ ih => exact .cons h ih
theorem All2.drN {α β : Type} {R : α → β → Prop} {as : List α} {bs : List β} (h : All2 R as bs) : ∀ n, All2 R (as.drop n) (bs.drop n) := by
  induction h with
  | nil => intro n; rw [List.drop_nil, List.drop_nil]; exact .nil
  | cons h t ih =>
    intro n
    cases n with
    | zero => exact .cons h t
    | succ n => exact ih n
theorem cc_set {α β : Type} {R : α → β → Prop} {as : List α} {bs : List β} (h : All2 R as bs) {a : α} {b : β} (k : R a b) (i : Nat) : All2 R (as.take i ++ a :: as.drop (i + 1)) (bs.take i ++ b :: bs.drop (i + 1)) := All2.apN (h.takeN i) (.cons k (h.drN (i + 1)))
def IsFr (r : Rc) : Prop := ∃ (d : Hd) (ns : List Int) (T : Tb × Tb), r = .fr d ns T
theorem frR_get : ∀ {rs : List Rc} (i pl : Nat) (lj : Nat × Nat), (∀ r ∈ rs, IsFr r) → ∀ {f : Fm}, (frR i pl lj rs).getLast? = some f → f.1 + 1 = i + rs.length
  | [], _, _, _, _, _, h => by cases h
  | [r], i, pl, lj, hm, f, h => by
    obtain ⟨d, ns, T, rfl⟩ := hm r List.mem_cons_self
    obtain rfl := Option.some.inj h
    rfl
  | r :: s :: rs, i, pl, lj, hm, f, h => by
    obtain ⟨d, ns, T, rfl⟩ := hm r List.mem_cons_self
    obtain ⟨d2, ns2, T2, rfl⟩ := hm s (List.mem_cons_of_mem _ List.mem_cons_self)
    have h : (frR (i + 1) (pl + d.1) (d.2.1, d.2.2.1) (.fr d2 ns2 T2 :: rs)).getLast? = some f := by
      rw [← h]
      show _ = ((i, pl, d, lj, ns, T) :: (i + 1, pl + d.1, d2, (d.2.1, d.2.2.1), ns2, T2) :: frR (i + 1 + 1) (pl + d.1 + d2.1) (d2.2.1, d2.2.2.1) rs).getLast?
      rw [List.getLast?_cons_cons]
      rfl
    have z := frR_get (i + 1) (pl + d.1) (d.2.1, d.2.2.1) (fun r hr => hm r (List.mem_cons_of_mem _ hr)) h
    rw [z]
    show i + 1 + (rs.length + 1) = i + (rs.length + 1 + 1)
    omega
theorem frR_some : ∀ {rs : List Rc} (i pl : Nat) (lj : Nat × Nat), (∀ r ∈ rs, IsFr r) → rs ≠ [] → ∃ f, (frR i pl lj rs).getLast? = some f
  | [], _, _, _, _, h => absurd rfl h
  | r :: rs, i, pl, lj, hm, _ => by
    obtain ⟨d, ns, T, rfl⟩ := hm r List.mem_cons_self
    show ∃ f, ((i, pl, d, lj, ns, T) :: frR (i + 1) (pl + d.1) (d.2.1, d.2.2.1) rs).getLast? = some f
    rw [List.getLast?_cons]
    exact ⟨_, rfl⟩
section
variable {K : PySem.W.Frag} {H : Hp} {a : Addr} {refs : List V} {rs : List Rc} {Te : Tb × Tb} {i : Nat} {d : Hd} {ns : List Int} {T : Tb × Tb} {v : V}
/-- the list with another value at a place -/
def setR (refs : List V) (i : Nat) (v : V) : List V := refs.take i ++ v :: refs.drop (i + 1)
/-- all but one good: none is no record -/
theorem ck_good (hS : H a = some (.lst (setR refs i v))) (hR : RcsAt K H refs rs) (hV : Vd T0 0 rs Te 0) (hm : ∀ r ∈ rs, Md r) (hv : RecR H v true) : CkR H (.ref a) none := by
  have z := cc_set (rcs_recR hR hm hV.ok) hv i
  have z2 := CkR.seq (.inl hS) z
  rw [← List.map_take, ← List.map_drop, show (true :: (rs.drop (i + 1)).map fun _ => true) = ([Rc.st T0].map fun _ => true) ++ (rs.drop (i + 1)).map fun _ => true from rfl, ← List.append_assoc, ← List.map_append, ← List.map_append, fst_all] at z2
  exact z2
theorem ck_bad (hS : H a = some (.lst (setR refs i v))) (hR : RcsAt K H refs rs) (hV : Vd T0 0 rs Te 0) (hm : ∀ r ∈ rs, Md r) (hi : i < rs.length) (hv : RecR H v false) : CkR H (.ref a) (some (.int (i : Nat))) := by
  have z := cc_set (rcs_recR hR hm hV.ok) hv i
  have z2 := CkR.seq (.inl hS) z
  rw [← List.map_take, fst_app, List.length_take, Nat.min_eq_left (Nat.le_of_lt hi)] at z2
  have e : (fstF (false :: (rs.map fun _ => true).drop (i + 1))).map (· + i) = some i := by
    show some (0 + i) = some i
    rw [Nat.zero_add]
  rw [e] at z2
  exact z2
theorem tk_B (h : TkOk T) : TbB 15000 T.1 ∧ TbB 15000 T.2 := ⟨tbB_of (h.1.up (by decide)), tbB_of (h.2.up (by decide))⟩
theorem setR_len (hi : i < refs.length) : (setR refs i v).length = refs.length := by
  unfold setR
  rw [List.length_append, List.length_cons, List.length_take, List.length_drop]
  omega
theorem fr_G {w sh : Nat} {v : V} (h : RcAt K H v (.fr (d.1, w, sh, d.2.2.2.1, d.2.2.2.2) ns T)) : ∃ b j, v = .ref b ∧ FrG H b d.1 j d.2.2.2.1 d.2.2.2.2 (markF ns) (bitsF d ns T) ∧ H j = some (.tup [.int (w : Nat), .int (sh : Nat)]) := h
/-- another joint of the width w at a frame: what becomes of it -/
theorem wide_idx {w sh : Nat} (hS : H a = some (.lst (setR refs i v))) (hR : RcsAt K H refs rs) (hV : Vd T0 0 rs Te 0) (hm : ∀ r ∈ rs, Md r) (hlen : rs.length ≤ 9) (e : rs[i]? = some (.fr d ns T)) (hw : w ≤ 8) (hw0 : w ≠ 0) (hsh : sh ≤ 3) (hv : RcAt K H v (.fr (d.1, w, sh, d.2.2.2.1, d.2.2.2.2) ns T)) :
    IdxO K H (.ref a) ((if lnI rs i < ltI rs i + w then some i else if i + 1 < rs.length ∧ lnI rs (i + 1) < w + wdI rs (i + 1) then some (i + 1) else if i + 1 = rs.length then some i else none).map fun n : Nat => V.int (n : Nat)) := by
  obtain ⟨hi, _⟩ := List.getElem?_eq_some_iff.mp e
  have hrl := hR.len
  obtain ⟨v1, v2, v3, v4, v5, v6, v7⟩ := hV.at hm e
  have mdi := hm _ (List.mem_of_getElem? e)
  obtain ⟨_, _, _, ee, m1, m2, m3, m4, m5, m6⟩ := mdi
  cases ee
  have ok' : HdOk (d.1, w, sh, d.2.2.2.1, d.2.2.2.2) := ⟨v2.1, v2.2.1, hw, hsh, fun z => absurd z hw0, v2.2.2.2.2.2⟩
  obtain ⟨b, j, rfl, g1, g2⟩ := fr_G hv
  have hb := bitsF_len (⟨v2, v4, v5, v6⟩ : RcOk (.fr d ns T))
  have hb2 := wst_sml4 (first := cc d.1 d.2.2.2.1) m4 (m5.up (by decide)) (m6.up (by decide)) (by omega) ns.length (Nat.le_refl _)
  have hbl : (bitsF d ns T).length ≤ 15000 := by unfold bitsF; omega
  have hk := markF_bound ns
  have hrec : RecR H (.ref b) true := rec_G (d := (d.1, w, sh, d.2.2.2.1, d.2.2.2.2)) g1 g2 ok' hk.1 hk.2 hb.2 hb.1
  have hc := ck_good hS hR hV hm hrec
  have hlS := setR_len (refs := refs) (i := i) (v := .ref b) (by omega)
  rw [lnI_of e]
  by_cases c1 : d.1 < ltI rs i + w
  · rw [if_pos c1]
    have z := IdxO.bad (K := K) (refs := refs.take i) (tl := .ref b :: refs.drop (i + 1)) (rs := rs.take i) hS (by rw [show refs.take i ++ .ref b :: refs.drop (i + 1) = setR refs i (.ref b) from rfl, hlS]; omega) hc (hR.takeN i) (TlZ.bad g1 g2 v2.1 v2.2.1 v2.2.2.2.2.2.1 hb.2 hbl (.inl c1)) v1 (tk_B v6)
    rw [List.length_take, Nat.min_eq_left (Nat.le_of_lt hi)] at z
    exact z
  · rw [if_neg c1]
    have hV' : Vd T0 0 (rs.take i ++ [.fr (d.1, w, sh, d.2.2.2.1, d.2.2.2.2) ns T]) (nextF d ns T) w := Vd.fr' (d := (d.1, w, sh, d.2.2.2.1, d.2.2.2.2)) ok' (by dsimp only; omega) v4 v5 v6 v1
    have hR' : RcsAt K H (refs.take i ++ [.ref b]) (rs.take i ++ [.fr (d.1, w, sh, d.2.2.2.1, d.2.2.2.2) ns T]) := (hR.takeN i).app hv
    have hl' : (rs.take i ++ [Rc.fr (d.1, w, sh, d.2.2.2.1, d.2.2.2.2) ns T]).length = i + 1 := by rw [List.length_append, List.length_take, Nat.min_eq_left (Nat.le_of_lt hi)]; rfl
    by_cases c2 : i + 1 < rs.length
    · obtain ⟨d2, ns2, T2, e2, m⟩ := md_at hm c2
      obtain ⟨u1, u2, u3, u4, u5, u6, u7⟩ := hV.at hm e2
      have hd : rs.drop (i + 1) = .fr d2 ns2 T2 :: rs.drop (i + 2) := by
        obtain ⟨hi2, e3⟩ := List.getElem?_eq_some_iff.mp e2
        rw [List.drop_eq_getElem_cons hi2, e3]
      obtain ⟨a2, r2, hr2, hd2, hd3⟩ : ∃ a2 r2, RcAt K H a2 (.fr d2 ns2 T2) ∧ refs.drop (i + 1) = a2 :: r2 ∧ RcsAt K H r2 (rs.drop (i + 2)) := by
        have z := hR.drN (i + 1)
        rw [hd] at z
        revert z
        generalize refs.drop (i + 1) = X
        intro z
        cases z with
        | cons h t => exact ⟨_, _, h, rfl, t⟩
      rw [hd] at v7
      obtain ⟨rfl, w2, w3, w4, w5, w6, w7⟩ := v7
      rw [lnI_of e2, wdI_of e2]
      by_cases c3 : d2.1 < w + d2.2.1
      · rw [if_pos ⟨c2, c3⟩]
        obtain ⟨b2, j2, rfl, f1, f2⟩ := hr2
        obtain ⟨_, _, _, ee, n1, n2, n3, n4, n5, n6⟩ := m
        cases ee
        have hb3 := bitsF_len (⟨u2, u4, u5, u6⟩ : RcOk (.fr d2 ns2 (nextF d ns T)))
        have hb4 := wst_sml4 (first := cc d2.1 d2.2.2.2.1) n4 (n5.up (by decide)) (n6.up (by decide)) (by omega) ns2.length (Nat.le_refl _)
        have z := IdxO.bad (K := K) (refs := refs.take i ++ [.ref b]) (tl := .ref b2 :: r2) (by rw [List.append_assoc, ← hd2]; exact hS) (by rw [List.append_assoc, ← hd2]; rw [show refs.take i ++ ([.ref b] ++ refs.drop (i + 1)) = setR refs i (.ref b) from rfl, hlS]; omega) hc hR' (TlZ.bad f1 f2 u2.1 u2.2.1 u2.2.2.2.2.2.1 hb3.2 (by unfold bitsF; omega) (.inl c3)) hV' (tk_B u6)
        rw [hl'] at z
        exact z
      · rw [if_neg (fun z => c3 z.2), if_neg (by omega)]
        have hV2 : Vd T0 0 ((rs.take i ++ [.fr (d.1, w, sh, d.2.2.2.1, d.2.2.2.2) ns T]) ++ rs.drop (i + 1)) Te 0 := hV'.app (by rw [hd]; exact ⟨rfl, w2, by omega, w4, w5, w6, w7⟩)
        refine IdxO.ok (refs := setR refs i (.ref b)) hS (by rw [hlS]; omega) hc ?_ hV2
        show RcsAt K H (refs.take i ++ ([.ref b] ++ refs.drop (i + 1))) _
        rw [← List.append_assoc]
        exact All2.apN hR' (hR.drN (i + 1))
    · have c4 : i + 1 = rs.length := by omega
      rw [if_neg (fun z => c2 z.1), if_pos c4]
      have hm' : ∀ r ∈ rs.take i ++ [Rc.fr (d.1, w, sh, d.2.2.2.1, d.2.2.2.2) ns T], IsFr r := fun r hr => by
        rcases List.mem_append.mp hr with hr | hr
        · obtain ⟨x, y, z, e, _⟩ := hm r (List.mem_of_mem_take hr)
          exact ⟨x, y, z, e⟩
        · exact ⟨_, _, _, List.mem_singleton.mp hr⟩
      obtain ⟨f, hf⟩ := frR_some 0 0 (0, 0) hm' (by simp)
      have hf1 := frR_get 0 0 (0, 0) hm' hf
      rw [hl', Nat.zero_add] at hf1
      have hdr : refs.drop (i + 1) = [] := List.drop_eq_nil_of_le (by omega)
      have hS' : H a = some (.lst (refs.take i ++ [.ref b])) := by rw [hS]; unfold setR; rw [hdr]
      have z := IdxO.hard (K := K) hS' (by rw [List.length_append, List.length_take]; show _ + 1 ≤ 400; omega) hc hR' hV' hw0 hf
      rw [show f.1 = i by omega] at z
      exact z
theorem spoilt_idx {k : Nat} (hS : H a = some (.lst (setR refs i v))) (hR : RcsAt K H refs rs) (hV : Vd T0 0 rs Te 0) (hm : ∀ r ∈ rs, Md r) (hlen : rs.length ≤ 9) (e : rs[i]? = some (.fr d ns T)) (hs : SpV K H d ns T k v) : IdxO K H (.ref a) ((dueZ rs i k).map fun n : Nat => V.int (n : Nat)) := by
  obtain ⟨hi, _⟩ := List.getElem?_eq_some_iff.mp e
  have hrl := hR.len
  obtain ⟨v1, v2, v3, v4, v5, v6, v7⟩ := hV.at hm e
  unfold dueZ
  cases hs with
  | none h =>
    rw [if_pos rfl]
    exact .pre (ck_bad hS hR hV hm hi h)
  | wide h =>
    rw [if_neg (by decide)]
    have z := wide_idx hS hR hV hm hlen e (by decide) (by decide) (by decide) h
    by_cases c : lnI rs i < ltI rs i + 8
    · rw [if_pos c] at z
      rw [if_pos (.inr c)]
      exact z
    · rw [if_neg c] at z
      rw [if_neg (fun y => by rcases y with y | y <;> omega)]
      exact z
  | @bad b j mk l _ hk h hj m0 m1 hb hl hx =>
    rw [if_neg (by omega), if_pos (.inl hk)]
    have hlS := setR_len (refs := refs) (i := i) (v := .ref b) (by omega)
    have hc := ck_good hS hR hV hm (rec_G h hj v2 m0 m1 hb (by omega))
    have z := IdxO.bad (K := K) (refs := refs.take i) (tl := .ref b :: refs.drop (i + 1)) (rs := rs.take i) hS (by rw [show refs.take i ++ .ref b :: refs.drop (i + 1) = setR refs i (.ref b) from rfl, hlS]; omega) hc (hR.takeN i) (TlZ.bad h hj v2.1 v2.2.1 v2.2.2.2.2.2.1 hb hl (.inr hx)) v1 (tk_B v6)
    rw [List.length_take, Nat.min_eq_left (Nat.le_of_lt hi)] at z
    exact z
end
def spSpoilt (K : PySem.W.Frag) : Sp := fun vs H Q _ => ∃ (p a : Addr) (refs : List V) (rs : List Rc) (i k : Nat) (d : Hd) (ns : List Int) (T : Tb × Tb), vs = [.ref p, .ref a, .int (i : Nat), .int (k : Nat)] ∧ Pool H p ∧ a ≠ p ∧ H a = some (.lst refs) ∧ RcsAt K H refs rs ∧ rs[i]? = some (.fr d ns T) ∧ Md (.fr d ns T) ∧ RcOk (.fr d ns T) ∧ k < 4 ∧ ∀ v H', SpV K H' d ns T k v → Pool H' p → Kp p H H' → Q v H'
theorem use_spoilt {K : PySem.W.Frag} {p a : Addr} {refs : List V} {rs : List Rc} {i k : Nat} {d : Hd} {ns : List Int} {T : Tb × Tb} {H : Hp} {Q : VK} {E : XK} (hP : Pool H p) (n : a ≠ p) (hS : H a = some (.lst refs)) (hR : RcsAt K H refs rs) (e : rs[i]? = some (.fr d ns T)) (hm : Md (.fr d ns T)) (ok : RcOk (.fr d ns T)) (hk : k < 4) (q : ∀ v H', SpV K H' d ns T k v → Pool H' p → Kp p H H' → Q v H') : spSpoilt K ([.ref p, .ref a, .int (i : Nat), .int (k : Nat)] ++ []) H Q E := ⟨p, a, refs, rs, i, k, d, ns, T, rfl, hP, n, hS, hR, e, hm, ok, hk, q⟩
def optN : Option Nat → V
  | none => .non
  | some n => .int (n : Nat)
def spDue (K : PySem.W.Frag) : Sp := fun vs H Q _ => ∃ (a b t : Addr) (refs : List V) (rs : List Rc) (i k : Nat), vs = [.ref a, .ref b] ∧ H a = some (.lst refs) ∧ RcsAt K H refs rs ∧ (∀ r ∈ rs, Md r) ∧ i < rs.length ∧ H b = some (.lst [.ref t]) ∧ H t = some (.tup [.int (i : Nat), .int (k : Nat)]) ∧ ∀ H', Same H H' → Q (optN (dueZ rs i k)) H'
theorem use_due {K : PySem.W.Frag} {a b t : Addr} {refs : List V} {rs : List Rc} {i k : Nat} {H : Hp} {Q : VK} {E : XK} (hS : H a = some (.lst refs)) (hR : RcsAt K H refs rs) (hm : ∀ r ∈ rs, Md r) (hi : i < rs.length) (hb : H b = some (.lst [.ref t])) (ht : H t = some (.tup [.int (i : Nat), .int (k : Nat)])) (q : ∀ H', Same H H' → Q (optN (dueZ rs i k)) H') : spDue K ([.ref a, .ref b] ++ []) H Q E := ⟨a, b, t, refs, rs, i, k, rfl, hS, hR, hm, hi, hb, ht, q⟩
def ixL : Option V → List V
  | none => []
  | some u => [u, .bl true]
def spIdxZ (K : PySem.W.Frag) : Sp := fun vs H Q _ => ∃ (v : V) (o : Option V), vs = [v] ∧ IdxO K H v o ∧ ∀ D H', H D = none → Same H H' → H' D = some (.lst (ixL o)) → Q (.ref D) H'
theorem use_idxZ {K : PySem.W.Frag} {v : V} {o : Option V} {H : Hp} {Q : VK} {E : XK} (h : IdxO K H v o) (q : ∀ D H', H D = none → Same H H' → H' D = some (.lst (ixL o)) → Q (.ref D) H') : spIdxZ K ([v] ++ []) H Q E := ⟨v, o, rfl, h, q⟩
theorem CkR.same {H H' : Hp} {v : V} {o : Option V} (s : Same H H') (h : CkR H v o) : CkR H' v o := by
  cases h with
  | flat h => exact .flat h
  | dct h => exact .dct (s _ _ h)
  | seq h hx => exact .seq (h.same s) (hx.imp fun _ _ z => z.same s)
theorem IdxO.same {K : PySem.W.Frag} {H H' : Hp} {v : V} {o : Option V} (s : Same H H') (h : IdxO K H v o) : IdxO K H' v o := by
  cases h with
  | pre h => exact .pre (h.same s)
  | bad h hl hc hR ht hV hT => exact .bad (s _ _ h) hl (hc.same s) (hR.lk (.of s)) (ht.same s) hV hT
  | hard h hl hc hR hV hw hf => exact .hard (s _ _ h) hl (hc.same s) (hR.lk (.of s)) hV hw hf
  | ok h hl hc hR hV => exact .ok (s _ _ h) hl (hc.same s) (hR.lk (.of s)) hV
theorem use_initI {K : PySem.W.Frag} {C CI x dx : Addr} {v : V} {o : Option V} {H : Hp} {Q : VK} {E : XK} (hx : H x = some (.ins C dx [])) (h : IdxO K H v o) (q : o = none → ∀ a refs rs T H', v = .ref a → H a = some (.lst refs) → RcsAt K H refs rs → Vd T0 0 rs T 0 → StmAt K C H' x refs rs → Kp x H H' → Q .non H') (e : ∀ u, o = some u → ErrP CI "index" u x H E) : spInitZ K C CI (.ref x :: ([v] ++ [])) H Q E := by
  cases h with
  | pre h => exact ⟨x, dx, v, _, rfl, hx, h, fun u hu => e u hu, fun z => (by cases z)⟩
  | bad h hl hc hR ht hV hT => exact ⟨x, dx, _, none, rfl, hx, hc, fun u z => (by cases z), fun _ => ⟨_, _, _, true, _, _, _, rfl, h, hl, hR, ht, hV, fun _ => hT, fun z => (by cases z), fun _ => e _ rfl, fun z => (by cases z)⟩⟩
  | hard h hl hc hR hV hw hf => exact ⟨x, dx, _, none, rfl, hx, hc, fun u z => (by cases z), fun _ => ⟨_, _, [], false, _, _, _, rfl, by rw [List.append_nil]; exact h, by rw [List.append_nil]; exact hl, hR, .nil, hV, fun z => (by cases z), fun _ z => absurd z hw, fun z => (by cases z), fun _ _ f hf2 => by
      rw [hf] at hf2
      cases hf2
      exact e _ rfl⟩⟩
  | ok h hl hc hR hV => exact ⟨x, dx, _, none, rfl, hx, hc, fun u z => (by cases z), fun _ => ⟨_, _, [], false, _, _, _, rfl, by rw [List.append_nil]; exact h, by rw [List.append_nil]; exact hl, hR, .nil, hV, fun z => (by cases z), fun _ _ H' hS k => q rfl _ _ _ _ _ rfl h hR hV hS k, fun z => (by cases z), fun _ z => absurd rfl z⟩⟩
end Z
namespace Z
open PySem PySem.Spec PyProof.Rows L2
open SX (S S_len S_cat S_inj)
theorem wst_ge {ns : List Int} {first : Nat} {T : Tb × Tb} : ∀ i, i ≤ ns.length → i ≤ (wst ns first T i).1.flatten.length
  | 0, _ => Nat.zero_le _
  | i + 1, hi => by
    have ih := wst_ge (ns := ns) (first := first) (T := T) i (by omega)
    by_cases c : i < first
    · rw [wst_lo c]
      dsimp only
      rw [List.flatten_append, List.length_append, List.flatten_cons, List.flatten_nil, List.append_nil]
      have := encB_pos (uOf (ns.getD i 0)) (par (wst ns first T i).2.1.1 (wst ns first T i).2.1.2)
      omega
    · rw [wst_hi c]
      dsimp only
      rw [List.flatten_append, List.length_append, List.flatten_cons, List.flatten_nil, List.append_nil]
      have := encB_pos (uOf (ns.getD i 0)) (par (wst ns first T i).2.2.1 (wst ns first T i).2.2.2)
      omega
theorem bits_ne {d : Hd} {ns : List Int} {T : Tb × Tb} (h : 1 ≤ ns.length) : bitsF d ns T ≠ [] := fun e => by
  have z := wst_ge (ns := ns) (first := cc d.1 d.2.2.2.1) (T := T) ns.length (Nat.le_refl _)
  unfold bitsF at e
  rw [e] at z
  exact absurd z (by show ¬ ns.length ≤ 0; omega)
theorem rd_slBut {l : List Nat} {H : Hp} {Q : VK} (hn : l ≠ []) (hl : l.length ≤ 16777216) (h : Q (.str (S (l.take (l.length - 1)))) H) : C8.rSlX (.str (S l)) none (some (-1)) H Q := ⟨S l, rfl, by rw [S_len]; exact hl, by rw [SX.slice_butlast hn]; exact h⟩
section
variable {d : Hd} {ns : List Int} {T : Tb × Tb}
theorem md_bits (hm : Md (.fr d ns T)) (ok : RcOk (.fr d ns T)) : (bitsF d ns T).length ≤ 6000 ∧ bitsF d ns T ≠ [] ∧ (∀ c ∈ bitsF d ns T, IsB c) ∧ ns.length = d.1 ∧ TbB 15000 T.1 ∧ TbB 15000 T.2 := by
  obtain ⟨_, _, _, ee, m1, m2, m3, m4, m5, m6⟩ := hm
  cases ee
  obtain ⟨o1, o2, o3, o4⟩ := ok
  have hb2 := wst_sml4 (first := cc d.1 d.2.2.2.1) m4 (m5.up (by decide)) (m6.up (by decide)) (by omega) ns.length (Nat.le_refl _)
  exact ⟨by unfold bitsF; omega, bits_ne (by omega), wst_bin _ _ _ _, o2, (tk_B o4).1, (tk_B o4).2⟩
/-- what becomes of the bits -/
def bitX (d : Hd) (ns : List Int) (T : Tb × Tb) : List V := [.str (S (bitsF d ns T ++ [48])), .str (S ((bitsF d ns T).take ((bitsF d ns T).length - 1))), .str (S []), .str (S (bitsF d ns T ++ bitsF d ns T))]
theorem bitX_at (hm : Md (.fr d ns T)) (ok : RcOk (.fr d ns T)) {r : Int} (h0 : 0 ≤ r) (h4 : r < 4) : ∃ l, atI (bitX d ns T) r = some (.str (S l)) ∧ (∀ c ∈ l, IsB c) ∧ l.length ≤ 15000 ∧ rdA l d.1 (cc d.1 d.2.2.2.1) T = none := by
  obtain ⟨b1, b2, b3, b4, b5, b6⟩ := md_bits hm ok
  have hc : r = 0 ∨ r = 1 ∨ r = 2 ∨ r = 3 := by omega
  rcases hc with rfl | rfl | rfl | rfl
  · refine ⟨_, rfl, fun c hc => ?_, by rw [List.length_append]; show _ + 1 ≤ _; omega, rdA_more b4 (by simp)⟩
    rcases List.mem_append.mp hc with hc | hc
    · exact b3 c hc
    · exact .inl (List.mem_singleton.mp hc)
  · exact ⟨_, rfl, fun c hc => b3 c (List.mem_of_mem_take hc), by rw [List.length_take]; omega, rdA_less (x := (bitsF d ns T).drop ((bitsF d ns T).length - 1)) b4 (fun z => by
      have z := congrArg List.length z
      rw [List.length_drop] at z
      have : (bitsF d ns T).length ≠ 0 := fun y => b2 (List.length_eq_zero_iff.mp y)
      simp at z
      omega) (List.take_append_drop _ _) (fun c hc => b3 c (List.mem_of_mem_take hc)) (by rw [List.length_take]; omega) b5 b6⟩
  · exact ⟨[], rfl, fun c hc => absurd hc List.not_mem_nil, Nat.zero_le _, rdA_less (x := bitsF d ns T) b4 b2 rfl (fun c hc => absurd hc List.not_mem_nil) (Nat.zero_le _) b5 b6⟩
  · refine ⟨_, rfl, fun c hc => ?_, by rw [List.length_append]; omega, rdA_more b4 b2⟩
    rcases List.mem_append.mp hc with hc | hc
    · exact b3 c hc
    · exact b3 c hc
theorem mark_other {m : Int} (h : 0 ≤ m ∧ m < 9973) {r : Int} (h0 : 0 ≤ r) (h9 : r < 9000) : (m + 1 + r) % 9973 ≠ m ∧ 0 ≤ (m + 1 + r) % 9973 ∧ (m + 1 + r) % 9973 < 9973 := by omega
end
end Z
namespace PySem.SeqAt
open AutoSeq1 (wpAny_loadPart')
open MeetsSeq
theorem dict_eq_declines_tupleZ (l b : Addr) (es : Array DictEntry) (items2 : Array Value) (n n2 : Nat) (dd dd2 : Option Addr) (sl sl2 : Array (Option Value)) :
    Meets (Builtin.«dict.__eq__» ⟨[.ref l, .ref b], []⟩) (fun _ R s => s.heap.get? l = some { cls := .type "dict", dict := dd, data := .dict es n, slots := sl } ∧ s.heap.get? b = some { cls := .type "tuple", dict := dd2, data := .seq items2 n2, slots := sl2 } ∧ R (.ok (.ret .notImplemented)) s) :=
  .of_wp fun prog w A R s h => by obtain ⟨hp, g, d, tk, os⟩ := s; obtain ⟨hl, hb, h⟩ := h; have f1 := F.sub_tuple_dict; wp_walk using wpAny_loadPart' hl, wpAny_loadPart' hb; exact ⟨_, rfl, h⟩
theorem tuple_eq_declines_dictZ (l b : Addr) (items : Array Value) (es : Array DictEntry) (n n2 : Nat) (dd dd2 : Option Addr) (sl sl2 : Array (Option Value)) :
    Meets (Builtin.«tuple.__eq__» ⟨[.ref l, .ref b], []⟩) (fun _ R s => s.heap.get? l = some { cls := .type "tuple", dict := dd, data := .seq items n, slots := sl } ∧ s.heap.get? b = some { cls := .type "dict", dict := dd2, data := .dict es n2, slots := sl2 } ∧ R (.ok (.ret .notImplemented)) s) :=
  .of_wp fun prog w A R s h => by obtain ⟨hp, g, d, tk, os⟩ := s; obtain ⟨hl, hb, h⟩ := h; have f1 := F.sub_dict_tuple; wp_walk using wpAny_loadPart' hl, wpAny_loadPart' hb; exact ⟨_, rfl, h⟩
theorem RcAt.dict_tupleZ {A : Around} {s : Shared} {l b : Addr} {o : Obj} {es : Array DictEntry} {n : Nat} {items2 : Array Value} (hl : s.heap.get? l = some o) (hc : o.cls = .type "dict") (hd : o.data = .dict es n) (hb : s.heap.IsTuple b items2) (hu : A.units < cLine) : RcAt A s (.ref l) (.ref b) false := fun prog w E Q h => by
  obtain ⟨⟨cls2, dd2, data2, sl2⟩, ho2, hc2, n2, hd2⟩ := id hb
  obtain ⟨cls, dd, data, sl⟩ := o
  simp only at hc hd hc2 hd2
  subst hc hd hc2 hd2
  have hne : l ≠ b := fun e => by
    subst e
    rw [hl] at ho2
    exact absurd ho2 (by simp)
  exact (rc_eq_decline_or (k := false) ⟨_, hl, rfl⟩ ⟨_, ho2, rfl⟩ (by decide) F.sub_tuple_dict F.slot_dict_eq F.slot_tuple_eq_refl
    (fun _ hq => call_meets F.slot_dict_eq ⟨_, hl, rfl⟩ F.entry_dict_eq (F.args_dict_eq_2 _ _) (dict_eq_declines_tupleZ l b es items2 n n2 dd dd2 sl sl2) ⟨hl, ho2, hq⟩)
    (fun _ hq => call_meets F.slot_tuple_eq_refl ⟨_, ho2, rfl⟩ F.entry_tuple_eq (F.args_tuple_eq_2 _ _) (tuple_eq_declines_dictZ b l items2 es n2 n dd2 dd sl2 sl) ⟨ho2, hl, hq⟩)
    (fun _ hq => wpAny_isSame_ref_other hne hl ho2 (by simp) hq) (.inr hu) h)
end PySem.SeqAt
namespace Z
open PySem PySem.Spec PyProof.Rows L2
/-- == of any data, or of an empty dict and a tuple -/
def rEqZ (K : PySem.W.Frag) : R2 := fun x y H Q => rEqD K x y H Q ∨ ∃ a b xs, x = .ref a ∧ y = .ref b ∧ H a = some (.dK []) ∧ SqT K H b xs ∧ Q (.bl false) H
theorem op_eqZ {X : Cx} (hu : X.A.units + 64 < cLine) : OpR X (compareOp .Eq) (rEqZ X.K) := by
  intro pins s σ H x y v u Q I rx ry h
  rcases h with h | ⟨a, b, xs, rfl, rfl, ha, hb, q⟩
  · exact op_eqD hu pins s σ H x y v u Q I rx ry h
  · obtain rfl : v = Value.ref a := rx
    obtain rfl : u = Value.ref b := ry
    obtain ⟨_, ya, va, ra, o, es, ep, ho, ⟨hc, _, _⟩, hd, _⟩ := (show ObjOk X.prog X.w H s.heap a (.dK []) from I.hok a _ ha)
    obtain ⟨its, rv, hb', _⟩ := I.tuple hb
    exact PySem.SeqAt.RcAt.dict_tupleZ ho hc hd hb' (by omega) X.prog X.w _ _ ⟨.bl false, H, I, rfl, q⟩
end Z
namespace Z
open PySem PySem.Spec PyProof.Rows L2
theorem odd_case {K : PySem.W.Frag} {H : Hp} {e0 e1 : Addr} (f0 : H e0 = some (.dK [])) (f1 : H e1 = some (.tup [.str (Str.ofString "frame")])) {j : Nat} {v : V} (hv : ([.non, .int 5, .str (Str.ofString "frame"), .ref e0, .ref e1] : List V)[j]? = some v) : ∃ b : Bool, IdxO K H v (some (if b = true then .int 0 else .non)) ∧ ∀ (e2 : Addr) (H7 : Hp) (Q : VK), Same H H7 → H7 e2 = some (.tup [.str (Str.ofString "frame")]) → Q (.bl b) H7 → rEqZ K v (.ref e2) H7 Q := by
  have dt : ∀ (H7 : Hp) (e2 : Addr), H7 e2 = some (.tup [.str (Str.ofString "frame")]) → Dp K H7 (.ref e2) (.tuple [.str (Str.ofString "frame")]) := fun H7 e2 h => .tup (SqT.of h) (.cons (.str _) .nil)
  have st : PySem.SeqAt.shaped (.tuple [.str (Str.ofString "frame")]) = true := by decide +kernel
  rcases j with _ | _ | _ | _ | _ | j
  · cases hv
    exact ⟨false, .pre (.flat rfl), fun e2 H7 Q s h q => .inl ⟨_, _, .non, dt _ _ h, by decide +kernel, st, q⟩⟩
  · cases hv
    exact ⟨false, .pre (.flat rfl), fun e2 H7 Q s h q => .inl ⟨_, _, .int _, dt _ _ h, by decide +kernel, st, q⟩⟩
  · cases hv
    exact ⟨false, .pre (.flat rfl), fun e2 H7 Q s h q => .inl ⟨_, _, .str _, dt _ _ h, by decide +kernel, st, q⟩⟩
  · cases hv
    exact ⟨false, .pre (.dct f0), fun e2 H7 Q s h q => .inr ⟨_, _, _, rfl, rfl, s _ _ f0, SqT.of h, q⟩⟩
  · cases hv
    refine ⟨true, .pre ?_, fun e2 H7 Q s h q => .inl ⟨_, _, dt _ _ (s _ _ f1), dt _ _ h, st, st, ?_⟩⟩
    · exact CkR.seq (bs := [false]) (.inr f1) (.cons (.flat rfl) .nil)
    · have e : PyData.eqv (.tuple [.str (Str.ofString "frame")]) (.tuple [.str (Str.ofString "frame")]) = true := PySem.SeqAt.eqv_refl _ (PySem.SeqAt.canLay_of_shaped st)
      rw [e]
      exact q
  · simp at hv
end Z
namespace Z
open PySem PySem.Spec PyProof.Rows L2
theorem SpV.same {K : PySem.W.Frag} {H H' : Hp} {d : Hd} {ns : List Int} {T : Tb × Tb} {k : Nat} {v : V} (s : Same H H') (h : SpV K H d ns T k v) : SpV K H' d ns T k v := by
  cases h with
  | none h => exact .none (h.same s)
  | wide h => exact .wide (h.lk (.of s))
  | bad hk h hj m0 m1 hb hl hx => exact .bad hk (s _ _ h) (s _ _ hj) m0 m1 hb hl hx
end Z
namespace Z
open PySem PySem.Spec PyProof.Rows L2
/-- the last joint is another one: the stream ends there -/
theorem late_idx {K : PySem.W.Frag} {H : Hp} {a : Addr} {refs : List V} {rs : List Rc} {Te : Tb × Tb} {d : Hd} {ns : List Int} {T : Tb × Tb} {v : V} (hS : H a = some (.lst (refs.dropLast ++ [v]))) (hR : RcsAt K H refs rs) (hV : Vd T0 0 rs Te 0) (hm : ∀ r ∈ rs, Md r) (hlen : rs.length ≤ 9) (h0 : 0 < rs.length) (e : rs[rs.length - 1]? = some (.fr d ns T)) (hv : RcAt K H v (.fr (d.1, 1, 1, d.2.2.2.1, d.2.2.2.2) ns T)) :
    IdxO K H (.ref a) (some (.int ((rs.length : Nat) - 1))) := by
  have hrl := hR.len
  have e1 : setR refs (rs.length - 1) v = refs.dropLast ++ [v] := by
    unfold setR
    rw [List.drop_eq_nil_of_le (by omega), List.dropLast_eq_take, hrl]
  have z := wide_idx (w := 1) (sh := 1) (i := rs.length - 1) (by rw [e1]; exact hS) hR hV hm hlen e (by decide) (by decide) (by decide) hv
  have e2 : (if lnI rs (rs.length - 1) < ltI rs (rs.length - 1) + 1 then some (rs.length - 1) else if rs.length - 1 + 1 < rs.length ∧ lnI rs (rs.length - 1 + 1) < 1 + wdI rs (rs.length - 1 + 1) then some (rs.length - 1 + 1) else if rs.length - 1 + 1 = rs.length then some (rs.length - 1) else none) = some (rs.length - 1) := by
    split
    · rfl
    · rw [if_neg (by omega), if_pos (by omega)]
  rw [e2] at z
  rw [show ((rs.length : Nat) : Int) - 1 = ((rs.length - 1 : Nat) : Int) by omega]
  exact z
end Z
namespace Z
theorem okR_nat {n : Nat} (h : n < 1000) : okR (.int (n : Nat)) := by
  show ((n : Nat) : Int).natAbs.log2 < 1920
  rw [Int.natAbs_natCast]
  exact Nat.lt_of_le_of_lt (Nat.log2_le_self n) (by omega)
theorem okR_m1 : okR (.int (-1)) := by
  show (1 : Nat).log2 < 1920
  decide +kernel
theorem okR_0 : okR (.str (PySem.Str.ofString "0")) := by
  show (PySem.reprText (PySem.Str.ofString "0")).length ≤ _
  decide +kernel
end Z
namespace Z
open PySem PySem.Spec PyProof.Rows L2
def topS (i : Nat) : Stmt := PySem.Challenge.pw_framejoins_k22_streams_refused.main.body.getD i (.Pass ⟨0, 0, 0, 0⟩)
local macro_rules | `(tactic| walk_at "hg") => `(tactic| first
  | assumption
  | (with_reducible exact upd_same)
  | ((with_reducible refine' look_new ?k1 ?k2); (case k1 => assumption); (case k2 => walk_at "hg"))
  | ((with_reducible refine' look_same ?k1 ?k2); (case k1 => assumption); (case k2 => walk_at "hg"))
  | ((with_reducible refine' look_kp ?k1 ?k2 ?k3); (case k1 => assumption); (case k2 => walk_at "ne"); (case k3 => walk_at "hg"))
  | ((with_reducible refine' look_upd ?k1 ?k2); (case k1 => assumption); (case k2 => walk_at "hg"))
  | fail)
local macro_rules | `(tactic| walk_at "ne") => `(tactic| first
  | assumption
  | ((with_reducible refine' Pool.ne' ?k1 ?k2); (case k1 => assumption); (case k2 => walk_at "pl"))
  | fail)
local macro_rules | `(tactic| walk_at "r1") => `(tactic| first
  | (with_reducible refine rd_seq ?_) | (with_reducible refine rd_asg ?_) | (with_reducible refine rd_gname ?_) | (with_reducible refine rd_ret ?_) | (with_reducible refine rd_ifs ?_)
  | ((with_reducible refine' rd_var ?k1 ?_); (case k1 => exact rfl))
  | ((with_reducible refine' rd_ixL ?k1 ?k2 ?_); (case k1 => walk_at "sq"); (case k2 => walk_at "at"))
  | ((with_reducible refine' rd_ixT ?k1 ?k2 ?_); (case k1 => walk_at "sqt"); (case k2 => walk_at "at"))
  | ((with_reducible refine' rd_setL ?k1 ?k2 ?_); (case k1 => walk_at "hg"); (case k2 => walk_at "ixn"))
  | ((with_reducible refine' rd_lenL ?k1 ?_); (case k1 => walk_at "sq"))
  | ((with_reducible refine' rd_listL ?k1 fun _ _ => ?_); (case k1 => walk_at "sq"))
  | ((with_reducible refine' rd_lenT ?k1 ?_); (case k1 => walk_at "sqt"))
  | ((with_reducible refine' rd_gtup ?k1 ?k2 ?_); (case k1 => walk_at "sqt"); (case k2 => exact rfl))
  | (with_reducible refine rd_gcons ?_) | (with_reducible refine rd_gnil ?_) | (with_reducible refine rd_forT ?_) | (with_reducible refine rd_forL ?_) | (with_reducible refine rd_for2 ?_)
  | ((with_reducible refine' rd_neT2 ?k1 ?k2 ?k3 ?k4 ?_); (case k1 => walk_at "sqt"); (case k2 => walk_at "sqt"); (case k3 => walk_at "f1"); (case k4 => walk_at "f2"))
  | ((with_reducible refine rd_n1 ?k1 ?k2 ?_); (case k1 => omega); (case k2 => omega))
  | ((with_reducible refine rd_n2 ?k1 ?_); (case k1 => exact ⟨by omega, by omega, by omega, by omega⟩))
  | (with_reducible refine rd_lcD fun _ _ => ?_)
  | ((with_reducible refine' lc_numbers ?k1 ?k2 ?k3 ?k4 ?k5 fun _ _ _ _ _ _ _ => ?_); (case k1 => exact fun _ => rfl); (case k2 => exact fun _ => rfl); (case k3 => walk_at "pl"); (case k4 => assumption); (case k5 => walk_at "sd"))
  | (with_reducible refine rd_for3 ?_) | (with_reducible refine rd_bm ?_)
  | ((with_reducible refine rd_n3 ?k1 ?_); (case k1 => walk_at "sd"))
  | ((with_reducible refine' rd_tyL ?k1 ?_); (case k1 => walk_at "hg"))
  | ((with_reducible refine' rd_catL ?k1 ?k2 ?k3 fun _ _ => ?_); (case k1 => walk_at "hg"); (case k2 => walk_at "hg"); (case k3 => walk_at "sd"))
  | ((with_reducible refine' rd_appI ?k1 ?k2 ?_); (case k1 => walk_at "hg"); (case k2 => walk_at "sd"))
  | ((with_reducible refine' use_once ?k1 ?k2 fun _ _ _ _ _ _ _ _ _ => ?_); (case k1 => walk_at "sq"); (case k2 => walk_at "sd"))
  | ((with_reducible refine' use_split ?k1 ?k2 ?k3 ?k4 ?k5 fun _ _ _ _ _ => ?_); (case k1 => walk_at "hg"); (case k2 => walk_at "sd"); (case k3 => walk_at "sd"); (case k4 => walk_at "sd"); (case k5 => walk_at "sd"))
  | ((with_reducible refine' use_splitK ?k1 ?k2 ?k3 ?k4 ?k5 fun _ _ _ _ _ => ?_); (case k1 => walk_at "hg"); (case k2 => walk_at "sd"); (case k3 => walk_at "sd"); (case k4 => walk_at "sd"); (case k5 => walk_at "sd"))
  | (with_reducible refine rd_sl ?_) | (with_reducible refine rd_part ?_) | (with_reducible refine rd_nopart ?_) | (with_reducible refine rd_oneI ?_)
  | (with_reducible refine rd_lcL ?_)
  | (with_reducible refine rd_forV ?_)
  | ((with_reducible refine rd_nV ?k1 ?k2 ?_); (case k1 => omega); (case k2 => omega))
  | ((with_reducible refine' use_join1 ?k1 ?k2 ?k3 ?k4 fun _ _ _ _ _ => ?_); (case k1 => walk_at "hg"); (case k2 => walk_at "hg"); (case k3 => walk_at "sd"); (case k4 => walk_at "sd"))
  | ((with_reducible refine' use_join ?k1 ?k2 ?k3 ?k4 ?k5 fun _ _ _ _ _ => ?_); (case k1 => walk_at "hg"); (case k2 => walk_at "sd"); (case k3 => walk_at "sd"); (case k4 => walk_at "sd"); (case k5 => walk_at "sd"))
  | ((with_reducible refine' use_joinK ?k1 ?k2 ?k3 ?k4 ?k5 fun _ _ _ _ _ => ?_); (case k1 => walk_at "hg"); (case k2 => walk_at "sd"); (case k3 => walk_at "sd"); (case k4 => walk_at "sd"); (case k5 => walk_at "sd"))
  | ((with_reducible refine' use_ints ?k1 ?k2 ?_); (case k1 => walk_at "hg"); (case k2 => walk_at "sd"))
  | (with_reducible refine rd_isN ?_) | (with_reducible refine rd_lc1 ?_) | (with_reducible refine rd_forE ?_) | (with_reducible refine rd_forZ ?_)
  | ((with_reducible refine' rd_neL ?k1 ?k2 ?_); (case k1 => walk_at "sq"); (case k2 => walk_at "sq"))
  | ((with_reducible refine' rd_eqL ?k1 ?k2 ?_); (case k1 => walk_at "sq"); (case k2 => walk_at "sq"))
  | ((with_reducible refine' rd_neN ?k1 ?k2 ?_); (case k1 => walk_at "sq"); (case k2 => walk_at "sq"))
  | (with_reducible refine rd_c ?_) | (with_reducible refine rd_op ?_) | (with_reducible refine rd_un ?_) | (with_reducible refine rd_i0 ?_)
  | ((with_reducible refine rd_i ?k1 ?_); (case k1 => walk_at "side"))
  | (with_reducible refine rd_u ?_)
  | (with_reducible refine rd_eq rfl ?_) | (with_reducible refine rd_ne rfl ?_) | (with_reducible refine rd_test ?_) | (with_reducible refine rd_b ?_) | (with_reducible refine rd_bl ?_)
  | (with_reducible refine rd_not ?_) | (with_reducible refine rd_and ?_) | (with_reducible refine rd_or ?_) | (with_reducible refine rd_andV ?_) | (with_reducible refine rd_orV ?_) | (with_reducible refine rd_notV ?_)
  | (with_reducible refine rd_if ?_) | (with_reducible refine rd_chain ?_) | (with_reducible refine rd_call ?_) | (with_reducible refine rd_callK ?_) | (with_reducible refine rd_cb ?_)
  | (with_reducible refine rd_cons ?_) | (with_reducible refine rd_nil ?_) | (with_reducible refine rd_next ?_) | (with_reducible refine rd_drop ?_) | (with_reducible refine rd_gsub ?_)
  | (with_reducible refine rd_int ?_) | (with_reducible refine rd_intb ?_) | (with_reducible refine rd_abs ?_) | (with_reducible refine rd_max ?_) | (with_reducible refine rd_min ?_)
  | (with_reducible refine rd_par ?_) | (with_reducible refine rd_par3 ?_) | (with_reducible refine rd_two ?_) | (with_reducible refine rd_three ?_)
  | (with_reducible refine rd_retn ?_) | (with_reducible refine rd_tup ?_) | (with_reducible refine rd_lst ?_) | (with_reducible refine rd_for1 ?_) | (with_reducible refine rd_one ?_)
  | ((with_reducible refine rd_all ?k1 fun _ _ => ?_); (case k1 => exact Nat.le_of_ble_eq_true rfl))
  | ((with_reducible refine use_take ?k1 ?k2 ?k3 fun _ _ _ _ _ _ => ?_); (case k1 => walk_at "pl"); (case k2 => walk_at "sd"); (case k3 => walk_at "sd"))
  | ((with_reducible refine use_number ?k1 fun _ _ _ _ _ => ?_); (case k1 => walk_at "pl"))
  | ((with_reducible refine' use_pool ?k1 ?k2 ?k3 ?k4 fun _ _ _ _ _ => ?_); (case k1 => walk_at "sq"); (case k2 => assumption); (case k3 => walk_at "sd"); (case k4 => walk_at "sd"))
  | ((with_reducible refine use_ckp ?k1 ?k2 ?_); (case k1 => walk_at "sd"); (case k2 => walk_at "sd"))
  | ((with_reducible refine use_pair ?k1 ?k2 fun _ _ => ?_); (case k1 => walk_at "sd"); (case k2 => walk_at "sd"))
  | ((with_reducible refine use_lfold ?k1 ?k2 fun _ _ _ _ => ?_); (case k1 => walk_at "sd"); (case k2 => walk_at "sd"))
  | ((with_reducible refine' use_ispair ?k1 ?_); (case k1 => walk_at "hg"))
  | ((with_reducible refine' use_items ?k1 fun _ _ => ?_); (case k1 => walk_at "sq"))
  | ((with_reducible refine' use_block ?k1 ?k2 ?k3 fun _ _ => ?_); (case k1 => walk_at "hg"); (case k2 => walk_at "sd"); (case k3 => walk_at "sd"))
  | ((with_reducible refine' use_mark ?k1 ?k2 fun _ _ => ?_); (case k1 => walk_at "hg"); (case k2 => walk_at "sd"))
  | (with_reducible refine use_code ?_)
  | ((with_reducible refine' use_same ?k1 fun _ _ => ?_); (case k1 => walk_at "smv"))
  | ((with_reducible refine use_quant ?k1 ?k2 ?_); (case k1 => walk_at "sd"); (case k2 => walk_at "sd"))
  | ((with_reducible refine use_quantK ?k1 ?k2 ?_); (case k1 => walk_at "sd"); (case k2 => walk_at "sd"))
  | (with_reducible refine use_isi_int ?_) | (with_reducible refine use_within_int ?_) | (with_reducible refine use_cki ?_)
  | ((with_reducible refine use_ckw ?k1 ?k2 ?_); (case k1 => walk_at "sd"); (case k2 => walk_at "sd"))
  | (with_reducible refine iteT ?_) | (with_reducible refine iteF ?_)
  | (with_reducible refine iteNT ?_) | (with_reducible refine iteNF ?_)
  | (walk_at "isi")
  | fail)
local macro_rules | `(tactic| walk_at "isi") => `(tactic| first
  | (with_reducible refine isi_int_int ?_)
  | (with_reducible refine isi_int_bool ?_)
  | (with_reducible refine isi_int_str ?_)
  | (with_reducible refine isi_int_list ?_)
  | (with_reducible refine isi_int_tuple ?_)
  | (with_reducible refine isi_bl_int ?_)
  | (with_reducible refine isi_bl_bool ?_)
  | (with_reducible refine isi_bl_str ?_)
  | (with_reducible refine isi_bl_list ?_)
  | (with_reducible refine isi_bl_tuple ?_)
  | (with_reducible refine isi_non_int ?_)
  | (with_reducible refine isi_non_bool ?_)
  | (with_reducible refine isi_non_str ?_)
  | (with_reducible refine isi_non_list ?_)
  | (with_reducible refine isi_non_tuple ?_)
  | (with_reducible refine isi_str_int ?_)
  | (with_reducible refine isi_str_bool ?_)
  | (with_reducible refine isi_str_str ?_)
  | (with_reducible refine isi_str_list ?_)
  | (with_reducible refine isi_str_tuple ?_)
  | ((with_reducible refine' isi_lst_int ?k1 ?_); (case k1 => walk_at "hg"))
  | ((with_reducible refine' isi_lst_bool ?k1 ?_); (case k1 => walk_at "hg"))
  | ((with_reducible refine' isi_lst_str ?k1 ?_); (case k1 => walk_at "hg"))
  | ((with_reducible refine' isi_lst_list ?k1 ?_); (case k1 => walk_at "hg"))
  | ((with_reducible refine' isi_lst_tuple ?k1 ?_); (case k1 => walk_at "hg"))
  | ((with_reducible refine' isi_tup_int ?k1 ?_); (case k1 => walk_at "hg"))
  | ((with_reducible refine' isi_tup_bool ?k1 ?_); (case k1 => walk_at "hg"))
  | ((with_reducible refine' isi_tup_str ?k1 ?_); (case k1 => walk_at "hg"))
  | ((with_reducible refine' isi_tup_list ?k1 ?_); (case k1 => walk_at "hg"))
  | ((with_reducible refine' isi_tup_tuple ?k1 ?_); (case k1 => walk_at "hg"))
  | fail)
local macro_rules | `(tactic| walk_at "side") => `(tactic| first
  | (show (0 : Int) < _; omega)
  | exact ⟨by omega, by omega⟩
  | exact .inl ⟨by omega, by omega⟩
  | exact .inr ⟨by omega, by omega⟩
  | exact .inr ⟨by decide, by decide⟩
  | exact ⟨by decide, by decide, by decide⟩
  | decide
  | fail)
local macro_rules | `(tactic| walk_at "rd") => `(tactic| (repeat walk_at "r1"))
local macro_rules | `(tactic| walk_at "sq") => `(tactic| first
  | assumption
  | ((with_reducible refine' SqL.of ?k1); (case k1 => walk_at "hg"))
  | ((with_reducible refine' sqL_new ?k1 ?k2); (case k1 => assumption); (case k2 => walk_at "sq"))
  | ((with_reducible refine' sqL_same ?k1 ?k2); (case k1 => assumption); (case k2 => walk_at "sq"))
  | fail)
local macro_rules | `(tactic| walk_at "sqt") => `(tactic| first
  | assumption
  | exact by_all (by assumption)
  | ((with_reducible refine' SqT.of ?k1); (case k1 => walk_at "hg"))
  | fail)
local macro_rules | `(tactic| walk_at "at") => `(tactic| first | assumption | exact atI_nat (j := 0) rfl | exact atI_nat (j := 1) rfl | exact atI_nat (j := 2) rfl | exact atI_nat (j := 3) rfl | fail)
local macro_rules | `(tactic| walk_at "ixn") => `(tactic| first | assumption | rfl | fail)
local macro_rules | `(tactic| walk_at "sd") => `(tactic| first | omega | decide +kernel | fail)
local macro_rules | `(tactic| walk_at "pl") => `(tactic| first
  | assumption
  | ((with_reducible refine' Pool.new' ?k1 ?k2); (case k1 => assumption); (case k2 => walk_at "pl"))
  | ((with_reducible refine' Pool.same' ?k1 ?k2); (case k1 => assumption); (case k2 => walk_at "pl"))
  | fail)
local macro_rules | `(tactic| walk_at "allm") => `(tactic| ((repeat (refine List.forall_mem_cons.mpr ⟨⟨_, rfl, by first | decide | omega, by first | decide | omega⟩, ?_⟩)); exact List.forall_mem_nil _))
local macro_rules | `(tactic| walk_at "kp") => `(tactic| first
  | assumption
  | exact Kp.refl
  | ((with_reducible refine' Kp.trans ?k1 (Kp.new ?k2)); (case k2 => assumption); walk_at "kp")
  | (refine' Kp.trans ?k1 ?k2; (case k2 => assumption); walk_at "kp")
  | (refine' Kp.trans ?k1 (Kp.of ?k2); (case k2 => assumption); walk_at "kp")
  | ((with_reducible refine' Kp.trans ?k1 Kp.at); walk_at "kp")
  | fail)
local macro_rules | `(tactic| walk_at "ct") => `(tactic| (refine' close_turn ?k1 ?k2 ?k3 ?k4; (case k1 => assumption); (case k2 => assumption); (case k3 => assumption); (case k4 => walk_at "kp")))
local macro_rules | `(tactic| walk_at "sm") => `(tactic| first
  | (with_reducible assumption)
  | (with_reducible exact Same.refl _)
  | ((with_reducible refine' Same.trans ?k1 (same_new ?k2)); (case k2 => assumption); walk_at "sm")
  | ((with_reducible refine' Same.trans ?k1 ?k2); (case k2 => (with_reducible assumption)); walk_at "sm")
  | fail)
local macro_rules | `(tactic| walk_at "f1") => `(tactic| first | rfl | exact congrArg Prod.fst (fold_unfold _ _ _) | exact congrArg Prod.fst (unfold_fold _ _ _) | fail)
local macro_rules | `(tactic| walk_at "f2") => `(tactic| first | rfl | exact congrArg Prod.snd (fold_unfold _ _ _) | exact congrArg Prod.snd (unfold_fold _ _ _) | fail)
local macro_rules | `(tactic| walk_at "smv") => `(tactic| first
  | (with_reducible assumption)
  | ((with_reducible refine sm_sc ?k1); (case k1 => exact rfl))
  | ((with_reducible refine' sm_ints ?k1 ?k2); (case k1 => walk_at "hg"); (case k2 => walk_at "hg"))
  | fail)
local macro_rules | `(tactic| walk_at "kp2") => `(tactic| first
  | exact Kp2.refl
  | exact Kp2.at
  | ((with_reducible refine' Kp2.trans ?k1 Kp2.at); walk_at "kp2")
  | ((with_reducible refine' Kp2.trans ?k1 (Kp2.new ?k2)); (case k2 => assumption); walk_at "kp2")
  | (refine' Kp2.trans ?k1 (Kp2.ofK ?k2); (case k2 => assumption); walk_at "kp2")
  | (refine' Kp2.trans ?k1 (Kp2.ofS ?k2); (case k2 => assumption); walk_at "kp2")
  | fail)
local macro_rules | `(tactic| walk_at "ty") => `(tactic| first
  | exact True.intro
  | ((refine' Or.inl ⟨_, ?k1⟩); (case k1 => walk_at "hg"))
  | ((refine' Or.inr ⟨_, ?k1⟩); (case k1 => walk_at "hg"))
  | fail)
local macro_rules | `(tactic| walk_at "jr") => `(tactic| first
  | exact ⟨_, JR.flat rfl⟩
  | ((refine' ⟨_, JR.tup2 ?k1 ?k2 ?k3⟩); (case k1 => walk_at "hg"); (case k2 => walk_at "ty"); (case k3 => walk_at "ty"))
  | ((refine' ⟨_, JR.tupn ?k1 ?k2⟩); (case k1 => walk_at "hg"); (case k2 => simp))
  | ((refine' ⟨_, JR.lst ?k1⟩); (case k1 => walk_at "hg"))
  | fail)
local macro_rules | `(tactic| walk_at "jr1") => `(tactic| ((refine' List.forall_mem_cons.mpr ⟨?k1, ?_⟩); (case k1 => walk_at "jr")))
local macro_rules | `(tactic| walk_at "alljr") => `(tactic| ((repeat walk_at "jr1"); exact List.forall_mem_nil _))
local macro_rules | `(tactic| walk_at "r1") => `(tactic| first
  | ((with_reducible refine' rd_raiseV ?k1 ?_); (case k1 => exact rfl))
  | (with_reducible refine rd_raiseC ?_)
  | ((with_reducible refine' rd_lam ?k1 fun _ _ _ => ?_); (case k1 => walk_at "tb"))
  | (with_reducible refine rd_told ?_)
  | (with_reducible refine rd_xf ?_)
  | fail)
local macro_rules | `(tactic| walk_at "tb") => `(tactic| first
  | assumption
  | ((with_reducible refine' Tabs.new ?k1 ?k2); (case k1 => assumption); (case k2 => walk_at "tb"))
  | ((with_reducible refine' Tabs.same ?k1 ?k2); (case k1 => assumption); (case k2 => walk_at "tb"))
  | ((with_reducible refine' Tabs.kp ?k0 ?k1 ?k2); (case k1 => assumption); (case k0 => walk_at "pl"); (case k2 => walk_at "tb"))
  | fail)
local macro_rules | `(tactic| walk_at "kpn") => `(tactic| first
  | assumption
  | exact KpN.refl
  | ((with_reducible refine' KpN.trans ?k1 (KpN.new ?k2)); (case k2 => assumption); walk_at "kpn")
  | ((with_reducible refine' KpN.trans ?k1 ?k2); (case k2 => assumption); walk_at "kpn")
  | ((with_reducible refine' KpN.trans ?k1 (KpN.ofK ?k2)); (case k2 => assumption); walk_at "kpn")
  | ((with_reducible refine' KpN.trans ?k1 (KpN.of ?k2)); (case k2 => assumption); walk_at "kpn")
  | ((with_reducible refine' KpN.trans ?k1 (KpN.ofN ?k2)); (case k2 => assumption); walk_at "kpn")
  | ((with_reducible refine' KpN.trans ?k1 KpN.at); walk_at "kpn")
  | fail)
local macro_rules | `(tactic| walk_at "hg") => `(tactic| first
  | ((with_reducible refine' look_extL ?k1 ?k2); (case k1 => assumption); (case k2 => walk_at "hg"))
  | ((with_reducible refine' look_extT ?k1 ?k2); (case k1 => assumption); (case k2 => walk_at "hg"))
  | fail)
local macro_rules | `(tactic| walk_at "als") => `(tactic| ((repeat (refine List.forall_mem_cons.mpr ⟨rfl, ?_⟩)); exact List.forall_mem_nil _))
local macro_rules | `(tactic| walk_at "dv1") => `(tactic| first
  | exact DV.sc rfl
  | ((refine' DV.lst ?n ?e ?s); (case n => walk_at "ne"); (case e => walk_at "hg"); (case s => walk_at "als"))
  | ((refine' DV.tup ?n ?e ?s); (case n => walk_at "ne"); (case e => walk_at "hg"); (case s => walk_at "als"))
  | fail)
local macro_rules | `(tactic| walk_at "dvm1") => `(tactic| ((refine' List.forall_mem_cons.mpr ⟨⟨?d, ?i⟩, ?_⟩); (case d => walk_at "dv1"); (case i => first | rfl | decide)))
local macro_rules | `(tactic| walk_at "dvm") => `(tactic| ((repeat walk_at "dvm1"); exact List.forall_mem_nil _))
local macro_rules | `(tactic| walk_at "r1") => `(tactic| first
  | ((with_reducible refine' rd_callL ?k1 ?_); (case k1 => exact rfl))
  | ((with_reducible refine' use_sound ?k1 fun _ _ => ?_); (case k1 => walk_at "hg"))
  | fail)
local macro_rules | `(tactic| walk_at "r1") => `(tactic| first
  | ((with_reducible refine' use_ljoints ?k1 ?k2 fun _ _ _ _ _ _ _ _ _ _ => ?_); (case k1 => walk_at "pl"); (case k2 => walk_at "sd"))
  | fail)
local macro_rules | `(tactic| walk_at "r1") => `(tactic| first
  | ((with_reducible refine' use_folds ?k1 ?k2 ?k3 ?k4 ?k5 fun _ _ _ _ _ => ?_); (case k1 => walk_at "hg"); (case k2 => walk_at "hg"); (case k3 => walk_at "js"); (case k4 => assumption); (case k5 => walk_at "sd"))
  | ((with_reducible refine' use_partner ?k1 ?k2 ?k3 ?_); (case k1 => walk_at "hg"); (case k2 => walk_at "js"); (case k3 => assumption))
  | fail)
local macro_rules | `(tactic| walk_at "js") => `(tactic| first
  | assumption
  | ((with_reducible refine' JsAt.new' ?k1 ?k2); (case k1 => assumption); (case k2 => walk_at "js"))
  | ((with_reducible refine' JsAt.same' ?k1 ?k2); (case k1 => assumption); (case k2 => walk_at "js"))
  | ((with_reducible refine' JsAt.at' ?k1 ?k2); (case k1 => walk_at "hg"); (case k2 => walk_at "js"))
  | fail)
local macro_rules | `(tactic| walk_at "kpl") => `(tactic| first
  | assumption
  | exact KpL.refl
  | ((with_reducible refine' KpL.trans ?k1 (KpL.new ?k2)); (case k2 => assumption); walk_at "kpl")
  | ((with_reducible refine' KpL.trans ?k1 ?k2); (case k2 => assumption); walk_at "kpl")
  | ((with_reducible refine' KpL.trans ?k1 (KpL.ofK ?k3 ?k2)); (case k2 => assumption); (case k3 => simp); walk_at "kpl")
  | ((with_reducible refine' KpL.trans ?k1 (KpL.ofS ?k2)); (case k2 => assumption); walk_at "kpl")
  | ((with_reducible refine' KpL.trans ?k1 (KpL.at ?k3)); (case k3 => simp); walk_at "kpl")
  | fail)
local macro_rules | `(tactic| walk_at "lt") => `(tactic| first
  | assumption
  | ((with_reducible refine' LT.new' ?k1 ?k2); (case k1 => assumption); (case k2 => walk_at "lt"))
  | ((with_reducible refine' LT.same' ?k1 ?k2); (case k1 => assumption); (case k2 => walk_at "lt"))
  | ((with_reducible refine' LT.l ?k1); (case k1 => walk_at "hg"))
  | ((with_reducible refine' LT.t ?k1); (case k1 => walk_at "hg"))
  | fail)
local macro_rules | `(tactic| walk_at "r1") => `(tactic| first
  | (with_reducible refine rd_forEA ?_) | (with_reducible refine rd_forS ?_)
  | ((with_reducible refine' use_soundA ?k1 fun _ _ => ?_); (case k1 => walk_at "lt"))
  | ((with_reducible refine' use_itemsA ?k1 fun _ _ => ?_); (case k1 => walk_at "lt"))
  | ((with_reducible refine' rd_lenA ?k1 ?_); (case k1 => walk_at "lt"))
  | ((with_reducible refine' rd_listA ?k1 fun _ _ => ?_); (case k1 => walk_at "lt"))
  | ((with_reducible refine' rd_tupL ?k1 fun _ _ => ?_); (case k1 => walk_at "sq"))
  | ((with_reducible refine' use_foldsA ?k1 ?k2 ?k3 ?k4 ?k5 fun _ _ _ _ _ => ?_); (case k1 => walk_at "lt"); (case k2 => walk_at "lt"); (case k3 => walk_at "js"); (case k4 => assumption); (case k5 => walk_at "sd"))
  | ((with_reducible refine' use_foldsAK ?k1 ?k2 ?k3 ?k4 ?k5 fun _ _ _ _ _ => ?_); (case k1 => walk_at "lt"); (case k2 => walk_at "lt"); (case k3 => walk_at "js"); (case k4 => assumption); (case k5 => walk_at "sd"))
  | fail)
local macro_rules | `(tactic| walk_at "r1") => `(tactic| first
  | (with_reducible refine rd_bits ?_)
  | ((with_reducible refine' use_row ?k1 fun _ _ _ _ _ => ?_); (case k1 => walk_at "pl"))
  | fail)
local macro_rules | `(tactic| walk_at "smm1") => `(tactic| ((refine' List.forall_mem_cons.mpr ⟨?a, ?_⟩); (case a => first | exact True.intro | (show Int.natAbs _ < _; omega) | (show Int.natAbs _ < _; decide))))
local macro_rules | `(tactic| walk_at "smm") => `(tactic| ((repeat walk_at "smm1"); exact List.forall_mem_nil _))
local macro_rules | `(tactic| walk_at "rv1") => `(tactic| first
  | exact RV.sc rfl
  | ((refine' RV.lst ?n ?e ?s ?t); (case n => walk_at "ne"); (case e => walk_at "hg"); (case s => walk_at "als"); (case t => walk_at "smm"))
  | ((refine' RV.tup ?n ?e ?s ?t); (case n => walk_at "ne"); (case e => walk_at "hg"); (case s => walk_at "als"); (case t => walk_at "smm"))
  | fail)
local macro_rules | `(tactic| walk_at "rvm1") => `(tactic| ((refine' List.forall_mem_cons.mpr ⟨?d, ?_⟩); (case d => walk_at "rv1")))
local macro_rules | `(tactic| walk_at "rvm") => `(tactic| ((repeat walk_at "rvm1"); exact List.forall_mem_nil _))
local macro_rules | `(tactic| walk_at "tsr1") => `(tactic| first
  | exact TSR.flat rfl
  | ((refine' TSR.lst ?e); (case e => walk_at "hg"))
  | ((refine' TSR.tupn ?e ?n); (case e => walk_at "hg"); (case n => simp))
  | exact RV.tsr (by assumption)
  | fail)
local macro_rules | `(tactic| walk_at "tsrm1") => `(tactic| ((refine' List.forall_mem_cons.mpr ⟨?d, ?_⟩); (case d => walk_at "tsr1")))
local macro_rules | `(tactic| walk_at "tsrm") => `(tactic| ((repeat walk_at "tsrm1"); exact List.forall_mem_nil _))
local macro_rules | `(tactic| walk_at "sl") => `(tactic| first
  | (with_reducible exact e_0)
  | (with_reducible exact e_1)
  | (with_reducible exact e_01)
  | (with_reducible exact e_empty)
  | (with_reducible exact eb)
  | (with_reducible exact rfl)
  | fail)
local macro_rules | `(tactic| walk_at "sdl") => `(tactic| first
  | assumption
  | omega
  | (simp only [List.length_append, List.length_replicate, lowB_length, binB_length, List.length_cons, List.length_nil, List.length_map, List.length_drop, List.length_take]; omega)
  | fail)
local macro_rules | `(tactic| walk_at "r1") => `(tactic| first
  | ((with_reducible refine' rd_addT ?k1 ?k2 ?k3 ?_); (case k1 => walk_at "sl"); (case k2 => walk_at "sl"); (case k3 => walk_at "sdl"))
  | ((with_reducible refine' rd_mulT ?k1 ?k2 ?_); (case k1 => walk_at "sl"); (case k2 => walk_at "sdl"))
  | ((with_reducible refine' rd_lenS ?k1 ?_); (case k1 => walk_at "sdl"))
  | ((with_reducible refine' rd_slSF ?k1 ?_); (case k1 => walk_at "sdl"))
  | ((with_reducible refine' rd_slST ?k1 ?_); (case k1 => walk_at "sdl"))
  | ((with_reducible refine' rd_joinS ?k1 ?k2 ?k3 ?_); (case k1 => walk_at "sl"); (case k2 => walk_at "sq"); (case k3 => walk_at "sdl"))
  | (with_reducible refine rd_bit ?_)
  | ((with_reducible refine' rd_tupL ?k1 fun _ _ => ?_); (case k1 => walk_at "sq"))
  | (with_reducible refine rd_fmtb ?_) | (with_reducible refine rd_shr ?_)
  | ((with_reducible refine' rd_fmtn ?k1 ?k2 ?_); (case k1 => walk_at "sl"); (case k2 => walk_at "sdl"))
  | (with_reducible refine rd_bmS ?_) | (with_reducible refine rd_tyS ?_)
  | ((with_reducible refine' use_start ?k1 fun _ _ _ _ _ _ _ _ _ => ?_); (case k1 => walk_at "pl"))
  | fail)
local macro_rules | `(tactic| walk_at "r1") => `(tactic| first
  | (with_reducible refine use_numW ?_) | (with_reducible refine rd_notBl ?_)
  | ((with_reducible refine' rd_find ?k1 ?k2 ?_); (case k1 => walk_at "sl"); (case k2 => walk_at "sdl"))
  | ((with_reducible refine' rd_strip ?k1 ?k2 ?k3 ?_); (case k1 => walk_at "sl"); (case k2 => walk_at "sdl"); (case k3 => assumption))
  | fail)
local macro_rules | `(tactic| walk_at "r1") => `(tactic| first
  | (with_reducible refine rd_toldM fun _ _ => ?_)
  | ((with_reducible refine' use_oddE ?k1 fun _ _ _ _ _ => ?_); (case k1 => walk_at "pl"))
  | fail)
local macro_rules | `(tactic| walk_at "ne") => `(tactic| first
  | (refine' ne_new ?k1 ?k2; (case k1 => assumption); (case k2 => walk_at "hg"))
  | fail)
local macro_rules | `(tactic| walk_at "alo") => `(tactic| ((repeat (refine List.forall_mem_cons.mpr ⟨?_, ?_⟩; first | rfl | decide +kernel)); exact List.forall_mem_nil _))
local macro_rules | `(tactic| walk_at "nm") => `(tactic| ((refine' nm_cons ?n1 ?n2); (case n1 => walk_at "ne"); (case n2 => first | exact List.not_mem_nil | walk_at "nm")))
local macro_rules | `(tactic| walk_at "ev1") => `(tactic| first
  | exact EV.sc rfl
  | exact EV.sc (by decide +kernel)
  | ((refine' EV.lst ?n ?e ?s); (case n => walk_at "nm"); (case e => walk_at "hg"); (case s => walk_at "alo"))
  | ((refine' EV.tup ?n ?e ?s); (case n => walk_at "nm"); (case e => walk_at "hg"); (case s => walk_at "alo"))
  | fail)
local macro_rules | `(tactic| walk_at "evm1") => `(tactic| ((refine' List.forall_mem_cons.mpr ⟨?d, ?_⟩); (case d => walk_at "ev1")))
local macro_rules | `(tactic| walk_at "evm") => `(tactic| ((repeat walk_at "evm1"); exact List.forall_mem_nil _))
local macro_rules | `(tactic| walk_at "kln") => `(tactic| first
  | assumption
  | exact KpLN.refl
  | ((with_reducible refine' KpLN.trans ?k1 (KpLN.new ?k2)); (case k2 => assumption); walk_at "kln")
  | ((with_reducible refine' KpLN.trans ?k1 ?k2); (case k2 => assumption); walk_at "kln")
  | ((with_reducible refine' KpLN.trans ?k1 (KpLN.ofK ?k3 ?k2)); (case k2 => assumption); (case k3 => simp); walk_at "kln")
  | ((with_reducible refine' KpLN.trans ?k1 (KpLN.of ?k2)); (case k2 => assumption); walk_at "kln")
  | ((with_reducible refine' KpLN.trans ?k1 (KpLN.ofN ?k2)); (case k2 => assumption); walk_at "kln")
  | ((with_reducible refine' KpLN.trans ?k1 (KpLN.ofL ?k2)); (case k2 => assumption); walk_at "kln")
  | fail)
local macro_rules | `(tactic| walk_at "pv0") => `(tactic| first
  | exact PV.sc rfl
  | exact PV.sc (by decide +kernel)
  | fail)
local macro_rules | `(tactic| walk_at "pv1") => `(tactic| first
  | walk_at "pv0"
  | ((refine' PV.tup ?n ?e ?s); (case n => walk_at "nm"); (case e => walk_at "hg"); (case s => walk_at "pvm0"))
  | ((refine' PV.lst ?n ?e ?s); (case n => walk_at "nm"); (case e => walk_at "hg"); (case s => walk_at "pvm0"))
  | fail)
local macro_rules | `(tactic| walk_at "pv2") => `(tactic| first
  | walk_at "pv0"
  | ((refine' PV.tup ?n ?e ?s); (case n => walk_at "nm"); (case e => walk_at "hg"); (case s => walk_at "pvm1"))
  | ((refine' PV.lst ?n ?e ?s); (case n => walk_at "nm"); (case e => walk_at "hg"); (case s => walk_at "pvm1"))
  | fail)
local macro_rules | `(tactic| walk_at "pvs0") => `(tactic| ((refine' List.forall_mem_cons.mpr ⟨?d, ?_⟩); (case d => walk_at "pv0")))
local macro_rules | `(tactic| walk_at "pvm0") => `(tactic| ((repeat walk_at "pvs0"); exact List.forall_mem_nil _))
local macro_rules | `(tactic| walk_at "pvs1") => `(tactic| ((refine' List.forall_mem_cons.mpr ⟨?d, ?_⟩); (case d => walk_at "pv1")))
local macro_rules | `(tactic| walk_at "pvm1") => `(tactic| ((repeat walk_at "pvs1"); exact List.forall_mem_nil _))
local macro_rules | `(tactic| walk_at "pvs2") => `(tactic| ((refine' List.forall_mem_cons.mpr ⟨?d, ?_⟩); (case d => walk_at "pv2")))
local macro_rules | `(tactic| walk_at "pvm2") => `(tactic| ((repeat walk_at "pvs2"); exact List.forall_mem_nil _))
local macro_rules | `(tactic| walk_at "nm") => `(tactic| first
  | (refine' nm_al ?hl ?k ?hp ?n; (case hl => assumption); (case n => assumption); (case k => walk_at "kp"); (case hp => walk_at "pl"))
  | fail)
local macro_rules | `(tactic| walk_at "trt") => `(tactic| (refine' tr_ok ?h ?a ?b ?c; (case h => walk_at "hg"); (case a => first | decide | omega); (case b => first | decide | omega); (case c => first | decide | omega)))
local macro_rules | `(tactic| walk_at "stf1") => `(tactic| ((refine' List.forall_mem_cons.mpr ⟨⟨?d, ?e⟩, ?_⟩); (case d => walk_at "pv2"); (case e => first | walk_at "tsf" | (refine' tsr_ii ?h; (case h => walk_at "hg")))))
local macro_rules | `(tactic| walk_at "stfm") => `(tactic| ((repeat walk_at "stf1"); exact List.forall_mem_nil _))
local macro_rules | `(tactic| walk_at "pni1") => `(tactic| ((refine' List.forall_mem_cons.mpr ⟨⟨?d, ?e⟩, ?_⟩); (case d => walk_at "pv1"); (case e => exact fun _ z => nomatch z)))
local macro_rules | `(tactic| walk_at "pnim") => `(tactic| ((repeat walk_at "pni1"); exact List.forall_mem_nil _))
local macro_rules | `(tactic| walk_at "r1") => `(tactic| first
  | ((with_reducible refine' use_listV ?k1 fun _ _ _ _ _ => ?_); (case k1 => walk_at "pl"))
  | ((with_reducible refine' use_startX ?k1 fun _ _ _ _ _ _ _ => ?_); (case k1 => walk_at "pl"))
  | fail)
local macro_rules | `(tactic| walk_at "r1") => `(tactic| first
  | ((with_reducible refine' use_tabsX ?k1 fun _ _ _ _ _ _ _ _ => ?_); (case k1 => walk_at "pl"))
  | ((with_reducible refine' use_heads ?k1 ?k2 fun _ _ _ _ _ _ _ _ _ _ _ => ?_); (case k1 => walk_at "pl"); (case k2 => walk_at "sd"))
  | ((with_reducible refine' use_someX ?k1 ?k2 fun _ _ _ _ _ _ _ _ _ => ?_); (case k1 => walk_at "pl"); (case k2 => walk_at "sd"))
  | fail)
local macro_rules | `(tactic| walk_at "at") => `(tactic| first | exact atI_nat (j := 4) rfl | exact atI_nat (j := 5) rfl | exact atI_nat (j := 6) rfl | exact atI_nat (j := 7) rfl | fail)
local macro_rules | `(tactic| walk_at "r1") => `(tactic| first
  | ((with_reducible refine' rd_aug ?k1 ?_); (case k1 => exact rfl))
  | (with_reducible refine rd_ipI ?_)
  | ((with_reducible refine use_takeB ?k1 ?k2 ?k3 fun _ _ _ _ _ _ => ?_); (case k1 => walk_at "pl"); (case k2 => walk_at "sd"); (case k3 => walk_at "sd"))
  | fail)
local macro_rules | `(tactic| walk_at "side") => `(tactic| exact wide_div (b := 64) (by omega) (by omega) (by decide) (by decide))
local macro_rules | `(tactic| walk_at "r1") => `(tactic| first
  | ((with_reducible refine use_takeV ?k1 ?k2 ?k3 fun _ _ _ _ _ _ => ?_); (case k1 => walk_at "pl"); (case k2 => walk_at "sd"); (case k3 => walk_at "sd"))
  | fail)
local macro_rules | `(tactic| walk_at "side") => `(tactic| exact wide_div (b := 200) (by omega) (by omega) (by decide) (by decide))
abbrev s_is_integer : Stmt := topS 11
theorem sc_is_integer : FnScope ["value"] ["value"] (defScope s_is_integer) := ⟨rfl, rfl, rfl, by decide +kernel, rfl, by decide +kernel, by decide +kernel⟩
abbrev s_is_within : Stmt := topS 12
theorem sc_is_within : FnScope ["value", "low", "high"] ["value", "low", "high"] (defScope s_is_within) := ⟨rfl, rfl, rfl, by decide +kernel, rfl, by decide +kernel, by decide +kernel⟩
abbrev s_check_integer : Stmt := topS 13
theorem sc_check_integer : FnScope ["value"] ["value"] (defScope s_check_integer) := ⟨rfl, rfl, rfl, by decide +kernel, rfl, by decide +kernel, by decide +kernel⟩
abbrev s_check_within : Stmt := topS 14
theorem sc_check_within : FnScope ["value", "low", "high"] ["value", "low", "high"] (defScope s_check_within) := ⟨rfl, rfl, rfl, by decide +kernel, rfl, by decide +kernel, by decide +kernel⟩
abbrev s_check_items : Stmt := topS 15
theorem sc_check_items : FnScope ["values", "index", "value"] ["values"] (defScope s_check_items) := ⟨rfl, rfl, rfl, by decide +kernel, rfl, by decide +kernel, by decide +kernel⟩
abbrev s_check_block : Stmt := topS 17
theorem sc_check_block : FnScope ["values", "least"] ["values", "least"] (defScope s_check_block) := ⟨rfl, rfl, rfl, by decide +kernel, rfl, by decide +kernel, by decide +kernel⟩
abbrev s_is_joint : Stmt := topS 23
theorem sc_is_joint : FnScope ["value", "width", "shape"] ["value"] (defScope s_is_joint) := ⟨rfl, rfl, rfl, by decide +kernel, rfl, by decide +kernel, by decide +kernel⟩
abbrev s_join_levels : Stmt := topS 34
theorem sc_join_levels : FnScope ["numbers", "levels", "values", "level", "many"] ["numbers", "levels"] (defScope s_join_levels) := ⟨rfl, rfl, rfl, by decide +kernel, rfl, by decide +kernel, by decide +kernel⟩
abbrev s_join_once : Stmt := topS 35
theorem sc_join_once : FnScope ["sums", "differences", "values", "at", "difference", "b"] ["sums", "differences"] (defScope s_join_once) := ⟨rfl, rfl, rfl, by decide +kernel, rfl, by decide +kernel, by decide +kernel⟩
abbrev s_coarse_count : Stmt := topS 36
theorem sc_coarse_count : FnScope ["length", "levels", "many", "level"] ["length", "levels"] (defScope s_coarse_count) := ⟨rfl, rfl, rfl, by decide +kernel, rfl, by decide +kernel, by decide +kernel⟩
abbrev s_is_table : Stmt := topS 44
theorem sc_is_table : FnScope ["value", "total", "count"] ["value"] (defScope s_is_table) := ⟨rfl, rfl, rfl, by decide +kernel, rfl, by decide +kernel, by decide +kernel⟩
abbrev s_is_tables : Stmt := topS 45
theorem sc_is_tables : FnScope ["value"] ["value"] (defScope s_is_tables) := ⟨rfl, rfl, rfl, by decide +kernel, rfl, by decide +kernel, by decide +kernel⟩
abbrev s_parameter : Stmt := topS 46
theorem sc_parameter : FnScope ["table", "total", "count", "least"] ["table"] (defScope s_parameter) := ⟨rfl, rfl, rfl, by decide +kernel, rfl, by decide +kernel, by decide +kernel⟩
abbrev s_table_behind : Stmt := topS 47
theorem sc_table_behind : FnScope ["table", "code", "total", "count"] ["table", "code"] (defScope s_table_behind) := ⟨rfl, rfl, rfl, by decide +kernel, rfl, by decide +kernel, by decide +kernel⟩
abbrev s_code_number : Stmt := topS 48
theorem sc_code_number : FnScope ["number"] ["number"] (defScope s_code_number) := ⟨rfl, rfl, rfl, by decide +kernel, rfl, by decide +kernel, by decide +kernel⟩
abbrev s_number_with : Stmt := topS 49
theorem sc_number_with : FnScope ["code"] ["code"] (defScope s_number_with) := ⟨rfl, rfl, rfl, by decide +kernel, rfl, by decide +kernel, by decide +kernel⟩
abbrev s_read_numbers : Stmt := topS 50
theorem sc_read_numbers : FnScope ["bits", "length", "coarse", "tables", "now", "numbers", "place", "at", "which", "found", "code"] ["bits", "length", "coarse", "tables"] (defScope s_read_numbers) := ⟨rfl, rfl, rfl, by decide +kernel, rfl, by decide +kernel, by decide +kernel⟩
abbrev s_check_coding : Stmt := topS 51
theorem sc_check_coding : FnScope ["length", "coarse", "tables"] ["length", "coarse", "tables"] (defScope s_check_coding) := ⟨rfl, rfl, rfl, by decide +kernel, rfl, by decide +kernel, by decide +kernel⟩
abbrev s_read_code : Stmt := topS 52
theorem sc_read_code : FnScope ["bits", "place", "k", "zero", "ones", "many", "end", "digits", "low"] ["bits", "place", "k"] (defScope s_read_code) := ⟨rfl, rfl, rfl, by decide +kernel, rfl, by decide +kernel, by decide +kernel⟩
abbrev s_mark_of : Stmt := topS 53
theorem sc_mark_of : FnScope ["numbers", "mark", "number"] ["numbers"] (defScope s_mark_of) := ⟨rfl, rfl, rfl, by decide +kernel, rfl, by decide +kernel, by decide +kernel⟩
abbrev s_is_record : Stmt := topS 56
theorem sc_is_record : FnScope ["value"] ["value"] (defScope s_is_record) := ⟨rfl, rfl, rfl, by decide +kernel, rfl, by decide +kernel, by decide +kernel⟩
abbrev s_is_state : Stmt := topS 57
theorem sc_is_state : FnScope ["value"] ["value"] (defScope s_is_state) := ⟨rfl, rfl, rfl, by decide +kernel, rfl, by decide +kernel, by decide +kernel⟩
abbrev s_is_frame : Stmt := topS 58
theorem sc_is_frame : FnScope ["value", "mark", "bits"] ["value"] (defScope s_is_frame) := ⟨rfl, rfl, rfl, by decide +kernel, rfl, by decide +kernel, by decide +kernel⟩
abbrev s_is_layout : Stmt := topS 59
theorem sc_is_layout : FnScope ["value", "length", "joint", "levels", "step"] ["value"] (defScope s_is_layout) := ⟨rfl, rfl, rfl, by decide +kernel, rfl, by decide +kernel, by decide +kernel⟩
abbrev s_is_bits : Stmt := topS 60
theorem sc_is_bits : FnScope ["value"] ["value"] (defScope s_is_bits) := ⟨rfl, rfl, rfl, by decide +kernel, rfl, by decide +kernel, by decide +kernel⟩
abbrev s_read_frame : Stmt := topS 61
theorem sc_read_frame : FnScope ["record", "tables", "length", "joint", "levels", "step", "mark", "bits", "found"] ["record", "tables"] (defScope s_read_frame) := ⟨rfl, rfl, rfl, by decide +kernel, rfl, by decide +kernel, by decide +kernel⟩
abbrev s_block_values : Stmt := topS 62
theorem sc_block_values : FnScope ["numbers", "levels", "step", "number"] ["numbers", "levels", "step"] (defScope s_block_values) := ⟨rfl, rfl, rfl, by decide +kernel, rfl, by decide +kernel, by decide +kernel⟩
abbrev s_check_records : Stmt := topS 65
theorem sc_check_records : FnScope ["records", "index", "record"] ["records"] (defScope s_check_records) := ⟨rfl, rfl, rfl, by decide +kernel, rfl, by decide +kernel, by decide +kernel⟩
abbrev s_read_frames : Stmt := topS 66
theorem sc_read_frames : FnScope ["records", "frames", "tables", "start", "left", "index", "record", "length", "right", "found", "numbers", "behind"] ["records"] (defScope s_read_frames) := ⟨rfl, rfl, rfl, by decide +kernel, rfl, by decide +kernel, by decide +kernel⟩
abbrev s_pool : Stmt := topS 69
theorem sc_pool : FnScope ["_law_script", "_law_k", "_law_cell", "_law_number", "_law_mixed"] ["_law_script", "_law_k"] (defScope s_pool) := ⟨rfl, rfl, rfl, by decide +kernel, rfl, by decide +kernel, by decide +kernel⟩
abbrev s_take : Stmt := topS 70
theorem sc_take : FnScope ["_law_pool_here", "_law_many", "_law_digit"] ["_law_pool_here", "_law_many"] (defScope s_take) := ⟨rfl, rfl, rfl, by decide +kernel, rfl, by decide +kernel, by decide +kernel⟩
abbrev s_sizes : Stmt := topS 71
theorem sc_sizes : FnScope ["_law_length", "_law_levels", "_law_sizes_here", "_law_level"] ["_law_length", "_law_levels"] (defScope s_sizes) := ⟨rfl, rfl, rfl, by decide +kernel, rfl, by decide +kernel, by decide +kernel⟩
abbrev s_digits : Stmt := topS 73
theorem sc_digits : FnScope ["_law_number", "_law_digits_here"] ["_law_number"] (defScope s_digits) := ⟨rfl, rfl, rfl, by decide +kernel, rfl, by decide +kernel, by decide +kernel⟩
abbrev s_code : Stmt := topS 74
theorem sc_code : FnScope ["_law_number"] ["_law_number"] (defScope s_code) := ⟨rfl, rfl, rfl, by decide +kernel, rfl, by decide +kernel, by decide +kernel⟩
abbrev s_after : Stmt := topS 75
theorem sc_after : FnScope ["_law_table", "_law_code_here", "_law_total", "_law_count"] ["_law_table", "_law_code_here"] (defScope s_after) := ⟨rfl, rfl, rfl, by decide +kernel, rfl, by decide +kernel, by decide +kernel⟩
abbrev s_l_parameter : Stmt := topS 76
theorem sc_l_parameter : FnScope ["_law_table", "_law_k"] ["_law_table"] (defScope s_l_parameter) := ⟨rfl, rfl, rfl, by decide +kernel, rfl, by decide +kernel, by decide +kernel⟩
abbrev s_bits : Stmt := topS 77
theorem sc_bits : FnScope ["_law_table", "_law_code_here", "_law_k", "_law_digits_here", "_law_low"] ["_law_table", "_law_code_here"] (defScope s_bits) := ⟨rfl, rfl, rfl, by decide +kernel, rfl, by decide +kernel, by decide +kernel⟩
abbrev s_written : Stmt := topS 78
theorem sc_written : FnScope ["_law_numbers", "_law_coarse", "_law_tables", "_law_bits_here", "_law_one", "_law_two", "_law_k", "_law_code_here"] ["_law_numbers", "_law_coarse", "_law_tables"] (defScope s_written) := ⟨rfl, rfl, rfl, by decide +kernel, rfl, by decide +kernel, by decide +kernel⟩
abbrev s_mark : Stmt := topS 79
theorem sc_mark : FnScope ["_law_numbers", "_law_mark_here", "_law_number"] ["_law_numbers"] (defScope s_mark) := ⟨rfl, rfl, rfl, by decide +kernel, rfl, by decide +kernel, by decide +kernel⟩
abbrev s_made : Stmt := topS 80
theorem sc_made : FnScope ["_law_pool_here", "_law_many", "_law_tables", "_law_records", "_law_k", "_law_numbers", "_law_turn", "_law_width", "_law_joint", "_law_levels", "_law_bits_here"] ["_law_pool_here", "_law_many"] (defScope s_made) := ⟨rfl, rfl, rfl, by decide +kernel, rfl, by decide +kernel, by decide +kernel⟩
abbrev s_spoilt : Stmt := topS 81
theorem sc_spoilt : FnScope ["_law_pool_here", "_law_records", "_law_at", "_law_kind", "_law_word", "_law_length", "_law_joint", "_law_levels", "_law_step", "_law_mark_here", "_law_bits_here"] ["_law_pool_here", "_law_records", "_law_at", "_law_kind"] (defScope s_spoilt) := ⟨rfl, rfl, rfl, by decide +kernel, rfl, by decide +kernel, by decide +kernel⟩
abbrev s_due : Stmt := topS 82
theorem sc_due : FnScope ["_law_records", "_law_spoilt_here", "_law_at", "_law_kind", "_law_left"] ["_law_records", "_law_spoilt_here"] (defScope s_due) := ⟨rfl, rfl, rfl, by decide +kernel, rfl, by decide +kernel, by decide +kernel⟩
abbrev s_index : Stmt := topS 83
theorem sc_index : FnScope ["_law_records", "e"] ["_law_records"] (defScope s_index) := ⟨rfl, rfl, rfl, by decide +kernel, rfl, by decide +kernel, by decide +kernel⟩
abbrev s_place : Stmt := topS 84
theorem sc_place : FnScope ["_law_stream", "_law_way", "_law_at", "e"] ["_law_stream", "_law_way", "_law_at"] (defScope s_place) := ⟨rfl, rfl, rfl, by decide +kernel, rfl, by decide +kernel, by decide +kernel⟩
abbrev s_law : Stmt := topS 85
theorem sc_law : FnScope ["_law_script", "_law_odd", "_law_k", "_law_pool_here", "_law_records", "_law_stream", "_law_at", "_law_kind", "_law_bad", "_law_due_here", "_law_late"] ["_law_script"] (defScope s_law) := ⟨rfl, rfl, rfl, by decide +kernel, rfl, by decide +kernel, by decide +kernel⟩
abbrev s_Stream___init__ : Stmt := inClass (topS 67) 0
theorem sc_Stream___init__ : FnScope ["self", "records"] ["self", "records"] (defScope s_Stream___init__) := ⟨rfl, rfl, rfl, by decide +kernel, rfl, by decide +kernel, by decide +kernel⟩
abbrev s_Stream_block : Stmt := inClass (topS 67) 8
theorem sc_Stream_block : FnScope ["self", "frame"] ["self", "frame"] (defScope s_Stream_block) := ⟨rfl, rfl, rfl, by decide +kernel, rfl, by decide +kernel, by decide +kernel⟩
abbrev s_Stream_numbers : Stmt := inClass (topS 67) 9
theorem sc_Stream_numbers : FnScope ["self", "frame"] ["self", "frame"] (defScope s_Stream_numbers) := ⟨rfl, rfl, rfl, by decide +kernel, rfl, by decide +kernel, by decide +kernel⟩
abbrev s_Stream_contents : Stmt := inClass (topS 67) 10
theorem sc_Stream_contents : FnScope ["self", "frame", "numbers", "levels", "step"] ["self", "frame"] (defScope s_Stream_contents) := ⟨rfl, rfl, rfl, by decide +kernel, rfl, by decide +kernel, by decide +kernel⟩
abbrev s_Stream_tables_before : Stmt := inClass (topS 67) 11
theorem sc_Stream_tables_before : FnScope ["self", "frame"] ["self", "frame"] (defScope s_Stream_tables_before) := ⟨rfl, rfl, rfl, by decide +kernel, rfl, by decide +kernel, by decide +kernel⟩
abbrev s_Stream_tables_after : Stmt := inClass (topS 67) 12
theorem sc_Stream_tables_after : FnScope ["self", "frame"] ["self", "frame"] (defScope s_Stream_tables_after) := ⟨rfl, rfl, rfl, by decide +kernel, rfl, by decide +kernel, by decide +kernel⟩
abbrev s_Stream_part_of : Stmt := inClass (topS 67) 13
theorem sc_Stream_part_of : FnScope ["self", "frame", "part"] ["self", "frame", "part"] (defScope s_Stream_part_of) := ⟨rfl, rfl, rfl, by decide +kernel, rfl, by decide +kernel, by decide +kernel⟩
abbrev s_init_InvalidStream : Stmt := inClass (topS 7) 0
theorem sc_init_InvalidStream : FnScope ["self", "index"] ["self", "index"] (defScope s_init_InvalidStream) := ⟨rfl, rfl, rfl, by decide +kernel, rfl, by decide +kernel, by decide +kernel⟩
abbrev s_init_InvalidPlace : Stmt := inClass (topS 8) 0
theorem sc_init_InvalidPlace : FnScope ["self", "value"] ["self", "value"] (defScope s_init_InvalidPlace) := ⟨rfl, rfl, rfl, by decide +kernel, rfl, by decide +kernel, by decide +kernel⟩
section
variable {P : Program} {w : World} {K : PySem.W.Frag} {mg : Str → Option Value} {base : Heap}
theorem ok_init_InvalidPlace {f C : Addr} {fd : FuncData} {B nw ini : String} {bm : List Value} (F : Fun K "__init__" "InvalidPlace.__init__" s_init_InvalidPlace f fd) (T : EG K mg "InvalidPlace" "value" C f B nw ini bm) : FnOk P w K mg base CX0 1 f fd ["self", "value"] (spInit K C "value") := by
  refine lt_out ?_
  simp (disch := with_unfolding_all
    refine F.ok sc_init_InvalidPlace (fun vs H Q E h => ?_) (fun cdv A outer s H vs Q E hr h => ?_)
    · obtain ⟨a, v, rfl, _⟩ := h
      rfl
    · obtain ⟨a, v, rfl, ha, q⟩ := h
      exact ⟨_, (pss_one (ps_ostG (pv 0) (pv 1))), v, rfl, .ref a, rfl, a, C, B, nw, ini, bm, rfl, T.o, T.noF, ha, fun dx n ne => q dx n ne⟩
    ) only [↓lt_eq]
theorem ok_init_InvalidStream {f C : Addr} {fd : FuncData} (F : Fun K "__init__" "InvalidStream.__init__" s_init_InvalidStream f fd) (T : EC K mg "InvalidStream" "index" C f) : FnOk P w K mg base CX0 1 f fd ["self", "index"] (spInit K C "index") := by
  refine lt_out ?_
  simp (disch := with_unfolding_all
    refine F.ok sc_init_InvalidStream (fun vs H Q E h => ?_) (fun cdv A outer s H vs Q E hr h => ?_)
    · obtain ⟨a, v, rfl, _⟩ := h
      rfl
    · obtain ⟨a, v, rfl, ha, q⟩ := h
      exact ⟨_, (pss_one (ps_ost (pv 0) (pv 1))), v, rfl, .ref a, rfl, a, C, rfl, T.o, T.noF, .inl ⟨ha, fun dx n ne => q dx n ne⟩⟩
    ) only [↓lt_eq]
theorem ok_is_integer {f : Addr} {fd : FuncData}     (D : Dn K mg "is_integer" s_is_integer ["value"] f fd) (bi : Bi mg)      : FnOk P w K mg base CX0 1 f fd ["value"] spIsI := by
  refine lt_out ?_
  simp (disch := with_unfolding_all
    refine D.F.ok sc_is_integer (fun vs H Q E h => ?_) (fun cdv A outer s H vs Q E hr h => ?_)
    · obtain ⟨x, rfl, _⟩ := h
      rfl
    · obtain ⟨x, rfl, t, q⟩ := h
      refine ⟨_, (pss_one (ps_ret (pe_and (pe_callB call_isi (by rfl) bi.isinstance_ (by decide +kernel) (pa_cons (pv 0) (pa_cons (pe_bltn (v := .ty "int") (by rfl) bi.int_ (by decide +kernel) rfl) pa_nil))) (pe_one (pe_not (pe_callB call_isi (by rfl) bi.isinstance_ (by decide +kernel) (pa_cons (pv 0) (pa_cons (pe_bltn (v := .ty "bool") (by rfl) bi.bool_ (by decide +kernel) rfl) pa_nil)))))))), ?_⟩
      refine rd_start (σ := [some x]) rfl ?_
      cases x with
      | non => walk_at "rd"; exact q
      | bl _ => walk_at "rd"; exact q
      | int _ => walk_at "rd"; exact q
      | str _ => walk_at "rd"; exact q
      | ref a =>
        rcases t with ⟨xs, t⟩ | ⟨xs, t⟩
        · walk_at "rd"; exact q
        · walk_at "rd"; exact q
      | byt _ => exact t.elim
      | flt _ => exact t.elim
      | ty _ => exact t.elim
    ) only [↓lt_eq]
theorem ok_is_within {f : Addr} {fd : FuncData} {f_is_integer : Addr} {fd_is_integer : FuncData}    (D : Dn K mg "is_within" s_is_within ["value", "low", "high"] f fd) (bi : Bi mg) (G_is_integer : FnOk P w K mg base CX0 1 f_is_integer fd_is_integer ["value"] spIsI) (D_is_integer : Dn K mg "is_integer" s_is_integer ["value"] f_is_integer fd_is_integer)     : FnOk P w K mg base CX0 2 f fd ["value", "low", "high"] spWithin := by
  refine lt_out ?_
  simp (disch := with_unfolding_all
    refine D.F.ok sc_is_within (fun vs H Q E h => ?_) (fun cdv A outer s H vs Q E hr h => ?_)
    · obtain ⟨x, lo, hi, rfl, _⟩ := h
      rfl
    · obtain ⟨x, lo, hi, rfl, t, q⟩ := h
      refine ⟨_, (pss_one (ps_ret (pe_and (pe_call G_is_integer (hr.mono (by first | decide | exact Nat.le_refl _)) (by rfl) D_is_integer.g D_is_integer.F.kp D_is_integer.b .nil pass0 (pa_cons (pv 0) pa_nil)) (pe_one (pe_chain op_le op_le (pv 1) (pv 0) (pv 2)))))), ?_⟩
      refine rd_start (σ := [some x, some (.int lo), some (.int hi)]) rfl ?_
      walk_at "rd"
      refine use_isi t (rd_bl ?_)
      cases x with
      | int i =>
        refine if_yes (c := isI (V.int i)) rfl ?_
        walk_at "rd"
        refine rd_iteD (p := lo ≤ i) (fun c => ?_) (fun c => ?_)
        · walk_at "rd"
          have e : inI (.int i) lo hi = decide (i ≤ hi) := by simp [inI, c]
          rw [e] at q
          exact q
        · have e : inI (.int i) lo hi = false := by simp [inI, c]
          rw [e] at q
          exact q
      | non => exact iteF q
      | bl _ => exact iteF q
      | str _ => exact iteF q
      | ref _ => exact iteF q
      | byt _ => exact iteF q
      | flt _ => exact iteF q
      | ty _ => exact iteF q
    ) only [↓lt_eq]
theorem ok_is_joint {f : Addr} {fd : FuncData} {f_is_within : Addr} {fd_is_within : FuncData}    (D : Dn K mg "is_joint" s_is_joint ["value"] f fd) (bi : Bi mg) (G_is_within : FnOk P w K mg base CX0 2 f_is_within fd_is_within ["value", "low", "high"] spWithin) (D_is_within : Dn K mg "is_within" s_is_within ["value", "low", "high"] f_is_within fd_is_within)    (g_WIDTH_LIMIT : ∃ t, mg "WIDTH_LIMIT" = some (.int 8 t)) (g_SHAPE_LIMIT : ∃ t, mg "SHAPE_LIMIT" = some (.int 3 t)) : FnOk P w K mg base CX0 3 f fd ["value"] spJ := by
  refine lt_out ?_
  simp (disch := with_unfolding_all
    refine D.F.ok sc_is_joint (fun vs H Q E h => ?_) (fun cdv A outer s H vs Q E hr h => ?_)
    · obtain ⟨x, b, rfl, _⟩ := h
      rfl
    · obtain ⟨x, b, rfl, hj, q⟩ := h
      obtain ⟨t1, g_WIDTH_LIMIT⟩ := g_WIDTH_LIMIT
      obtain ⟨t2, g_SHAPE_LIMIT⟩ := g_SHAPE_LIMIT
      refine ⟨_, (pss_cons (ps_if (PW.pt (pw_or (pt_not (pt_val (pe_callB call_isi (by rfl) bi.isinstance_ (by decide +kernel) (pa_cons (pv 0) (pa_cons (pe_bltn (v := .ty "tuple") (by rfl) bi.tuple_ (by decide +kernel) rfl) pa_nil))))) (pw_or1 (pt_cmpR op_ne (pe_callB cLen (by rfl) bi.len_ (by decide +kernel) (pa_cons (pv 0) pa_nil)) pe_int (nomark _)))))
   (pss_one (ps_ret pe_bl))
   pss_nil)
   (pss_cons (ps_asg (pv 0) (pg_tup rfl (pgs_cons (pg_name (i := 1) sc_is_joint.nd rfl (Or.inl rfl)) (pgs_cons (pg_name (i := 2) sc_is_joint.nd rfl (Or.inl rfl)) pgs_nil))))
   (pss_cons (ps_if (PW.pt (pw_or (pt_not (pt_val (pe_call G_is_within (hr.mono (by first | decide | exact Nat.le_refl _)) (by rfl) D_is_within.g D_is_within.F.kp D_is_within.b .nil pass0 (pa_cons (pv 1) (pa_cons pe_int (pa_cons (pe_glob (v := .int 8) (by rfl) g_WIDTH_LIMIT ⟨_, rfl⟩) pa_nil)))))) (pw_or1 (pt_not (pt_val (pe_call G_is_within (hr.mono (by first | decide | exact Nat.le_refl _)) (by rfl) D_is_within.g D_is_within.F.kp D_is_within.b .nil pass0 (pa_cons (pv 2) (pa_cons pe_int (pa_cons (pe_glob (v := .int 3) (by rfl) g_SHAPE_LIMIT ⟨_, rfl⟩) pa_nil)))))))))
   (pss_one (ps_ret pe_bl))
   pss_nil)
   (pss_one (ps_ret (pe_or (pe_cmpR op_gt (pv 1) pe_int (nomark _)) (pe_one (pe_cmpR op_eq (pv 2) pe_int (nomark _))))))))), ?_⟩
      refine rd_start (σ := [some x, none, none]) rfl ?_
      cases hj with
      | @flat _ h =>
        cases x with
        | non => walk_at "rd"; exact q
        | bl _ => walk_at "rd"; exact q
        | int _ => walk_at "rd"; exact q
        | str _ => walk_at "rd"; exact q
        | ref _ => exact Bool.noConfusion h
        | byt _ => exact Bool.noConfusion h
        | flt _ => exact Bool.noConfusion h
        | ty _ => exact Bool.noConfusion h
      | @lst a xs h => walk_at "rd"; exact q
      | @tupn a xs h n =>
        walk_at "rd"
        refine if_yesN (fun z => n (Int.ofNat.inj (V.int.inj z))) ?_
        walk_at "rd"
        exact q
      | @tup2 a u v h hu hv =>
        walk_at "rd"
        refine if_noN rfl ?_
        walk_at "rd"
        refine use_within hu ?_
        walk_at "rd"
        cases cu : inI u 0 8 with
        | false =>
          rw [jt_no1 cu] at q
          walk_at "rd"
          exact q
        | true =>
          walk_at "rd"
          refine use_within hv ?_
          walk_at "rd"
          cases cv : inI v 0 3 with
          | false =>
            rw [jt_no2 cv] at q
            walk_at "rd"
            exact q
          | true =>
            obtain ⟨w1, rfl⟩ := isI_yes (inI_isI cu)
            obtain ⟨w2, rfl⟩ := isI_yes (inI_isI cv)
            have e : jt (.int w1) (.int w2) = (decide (0 < w1) || decide (w2 = 0)) := by unfold jt; rw [cu, cv]; rfl
            rw [e] at q
            walk_at "rd"
            refine rd_iteD (fun c => ?_) (fun c => ?_)
            · rw [decide_eq_true c] at q
              exact q
            · walk_at "rd"
              rw [decide_eq_false c, ← dec_i0] at q
              exact q
    ) only [↓lt_eq]
theorem ok_is_table {f : Addr} {fd : FuncData} {f_is_integer : Addr} {fd_is_integer : FuncData} {f_is_within : Addr} {fd_is_within : FuncData}    (D : Dn K mg "is_table" s_is_table ["value"] f fd) (bi : Bi mg) (G_is_integer : FnOk P w K mg base CX0 1 f_is_integer fd_is_integer ["value"] spIsI) (D_is_integer : Dn K mg "is_integer" s_is_integer ["value"] f_is_integer fd_is_integer) (G_is_within : FnOk P w K mg base CX0 2 f_is_within fd_is_within ["value", "low", "high"] spWithin) (D_is_within : Dn K mg "is_within" s_is_within ["value", "low", "high"] f_is_within fd_is_within)    (g_COUNT_LIMIT : ∃ t, mg "COUNT_LIMIT" = some (.int 15 t)) : FnOk P w K mg base CX0 3 f fd ["value"] (spTblG K) := by
  refine lt_out ?_
  simp (disch := with_unfolding_all
    refine D.F.ok sc_is_table (fun vs H Q E h => ?_) (fun cdv A outer s H vs Q E hr h => ?_)
    · obtain ⟨a, t, m, rfl, _⟩ := h
      rfl
    · obtain ⟨a, t, m, rfl, h1, ok, q⟩ := h
      obtain ⟨t1, g_COUNT_LIMIT⟩ := g_COUNT_LIMIT
      have L1 := h1.1
      obtain ⟨o1, o2, o3, o4⟩ := ok
      refine ⟨_, (pss_cons (ps_if (PW.pt (pw_or (pt_not (pt_val (pe_callB call_isi (by rfl) bi.isinstance_ (by decide +kernel) (pa_cons (pv 0) (pa_cons (pe_bltn (v := .ty "tuple") (by rfl) bi.tuple_ (by decide +kernel) rfl) pa_nil))))) (pw_or1 (pt_cmpR op_ne (pe_callB cLen (by rfl) bi.len_ (by decide +kernel) (pa_cons (pv 0) pa_nil)) pe_int (nomark _)))))
   (pss_one (ps_ret pe_bl))
   pss_nil)
   (pss_cons (ps_asg (pv 0) (pg_tup rfl (pgs_cons (pg_name (i := 1) sc_is_table.nd rfl (Or.inl rfl)) (pgs_cons (pg_name (i := 2) sc_is_table.nd rfl (Or.inl rfl)) pgs_nil))))
   (pss_one (ps_ret (pe_and (pe_call G_is_integer (hr.mono (by first | decide | exact Nat.le_refl _)) (by rfl) D_is_integer.g D_is_integer.F.kp D_is_integer.b .nil pass0 (pa_cons (pv 1) pa_nil)) (pe_and (pe_cmpR op_ge (pv 1) pe_int (nomark _)) (pe_one (pe_call G_is_within (hr.mono (by first | decide | exact Nat.le_refl _)) (by rfl) D_is_within.g D_is_within.F.kp D_is_within.b .nil pass0 (pa_cons (pv 2) (pa_cons pe_int (pa_cons (pe_glob (v := .int 15) (by rfl) g_COUNT_LIMIT ⟨_, rfl⟩) pa_nil))))))))))), ?_⟩
      refine rd_start (σ := [some (.ref a), none, none]) rfl ?_
      walk_at "rd"
      refine isi_ty h1.2 (d := true) (by decide +kernel) ?_
      walk_at "rd"
      refine if_noN rfl ?_
      walk_at "rd"
      rw [decide_eq_true (show t.1 ≥ 0 from o1)]
      walk_at "rd"
      rw [decide_eq_true (show 1 ≤ t.2 ∧ t.2 ≤ 15 from ⟨o3, o4⟩)]
      exact q
    ) only [↓lt_eq]
theorem ok_is_tables {f : Addr} {fd : FuncData} {f_is_table : Addr} {fd_is_table : FuncData}    (D : Dn K mg "is_tables" s_is_tables ["value"] f fd) (bi : Bi mg) (G_is_table : FnOk P w K mg base CX0 3 f_is_table fd_is_table ["value"] (spTblG K)) (D_is_table : Dn K mg "is_table" s_is_table ["value"] f_is_table fd_is_table)     : FnOk P w K mg base CX0 4 f fd ["value"] (spTblsG K) := by
  refine lt_out ?_
  simp (disch := with_unfolding_all
    refine D.F.ok sc_is_tables (fun vs H Q E h => ?_) (fun cdv A outer s H vs Q E hr h => ?_)
    · obtain ⟨a, T, m, rfl, _⟩ := h
      rfl
    · obtain ⟨a, T, m, rfl, ⟨r0, r1, h0, h1, h2⟩, o1, o2, q⟩ := h
      have L1 := h0.1
      refine ⟨_, (pss_one (ps_ret (pe_and (pe_callB call_isi (by rfl) bi.isinstance_ (by decide +kernel) (pa_cons (pv 0) (pa_cons (pe_bltn (v := .ty "tuple") (by rfl) bi.tuple_ (by decide +kernel) rfl) pa_nil))) (pe_and (pe_cmpR op_eq (pe_callB cLen (by rfl) bi.len_ (by decide +kernel) (pa_cons (pv 0) pa_nil)) pe_int (nomark _)) (pe_and (pe_call G_is_table (hr.mono (by first | decide | exact Nat.le_refl _)) (by rfl) D_is_table.g D_is_table.F.kp D_is_table.b .nil pass0 (pa_cons (pe_ix ix_tup (pv 0) pe_int (fun _ _ => rfl)) pa_nil)) (pe_one (pe_call G_is_table (hr.mono (by first | decide | exact Nat.le_refl _)) (by rfl) D_is_table.g D_is_table.F.kp D_is_table.b .nil pass0 (pa_cons (pe_ix ix_tup (pv 0) pe_int (fun _ _ => rfl)) pa_nil)))))))), ?_⟩
      refine rd_start (σ := [some (.ref a)]) rfl ?_
      walk_at "rd"
      refine isi_ty h0.2 (d := true) (by decide +kernel) ?_
      walk_at "rd"
      refine if_yesD rfl ?_
      walk_at "rd"
      refine use_tblG h1 o1 ?_
      walk_at "rd"
      refine use_tblG h2 o2 ?_
      exact q
    ) only [↓lt_eq]
theorem ok_is_bits {f : Addr} {fd : FuncData}     (D : Dn K mg "is_bits" s_is_bits ["value"] f fd) (bi : Bi mg)      : FnOk P w K mg base CX0 1 f fd ["value"] spIsB := by
  refine lt_out ?_
  simp (disch := with_unfolding_all
    refine D.F.ok sc_is_bits (fun vs H Q E h => ?_) (fun cdv A outer s H vs Q E hr h => ?_)
    · obtain ⟨l, rfl, _⟩ := h
      rfl
    · obtain ⟨l, rfl, hb, hl, q⟩ := h
      have hl2 : l.length ≤ 16777216 := by omega
      refine ⟨_, (pss_one (ps_ret (pe_and (pe_callB call_isi (by rfl) bi.isinstance_ (by decide +kernel) (pa_cons (pv 0) (pa_cons (pe_bltn (v := .ty "str") (by rfl) bi.str_ (by decide +kernel) rfl) pa_nil))) (pe_one (pe_cmpR op_eq (pe_bm PySem.F.plainAttrs_str PySem.F.slot_str_strip PySem.F.type_str_strip mt_stripK (pv 0) (pa_cons pe_str pa_nil)) pe_str (nomark _)))))), ?_⟩
      refine rd_start (σ := [some (.str (SX.S l))]) rfl ?_
      walk_at "rd"
      exact rd_decT (congrArg V.str e_empty.symm) q
    ) only [↓lt_eq]
theorem ok_is_layout {f : Addr} {fd : FuncData} {f_is_within : Addr} {fd_is_within : FuncData} {f_is_joint : Addr} {fd_is_joint : FuncData}    (D : Dn K mg "is_layout" s_is_layout ["value"] f fd) (bi : Bi mg) (G_is_within : FnOk P w K mg base CX0 2 f_is_within fd_is_within ["value", "low", "high"] spWithin) (D_is_within : Dn K mg "is_within" s_is_within ["value", "low", "high"] f_is_within fd_is_within) (G_is_joint : FnOk P w K mg base CX0 3 f_is_joint fd_is_joint ["value"] spJ) (D_is_joint : Dn K mg "is_joint" s_is_joint ["value"] f_is_joint fd_is_joint)    (g_BLOCK_LIMIT : ∃ t, mg "BLOCK_LIMIT" = some (.int 64 t)) (g_LEVEL_LIMIT : ∃ t, mg "LEVEL_LIMIT" = some (.int 5 t)) (g_STEP_LIMIT : ∃ t, mg "STEP_LIMIT" = some (.int 64 t)) : FnOk P w K mg base CX0 4 f fd ["value"] spIsLay := by
  refine lt_out ?_
  simp (disch := with_unfolding_all
    refine D.F.ok sc_is_layout (fun vs H Q E h => ?_) (fun cdv A outer s H vs Q E hr h => ?_)
    · obtain ⟨a, j, d, rfl, _⟩ := h
      rfl
    · obtain ⟨a, j, d, rfl, ⟨h, hj⟩, hok, q⟩ := h
      obtain ⟨ln, w, sh, lv, st⟩ := d
      obtain ⟨k1, k2, k3, k4, k5, k6, k7, k8⟩ := hok
      dsimp only at k1 k2 k3 k4 k5 k6 k7 k8 h hj
      obtain ⟨t1, g_BLOCK_LIMIT⟩ := g_BLOCK_LIMIT
      obtain ⟨t2, g_LEVEL_LIMIT⟩ := g_LEVEL_LIMIT
      obtain ⟨t3, g_STEP_LIMIT⟩ := g_STEP_LIMIT
      refine ⟨_, (pss_cons (ps_if (PW.pt (pw_or (pt_not (pt_val (pe_callB call_isi (by rfl) bi.isinstance_ (by decide +kernel) (pa_cons (pv 0) (pa_cons (pe_bltn (v := .ty "tuple") (by rfl) bi.tuple_ (by decide +kernel) rfl) pa_nil))))) (pw_or1 (pt_cmpR op_ne (pe_callB cLen (by rfl) bi.len_ (by decide +kernel) (pa_cons (pv 0) pa_nil)) pe_int (nomark _)))))
   (pss_one (ps_ret pe_bl))
   pss_nil)
   (pss_cons (ps_asg (pv 0) (pg_tup rfl (pgs_cons (pg_name (i := 1) sc_is_layout.nd rfl (Or.inl rfl)) (pgs_cons (pg_name (i := 2) sc_is_layout.nd rfl (Or.inl rfl)) (pgs_cons (pg_name (i := 3) sc_is_layout.nd rfl (Or.inl rfl)) (pgs_cons (pg_name (i := 4) sc_is_layout.nd rfl (Or.inl rfl)) pgs_nil))))))
   (pss_cons (ps_if (PW.pt (pw_or (pt_not (pt_val (pe_call G_is_within (hr.mono (by first | decide | exact Nat.le_refl _)) (by rfl) D_is_within.g D_is_within.F.kp D_is_within.b .nil pass0 (pa_cons (pv 1) (pa_cons pe_int (pa_cons (pe_glob (v := .int 64) (by rfl) g_BLOCK_LIMIT ⟨_, rfl⟩) pa_nil)))))) (pw_or1 (pt_not (pt_val (pe_call G_is_joint (hr.mono (by first | decide | exact Nat.le_refl _)) (by rfl) D_is_joint.g D_is_joint.F.kp D_is_joint.b .nil pass0 (pa_cons (pv 2) pa_nil)))))))
   (pss_one (ps_ret pe_bl))
   pss_nil)
   (pss_one (ps_ret (pe_and (pe_call G_is_within (hr.mono (by first | decide | exact Nat.le_refl _)) (by rfl) D_is_within.g D_is_within.F.kp D_is_within.b .nil pass0 (pa_cons (pv 3) (pa_cons pe_int (pa_cons (pe_glob (v := .int 5) (by rfl) g_LEVEL_LIMIT ⟨_, rfl⟩) pa_nil)))) (pe_one (pe_call G_is_within (hr.mono (by first | decide | exact Nat.le_refl _)) (by rfl) D_is_within.g D_is_within.F.kp D_is_within.b .nil pass0 (pa_cons (pv 4) (pa_cons pe_int (pa_cons (pe_glob (v := .int 64) (by rfl) g_STEP_LIMIT ⟨_, rfl⟩) pa_nil))))))))))), ?_⟩
      refine rd_start (σ := [some (.ref a), none, none, none, none]) rfl ?_
      walk_at "rd"
      refine if_noN rfl ?_
      walk_at "rd"
      rw [decide_eq_true (show (1 : Int) ≤ (ln : Int) ∧ (ln : Int) ≤ 64 by omega)]
      walk_at "rd"
      have jr := JR.tup2 hj trivial trivial
      rw [jt_ok (j := (0, w, sh)) k3 k4 k5] at jr
      refine use_j jr (rd_bl ?_)
      walk_at "rd"
      rw [decide_eq_true (show (0 : Int) ≤ (lv : Int) ∧ (lv : Int) ≤ 5 by omega)]
      walk_at "rd"
      exact rd_decT (by omega) q
    ) only [↓lt_eq]
theorem ok_is_frame {f : Addr} {fd : FuncData} {f_is_layout : Addr} {fd_is_layout : FuncData} {f_is_within : Addr} {fd_is_within : FuncData} {f_is_bits : Addr} {fd_is_bits : FuncData}    (D : Dn K mg "is_frame" s_is_frame ["value"] f fd) (bi : Bi mg) (G_is_layout : FnOk P w K mg base CX0 4 f_is_layout fd_is_layout ["value"] spIsLay) (D_is_layout : Dn K mg "is_layout" s_is_layout ["value"] f_is_layout fd_is_layout) (G_is_within : FnOk P w K mg base CX0 2 f_is_within fd_is_within ["value", "low", "high"] spWithin) (D_is_within : Dn K mg "is_within" s_is_within ["value", "low", "high"] f_is_within fd_is_within) (G_is_bits : FnOk P w K mg base CX0 1 f_is_bits fd_is_bits ["value"] spIsB) (D_is_bits : Dn K mg "is_bits" s_is_bits ["value"] f_is_bits fd_is_bits)    (g_FRAME_ITEMS : ∃ t, mg "FRAME_ITEMS" = some (.int 7 t)) (g_MARK_MODULUS : ∃ t, mg "MARK_MODULUS" = some (.int 9973 t)) : FnOk P w K mg base CX0 5 f fd ["value"] (spIsFr K) := by
  refine lt_out ?_
  simp (disch := with_unfolding_all
    refine D.F.ok sc_is_frame (fun vs H Q E h => ?_) (fun cdv A outer s H vs Q E hr h => ?_)
    · obtain ⟨v, d, ns, T, rfl, _⟩ := h
      rfl
    · obtain ⟨v, d, ns, T, rfl, ⟨a, j, rfl, h, hj⟩, ok, q⟩ := h
      obtain ⟨bl, bb⟩ := bitsF_len ok
      obtain ⟨m0, m1⟩ := markF_bound ns
      unfold FrAt at h
      obtain ⟨t1, g_FRAME_ITEMS⟩ := g_FRAME_ITEMS
      obtain ⟨t2, g_MARK_MODULUS⟩ := g_MARK_MODULUS
      refine ⟨_, (pss_cons (ps_if (PW.pt (pw_or (pt_not (pt_val (pe_callB call_isi (by rfl) bi.isinstance_ (by decide +kernel) (pa_cons (pv 0) (pa_cons (pe_bltn (v := .ty "tuple") (by rfl) bi.tuple_ (by decide +kernel) rfl) pa_nil))))) (pw_or (pt_cmpR op_ne (pe_callB cLen (by rfl) bi.len_ (by decide +kernel) (pa_cons (pv 0) pa_nil)) (pe_glob (v := .int 7) (by rfl) g_FRAME_ITEMS ⟨_, rfl⟩) (nomark _)) (pw_or1 (pt_cmpR op_ne (pe_ix ix_tup (pv 0) pe_int (fun _ _ => rfl)) pe_str (nomark _))))))
   (pss_one (ps_ret pe_bl))
   pss_nil)
   (pss_cons (ps_asg (pe_slice sl_tup (pv 0) (po_some pe_int) po_none) (pg_tup rfl (pgs_cons (pg_name (i := 1) sc_is_frame.nd rfl (Or.inl rfl)) (pgs_cons (pg_name (i := 2) sc_is_frame.nd rfl (Or.inl rfl)) pgs_nil))))
   (pss_one (ps_ret (pe_and (pe_call G_is_layout (hr.mono (by first | decide | exact Nat.le_refl _)) (by rfl) D_is_layout.g D_is_layout.F.kp D_is_layout.b .nil pass0 (pa_cons (pe_slice sl_tup (pv 0) (po_some pe_int) (po_some pe_int)) pa_nil)) (pe_and (pe_call G_is_within (hr.mono (by first | decide | exact Nat.le_refl _)) (by rfl) D_is_within.g D_is_within.F.kp D_is_within.b .nil pass0 (pa_cons (pv 1) (pa_cons pe_int (pa_cons (pe_op op_sub (pe_glob (v := .int 9973) (by rfl) g_MARK_MODULUS ⟨_, rfl⟩) pe_int) pa_nil)))) (pe_one (pe_call G_is_bits (hr.mono (by first | decide | exact Nat.le_refl _)) (by rfl) D_is_bits.g D_is_bits.F.kp D_is_bits.b .nil pass0 (pa_cons (pv 2) pa_nil))))))))), ?_⟩
      refine rd_start (σ := [some (.ref a), none, none]) rfl ?_
      walk_at "rd"
      refine if_noN rfl ?_
      walk_at "rd"
      refine if_noN rfl ?_
      walk_at "rd"
      refine rd_slTp (SqT.of h) (ys := [.int (markF ns), .str (SX.S (bitsF d ns T))]) rfl (show ¬ (HT.sIx 7 0 (some 5) = 0 ∧ HT.sIx 7 7 none = 7) by decide) fun p1 hp1 => ?_
      walk_at "rd"
      refine rd_slTp (SqT.of (look_new hp1 h)) (ys := [.int (d.1 : Nat), .ref j, .int (d.2.2.2.1 : Nat), .int (d.2.2.2.2 : Nat)]) rfl (show ¬ (HT.sIx 7 0 (some 1) = 0 ∧ HT.sIx 7 7 (some 5) = 7) by decide) fun p2 hp2 => ?_
      have s2 : Same H (upd (upd H p1 (.tup [.int (markF ns), .str (SX.S (bitsF d ns T))])) p2 (.tup [.int (d.1 : Nat), .ref j, .int (d.2.2.2.1 : Nat), .int (d.2.2.2.2 : Nat)])) := (same_new hp1).trans (same_new hp2)
      walk_at "rd"
      refine use_islay (d := d) ⟨upd_same, s2 _ _ hj⟩ ok.1 ?_
      walk_at "rd"
      rw [decide_eq_true (show (0 : Int) ≤ markF ns ∧ markF ns ≤ 9973 - 1 by omega)]
      walk_at "rd"
      exact use_isb bb bl (q _ s2)
    ) only [↓lt_eq]
theorem ok_is_state {f : Addr} {fd : FuncData} {f_is_tables : Addr} {fd_is_tables : FuncData}    (D : Dn K mg "is_state" s_is_state ["value"] f fd) (bi : Bi mg) (G_is_tables : FnOk P w K mg base CX0 4 f_is_tables fd_is_tables ["value"] (spTblsG K)) (D_is_tables : Dn K mg "is_tables" s_is_tables ["value"] f_is_tables fd_is_tables)     : FnOk P w K mg base CX0 5 f fd ["value"] (spIsSt K) := by
  refine lt_out ?_
  simp (disch := with_unfolding_all
    refine D.F.ok sc_is_state (fun vs H Q E h => ?_) (fun cdv A outer s H vs Q E hr h => ?_)
    · obtain ⟨v, r, rfl, _⟩ := h
      rfl
    · obtain ⟨v, r, rfl, hr1, ok, q⟩ := h
      cases r with
      | st T =>
        obtain ⟨a, t, rfl, h, hT⟩ := hr1
        refine ⟨_, (pss_one (ps_ret (pe_and (pe_callB call_isi (by rfl) bi.isinstance_ (by decide +kernel) (pa_cons (pv 0) (pa_cons (pe_bltn (v := .ty "tuple") (by rfl) bi.tuple_ (by decide +kernel) rfl) pa_nil))) (pe_and (pe_cmpR op_eq (pe_callB cLen (by rfl) bi.len_ (by decide +kernel) (pa_cons (pv 0) pa_nil)) pe_int (nomark _)) (pe_and (pe_cmpR op_eq (pe_ix ix_tup (pv 0) pe_int (fun _ _ => rfl)) pe_str (nomark _)) (pe_one (pe_call G_is_tables (hr.mono (by first | decide | exact Nat.le_refl _)) (by rfl) D_is_tables.g D_is_tables.F.kp D_is_tables.b .nil pass0 (pa_cons (pe_ix ix_tup (pv 0) pe_int (fun _ _ => rfl)) pa_nil)))))))), ?_⟩
        refine rd_start (σ := [some (.ref a)]) rfl ?_
        walk_at "rd"
        refine if_yesD rfl ?_
        walk_at "rd"
        refine if_yesD rfl ?_
        walk_at "rd"
        exact use_tblsG hT ok.1 ok.2 q
      | fr d ns T =>
        obtain ⟨a, j, rfl, h, hj⟩ := hr1
        unfold FrAt at h
        refine ⟨_, (pss_one (ps_ret (pe_and (pe_callB call_isi (by rfl) bi.isinstance_ (by decide +kernel) (pa_cons (pv 0) (pa_cons (pe_bltn (v := .ty "tuple") (by rfl) bi.tuple_ (by decide +kernel) rfl) pa_nil))) (pe_and (pe_cmpR op_eq (pe_callB cLen (by rfl) bi.len_ (by decide +kernel) (pa_cons (pv 0) pa_nil)) pe_int (nomark _)) (pe_and (pe_cmpR op_eq (pe_ix ix_tup (pv 0) pe_int (fun _ _ => rfl)) pe_str (nomark _)) (pe_one (pe_call G_is_tables (hr.mono (by first | decide | exact Nat.le_refl _)) (by rfl) D_is_tables.g D_is_tables.F.kp D_is_tables.b .nil pass0 (pa_cons (pe_ix ix_tup (pv 0) pe_int (fun _ _ => rfl)) pa_nil)))))))), ?_⟩
        refine rd_start (σ := [some (.ref a)]) rfl ?_
        walk_at "rd"
        refine if_noD (fun z => absurd (show (7 : Int) = 2 from V.int.inj z) (by decide)) ?_
        exact q
    ) only [↓lt_eq]
theorem ok_is_record {f : Addr} {fd : FuncData} {f_is_state : Addr} {fd_is_state : FuncData} {f_is_frame : Addr} {fd_is_frame : FuncData}    (D : Dn K mg "is_record" s_is_record ["value"] f fd) (bi : Bi mg) (G_is_state : FnOk P w K mg base CX0 5 f_is_state fd_is_state ["value"] (spIsSt K)) (D_is_state : Dn K mg "is_state" s_is_state ["value"] f_is_state fd_is_state) (G_is_frame : FnOk P w K mg base CX0 5 f_is_frame fd_is_frame ["value"] (spIsFr K)) (D_is_frame : Dn K mg "is_frame" s_is_frame ["value"] f_is_frame fd_is_frame)     : FnOk P w K mg base CX0 6 f fd ["value"] (spIsRc K) := by
  refine lt_out ?_
  simp (disch := with_unfolding_all
    refine D.F.ok sc_is_record (fun vs H Q E h => ?_) (fun cdv A outer s H vs Q E hr h => ?_)
    · obtain ⟨v, r, rfl, _⟩ := h
      rfl
    · obtain ⟨v, r, rfl, hr1, ok, q⟩ := h
      refine ⟨_, (pss_one (ps_ret (pe_or (pe_call G_is_state (hr.mono (by first | decide | exact Nat.le_refl _)) (by rfl) D_is_state.g D_is_state.F.kp D_is_state.b .nil pass0 (pa_cons (pv 0) pa_nil)) (pe_one (pe_call G_is_frame (hr.mono (by first | decide | exact Nat.le_refl _)) (by rfl) D_is_frame.g D_is_frame.F.kp D_is_frame.b .nil pass0 (pa_cons (pv 0) pa_nil)))))), ?_⟩
      refine rd_start (σ := [some v]) rfl ?_
      walk_at "rd"
      refine use_isst hr1 ok ?_
      cases r with
      | st T =>
        walk_at "rd"
        exact q _ (Same.refl _)
      | fr d ns T =>
        refine rd_bl (if_no rfl ?_)
        walk_at "rd"
        exact use_isfr hr1 ok q
    ) only [↓lt_eq]
theorem ok_is_table_A {f : Addr} {fd : FuncData} {f_is_integer : Addr} {fd_is_integer : FuncData} {f_is_within : Addr} {fd_is_within : FuncData}    (D : Dn K mg "is_table" s_is_table ["value"] f fd) (bi : Bi mg) (G_is_integer : FnOk P w K mg base CX0 1 f_is_integer fd_is_integer ["value"] spIsI) (D_is_integer : Dn K mg "is_integer" s_is_integer ["value"] f_is_integer fd_is_integer) (G_is_within : FnOk P w K mg base CX0 2 f_is_within fd_is_within ["value", "low", "high"] spWithin) (D_is_within : Dn K mg "is_within" s_is_within ["value", "low", "high"] f_is_within fd_is_within)    (g_COUNT_LIMIT : ∃ t, mg "COUNT_LIMIT" = some (.int 15 t)) : FnOk P w K mg base CX0 3 f fd ["value"] spTbl := by
  refine lt_out ?_
  simp (disch := with_unfolding_all
    refine D.F.ok sc_is_table (fun vs H Q E h => ?_) (fun cdv A outer s H vs Q E hr h => ?_)
    · obtain ⟨x, b, rfl, _⟩ := h
      rfl
    · obtain ⟨x, b, rfl, hj, q⟩ := h
      obtain ⟨t1, g_COUNT_LIMIT⟩ := g_COUNT_LIMIT
      refine ⟨_, (pss_cons (ps_if (PW.pt (pw_or (pt_not (pt_val (pe_callB call_isi (by rfl) bi.isinstance_ (by decide +kernel) (pa_cons (pv 0) (pa_cons (pe_bltn (v := .ty "tuple") (by rfl) bi.tuple_ (by decide +kernel) rfl) pa_nil))))) (pw_or1 (pt_cmpR op_ne (pe_callB cLen (by rfl) bi.len_ (by decide +kernel) (pa_cons (pv 0) pa_nil)) pe_int (nomark _)))))
   (pss_one (ps_ret pe_bl))
   pss_nil)
   (pss_cons (ps_asg (pv 0) (pg_tup rfl (pgs_cons (pg_name (i := 1) sc_is_table.nd rfl (Or.inl rfl)) (pgs_cons (pg_name (i := 2) sc_is_table.nd rfl (Or.inl rfl)) pgs_nil))))
   (pss_one (ps_ret (pe_and (pe_call G_is_integer (hr.mono (by first | decide | exact Nat.le_refl _)) (by rfl) D_is_integer.g D_is_integer.F.kp D_is_integer.b .nil pass0 (pa_cons (pv 1) pa_nil)) (pe_and (pe_cmpR op_ge (pv 1) pe_int (nomark _)) (pe_one (pe_call G_is_within (hr.mono (by first | decide | exact Nat.le_refl _)) (by rfl) D_is_within.g D_is_within.F.kp D_is_within.b .nil pass0 (pa_cons (pv 2) (pa_cons pe_int (pa_cons (pe_glob (v := .int 15) (by rfl) g_COUNT_LIMIT ⟨_, rfl⟩) pa_nil))))))))))), ?_⟩
      refine rd_start (σ := [some x, none, none]) rfl ?_
      cases hj with
      | @flat _ h =>
        cases x with
        | non => walk_at "rd"; exact q
        | bl _ => walk_at "rd"; exact q
        | int _ => walk_at "rd"; exact q
        | str _ => walk_at "rd"; exact q
        | ref _ => exact Bool.noConfusion h
        | byt _ => exact Bool.noConfusion h
        | flt _ => exact Bool.noConfusion h
        | ty _ => exact Bool.noConfusion h
      | @lst a xs h => walk_at "rd"; exact q
      | @tupn a xs h n =>
        walk_at "rd"
        refine if_yesN (fun z => n (Int.ofNat.inj (V.int.inj z))) ?_
        walk_at "rd"
        exact q
      | @tup2 a u v h hu hv =>
        walk_at "rd"
        refine if_noN rfl ?_
        walk_at "rd"
        refine use_isi hu ?_
        walk_at "rd"
        cases cu : isI u with
        | false =>
          rw [tt_no1 cu] at q
          walk_at "rd"
          exact q
        | true =>
          obtain ⟨w1, rfl⟩ := isI_yes cu
          rw [tt_int] at q
          walk_at "rd"
          refine rd_iteD (fun c => ?_) (fun c => ?_)
          · rw [decide_eq_true c, Bool.true_and] at q
            walk_at "rd"
            refine use_within hv ?_
            exact q
          · rw [decide_eq_false c, Bool.false_and] at q
            exact q
    ) only [↓lt_eq]
theorem ok_is_tables_A {f : Addr} {fd : FuncData} {f_is_table : Addr} {fd_is_table : FuncData}    (D : Dn K mg "is_tables" s_is_tables ["value"] f fd) (bi : Bi mg) (G_is_table : FnOk P w K mg base CX0 3 f_is_table fd_is_table ["value"] (spTblG K)) (D_is_table : Dn K mg "is_table" s_is_table ["value"] f_is_table fd_is_table) (G_is_table_A : FnOk P w K mg base CX0 3 f_is_table fd_is_table ["value"] spTbl)    : FnOk P w K mg base CX0 4 f fd ["value"] spTbls := by
  refine lt_out ?_
  simp (disch := with_unfolding_all
    refine D.F.ok sc_is_tables (fun vs H Q E h => ?_) (fun cdv A outer s H vs Q E hr h => ?_)
    · obtain ⟨x, b, rfl, _⟩ := h
      rfl
    · obtain ⟨x, b, rfl, hj, q⟩ := h
      refine ⟨_, (pss_one (ps_ret (pe_and (pe_callB call_isi (by rfl) bi.isinstance_ (by decide +kernel) (pa_cons (pv 0) (pa_cons (pe_bltn (v := .ty "tuple") (by rfl) bi.tuple_ (by decide +kernel) rfl) pa_nil))) (pe_and (pe_cmpR op_eq (pe_callB cLen (by rfl) bi.len_ (by decide +kernel) (pa_cons (pv 0) pa_nil)) pe_int (nomark _)) (pe_and (pe_call G_is_table_A (hr.mono (by first | decide | exact Nat.le_refl _)) (by rfl) D_is_table.g D_is_table.F.kp D_is_table.b .nil pass0 (pa_cons (pe_ix ix_tup (pv 0) pe_int (fun _ _ => rfl)) pa_nil)) (pe_one (pe_call G_is_table_A (hr.mono (by first | decide | exact Nat.le_refl _)) (by rfl) D_is_table.g D_is_table.F.kp D_is_table.b .nil pass0 (pa_cons (pe_ix ix_tup (pv 0) pe_int (fun _ _ => rfl)) pa_nil)))))))), ?_⟩
      refine rd_start (σ := [some x]) rfl ?_
      cases hj with
      | @flat _ h =>
        cases x with
        | non => walk_at "rd"; exact q
        | bl _ => walk_at "rd"; exact q
        | int _ => walk_at "rd"; exact q
        | str _ => walk_at "rd"; exact q
        | ref _ => exact Bool.noConfusion h
        | byt _ => exact Bool.noConfusion h
        | flt _ => exact Bool.noConfusion h
        | ty _ => exact Bool.noConfusion h
      | @lst a xs h => walk_at "rd"; exact q
      | @tupn a xs h n =>
        walk_at "rd"
        refine if_noD (fun z => n (Int.ofNat.inj (V.int.inj z))) ?_
        exact q
      | @tup2 a u v b1 b2 h hu hv =>
        walk_at "rd"
        refine if_yesD rfl ?_
        walk_at "rd"
        refine use_tbl hu ?_
        refine and_cut (b2 := b2) (fun hq => ?_) q
        walk_at "rd"
        exact use_tbl hv hq
    ) only [↓lt_eq]
theorem ok_is_bits_A {f : Addr} {fd : FuncData}     (D : Dn K mg "is_bits" s_is_bits ["value"] f fd) (bi : Bi mg)      : FnOk P w K mg base CX0 1 f fd ["value"] spBit := by
  refine lt_out ?_
  simp (disch := with_unfolding_all
    refine D.F.ok sc_is_bits (fun vs H Q E h => ?_) (fun cdv A outer s H vs Q E hr h => ?_)
    · obtain ⟨x, b, rfl, _⟩ := h
      rfl
    · obtain ⟨x, b, rfl, hj, q⟩ := h
      refine ⟨_, (pss_one (ps_ret (pe_and (pe_callB call_isi (by rfl) bi.isinstance_ (by decide +kernel) (pa_cons (pv 0) (pa_cons (pe_bltn (v := .ty "str") (by rfl) bi.str_ (by decide +kernel) rfl) pa_nil))) (pe_one (pe_cmpR op_eq (pe_bm PySem.F.plainAttrs_str PySem.F.slot_str_strip PySem.F.type_str_strip mt_stripK (pv 0) (pa_cons pe_str pa_nil)) pe_str (nomark _)))))), ?_⟩
      refine rd_start (σ := [some x]) rfl ?_
      cases hj with
      | @str z h =>
        walk_at "rd"
        refine ⟨z, Str.ofString "01", rfl, rfl, Nat.le_trans h (by decide), ?_⟩
        rw [e_01]
        walk_at "rd"
        exact q
      | non => walk_at "rd"; exact q
      | int => walk_at "rd"; exact q
      | @lst a xs h => walk_at "rd"; exact q
    ) only [↓lt_eq]
theorem ok_is_layout_A {f : Addr} {fd : FuncData} {f_is_within : Addr} {fd_is_within : FuncData} {f_is_joint : Addr} {fd_is_joint : FuncData}    (D : Dn K mg "is_layout" s_is_layout ["value"] f fd) (bi : Bi mg) (G_is_within : FnOk P w K mg base CX0 2 f_is_within fd_is_within ["value", "low", "high"] spWithin) (D_is_within : Dn K mg "is_within" s_is_within ["value", "low", "high"] f_is_within fd_is_within) (G_is_joint : FnOk P w K mg base CX0 3 f_is_joint fd_is_joint ["value"] spJ) (D_is_joint : Dn K mg "is_joint" s_is_joint ["value"] f_is_joint fd_is_joint)    (g_BLOCK_LIMIT : ∃ t, mg "BLOCK_LIMIT" = some (.int 64 t)) (g_LEVEL_LIMIT : ∃ t, mg "LEVEL_LIMIT" = some (.int 5 t)) (g_STEP_LIMIT : ∃ t, mg "STEP_LIMIT" = some (.int 64 t)) : FnOk P w K mg base CX0 4 f fd ["value"] spLay := by
  refine lt_out ?_
  simp (disch := with_unfolding_all
    refine D.F.ok sc_is_layout (fun vs H Q E h => ?_) (fun cdv A outer s H vs Q E hr h => ?_)
    · obtain ⟨a, ln, jt, lv, st, b, rfl, _⟩ := h
      rfl
    · obtain ⟨a, ln, jt, lv, st, b, rfl, h, hl, hj, h3, h4, q⟩ := h
      obtain ⟨t1, g_BLOCK_LIMIT⟩ := g_BLOCK_LIMIT
      obtain ⟨t2, g_LEVEL_LIMIT⟩ := g_LEVEL_LIMIT
      obtain ⟨t3, g_STEP_LIMIT⟩ := g_STEP_LIMIT
      refine ⟨_, (pss_cons (ps_if (PW.pt (pw_or (pt_not (pt_val (pe_callB call_isi (by rfl) bi.isinstance_ (by decide +kernel) (pa_cons (pv 0) (pa_cons (pe_bltn (v := .ty "tuple") (by rfl) bi.tuple_ (by decide +kernel) rfl) pa_nil))))) (pw_or1 (pt_cmpR op_ne (pe_callB cLen (by rfl) bi.len_ (by decide +kernel) (pa_cons (pv 0) pa_nil)) pe_int (nomark _)))))
   (pss_one (ps_ret pe_bl))
   pss_nil)
   (pss_cons (ps_asg (pv 0) (pg_tup rfl (pgs_cons (pg_name (i := 1) sc_is_layout.nd rfl (Or.inl rfl)) (pgs_cons (pg_name (i := 2) sc_is_layout.nd rfl (Or.inl rfl)) (pgs_cons (pg_name (i := 3) sc_is_layout.nd rfl (Or.inl rfl)) (pgs_cons (pg_name (i := 4) sc_is_layout.nd rfl (Or.inl rfl)) pgs_nil))))))
   (pss_cons (ps_if (PW.pt (pw_or (pt_not (pt_val (pe_call G_is_within (hr.mono (by first | decide | exact Nat.le_refl _)) (by rfl) D_is_within.g D_is_within.F.kp D_is_within.b .nil pass0 (pa_cons (pv 1) (pa_cons pe_int (pa_cons (pe_glob (v := .int 64) (by rfl) g_BLOCK_LIMIT ⟨_, rfl⟩) pa_nil)))))) (pw_or1 (pt_not (pt_val (pe_call G_is_joint (hr.mono (by first | decide | exact Nat.le_refl _)) (by rfl) D_is_joint.g D_is_joint.F.kp D_is_joint.b .nil pass0 (pa_cons (pv 2) pa_nil)))))))
   (pss_one (ps_ret pe_bl))
   pss_nil)
   (pss_one (ps_ret (pe_and (pe_call G_is_within (hr.mono (by first | decide | exact Nat.le_refl _)) (by rfl) D_is_within.g D_is_within.F.kp D_is_within.b .nil pass0 (pa_cons (pv 3) (pa_cons pe_int (pa_cons (pe_glob (v := .int 5) (by rfl) g_LEVEL_LIMIT ⟨_, rfl⟩) pa_nil)))) (pe_one (pe_call G_is_within (hr.mono (by first | decide | exact Nat.le_refl _)) (by rfl) D_is_within.g D_is_within.F.kp D_is_within.b .nil pass0 (pa_cons (pv 4) (pa_cons pe_int (pa_cons (pe_glob (v := .int 64) (by rfl) g_STEP_LIMIT ⟨_, rfl⟩) pa_nil))))))))))), ?_⟩
      refine rd_start (σ := [some (.ref a), none, none, none, none]) rfl ?_
      walk_at "rd"
      refine if_noN rfl ?_
      walk_at "rd"
      refine use_within hl (rd_bl ?_)
      unfold layB at q
      cases c1 : inI ln 1 64 with
      | false =>
        rw [c1, Bool.false_and, Bool.false_and] at q
        walk_at "rd"
        exact q
      | true =>
        rw [c1, Bool.true_and] at q
        walk_at "rd"
        refine use_j hj (rd_bl ?_)
        cases b with
        | false =>
          walk_at "rd"
          exact q
        | true =>
          walk_at "rd"
          refine use_within h3 ?_
          refine and_cut (b2 := inI st 1 64) (fun hq => ?_) q
          walk_at "rd"
          exact use_within h4 hq
    ) only [↓lt_eq]
theorem ok_is_state_A {f : Addr} {fd : FuncData} {f_is_tables : Addr} {fd_is_tables : FuncData}    (D : Dn K mg "is_state" s_is_state ["value"] f fd) (bi : Bi mg) (G_is_tables : FnOk P w K mg base CX0 4 f_is_tables fd_is_tables ["value"] (spTblsG K)) (D_is_tables : Dn K mg "is_tables" s_is_tables ["value"] f_is_tables fd_is_tables) (G_is_tables_A : FnOk P w K mg base CX0 4 f_is_tables fd_is_tables ["value"] spTbls)    : FnOk P w K mg base CX0 5 f fd ["value"] spSt := by
  refine lt_out ?_
  simp (disch := with_unfolding_all
    refine D.F.ok sc_is_state (fun vs H Q E h => ?_) (fun cdv A outer s H vs Q E hr h => ?_)
    · obtain ⟨x, b, rfl, _⟩ := h
      rfl
    · obtain ⟨x, b, rfl, hj, q⟩ := h
      refine ⟨_, (pss_one (ps_ret (pe_and (pe_callB call_isi (by rfl) bi.isinstance_ (by decide +kernel) (pa_cons (pv 0) (pa_cons (pe_bltn (v := .ty "tuple") (by rfl) bi.tuple_ (by decide +kernel) rfl) pa_nil))) (pe_and (pe_cmpR op_eq (pe_callB cLen (by rfl) bi.len_ (by decide +kernel) (pa_cons (pv 0) pa_nil)) pe_int (nomark _)) (pe_and (pe_cmpR op_eq (pe_ix ix_tup (pv 0) pe_int (fun _ _ => rfl)) pe_str (nomark _)) (pe_one (pe_call G_is_tables_A (hr.mono (by first | decide | exact Nat.le_refl _)) (by rfl) D_is_tables.g D_is_tables.F.kp D_is_tables.b .nil pass0 (pa_cons (pe_ix ix_tup (pv 0) pe_int (fun _ _ => rfl)) pa_nil)))))))), ?_⟩
      refine rd_start (σ := [some x]) rfl ?_
      cases hj with
      | @flat _ h =>
        cases x with
        | non => walk_at "rd"; exact q
        | bl _ => walk_at "rd"; exact q
        | int _ => walk_at "rd"; exact q
        | str _ => walk_at "rd"; exact q
        | ref _ => exact Bool.noConfusion h
        | byt _ => exact Bool.noConfusion h
        | flt _ => exact Bool.noConfusion h
        | ty _ => exact Bool.noConfusion h
      | @lst a xs h => walk_at "rd"; exact q
      | @tupn a xs h n =>
        walk_at "rd"
        refine if_noD (fun z => n (Int.ofNat.inj (V.int.inj z))) ?_
        exact q
      | @st a s v b h hv =>
        walk_at "rd"
        refine if_yesD rfl ?_
        walk_at "rd"
        refine rd_iteD (fun d => ?_) (fun d => ?_)
        · rw [decide_eq_true d, Bool.true_and] at q
          walk_at "rd"
          exact use_tbls hv q
        · rw [decide_eq_false d, Bool.false_and] at q
          exact q
    ) only [↓lt_eq]
theorem ok_is_frame_A {f : Addr} {fd : FuncData} {f_is_layout : Addr} {fd_is_layout : FuncData} {f_is_within : Addr} {fd_is_within : FuncData} {f_is_bits : Addr} {fd_is_bits : FuncData}    (D : Dn K mg "is_frame" s_is_frame ["value"] f fd) (bi : Bi mg) (G_is_layout : FnOk P w K mg base CX0 4 f_is_layout fd_is_layout ["value"] spIsLay) (D_is_layout : Dn K mg "is_layout" s_is_layout ["value"] f_is_layout fd_is_layout) (G_is_within : FnOk P w K mg base CX0 2 f_is_within fd_is_within ["value", "low", "high"] spWithin) (D_is_within : Dn K mg "is_within" s_is_within ["value", "low", "high"] f_is_within fd_is_within) (G_is_bits : FnOk P w K mg base CX0 1 f_is_bits fd_is_bits ["value"] spIsB) (D_is_bits : Dn K mg "is_bits" s_is_bits ["value"] f_is_bits fd_is_bits) (G_is_layout_A : FnOk P w K mg base CX0 4 f_is_layout fd_is_layout ["value"] spLay) (G_is_bits_A : FnOk P w K mg base CX0 1 f_is_bits fd_is_bits ["value"] spBit)   (g_FRAME_ITEMS : ∃ t, mg "FRAME_ITEMS" = some (.int 7 t)) (g_MARK_MODULUS : ∃ t, mg "MARK_MODULUS" = some (.int 9973 t)) : FnOk P w K mg base CX0 5 f fd ["value"] spFr := by
  refine lt_out ?_
  simp (disch := with_unfolding_all
    refine D.F.ok sc_is_frame (fun vs H Q E h => ?_) (fun cdv A outer s H vs Q E hr h => ?_)
    · obtain ⟨x, b, rfl, _⟩ := h
      rfl
    · obtain ⟨x, b, rfl, hj, q⟩ := h
      obtain ⟨t1, g_FRAME_ITEMS⟩ := g_FRAME_ITEMS
      obtain ⟨t2, g_MARK_MODULUS⟩ := g_MARK_MODULUS
      refine ⟨_, (pss_cons (ps_if (PW.pt (pw_or (pt_not (pt_val (pe_callB call_isi (by rfl) bi.isinstance_ (by decide +kernel) (pa_cons (pv 0) (pa_cons (pe_bltn (v := .ty "tuple") (by rfl) bi.tuple_ (by decide +kernel) rfl) pa_nil))))) (pw_or (pt_cmpR op_ne (pe_callB cLen (by rfl) bi.len_ (by decide +kernel) (pa_cons (pv 0) pa_nil)) (pe_glob (v := .int 7) (by rfl) g_FRAME_ITEMS ⟨_, rfl⟩) (nomark _)) (pw_or1 (pt_cmpR op_ne (pe_ix ix_tup (pv 0) pe_int (fun _ _ => rfl)) pe_str (nomark _))))))
   (pss_one (ps_ret pe_bl))
   pss_nil)
   (pss_cons (ps_asg (pe_slice sl_tup (pv 0) (po_some pe_int) po_none) (pg_tup rfl (pgs_cons (pg_name (i := 1) sc_is_frame.nd rfl (Or.inl rfl)) (pgs_cons (pg_name (i := 2) sc_is_frame.nd rfl (Or.inl rfl)) pgs_nil))))
   (pss_one (ps_ret (pe_and (pe_call G_is_layout_A (hr.mono (by first | decide | exact Nat.le_refl _)) (by rfl) D_is_layout.g D_is_layout.F.kp D_is_layout.b .nil pass0 (pa_cons (pe_slice sl_tup (pv 0) (po_some pe_int) (po_some pe_int)) pa_nil)) (pe_and (pe_call G_is_within (hr.mono (by first | decide | exact Nat.le_refl _)) (by rfl) D_is_within.g D_is_within.F.kp D_is_within.b .nil pass0 (pa_cons (pv 1) (pa_cons pe_int (pa_cons (pe_op op_sub (pe_glob (v := .int 9973) (by rfl) g_MARK_MODULUS ⟨_, rfl⟩) pe_int) pa_nil)))) (pe_one (pe_call G_is_bits_A (hr.mono (by first | decide | exact Nat.le_refl _)) (by rfl) D_is_bits.g D_is_bits.F.kp D_is_bits.b .nil pass0 (pa_cons (pv 2) pa_nil))))))))), ?_⟩
      refine rd_start (σ := [some x, none, none]) rfl ?_
      cases hj with
      | @flat _ h =>
        cases x with
        | non => walk_at "rd"; exact q _ (Same.refl _)
        | bl _ => walk_at "rd"; exact q _ (Same.refl _)
        | int _ => walk_at "rd"; exact q _ (Same.refl _)
        | str _ => walk_at "rd"; exact q _ (Same.refl _)
        | ref _ => exact Bool.noConfusion h
        | byt _ => exact Bool.noConfusion h
        | flt _ => exact Bool.noConfusion h
        | ty _ => exact Bool.noConfusion h
      | @lst a xs h => walk_at "rd"; exact q _ (Same.refl _)
      | @tupn a xs h n =>
        walk_at "rd"
        refine if_yesN (fun z => n (Int.ofNat.inj (V.int.inj z))) ?_
        walk_at "rd"
        exact q _ (Same.refl _)
      | @fr a v0 ln jt lv st mk bt b c h h0 hl hj h3 h4 h5 hb =>
        walk_at "rd"
        refine if_noN rfl ?_
        walk_at "rd"
        refine rd_ne (scal_str h0) ?_
        walk_at "rd"
        unfold frB at q
        refine rd_iteN (fun d => ?_) (fun d => ?_)
        · rw [decide_eq_false d, Bool.false_and] at q
          walk_at "rd"
          exact q _ (Same.refl _)
        · rw [decide_eq_true d, Bool.true_and] at q
          walk_at "rd"
          refine rd_slTp (SqT.of h) (ys := [mk, bt]) rfl (show ¬ (HT.sIx 7 0 (some 5) = 0 ∧ HT.sIx 7 7 none = 7) by decide) fun p1 hp1 => ?_
          walk_at "rd"
          refine rd_slTp (SqT.of (look_new hp1 h)) (ys := [ln, jt, lv, st]) rfl (show ¬ (HT.sIx 7 0 (some 1) = 0 ∧ HT.sIx 7 7 (some 5) = 7) by decide) fun p2 hp2 => ?_
          have s2 : Same H (upd (upd H p1 (.tup [mk, bt])) p2 (.tup [ln, jt, lv, st])) := (same_new hp1).trans (same_new hp2)
          walk_at "rd"
          refine use_lay upd_same (tyv_same s2 hl) (hj.same s2) (tyv_same s2 h3) (tyv_same s2 h4) ?_
          have q2 := q _ s2
          refine and_cut (b2 := (inI mk 0 9972 && c)) (fun hq => ?_) q2
          walk_at "rd"
          refine use_within (tyv_same s2 h5) ?_
          refine and_cut (b2 := c) (fun hq => ?_) hq
          walk_at "rd"
          exact use_bit (hb.same s2) hq
    ) only [↓lt_eq]
theorem ok_is_record_A {f : Addr} {fd : FuncData} {f_is_state : Addr} {fd_is_state : FuncData} {f_is_frame : Addr} {fd_is_frame : FuncData}    (D : Dn K mg "is_record" s_is_record ["value"] f fd) (bi : Bi mg) (G_is_state : FnOk P w K mg base CX0 5 f_is_state fd_is_state ["value"] (spIsSt K)) (D_is_state : Dn K mg "is_state" s_is_state ["value"] f_is_state fd_is_state) (G_is_frame : FnOk P w K mg base CX0 5 f_is_frame fd_is_frame ["value"] (spIsFr K)) (D_is_frame : Dn K mg "is_frame" s_is_frame ["value"] f_is_frame fd_is_frame) (G_is_state_A : FnOk P w K mg base CX0 5 f_is_state fd_is_state ["value"] spSt) (G_is_frame_A : FnOk P w K mg base CX0 5 f_is_frame fd_is_frame ["value"] spFr)    : FnOk P w K mg base CX0 6 f fd ["value"] spRec := by
  refine lt_out ?_
  simp (disch := with_unfolding_all
    refine D.F.ok sc_is_record (fun vs H Q E h => ?_) (fun cdv A outer s H vs Q E hr h => ?_)
    · obtain ⟨x, b, rfl, _⟩ := h
      rfl
    · obtain ⟨x, b, rfl, hj, q⟩ := h
      refine ⟨_, (pss_one (ps_ret (pe_or (pe_call G_is_state_A (hr.mono (by first | decide | exact Nat.le_refl _)) (by rfl) D_is_state.g D_is_state.F.kp D_is_state.b .nil pass0 (pa_cons (pv 0) pa_nil)) (pe_one (pe_call G_is_frame_A (hr.mono (by first | decide | exact Nat.le_refl _)) (by rfl) D_is_frame.g D_is_frame.F.kp D_is_frame.b .nil pass0 (pa_cons (pv 0) pa_nil)))))), ?_⟩
      refine rd_start (σ := [some x]) rfl ?_
      walk_at "rd"
      cases hj with
      | flat h =>
        refine use_st (.flat h) ?_
        walk_at "rd"
        exact use_fr (.flat h) q
      | lst h =>
        refine use_st (.lst h) ?_
        walk_at "rd"
        exact use_fr (.lst h) q
      | tupn h n m =>
        refine use_st (.tupn h n) ?_
        walk_at "rd"
        exact use_fr (.tupn h m) q
      | @st a s v b h hv =>
        refine use_st (.st h hv) ?_
        cases hb : (decide (V.str s = V.str (Str.ofString "state")) && b) with
        | true =>
          rw [hb] at q
          walk_at "rd"
          exact q _ (Same.refl _)
        | false =>
          rw [hb] at q
          walk_at "rd"
          exact use_fr (.tupn h (by simp)) q
      | fr h h0 hl hj h3 h4 h5 hb =>
        refine use_st (.tupn h (by simp)) ?_
        walk_at "rd"
        exact use_fr (.fr h h0 hl hj h3 h4 h5 hb) q
    ) only [↓lt_eq]
theorem ok_check_within {f : Addr} {fd : FuncData} {f_is_within : Addr} {fd_is_within : FuncData}    (D : Dn K mg "check_within" s_check_within ["value", "low", "high"] f fd) (bi : Bi mg) (G_is_within : FnOk P w K mg base CX0 2 f_is_within fd_is_within ["value", "low", "high"] spWithin) (D_is_within : Dn K mg "is_within" s_is_within ["value", "low", "high"] f_is_within fd_is_within)     : FnOk P w K mg base CX0 3 f fd ["value", "low", "high"] spCkW := by
  refine lt_out ?_
  simp (disch := with_unfolding_all
    refine D.F.ok sc_check_within (fun vs H Q E h => ?_) (fun cdv A outer s H vs Q E hr h => ?_)
    · obtain ⟨i, lo, hi, rfl, _⟩ := h
      rfl
    · obtain ⟨i, lo, hi, rfl, h1, h2, q⟩ := h
      refine ⟨_, (pss_one (ps_if (pt_not (pt_val (pe_call G_is_within (hr.mono (by first | decide | exact Nat.le_refl _)) (by rfl) D_is_within.g D_is_within.F.kp D_is_within.b .nil pass0 (pa_cons (pv 0) (pa_cons (pv 1) (pa_cons (pv 2) pa_nil))))))
   (pss_one ps_never)
   pss_nil)), ?_⟩
      refine rd_start (σ := [some (.int i), some (.int lo), some (.int hi)]) rfl ?_
      walk_at "rd"
      refine rd_iteN (p := lo ≤ i ∧ i ≤ hi) (fun c => (c ⟨h1, h2⟩).elim) (fun c => ?_)
      exact q
    ) only [↓lt_eq]
theorem ok_check_integer {f : Addr} {fd : FuncData} {f_is_integer : Addr} {fd_is_integer : FuncData}    (D : Dn K mg "check_integer" s_check_integer ["value"] f fd) (bi : Bi mg) (G_is_integer : FnOk P w K mg base CX0 1 f_is_integer fd_is_integer ["value"] spIsI) (D_is_integer : Dn K mg "is_integer" s_is_integer ["value"] f_is_integer fd_is_integer)     : FnOk P w K mg base CX0 2 f fd ["value"] spCkI := by
  refine lt_out ?_
  simp (disch := with_unfolding_all
    refine D.F.ok sc_check_integer (fun vs H Q E h => ?_) (fun cdv A outer s H vs Q E hr h => ?_)
    · obtain ⟨i, rfl, _⟩ := h
      rfl
    · obtain ⟨i, rfl, q⟩ := h
      refine ⟨_, (pss_one (ps_if (pt_not (pt_val (pe_call G_is_integer (hr.mono (by first | decide | exact Nat.le_refl _)) (by rfl) D_is_integer.g D_is_integer.F.kp D_is_integer.b .nil pass0 (pa_cons (pv 0) pa_nil))))
   (pss_one ps_never)
   pss_nil)), ?_⟩
      refine rd_start (σ := [some (.int i)]) rfl ?_
      walk_at "rd"
      exact q
    ) only [↓lt_eq]
theorem ok_check_items {f : Addr} {fd : FuncData} {f_is_integer : Addr} {fd_is_integer : FuncData}    (D : Dn K mg "check_items" s_check_items ["values"] f fd) (bi : Bi mg) (G_is_integer : FnOk P w K mg base CX0 1 f_is_integer fd_is_integer ["value"] spIsI) (D_is_integer : Dn K mg "is_integer" s_is_integer ["value"] f_is_integer fd_is_integer)     : FnOk P w K mg base CX0 2 f fd ["values"] (spItems K) := by
  refine lt_out ?_
  simp (disch := with_unfolding_all
    refine D.F.ok sc_check_items (fun vs H Q E h => ?_) (fun cdv A outer s H vs Q E hr h => ?_)
    · obtain ⟨a, ns, rfl, _⟩ := h
      rfl
    · obtain ⟨a, ns, rfl, hS, q⟩ := h
      refine ⟨_, (pss_one (ps_for PassesOwn.never rfl (pi_enum (by rfl) bi.enumerate_ (pa_cons (pv 0) pa_nil)) (pg_tup rfl (pgs_cons (pg_name (i := 1) sc_check_items.nd rfl (Or.inl rfl)) (pgs_cons (pg_name (i := 2) sc_check_items.nd rfl (Or.inl rfl)) pgs_nil)))
   (pss_one (ps_if (pt_not (pt_val (pe_call G_is_integer (hr.mono (by first | decide | exact Nat.le_refl _)) (by rfl) D_is_integer.g D_is_integer.F.kp D_is_integer.b .nil pass0 (pa_cons (pv 2) pa_nil))))
   (pss_one ps_never)
   pss_nil)))), ?_⟩
      refine rd_start (σ := [some (.ref a), none, none]) rfl ?_
      walk_at "rd"
      refine rd_lpE hS ?_
      refine for_enum (xs := ns.map V.int) (fun i σ H' => ∃ t u, σ = [some (.ref a), t, u] ∧ Same H H') ⟨none, none, rfl, Same.refl _⟩ (fun i σ H1 _ hI => ?_) (fun i v σ H1 T hv hI hT => ?_) (fun σ H1 hI => ?_)
      · obtain ⟨t, u, rfl, hs⟩ := hI
        exact hs.seq hS
      · obtain ⟨t, u, rfl, hs⟩ := hI
        obtain ⟨z, rfl⟩ : ∃ z, v = .int z := by
          rw [List.getElem?_map] at hv
          cases g : ns[i]? with
          | none => rw [g] at hv; cases hv
          | some z => rw [g] at hv; exact ⟨z, (Option.some.inj hv).symm⟩
        walk_at "rd"
        exact ⟨_, _, rfl, hs.trans (same_new hT)⟩
      · obtain ⟨t, u, rfl, hs⟩ := hI
        walk_at "rd"
        exact q _ hs
    ) only [↓lt_eq]
theorem ok_check_block {f : Addr} {fd : FuncData} {f_check_items : Addr} {fd_check_items : FuncData}    (D : Dn K mg "check_block" s_check_block ["values", "least"] f fd) (bi : Bi mg) (G_check_items : FnOk P w K mg base CX0 2 f_check_items fd_check_items ["values"] (spItems K)) (D_check_items : Dn K mg "check_items" s_check_items ["values"] f_check_items fd_check_items)    (g_BLOCK_LIMIT : ∃ t, mg "BLOCK_LIMIT" = some (.int 64 t)) : FnOk P w K mg base CX0 3 f fd ["values", "least"] spBlock := by
  refine lt_out ?_
  simp (disch := with_unfolding_all
    refine D.F.ok sc_check_block (fun vs H Q E h => ?_) (fun cdv A outer s H vs Q E hr h => ?_)
    · obtain ⟨a, ns, least, rfl, _⟩ := h
      rfl
    · obtain ⟨a, ns, least, rfl, hS, h1, h2, q⟩ := h
      obtain ⟨t64, g_BLOCK_LIMIT⟩ := g_BLOCK_LIMIT
      refine ⟨_, (pss_cons (ps_if (PW.pt (pw_or (pt_not (pt_val (pe_callB call_isi (by rfl) bi.isinstance_ (by decide +kernel) (pa_cons (pv 0) (pa_cons (pe_bltn (v := .ty "list") (by rfl) bi.list_ (by decide +kernel) rfl) pa_nil))))) (pw_or1 (pt_not (pt_chain op_le op_le (pv 1) (pe_callB cLen (by rfl) bi.len_ (by decide +kernel) (pa_cons (pv 0) pa_nil)) (pe_glob (v := .int 64) (by rfl) g_BLOCK_LIMIT ⟨_, rfl⟩))))))
   (pss_one ps_never)
   pss_nil)
   (pss_one (ps_expr (pe_call G_check_items (hr.mono (by first | decide | exact Nat.le_refl _)) (by rfl) D_check_items.g D_check_items.F.kp D_check_items.b .nil pass0 (pa_cons (pv 0) pa_nil))))), ?_⟩
      refine rd_start (σ := [some (.ref a), some (.int least)]) rfl ?_
      walk_at "rd"
      refine if_yesD (by rw [List.length_map]; exact h1) ?_
      walk_at "rd"
      refine if_noN (by rw [List.length_map]; omega) ?_
      walk_at "rd"
      exact q _ (by assumption)
    ) only [↓lt_eq]
theorem ok_coarse_count {f : Addr} {fd : FuncData} {f_check_within : Addr} {fd_check_within : FuncData}    (D : Dn K mg "coarse_count" s_coarse_count ["length", "levels"] f fd) (bi : Bi mg) (G_check_within : FnOk P w K mg base CX0 3 f_check_within fd_check_within ["value", "low", "high"] spCkW) (D_check_within : Dn K mg "check_within" s_check_within ["value", "low", "high"] f_check_within fd_check_within)    (g_BLOCK_LIMIT : ∃ t, mg "BLOCK_LIMIT" = some (.int 64 t)) (g_LEVEL_LIMIT : ∃ t, mg "LEVEL_LIMIT" = some (.int 5 t)) : FnOk P w K mg base CX0 4 f fd ["length", "levels"] spCoarse := by
  refine lt_out ?_
  simp (disch := with_unfolding_all
    refine D.F.ok sc_coarse_count (fun vs H Q E h => ?_) (fun cdv A outer s H vs Q E hr h => ?_)
    · obtain ⟨n, k, rfl, _⟩ := h
      rfl
    · obtain ⟨n, k, rfl, h1, h2, h3, q⟩ := h
      obtain ⟨t1, g_BLOCK_LIMIT⟩ := g_BLOCK_LIMIT
      obtain ⟨t2, g_LEVEL_LIMIT⟩ := g_LEVEL_LIMIT
      refine ⟨_, (pss_cons (ps_expr (pe_call G_check_within (hr.mono (by first | decide | exact Nat.le_refl _)) (by rfl) D_check_within.g D_check_within.F.kp D_check_within.b .nil pass0 (pa_cons (pv 0) (pa_cons pe_int (pa_cons (pe_glob (v := .int 64) (by rfl) g_BLOCK_LIMIT ⟨_, rfl⟩) pa_nil)))))
   (pss_cons (ps_expr (pe_call G_check_within (hr.mono (by first | decide | exact Nat.le_refl _)) (by rfl) D_check_within.g D_check_within.F.kp D_check_within.b .nil pass0 (pa_cons (pv 1) (pa_cons pe_int (pa_cons (pe_glob (v := .int 5) (by rfl) g_LEVEL_LIMIT ⟨_, rfl⟩) pa_nil)))))
   (pss_cons (ps_set (i := 2) sc_coarse_count.nd rfl (Or.inl rfl) (pv 0))
   (pss_cons (ps_for PassesOwn.never rfl (pi_range1 (by rfl) bi.range_ (pa_cons (pv 1) pa_nil)) (pg_name (i := 3) sc_coarse_count.nd rfl (Or.inl rfl))
   (pss_one (ps_set (i := 2) sc_coarse_count.nd rfl (Or.inl rfl) (pe_op op_fdiv (pe_op op_add (pv 2) pe_int) pe_int))))
   (pss_one (ps_ret (pv 2))))))), ?_⟩
      refine rd_start (σ := [some (.int (n : Int)), some (.int (k : Int)), none, none]) rfl ?_
      walk_at "rd"
      refine for_range (lo := 0) (n := ((k : Nat) : Int).toNat) (fun i σ H' => ∃ t, σ = [some (.int (n : Int)), some (.int (k : Int)), some (.int (cc n i : Nat)), t] ∧ H' = H) ⟨none, rfl, rfl⟩ (fun i σ H1 hi hI => ?_) (fun σ H1 hI => ?_)
      · obtain ⟨t, rfl, rfl⟩ := hI
        walk_at "rd"
        refine ⟨some (.int (0 + (i : Int))), ?_, rfl⟩
        rw [show ((cc n (i + 1) : Nat) : Int) = ((cc n i : Nat) + 1) / 2 by show (((cc n i + 1) / 2 : Nat) : Int) = _; omega]
        rfl
      · obtain ⟨t, rfl, rfl⟩ := hI
        walk_at "rd"
        exact q
    ) only [↓lt_eq]
theorem ok_parameter {f : Addr} {fd : FuncData} {f_is_table : Addr} {fd_is_table : FuncData}    (D : Dn K mg "parameter" s_parameter ["table"] f fd) (bi : Bi mg) (G_is_table : FnOk P w K mg base CX0 3 f_is_table fd_is_table ["value"] (spTblG K)) (D_is_table : Dn K mg "is_table" s_is_table ["value"] f_is_table fd_is_table)     : FnOk P w K mg base CX0 4 f fd ["table"] (spParG K) := by
  refine lt_out ?_
  simp (disch := with_unfolding_all
    refine D.F.ok sc_parameter (fun vs H Q E h => ?_) (fun cdv A outer s H vs Q E hr h => ?_)
    · obtain ⟨a, t, m, rfl, _⟩ := h
      rfl
    · obtain ⟨a, t, m, rfl, h1, ok, q⟩ := h
      have L1 := h1.1
      refine ⟨_, (pss_cons (ps_if (pt_not (pt_val (pe_call G_is_table (hr.mono (by first | decide | exact Nat.le_refl _)) (by rfl) D_is_table.g D_is_table.F.kp D_is_table.b .nil pass0 (pa_cons (pv 0) pa_nil))))
   (pss_one ps_never)
   pss_nil)
   (pss_cons (ps_asg (pv 0) (pg_tup rfl (pgs_cons (pg_name (i := 1) sc_parameter.nd rfl (Or.inl rfl)) (pgs_cons (pg_name (i := 2) sc_parameter.nd rfl (Or.inl rfl)) pgs_nil))))
   (pss_cons (ps_set (i := 3) sc_parameter.nd rfl (Or.inl rfl) (pe_op op_fdiv (pe_op op_sub (pe_op op_add (pv 1) (pv 2)) pe_int) (pv 2)))
   (pss_one (ps_ret (pe_bits (pe_op op_sub (pe_callB (cMax rfl) (by rfl) bi.max_ (by decide +kernel) (pa_cons (pv 3) (pa_cons pe_int pa_nil))) pe_int))))))), ?_⟩
      refine rd_start (σ := [some (.ref a), none, none, none]) rfl ?_
      walk_at "rd"
      refine use_tblG h1 ok ?_
      obtain ⟨o1, o2, o3, o4⟩ := ok
      walk_at "rd"
      exact q
    ) only [↓lt_eq]
theorem ok_table_behind {f : Addr} {fd : FuncData}     (D : Dn K mg "table_behind" s_table_behind ["table", "code"] f fd) (bi : Bi mg)     (g_COUNT_LIMIT : ∃ t, mg "COUNT_LIMIT" = some (.int 15 t)) (g_HALVED_COUNT : ∃ t, mg "HALVED_COUNT" = some (.int 8 t)) : FnOk P w K mg base CX0 1 f fd ["table", "code"] (spBehind K) := by
  refine lt_out ?_
  simp (disch := with_unfolding_all
    refine D.F.ok sc_table_behind (fun vs H Q E h => ?_) (fun cdv A outer s H vs Q E hr h => ?_)
    · obtain ⟨a, t, m, u, rfl, _⟩ := h
      rfl
    · obtain ⟨a, t, m, u, rfl, h1, ok, q⟩ := h
      obtain ⟨t1, g_COUNT_LIMIT⟩ := g_COUNT_LIMIT
      obtain ⟨t2, g_HALVED_COUNT⟩ := g_HALVED_COUNT
      have L1 := h1.1
      refine ⟨_, (pss_cons (ps_par (i := 2) (j := 3) rfl sc_table_behind.nd rfl rfl (by decide) rfl rfl (pa_cons (pe_op op_add (pe_ix ix_tup (pv 0) pe_int (fun _ _ => rfl)) (pv 1)) (pa_cons (pe_op op_add (pe_ix ix_tup (pv 0) pe_int (fun _ _ => rfl)) pe_int) pa_nil)) rfl)
   (pss_cons (ps_if (pt_cmpR op_gt (pv 3) (pe_glob (v := .int 15) (by rfl) g_COUNT_LIMIT ⟨_, rfl⟩) (nomark _))
   (pss_one (ps_ret (pe_tup (pa_cons (pe_op op_fdiv (pv 2) pe_int) (pa_cons (pe_glob (v := .int 8) (by rfl) g_HALVED_COUNT ⟨_, rfl⟩) pa_nil)))))
   pss_nil)
   (pss_one (ps_ret (pe_tup (pa_cons (pv 2) (pa_cons (pv 3) pa_nil))))))), ?_⟩
      refine rd_start (σ := [some (.ref a), some (.int (u : Int)), none, none]) rfl ?_
      walk_at "rd"
      refine rd_iteD (fun c => ?_) (fun c => ?_)
      · walk_at "rd"
        rename_i p hp
        have e : tbB t u = ((t.1 + (u : Int)) / 2, 8) := if_pos c
        rw [e] at q
        exact q p hp
      · walk_at "rd"
        rename_i p hp
        have e : tbB t u = (t.1 + (u : Int), t.2 + 1) := if_neg c
        rw [e] at q
        exact q p hp
    ) only [↓lt_eq]
theorem ok_code_number {f : Addr} {fd : FuncData}     (D : Dn K mg "code_number" s_code_number ["number"] f fd) (bi : Bi mg)      : FnOk P w K mg base CX0 1 f fd ["number"] spCode := by
  refine lt_out ?_
  simp (disch := with_unfolding_all
    refine D.F.ok sc_code_number (fun vs H Q E h => ?_) (fun cdv A outer s H vs Q E hr h => ?_)
    · obtain ⟨n, rfl, _⟩ := h
      rfl
    · obtain ⟨n, rfl, q⟩ := h
      refine ⟨_, (pss_one (ps_ret (pe_ifExp (pt_cmpR op_ge (pv 0) pe_int (nomark _)) (pe_op op_mul pe_int (pv 0)) (pe_op op_sub (pe_op op_mul (pe_un un_neg pe_int) (pv 0)) pe_int)))), ?_⟩
      refine rd_start (σ := [some (.int n)]) rfl ?_
      walk_at "rd"
      refine rd_iteD (fun c => ?_) (fun c => ?_)
      · walk_at "rd"
        have e : codeU n = 2 * n := if_pos c
        rw [e] at q
        exact q
      · walk_at "rd"
        have e : codeU n = -2 * n - 1 := if_neg c
        rw [e] at q
        exact q
    ) only [↓lt_eq]
theorem ok_number_with {f : Addr} {fd : FuncData}     (D : Dn K mg "number_with" s_number_with ["code"] f fd) (bi : Bi mg)      : FnOk P w K mg base CX0 1 f fd ["code"] spNumW := by
  refine lt_out ?_
  simp (disch := with_unfolding_all
    refine D.F.ok sc_number_with (fun vs H Q E h => ?_) (fun cdv A outer s H vs Q E hr h => ?_)
    · obtain ⟨u, rfl, _⟩ := h
      rfl
    · obtain ⟨u, rfl, q⟩ := h
      refine ⟨_, (pss_one (ps_ret (pe_ifExp (pt_cmpR op_eq (pe_op op_mod (pv 0) pe_int) pe_int (nomark _)) (pe_op op_fdiv (pv 0) pe_int) (pe_op op_sub (pe_un un_neg (pe_op op_fdiv (pv 0) pe_int)) pe_int)))), ?_⟩
      refine rd_start (σ := [some (.int (u : Int))]) rfl ?_
      walk_at "rd"
      refine rd_iteD (fun c => ?_) (fun c => ?_)
      · have e : unU u = ((u / 2 : Nat) : Int) := if_pos (by have := V.int.inj c; omega)
        rw [e, ← half_nat] at q
        walk_at "rd"
        exact q
      · have e : unU u = -((u / 2 : Nat) : Int) - 1 := if_neg (fun z => c (congrArg V.int (by omega)))
        rw [e, ← half_nat] at q
        walk_at "rd"
        exact q
    ) only [↓lt_eq]
theorem ok_read_code {f : Addr} {fd : FuncData}     (D : Dn K mg "read_code" s_read_code ["bits", "place", "k"] f fd) (bi : Bi mg)     (g_LONG_FORM : ∃ t, mg "LONG_FORM" = some (.int 20 t)) : FnOk P w K mg base CX0 1 f fd ["bits", "place", "k"] spRdC := by
  refine lt_out ?_
  simp (disch := with_unfolding_all
    refine D.F.ok sc_read_code (fun vs H Q E h => ?_) (fun cdv A outer s H vs Q E hr h => ?_)
    · obtain ⟨l, pl, k, rfl, _⟩ := h
      rfl
    · obtain ⟨l, pl, k, rfl, hb, hl, hpl, hk, ho, q1, q2⟩ := h
      obtain ⟨t1, g_LONG_FORM⟩ := g_LONG_FORM
      refine ⟨_, (pss_cons (ps_set (i := 3) sc_read_code.nd rfl (Or.inl rfl) (pe_bm PySem.F.plainAttrs_str PySem.F.slot_str_find PySem.F.type_str_find mt_find3K (pv 0) (pa_cons pe_str (pa_cons (pv 1) pa_nil))))
   (pss_cons (ps_if (pt_cmpR op_lt (pv 3) pe_int (nomark _))
   (pss_one (ps_ret pe_non))
   pss_nil)
   (pss_cons (ps_set (i := 4) sc_read_code.nd rfl (Or.inl rfl) (pe_op op_sub (pv 3) (pv 1)))
   (pss_cons (ps_set (i := 5) sc_read_code.nd rfl (Or.inl rfl) (pe_ifExp (pt_cmpR op_lt (pv 4) (pe_glob (v := .int 20) (by rfl) g_LONG_FORM ⟨_, rfl⟩) (nomark _)) (pv 2) (pe_op op_add (pe_op op_sub (pv 4) (pe_glob (v := .int 20) (by rfl) g_LONG_FORM ⟨_, rfl⟩)) pe_int)))
   (pss_cons (ps_set (i := 6) sc_read_code.nd rfl (Or.inl rfl) (pe_op op_add (pe_op op_add (pv 3) pe_int) (pv 5)))
   (pss_cons (ps_if (pt_cmpR op_gt (pv 6) (pe_callB cLen (by rfl) bi.len_ (by decide +kernel) (pa_cons (pv 0) pa_nil)) (nomark _))
   (pss_one (ps_ret pe_non))
   pss_nil)
   (pss_cons (ps_set (i := 7) sc_read_code.nd rfl (Or.inl rfl) (pe_slice C8.sl_txt (pv 0) (po_some (pe_op op_add (pv 3) pe_int)) (po_some (pv 6))))
   (pss_cons (ps_set (i := 8) sc_read_code.nd rfl (Or.inl rfl) (pe_callTy call_intB (by rfl) bi.int_ (by decide +kernel) (pa_cons (pe_op op_addT pe_str (pv 7)) (pa_cons pe_int pa_nil))))
   (pss_cons (ps_if (pt_cmpR op_lt (pv 4) (pe_glob (v := .int 20) (by rfl) g_LONG_FORM ⟨_, rfl⟩) (nomark _))
   (pss_one (ps_ret (pe_tup (pa_cons (pe_op op_add (pe_op op_shl (pv 4) (pv 2)) (pv 8)) (pa_cons (pv 6) pa_nil)))))
   pss_nil)
   (pss_cons (ps_if (PW.pt (pw_or (pt_cmpR op_eq (pe_ix ix_str (pv 7) pe_int (fun _ _ => rfl)) pe_str (nomark _)) (pw_or1 (pt_cmpR op_lt (pe_op op_shr (pv 8) (pv 2)) (pe_glob (v := .int 20) (by rfl) g_LONG_FORM ⟨_, rfl⟩) (nomark _)))))
   (pss_one (ps_ret pe_non))
   pss_nil)
   (pss_one (ps_ret (pe_tup (pa_cons (pv 8) (pa_cons (pv 6) pa_nil))))))))))))))), ?_⟩
      refine rd_start (σ := [some (.str (SX.S l)), some (.int (pl : Int)), some (.int (k : Int)), none, none, none, none, none, none]) rfl ?_
      walk_at "rd"
      unfold rdC at q1 q2
      unfold fzI
      generalize onesL (l.drop pl) = o at ho q1 q2 ⊢
      by_cases hz : pl + o < l.length
      · rw [if_pos hz] at q1 q2 ⊢
        walk_at "rd"
        refine if_noD (by omega) ?_
        walk_at "rd"
        have eo : ((pl + o : Nat) : Int) - (pl : Int) = ((o : Nat) : Int) := by omega
        rw [eo]
        by_cases c : o < 20
        · rw [if_pos c] at q1 q2
          refine if_yesD (by omega) ?_
          walk_at "rd"
          rw [show ((pl + o : Nat) : Int) + 1 + (k : Int) = ((pl + o + 1 + k : Nat) : Int) by omega]
          by_cases d : l.length < pl + o + 1 + k
          · refine if_yesD (by omega) ?_
            walk_at "rd"
            exact q1 (by rw [if_pos d])
          · rw [if_neg d, if_pos c] at q2
            refine if_noD (by omega) ?_
            walk_at "rd"
            rw [show ((pl + o : Nat) : Int) + 1 = ((pl + o + 1 : Nat) : Int) by omega]
            refine rd_slSM (by omega) (by omega) (by omega) ?_
            rw [show pl + o + 1 + k - (pl + o + 1) = k by omega]
            have hdb : ∀ x ∈ (l.drop (pl + o + 1)).take k, IsB x := fun x hx => hb x (List.mem_of_mem_drop (List.mem_of_mem_take hx))
            have hdl : ((l.drop (pl + o + 1)).take k).length ≤ 600 := by rw [List.length_take]; omega
            generalize (l.drop (pl + o + 1)).take k = dg at q2 hdb hdl ⊢
            walk_at "rd"
            refine rd_intB (l := [48] ++ dg) (by simp) (by simp; omega) (fun x hx => ?_) ?_
            · rcases List.mem_append.mp hx with hx | hx
              · exact .inl (List.mem_singleton.mp hx)
              · exact hdb x hx
            rw [show valB ([48] ++ dg) = valB dg from valB_zero dg]
            walk_at "rd"
            refine if_yesD (by omega) ?_
            walk_at "rd"
            rename_i p hp
            rw [Int.toNat_natCast, show (o : Int) * 2 ^ k + (valB dg : Nat) = ((o * 2 ^ k + valB dg : Nat) : Int) by norm_cast]
            exact q2 _ _ rfl p hp
        · rw [if_neg c] at q1 q2
          refine if_noD (by omega) ?_
          walk_at "rd"
          rw [show ((pl + o : Nat) : Int) + 1 + ((o : Nat) - 20 + 1) = ((pl + o + 1 + (o - 19) : Nat) : Int) by omega]
          by_cases d : l.length < pl + o + 1 + (o - 19)
          · refine if_yesD (by omega) ?_
            walk_at "rd"
            exact q1 (by rw [if_pos d])
          · rw [if_neg d, if_neg c] at q1 q2
            refine if_noD (by omega) ?_
            walk_at "rd"
            rw [show ((pl + o : Nat) : Int) + 1 = ((pl + o + 1 : Nat) : Int) by omega]
            refine rd_slSM (by omega) (by omega) (by omega) ?_
            rw [show pl + o + 1 + (o - 19) - (pl + o + 1) = o - 19 by omega]
            have hdb : ∀ x ∈ (l.drop (pl + o + 1)).take (o - 19), IsB x := fun x hx => hb x (List.mem_of_mem_drop (List.mem_of_mem_take hx))
            have hdl : ((l.drop (pl + o + 1)).take (o - 19)).length ≤ 600 := by rw [List.length_take]; omega
            have hln : 0 < (l.drop (pl + o + 1)).length := by rw [List.length_drop]; omega
            have h0 : ((l.drop (pl + o + 1)).take (o - 19))[0]? = (l.drop (pl + o + 1))[0]? := by rw [List.getElem?_take, if_pos (by omega)]
            obtain ⟨ch, hch⟩ : ∃ ch, (l.drop (pl + o + 1))[0]? = some ch := ⟨_, List.getElem?_eq_getElem hln⟩
            rw [hch] at h0 q1 q2
            generalize (l.drop (pl + o + 1)).take (o - 19) = dg at q1 q2 hdb hdl h0 ⊢
            walk_at "rd"
            refine rd_intB (l := [48] ++ dg) (by simp) (by simp; omega) (fun x hx => ?_) ?_
            · rcases List.mem_append.mp hx with hx | hx
              · exact .inl (List.mem_singleton.mp hx)
              · exact hdb x hx
            rw [show valB ([48] ++ dg) = valB dg from valB_zero dg]
            walk_at "rd"
            refine if_noD (by omega) ?_
            walk_at "rd"
            refine rd_ixS (i := 0) rfl (by omega) h0 ?_
            walk_at "rd"
            by_cases z : ch = 48
            · subst z
              refine if_yesD (congrArg V.str e_0.symm) ?_
              walk_at "rd"
              exact q1 (by rw [if_pos (.inl rfl)])
            · have z2 : ¬ V.str (SX.S [ch]) = V.str (Str.ofString "0") := fun e => z (by
                rw [e_0] at e
                exact (List.cons.inj (SX.S_inj (V.str.inj e))).1)
              refine if_noD z2 ?_
              walk_at "rd"
              by_cases y : valB dg / 2 ^ k < 20
              · refine if_yesD (by omega) ?_
                walk_at "rd"
                exact q1 (by rw [if_pos (.inr y)])
              · refine if_noD (by omega) ?_
                walk_at "rd"
                rename_i p hp
                rw [if_neg (by rintro (e | e); exact z (Option.some.inj e); exact y e)] at q2
                exact q2 _ _ rfl p hp
      · rw [if_neg hz] at q1 ⊢
        walk_at "rd"
        refine if_yesD (by decide) ?_
        walk_at "rd"
        exact q1 rfl
    ) only [↓lt_eq]
theorem ok_check_coding {f : Addr} {fd : FuncData} {f_check_within : Addr} {fd_check_within : FuncData} {f_is_tables : Addr} {fd_is_tables : FuncData}    (D : Dn K mg "check_coding" s_check_coding ["length", "coarse", "tables"] f fd) (bi : Bi mg) (G_check_within : FnOk P w K mg base CX0 3 f_check_within fd_check_within ["value", "low", "high"] spCkW) (D_check_within : Dn K mg "check_within" s_check_within ["value", "low", "high"] f_check_within fd_check_within) (G_is_tables : FnOk P w K mg base CX0 4 f_is_tables fd_is_tables ["value"] (spTblsG K)) (D_is_tables : Dn K mg "is_tables" s_is_tables ["value"] f_is_tables fd_is_tables)     : FnOk P w K mg base CX0 5 f fd ["length", "coarse", "tables"] (spCoding K) := by
  refine lt_out ?_
  simp (disch := with_unfolding_all
    refine D.F.ok sc_check_coding (fun vs H Q E h => ?_) (fun cdv A outer s H vs Q E hr h => ?_)
    · obtain ⟨n, first, a, T, m, rfl, _⟩ := h
      rfl
    · obtain ⟨n, first, a, T, m, rfl, h1, h2, o1, o2, q⟩ := h
      refine ⟨_, (pss_cons (ps_expr (pe_call G_check_within (hr.mono (by first | decide | exact Nat.le_refl _)) (by rfl) D_check_within.g D_check_within.F.kp D_check_within.b .nil pass0 (pa_cons (pv 1) (pa_cons pe_int (pa_cons (pv 0) pa_nil)))))
   (pss_one (ps_if (pt_not (pt_val (pe_call G_is_tables (hr.mono (by first | decide | exact Nat.le_refl _)) (by rfl) D_is_tables.g D_is_tables.F.kp D_is_tables.b .nil pass0 (pa_cons (pv 2) pa_nil))))
   (pss_one ps_never)
   pss_nil))), ?_⟩
      refine rd_start (σ := [some (.int (n : Int)), some (.int (first : Int)), some (.ref a)]) rfl ?_
      walk_at "rd"
      refine use_tblsG h2 o1 o2 ?_
      walk_at "rd"
      exact q
    ) only [↓lt_eq]
theorem ok_read_numbers {f : Addr} {fd : FuncData} {f_check_within : Addr} {fd_check_within : FuncData} {f_check_coding : Addr} {fd_check_coding : FuncData} {f_parameter : Addr} {fd_parameter : FuncData} {f_read_code : Addr} {fd_read_code : FuncData} {f_number_with : Addr} {fd_number_with : FuncData} {f_table_behind : Addr} {fd_table_behind : FuncData}    (D : Dn K mg "read_numbers" s_read_numbers ["bits", "length", "coarse", "tables"] f fd) (bi : Bi mg) (G_check_within : FnOk P w K mg base CX0 3 f_check_within fd_check_within ["value", "low", "high"] spCkW) (D_check_within : Dn K mg "check_within" s_check_within ["value", "low", "high"] f_check_within fd_check_within) (G_check_coding : FnOk P w K mg base CX0 5 f_check_coding fd_check_coding ["length", "coarse", "tables"] (spCoding K)) (D_check_coding : Dn K mg "check_coding" s_check_coding ["length", "coarse", "tables"] f_check_coding fd_check_coding) (G_parameter : FnOk P w K mg base CX0 4 f_parameter fd_parameter ["table"] (spParG K)) (D_parameter : Dn K mg "parameter" s_parameter ["table"] f_parameter fd_parameter) (G_read_code : FnOk P w K mg base CX0 1 f_read_code fd_read_code ["bits", "place", "k"] spRdC) (D_read_code : Dn K mg "read_code" s_read_code ["bits", "place", "k"] f_read_code fd_read_code) (G_number_with : FnOk P w K mg base CX0 1 f_number_with fd_number_with ["code"] spNumW) (D_number_with : Dn K mg "number_with" s_number_with ["code"] f_number_with fd_number_with) (G_table_behind : FnOk P w K mg base CX0 1 f_table_behind fd_table_behind ["table", "code"] (spBehind K)) (D_table_behind : Dn K mg "table_behind" s_table_behind ["table", "code"] f_table_behind fd_table_behind)    (g_BLOCK_LIMIT : ∃ t, mg "BLOCK_LIMIT" = some (.int 64 t)) : FnOk P w K mg base CX0 6 f fd ["bits", "length", "coarse", "tables"] (spRdM K) := by
  refine lt_out ?_
  simp (disch := with_unfolding_all
    refine D.F.ok sc_read_numbers (fun vs H Q E h => ?_) (fun cdv A outer s H vs Q E hr h => ?_)
    · obtain ⟨ns, first, b, T, rfl, _⟩ := h
      rfl
    · obtain ⟨ns, first, b, T, rfl, hl, hf, hn, hT, o1, o2, q⟩ := h
      obtain ⟨t64, g_BLOCK_LIMIT⟩ := g_BLOCK_LIMIT
      have hbin : ∀ c ∈ (wst ns first T ns.length).1.flatten, IsB c := wst_bin ns first T ns.length
      have hfl := wst_flat (first := first) hn o1 o2 ns.length hl
      have hfl2 : (wst ns first T ns.length).1.flatten.length ≤ 1000000 := by omega
      refine ⟨_, (pss_cons (ps_expr (pe_call G_check_within (hr.mono (by first | decide | exact Nat.le_refl _)) (by rfl) D_check_within.g D_check_within.F.kp D_check_within.b .nil pass0 (pa_cons (pv 1) (pa_cons pe_int (pa_cons (pe_glob (v := .int 64) (by rfl) g_BLOCK_LIMIT ⟨_, rfl⟩) pa_nil)))))
   (pss_cons (ps_expr (pe_call G_check_coding (hr.mono (by first | decide | exact Nat.le_refl _)) (by rfl) D_check_coding.g D_check_coding.F.kp D_check_coding.b .nil pass0 (pa_cons (pv 1) (pa_cons (pv 2) (pa_cons (pv 3) pa_nil)))))
   (pss_cons (ps_if (PW.pt (pw_or (pt_not (pt_val (pe_callB call_isi (by rfl) bi.isinstance_ (by decide +kernel) (pa_cons (pv 0) (pa_cons (pe_bltn (v := .ty "str") (by rfl) bi.str_ (by decide +kernel) rfl) pa_nil))))) (pw_or1 (pt_cmpR op_ne (pe_bm PySem.F.plainAttrs_str PySem.F.slot_str_strip PySem.F.type_str_strip mt_stripK (pv 0) (pa_cons pe_str pa_nil)) pe_str (nomark _)))))
   (pss_one (ps_ret pe_non))
   pss_nil)
   (pss_cons (ps_set (i := 4) sc_read_numbers.nd rfl (Or.inl rfl) (pe_callTy cList (by rfl) bi.list_ (by decide +kernel) (pa_cons (pv 3) pa_nil)))
   (pss_cons (ps_set (i := 5) sc_read_numbers.nd rfl (Or.inl rfl) (pe_lst pa_nil))
   (pss_cons (ps_set (i := 6) sc_read_numbers.nd rfl (Or.inl rfl) pe_int)
   (pss_cons (ps_for PassesOwn.never rfl (pi_range1 (by rfl) bi.range_ (pa_cons (pv 1) pa_nil)) (pg_name (i := 7) sc_read_numbers.nd rfl (Or.inl rfl))
   (pss_cons (ps_set (i := 8) sc_read_numbers.nd rfl (Or.inl rfl) (pe_ifExp (pt_cmpR op_lt (pv 7) (pv 2) (nomark _)) pe_int pe_int))
   (pss_cons (ps_set (i := 9) sc_read_numbers.nd rfl (Or.inl rfl) (pe_call G_read_code (hr.mono (by first | decide | exact Nat.le_refl _)) (by rfl) D_read_code.g D_read_code.F.kp D_read_code.b .nil pass0 (pa_cons (pv 0) (pa_cons (pv 6) (pa_cons (pe_call G_parameter (hr.mono (by first | decide | exact Nat.le_refl _)) (by rfl) D_parameter.g D_parameter.F.kp D_parameter.b .nil pass0 (pa_cons (pe_ix ix_list (pv 4) (pv 8) (fun _ _ => rfl)) pa_nil)) pa_nil)))))
   (pss_cons (ps_if (pt_cmpR cIsN (pv 9) pe_non (nomark _))
   (pss_one (ps_ret pe_non))
   pss_nil)
   (pss_cons (ps_asg (pv 9) (pg_tup rfl (pgs_cons (pg_name (i := 10) sc_read_numbers.nd rfl (Or.inl rfl)) (pgs_cons (pg_name (i := 6) sc_read_numbers.nd rfl (Or.inl rfl)) pgs_nil))))
   (pss_cons (ps_expr (pe_bm PySem.F.plainAttrs_list PySem.F.slot_list_append PySem.F.type_list_append mt_append (pv 5) (pa_cons (pe_call G_number_with (hr.mono (by first | decide | exact Nat.le_refl _)) (by rfl) D_number_with.g D_number_with.F.kp D_number_with.b .nil pass0 (pa_cons (pv 10) pa_nil)) pa_nil)))
   (pss_one (ps_asg (pe_call G_table_behind (hr.mono (by first | decide | exact Nat.le_refl _)) (by rfl) D_table_behind.g D_table_behind.F.kp D_table_behind.b .nil pass0 (pa_cons (pe_ix ix_list (pv 4) (pv 8) (fun _ _ => rfl)) (pa_cons (pv 10) pa_nil))) (pg_sub (pv 4) (pv 8) set_list)))))))))
   (pss_cons (ps_if (pt_cmpR op_ne (pv 6) (pe_callB cLen (by rfl) bi.len_ (by decide +kernel) (pa_cons (pv 0) pa_nil)) (nomark _))
   (pss_one (ps_ret pe_non))
   pss_nil)
   (pss_one (ps_ret (pe_tup (pa_cons (pv 5) (pa_cons (pe_callTy cTuple (by rfl) bi.tuple_ (by decide +kernel) (pa_cons (pv 4) pa_nil)) pa_nil))))))))))))), ?_⟩
      refine rd_start (σ := [some (.str (SX.S (wst ns first T ns.length).1.flatten)), some (.int (ns.length : Nat)), some (.int (first : Int)), some (.ref b), none, none, none, none, none, none, none]) rfl ?_
      walk_at "rd"
      refine use_coding hf hT o1 o2 ?_
      obtain ⟨r0, r1, h0, h1, h2⟩ := hT
      walk_at "rd"
      refine if_noN (congrArg V.str e_empty.symm) ?_
      walk_at "rd"
      refine rd_listQ h0.1 fun p hp => ?_
      walk_at "rd"
      rename_i w hw
      have hs2 : Same H (upd (upd H p (.lst [.ref r0, .ref r1])) w (.lst [])) := (same_new hp).trans (same_new hw)
      have hwn : H w = none := (same_new hp).free hw
      have hpw : p ≠ w := ne_of_none upd_same hw
      have hwp := hpw.symm
      refine for_range (lo := 0) (n := ((ns.length : Nat) : Int).toNat) (fun i σ H' => ∃ r0 r1 x7 x8 x9 x10, σ = [some (.str (SX.S (wst ns first T ns.length).1.flatten)), some (.int (ns.length : Nat)), some (.int (first : Int)), some (.ref b), some (.ref p), some (.ref w), some (.int (((wst ns first T i).1.flatten.length : Nat) : Int)), x7, x8, x9, x10] ∧ H' p = some (.lst [.ref r0, .ref r1]) ∧ H' w = some (.lst ((ns.take i).map V.int)) ∧ TbV K H' r0 (wst ns first T i).2.1 ∧ TbV K H' r1 (wst ns first T i).2.2 ∧ Same H H') ⟨r0, r1, none, none, none, none, rfl, look_new hw upd_same, upd_same, (h1.lk (.new hp)).lk (.new hw), (h2.lk (.new hp)).lk (.new hw), hs2⟩ (fun i σ H' hi hI => ?_) (fun σ H' hI => ?_)
      · obtain ⟨r0, r1, x7, x8, x9, x10, rfl, h3, h3w, h4, h5, hs⟩ := hI
        rw [Int.toNat_natCast] at hi
        obtain ⟨k1, k2⟩ := wst_ok (first := first) hn o1 o2 i (by omega)
        have bnd : (10 ^ 58 + (i : Int) * 10 ^ 56) < 10 ^ 60 := by omega
        have hz := getD_some (List.getElem?_eq_getElem hi)
        have htk : ns.take (i + 1) = ns.take i ++ [ns.getD i 0] := by rw [hz, List.take_add_one, List.getElem?_eq_getElem hi]; rfl
        obtain ⟨post, hpost⟩ := wst_split ns first T (i + 1) ns.length hi
        have hpl : (wst ns first T i).1.flatten.length ≤ (wst ns first T ns.length).1.flatten.length := by
          obtain ⟨post2, e⟩ := wst_split ns first T i ns.length (by omega)
          rw [e, List.length_append]
          omega
        rw [show (0 : Int) + (i : Int) = ((i : Nat) : Int) by omega]
        walk_at "rd"
        refine rd_iteD (fun c => ?_) (fun c => ?_)
        · have c := Int.ofNat_lt.mp c
          walk_at "rd"
          refine use_parG h4 k1 ?_
          walk_at "rd"
          have hpp := par_leG k1 bnd
          have hw1 : (wst ns first T ns.length).1.flatten = (wst ns first T i).1.flatten ++ (encB (uOf (ns.getD i 0)) (par (wst ns first T i).2.1.1 (wst ns first T i).2.1.2) ++ post) := by
            rw [hpost, wst_lo c, List.flatten_append, List.append_assoc]
            simp
          have hrd := rdC_good (wst ns first T i).1.flatten post (uOf (ns.getD i 0)) (par (wst ns first T i).2.1.1 (wst ns first T i).2.1.2)
          rw [← hw1] at hrd
          have hon : onesL ((wst ns first T ns.length).1.flatten.drop (wst ns first T i).1.flatten.length) ≤ 600 := by
            rw [hw1, List.drop_left]
            exact ones_enc _ _ _ (nb_small (uOf_getD hn i))
          refine use_rdC hbin hfl2 hpl (by omega) hon hrd fun p1 hp1 => ?_
          walk_at "rd"
          refine if_noD (fun z => V.noConfusion z) ?_
          have hlt : (ns.take i).length ≤ 1000 := by rw [List.length_take]; omega
          have hl1 : (wst ns first T (i + 1)).1.flatten.length = (wst ns first T i).1.flatten.length + (encB (uOf (ns.getD i 0)) (par (wst ns first T i).2.1.1 (wst ns first T i).2.1.2)).length := by
            rw [wst_lo c, List.flatten_append, List.length_append]
            simp
          walk_at "rd"
          rw [unU_uOf]
          walk_at "rd"
          have u3 := look_new (o := .tup [.int ((uOf (ns.getD i 0) : Nat) : Int), .int (((wst ns first T i).1.flatten.length + (encB (uOf (ns.getD i 0)) (par (wst ns first T i).2.1.1 (wst ns first T i).2.1.2)).length : Nat) : Int)]) hp1 h3
          have u3w := look_new (o := .tup [.int ((uOf (ns.getD i 0) : Nat) : Int), .int (((wst ns first T i).1.flatten.length + (encB (uOf (ns.getD i 0)) (par (wst ns first T i).2.1.1 (wst ns first T i).2.1.2)).length : Nat) : Int)]) hp1 h3w
          have v3 := look_upd (o := .lst ((ns.take i ++ [ns.getD i 0]).map V.int)) hpw u3
          have v4 : TbV K _ r0 (wst ns first T i).2.1 := TbV.lk (LK.at (o := .lst ((ns.take i ++ [ns.getD i 0]).map V.int)) u3w) (h4.lk (.new hp1))
          have v5 : TbV K _ r1 (wst ns first T i).2.2 := TbV.lk (LK.at (o := .lst ((ns.take i ++ [ns.getD i 0]).map V.int)) u3w) (h5.lk (.new hp1))
          refine use_behind v4 k1 fun p2 hp2 => ?_
          walk_at "rd"
          rw [hl1, wst_lo c, htk]
          refine ⟨p2, r1, _, _, _, _, rfl, upd_same, ?_, ?_, ?_, ?_⟩
          · rw [upd_ne hwp, upd_ne (ne_of_none upd_same hp2), upd_same]
          · exact TbV.lk (LK.at (look_new hp2 v3)) (TbV.of upd_same)
          · exact TbV.lk (LK.at (look_new hp2 v3)) (TbV.lk (LK.new hp2) v5)
          · intro b2 x e
            rw [upd_ne (ne_of_none e hp)]
            refine look_new hp2 ?_
            rw [upd_ne (ne_of_none e hwn)]
            exact look_new hp1 (hs _ _ e)
        · have c : ¬ i < first := fun z => c (Int.ofNat_lt.mpr z)
          walk_at "rd"
          refine use_parG h5 k2 ?_
          walk_at "rd"
          have hpp := par_leG k2 bnd
          have hw1 : (wst ns first T ns.length).1.flatten = (wst ns first T i).1.flatten ++ (encB (uOf (ns.getD i 0)) (par (wst ns first T i).2.2.1 (wst ns first T i).2.2.2) ++ post) := by
            rw [hpost, wst_hi c, List.flatten_append, List.append_assoc]
            simp
          have hrd := rdC_good (wst ns first T i).1.flatten post (uOf (ns.getD i 0)) (par (wst ns first T i).2.2.1 (wst ns first T i).2.2.2)
          rw [← hw1] at hrd
          have hon : onesL ((wst ns first T ns.length).1.flatten.drop (wst ns first T i).1.flatten.length) ≤ 600 := by
            rw [hw1, List.drop_left]
            exact ones_enc _ _ _ (nb_small (uOf_getD hn i))
          refine use_rdC hbin hfl2 hpl (by omega) hon hrd fun p1 hp1 => ?_
          walk_at "rd"
          refine if_noD (fun z => V.noConfusion z) ?_
          have hlt : (ns.take i).length ≤ 1000 := by rw [List.length_take]; omega
          have hl1 : (wst ns first T (i + 1)).1.flatten.length = (wst ns first T i).1.flatten.length + (encB (uOf (ns.getD i 0)) (par (wst ns first T i).2.2.1 (wst ns first T i).2.2.2)).length := by
            rw [wst_hi c, List.flatten_append, List.length_append]
            simp
          walk_at "rd"
          rw [unU_uOf]
          walk_at "rd"
          have u3 := look_new (o := .tup [.int ((uOf (ns.getD i 0) : Nat) : Int), .int (((wst ns first T i).1.flatten.length + (encB (uOf (ns.getD i 0)) (par (wst ns first T i).2.2.1 (wst ns first T i).2.2.2)).length : Nat) : Int)]) hp1 h3
          have u3w := look_new (o := .tup [.int ((uOf (ns.getD i 0) : Nat) : Int), .int (((wst ns first T i).1.flatten.length + (encB (uOf (ns.getD i 0)) (par (wst ns first T i).2.2.1 (wst ns first T i).2.2.2)).length : Nat) : Int)]) hp1 h3w
          have v3 := look_upd (o := .lst ((ns.take i ++ [ns.getD i 0]).map V.int)) hpw u3
          have v4 : TbV K _ r0 (wst ns first T i).2.1 := TbV.lk (LK.at (o := .lst ((ns.take i ++ [ns.getD i 0]).map V.int)) u3w) (h4.lk (.new hp1))
          have v5 : TbV K _ r1 (wst ns first T i).2.2 := TbV.lk (LK.at (o := .lst ((ns.take i ++ [ns.getD i 0]).map V.int)) u3w) (h5.lk (.new hp1))
          refine use_behind v5 k2 fun p2 hp2 => ?_
          walk_at "rd"
          rw [hl1, wst_hi c, htk]
          refine ⟨r0, p2, _, _, _, _, rfl, upd_same, ?_, ?_, ?_, ?_⟩
          · rw [upd_ne hwp, upd_ne (ne_of_none upd_same hp2), upd_same]
          · exact TbV.lk (LK.at (look_new hp2 v3)) (TbV.lk (LK.new hp2) v4)
          · exact TbV.lk (LK.at (look_new hp2 v3)) (TbV.of upd_same)
          · intro b2 x e
            rw [upd_ne (ne_of_none e hp)]
            refine look_new hp2 ?_
            rw [upd_ne (ne_of_none e hwn)]
            exact look_new hp1 (hs _ _ e)
      · obtain ⟨r0, r1, x7, x8, x9, x10, rfl, h3, h3w, h4, h5, hs⟩ := hI
        rw [Int.toNat_natCast] at *
        rw [List.take_length] at h3w
        walk_at "rd"
        refine if_noN rfl ?_
        walk_at "rd"
        rename_i q1 hq1 p1 hp1
        refine q p1 w q1 _ hwn ((hs.trans (same_new hq1)).trans (same_new hp1)) ((hs.trans (same_new hq1)).free hp1) upd_same (look_new hp1 (look_new hq1 h3w)) ⟨r0, r1, .of (look_new hp1 upd_same), (h4.lk (.new hq1)).lk (.new hp1), (h5.lk (.new hq1)).lk (.new hp1)⟩
    ) only [↓lt_eq]
theorem ok_mark_of {f : Addr} {fd : FuncData} {f_check_block : Addr} {fd_check_block : FuncData} {f_code_number : Addr} {fd_code_number : FuncData}    (D : Dn K mg "mark_of" s_mark_of ["numbers"] f fd) (bi : Bi mg) (G_check_block : FnOk P w K mg base CX0 3 f_check_block fd_check_block ["values", "least"] spBlock) (D_check_block : Dn K mg "check_block" s_check_block ["values", "least"] f_check_block fd_check_block) (G_code_number : FnOk P w K mg base CX0 1 f_code_number fd_code_number ["number"] spCode) (D_code_number : Dn K mg "code_number" s_code_number ["number"] f_code_number fd_code_number)    (g_MARK_FACTOR : ∃ t, mg "MARK_FACTOR" = some (.int 31 t)) (g_MARK_MODULUS : ∃ t, mg "MARK_MODULUS" = some (.int 9973 t)) : FnOk P w K mg base CX0 4 f fd ["numbers"] spMark := by
  refine lt_out ?_
  simp (disch := with_unfolding_all
    refine D.F.ok sc_mark_of (fun vs H Q E h => ?_) (fun cdv A outer s H vs Q E hr h => ?_)
    · obtain ⟨a, ns, rfl, _⟩ := h
      rfl
    · obtain ⟨a, ns, rfl, hS, hl, q⟩ := h
      obtain ⟨tf, g_MARK_FACTOR⟩ := g_MARK_FACTOR
      obtain ⟨tm, g_MARK_MODULUS⟩ := g_MARK_MODULUS
      refine ⟨_, (pss_cons (ps_expr (pe_call G_check_block (hr.mono (by first | decide | exact Nat.le_refl _)) (by rfl) D_check_block.g D_check_block.F.kp D_check_block.b .nil pass0 (pa_cons (pv 0) (pa_cons pe_int pa_nil))))
   (pss_cons (ps_set (i := 1) sc_mark_of.nd rfl (Or.inl rfl) pe_int)
   (pss_cons (ps_for PassesOwn.never rfl (pi_list (pv 0)) (pg_name (i := 2) sc_mark_of.nd rfl (Or.inl rfl))
   (pss_one (ps_set (i := 1) sc_mark_of.nd rfl (Or.inl rfl) (pe_op op_mod (pe_op op_add (pe_op op_mul (pv 1) (pe_glob (v := .int 31) (by rfl) g_MARK_FACTOR ⟨_, rfl⟩)) (pe_call G_code_number (hr.mono (by first | decide | exact Nat.le_refl _)) (by rfl) D_code_number.g D_code_number.F.kp D_code_number.b .nil pass0 (pa_cons (pv 2) pa_nil))) (pe_glob (v := .int 9973) (by rfl) g_MARK_MODULUS ⟨_, rfl⟩)))))
   (pss_one (ps_ret (pv 1)))))), ?_⟩
      refine rd_start (σ := [some (.ref a), none, none]) rfl ?_
      walk_at "rd"
      refine' rd_lpL (xs := ns.map V.int) ?k1 ?_
      (case k1 => exact SqL.of (by walk_at "hg"))
      refine for_list (xs := ns.map V.int) (fun i σ H' => ∃ t, σ = [some (.ref a), some (.int (markF (ns.take i))), t] ∧ Same H H') ⟨none, rfl, by walk_at "sm"⟩ (fun i σ H1 _ hI => ?_) (fun i v σ H1 hv hI => ?_) (fun σ H1 hI => ?_)
      · obtain ⟨t, rfl, hs⟩ := hI
        exact hs.seq (SqL.of hS)
      · obtain ⟨t, rfl, hs⟩ := hI
        obtain ⟨z, rfl, hz⟩ : ∃ z, v = .int z ∧ ns[i]? = some z := by
          rw [List.getElem?_map] at hv
          cases g : ns[i]? with
          | none => rw [g] at hv; cases hv
          | some z => rw [g] at hv; exact ⟨z, (Option.some.inj hv).symm, rfl⟩
        have hb := markF_bound (ns.take i)
        walk_at "rd"
        refine ⟨some (.int z), ?_, hs⟩
        rw [show ns.take (i + 1) = ns.take i ++ [z] by rw [List.take_add_one, hz]; rfl, markF_snoc]
        rfl
      · obtain ⟨t, rfl, hs⟩ := hI
        walk_at "rd"
        rw [List.take_of_length_le (by rw [List.length_map]; exact Nat.le_refl _)]
        exact q _ hs
    ) only [↓lt_eq]
theorem ok_read_frame {f : Addr} {fd : FuncData} {f_read_numbers : Addr} {fd_read_numbers : FuncData} {f_coarse_count : Addr} {fd_coarse_count : FuncData} {f_mark_of : Addr} {fd_mark_of : FuncData}    (D : Dn K mg "read_frame" s_read_frame ["record", "tables"] f fd) (bi : Bi mg) (G_read_numbers : FnOk P w K mg base CX0 6 f_read_numbers fd_read_numbers ["bits", "length", "coarse", "tables"] (spRdM K)) (D_read_numbers : Dn K mg "read_numbers" s_read_numbers ["bits", "length", "coarse", "tables"] f_read_numbers fd_read_numbers) (G_coarse_count : FnOk P w K mg base CX0 4 f_coarse_count fd_coarse_count ["length", "levels"] spCoarse) (D_coarse_count : Dn K mg "coarse_count" s_coarse_count ["length", "levels"] f_coarse_count fd_coarse_count) (G_mark_of : FnOk P w K mg base CX0 4 f_mark_of fd_mark_of ["numbers"] spMark) (D_mark_of : Dn K mg "mark_of" s_mark_of ["numbers"] f_mark_of fd_mark_of)     : FnOk P w K mg base CX0 7 f fd ["record", "tables"] (spRfM K) := by
  refine lt_out ?_
  simp (disch := with_unfolding_all
    refine D.F.ok sc_read_frame (fun vs H Q E h => ?_) (fun cdv A outer s H vs Q E hr h => ?_)
    · obtain ⟨v, d, ns, T, t, rfl, _⟩ := h
      rfl
    · obtain ⟨v, d, ns, T, t, rfl, ⟨a, j, rfl, h, hj⟩, ok, hT, q⟩ := h
      unfold FrAt at h
      obtain ⟨hok, hl, hn, o1, o2⟩ := ok
      obtain ⟨k1, k2, k3, k4, k5, k6, k7, k8⟩ := hok
      refine ⟨_, (pss_cons (ps_asg (pe_slice sl_tup (pv 0) (po_some pe_int) po_none) (pg_tup rfl (pgs_cons (pg_name (i := 2) sc_read_frame.nd rfl (Or.inl rfl)) (pgs_cons (pg_name (i := 3) sc_read_frame.nd rfl (Or.inl rfl)) (pgs_cons (pg_name (i := 4) sc_read_frame.nd rfl (Or.inl rfl)) (pgs_cons (pg_name (i := 5) sc_read_frame.nd rfl (Or.inl rfl)) (pgs_cons (pg_name (i := 6) sc_read_frame.nd rfl (Or.inl rfl)) (pgs_cons (pg_name (i := 7) sc_read_frame.nd rfl (Or.inl rfl)) pgs_nil))))))))
   (pss_cons (ps_set (i := 8) sc_read_frame.nd rfl (Or.inl rfl) (pe_call G_read_numbers (hr.mono (by first | decide | exact Nat.le_refl _)) (by rfl) D_read_numbers.g D_read_numbers.F.kp D_read_numbers.b .nil pass0 (pa_cons (pv 7) (pa_cons (pv 2) (pa_cons (pe_call G_coarse_count (hr.mono (by first | decide | exact Nat.le_refl _)) (by rfl) D_coarse_count.g D_coarse_count.F.kp D_coarse_count.b .nil pass0 (pa_cons (pv 2) (pa_cons (pv 4) pa_nil))) (pa_cons (pv 1) pa_nil))))))
   (pss_cons (ps_if (PW.pt (pw_or (pt_cmpR cIsN (pv 8) pe_non (nomark _)) (pw_or1 (pt_cmpR op_ne (pe_call G_mark_of (hr.mono (by first | decide | exact Nat.le_refl _)) (by rfl) D_mark_of.g D_mark_of.F.kp D_mark_of.b .nil pass0 (pa_cons (pe_ix ix_tup (pv 8) pe_int (fun _ _ => rfl)) pa_nil)) (pv 6) (nomark _)))))
   (pss_one (ps_ret pe_non))
   pss_nil)
   (pss_one (ps_ret (pv 8)))))), ?_⟩
      refine rd_start (σ := [some (.ref a), some (.ref t), none, none, none, none, none, none, none]) rfl ?_
      walk_at "rd"
      refine rd_slTp (SqT.of h) (ys := [.int (d.1 : Nat), .ref j, .int (d.2.2.2.1 : Nat), .int (d.2.2.2.2 : Nat), .int (markF ns), .str (SX.S (bitsF d ns T))]) rfl (show ¬ (HT.sIx 7 0 (some 1) = 0 ∧ HT.sIx 7 7 none = 7) by decide) fun p1 hp1 => ?_
      walk_at "rd"
      refine use_coarse k1 k2 k6 ?_
      have hcc := cc_n d.1 d.2.2.2.1
      walk_at "rd"
      refine use_rdM (ns := ns) (T := T) rfl hl.symm (by omega) (by omega) (fun z hz => Nat.lt_of_le_of_lt (hn z hz) (by decide)) (hT.lk (.new hp1)) (o1.up (by decide)) (o2.up (by decide)) fun p m q2 H2 hm0 hs2 hn2 hp2 hm2 hq2 => ?_
      walk_at "rd"
      refine if_noD (fun z => V.noConfusion z) ?_
      walk_at "rd"
      rename_i H3 hs3
      refine if_noN rfl ?_
      walk_at "rd"
      exact q p m q2 _ ((same_new hp1).free hm0) (((same_new hp1).trans hs2).trans hs3) ((same_new hp1).free hn2) (hs3 _ _ hp2) (hs3 _ _ hm2) (hq2.lk (.of hs3))
    ) only [↓lt_eq]
theorem ok_read_code_L {f : Addr} {fd : FuncData}     (D : Dn K mg "read_code" s_read_code ["bits", "place", "k"] f fd) (bi : Bi mg)     (g_LONG_FORM : ∃ t, mg "LONG_FORM" = some (.int 20 t)) (zdg : DgK K) : FnOk P w K mg base CX0 1 f fd ["bits", "place", "k"] spRdL := by
  refine lt_out ?_
  simp (disch := with_unfolding_all
    refine D.F.ok sc_read_code (fun vs H Q E h => ?_) (fun cdv A outer s H vs Q E hr h => ?_)
    · obtain ⟨l, pl, k, rfl, _⟩ := h
      rfl
    · obtain ⟨l, pl, k, rfl, hb, hl, hpl, hk, q1, q2⟩ := h
      obtain ⟨t1, g_LONG_FORM⟩ := g_LONG_FORM
      refine ⟨_, (pss_cons (ps_set (i := 3) sc_read_code.nd rfl (Or.inl rfl) (pe_bm PySem.F.plainAttrs_str PySem.F.slot_str_find PySem.F.type_str_find mt_find3K (pv 0) (pa_cons pe_str (pa_cons (pv 1) pa_nil))))
   (pss_cons (ps_if (pt_cmpR op_lt (pv 3) pe_int (nomark _))
   (pss_one (ps_ret pe_non))
   pss_nil)
   (pss_cons (ps_set (i := 4) sc_read_code.nd rfl (Or.inl rfl) (pe_op op_sub (pv 3) (pv 1)))
   (pss_cons (ps_set (i := 5) sc_read_code.nd rfl (Or.inl rfl) (pe_ifExp (pt_cmpR op_lt (pv 4) (pe_glob (v := .int 20) (by rfl) g_LONG_FORM ⟨_, rfl⟩) (nomark _)) (pv 2) (pe_op op_add (pe_op op_sub (pv 4) (pe_glob (v := .int 20) (by rfl) g_LONG_FORM ⟨_, rfl⟩)) pe_int)))
   (pss_cons (ps_set (i := 6) sc_read_code.nd rfl (Or.inl rfl) (pe_op op_add (pe_op op_add (pv 3) pe_int) (pv 5)))
   (pss_cons (ps_if (pt_cmpR op_gt (pv 6) (pe_callB cLen (by rfl) bi.len_ (by decide +kernel) (pa_cons (pv 0) pa_nil)) (nomark _))
   (pss_one (ps_ret pe_non))
   pss_nil)
   (pss_cons (ps_set (i := 7) sc_read_code.nd rfl (Or.inl rfl) (pe_slice C8.sl_txt (pv 0) (po_some (pe_op op_add (pv 3) pe_int)) (po_some (pv 6))))
   (pss_cons (ps_set (i := 8) sc_read_code.nd rfl (Or.inl rfl) (pe_callTy (call_intL zdg) (by rfl) bi.int_ (by decide +kernel) (pa_cons (pe_op op_addT pe_str (pv 7)) (pa_cons pe_int pa_nil))))
   (pss_cons (ps_if (pt_cmpR op_lt (pv 4) (pe_glob (v := .int 20) (by rfl) g_LONG_FORM ⟨_, rfl⟩) (nomark _))
   (pss_one (ps_ret (pe_tup (pa_cons (pe_op op_add (pe_op op_shl (pv 4) (pv 2)) (pv 8)) (pa_cons (pv 6) pa_nil)))))
   pss_nil)
   (pss_cons (ps_if (PW.pt (pw_or (pt_cmpR op_eq (pe_ix ix_str (pv 7) pe_int (fun _ _ => rfl)) pe_str (nomark _)) (pw_or1 (pt_cmpR op_lt (pe_op op_shr (pv 8) (pv 2)) (pe_glob (v := .int 20) (by rfl) g_LONG_FORM ⟨_, rfl⟩) (nomark _)))))
   (pss_one (ps_ret pe_non))
   pss_nil)
   (pss_one (ps_ret (pe_tup (pa_cons (pv 8) (pa_cons (pv 6) pa_nil))))))))))))))), ?_⟩
      refine rd_start (σ := [some (.str (SX.S l)), some (.int (pl : Int)), some (.int (k : Int)), none, none, none, none, none, none]) rfl ?_
      walk_at "rd"
      unfold rdC at q1 q2
      unfold fzI
      generalize onesL (l.drop pl) = o at q1 q2 ⊢
      by_cases hz : pl + o < l.length
      · rw [if_pos hz] at q1 q2 ⊢
        walk_at "rd"
        refine if_noD (by omega) ?_
        walk_at "rd"
        have eo : ((pl + o : Nat) : Int) - (pl : Int) = ((o : Nat) : Int) := by omega
        rw [eo]
        by_cases c : o < 20
        · rw [if_pos c] at q1 q2
          refine if_yesD (by omega) ?_
          walk_at "rd"
          rw [show ((pl + o : Nat) : Int) + 1 + (k : Int) = ((pl + o + 1 + k : Nat) : Int) by omega]
          by_cases d : l.length < pl + o + 1 + k
          · refine if_yesD (by omega) ?_
            walk_at "rd"
            exact q1 (by rw [if_pos d])
          · rw [if_neg d, if_pos c] at q2
            refine if_noD (by omega) ?_
            walk_at "rd"
            rw [show ((pl + o : Nat) : Int) + 1 = ((pl + o + 1 : Nat) : Int) by omega]
            refine rd_slSM (by omega) (by omega) (by omega) ?_
            rw [show pl + o + 1 + k - (pl + o + 1) = k by omega]
            have hdb : ∀ x ∈ (l.drop (pl + o + 1)).take k, IsB x := fun x hx => hb x (List.mem_of_mem_drop (List.mem_of_mem_take hx))
            have hdl : ((l.drop (pl + o + 1)).take k).length ≤ 16000 := by rw [List.length_take]; omega
            generalize (l.drop (pl + o + 1)).take k = dg at q2 hdb hdl ⊢
            walk_at "rd"
            refine rd_intL (l := [48] ++ dg) (by simp) (fun x hx => ?_) ?_
            · rcases List.mem_append.mp hx with hx | hx
              · exact .inl (List.mem_singleton.mp hx)
              · exact hdb x hx
            rw [show valB ([48] ++ dg) = valB dg from valB_zero dg]
            walk_at "rd"
            refine if_yesD (by omega) ?_
            walk_at "rd"
            rename_i p hp
            rw [Int.toNat_natCast, show (o : Int) * 2 ^ k + (valB dg : Nat) = ((o * 2 ^ k + valB dg : Nat) : Int) by norm_cast]
            exact q2 _ _ rfl p hp
        · rw [if_neg c] at q1 q2
          refine if_noD (by omega) ?_
          walk_at "rd"
          rw [show ((pl + o : Nat) : Int) + 1 + ((o : Nat) - 20 + 1) = ((pl + o + 1 + (o - 19) : Nat) : Int) by omega]
          by_cases d : l.length < pl + o + 1 + (o - 19)
          · refine if_yesD (by omega) ?_
            walk_at "rd"
            exact q1 (by rw [if_pos d])
          · rw [if_neg d, if_neg c] at q1 q2
            refine if_noD (by omega) ?_
            walk_at "rd"
            rw [show ((pl + o : Nat) : Int) + 1 = ((pl + o + 1 : Nat) : Int) by omega]
            refine rd_slSM (by omega) (by omega) (by omega) ?_
            rw [show pl + o + 1 + (o - 19) - (pl + o + 1) = o - 19 by omega]
            have hdb : ∀ x ∈ (l.drop (pl + o + 1)).take (o - 19), IsB x := fun x hx => hb x (List.mem_of_mem_drop (List.mem_of_mem_take hx))
            have hdl : ((l.drop (pl + o + 1)).take (o - 19)).length ≤ 16000 := by rw [List.length_take]; omega
            have hln : 0 < (l.drop (pl + o + 1)).length := by rw [List.length_drop]; omega
            have h0 : ((l.drop (pl + o + 1)).take (o - 19))[0]? = (l.drop (pl + o + 1))[0]? := by rw [List.getElem?_take, if_pos (by omega)]
            obtain ⟨ch, hch⟩ : ∃ ch, (l.drop (pl + o + 1))[0]? = some ch := ⟨_, List.getElem?_eq_getElem hln⟩
            rw [hch] at h0 q1 q2
            generalize (l.drop (pl + o + 1)).take (o - 19) = dg at q1 q2 hdb hdl h0 ⊢
            walk_at "rd"
            refine rd_intL (l := [48] ++ dg) (by simp) (fun x hx => ?_) ?_
            · rcases List.mem_append.mp hx with hx | hx
              · exact .inl (List.mem_singleton.mp hx)
              · exact hdb x hx
            rw [show valB ([48] ++ dg) = valB dg from valB_zero dg]
            walk_at "rd"
            refine if_noD (by omega) ?_
            walk_at "rd"
            refine rd_ixS (i := 0) rfl (by omega) h0 ?_
            walk_at "rd"
            by_cases z : ch = 48
            · subst z
              refine if_yesD (congrArg V.str e_0.symm) ?_
              walk_at "rd"
              exact q1 (by rw [if_pos (.inl rfl)])
            · have z2 : ¬ V.str (SX.S [ch]) = V.str (Str.ofString "0") := fun e => z (by
                rw [e_0] at e
                exact (List.cons.inj (SX.S_inj (V.str.inj e))).1)
              refine if_noD z2 ?_
              walk_at "rd"
              by_cases y : valB dg / 2 ^ k < 20
              · refine if_yesD (by omega) ?_
                walk_at "rd"
                exact q1 (by rw [if_pos (.inr y)])
              · refine if_noD (by omega) ?_
                walk_at "rd"
                rename_i p hp
                rw [if_neg (by rintro (e | e); exact z (Option.some.inj e); exact y e)] at q2
                exact q2 _ _ rfl p hp
      · rw [if_neg hz] at q1 ⊢
        walk_at "rd"
        refine if_yesD (by decide) ?_
        walk_at "rd"
        exact q1 rfl
    ) only [↓lt_eq]
theorem ok_read_numbers_V {f : Addr} {fd : FuncData} {f_check_within : Addr} {fd_check_within : FuncData} {f_check_coding : Addr} {fd_check_coding : FuncData} {f_parameter : Addr} {fd_parameter : FuncData} {f_read_code : Addr} {fd_read_code : FuncData} {f_number_with : Addr} {fd_number_with : FuncData} {f_table_behind : Addr} {fd_table_behind : FuncData}    (D : Dn K mg "read_numbers" s_read_numbers ["bits", "length", "coarse", "tables"] f fd) (bi : Bi mg) (G_check_within : FnOk P w K mg base CX0 3 f_check_within fd_check_within ["value", "low", "high"] spCkW) (D_check_within : Dn K mg "check_within" s_check_within ["value", "low", "high"] f_check_within fd_check_within) (G_check_coding : FnOk P w K mg base CX0 5 f_check_coding fd_check_coding ["length", "coarse", "tables"] (spCoding K)) (D_check_coding : Dn K mg "check_coding" s_check_coding ["length", "coarse", "tables"] f_check_coding fd_check_coding) (G_parameter : FnOk P w K mg base CX0 4 f_parameter fd_parameter ["table"] (spParG K)) (D_parameter : Dn K mg "parameter" s_parameter ["table"] f_parameter fd_parameter) (G_read_code : FnOk P w K mg base CX0 1 f_read_code fd_read_code ["bits", "place", "k"] spRdC) (D_read_code : Dn K mg "read_code" s_read_code ["bits", "place", "k"] f_read_code fd_read_code) (G_number_with : FnOk P w K mg base CX0 1 f_number_with fd_number_with ["code"] spNumW) (D_number_with : Dn K mg "number_with" s_number_with ["code"] f_number_with fd_number_with) (G_table_behind : FnOk P w K mg base CX0 1 f_table_behind fd_table_behind ["table", "code"] (spBehind K)) (D_table_behind : Dn K mg "table_behind" s_table_behind ["table", "code"] f_table_behind fd_table_behind) (G_read_code_L : FnOk P w K mg base CX0 1 f_read_code fd_read_code ["bits", "place", "k"] spRdL)   (g_BLOCK_LIMIT : ∃ t, mg "BLOCK_LIMIT" = some (.int 64 t)) : FnOk P w K mg base CX0 6 f fd ["bits", "length", "coarse", "tables"] (spRdV K) := by
  refine lt_out ?_
  simp (disch := with_unfolding_all
    refine D.F.ok sc_read_numbers (fun vs H Q E h => ?_) (fun cdv A outer s H vs Q E hr h => ?_)
    · obtain ⟨x, o, n, first, b, T, rfl, _⟩ := h
      rfl
    · obtain ⟨x, o, n, first, b, T, rfl, hx, hn64, hf, hT, o1, o2, q1, q2⟩ := h
      obtain ⟨t64, g_BLOCK_LIMIT⟩ := g_BLOCK_LIMIT
      refine ⟨_, (pss_cons (ps_expr (pe_call G_check_within (hr.mono (by first | decide | exact Nat.le_refl _)) (by rfl) D_check_within.g D_check_within.F.kp D_check_within.b .nil pass0 (pa_cons (pv 1) (pa_cons pe_int (pa_cons (pe_glob (v := .int 64) (by rfl) g_BLOCK_LIMIT ⟨_, rfl⟩) pa_nil)))))
   (pss_cons (ps_expr (pe_call G_check_coding (hr.mono (by first | decide | exact Nat.le_refl _)) (by rfl) D_check_coding.g D_check_coding.F.kp D_check_coding.b .nil pass0 (pa_cons (pv 1) (pa_cons (pv 2) (pa_cons (pv 3) pa_nil)))))
   (pss_cons (ps_if (PW.pt (pw_or (pt_not (pt_val (pe_callB call_isi (by rfl) bi.isinstance_ (by decide +kernel) (pa_cons (pv 0) (pa_cons (pe_bltn (v := .ty "str") (by rfl) bi.str_ (by decide +kernel) rfl) pa_nil))))) (pw_or1 (pt_cmpR op_ne (pe_bm PySem.F.plainAttrs_str PySem.F.slot_str_strip PySem.F.type_str_strip mt_stripK (pv 0) (pa_cons pe_str pa_nil)) pe_str (nomark _)))))
   (pss_one (ps_ret pe_non))
   pss_nil)
   (pss_cons (ps_set (i := 4) sc_read_numbers.nd rfl (Or.inl rfl) (pe_callTy cList (by rfl) bi.list_ (by decide +kernel) (pa_cons (pv 3) pa_nil)))
   (pss_cons (ps_set (i := 5) sc_read_numbers.nd rfl (Or.inl rfl) (pe_lst pa_nil))
   (pss_cons (ps_set (i := 6) sc_read_numbers.nd rfl (Or.inl rfl) pe_int)
   (pss_cons (ps_for PassesOwn.never rfl (pi_range1 (by rfl) bi.range_ (pa_cons (pv 1) pa_nil)) (pg_name (i := 7) sc_read_numbers.nd rfl (Or.inl rfl))
   (pss_cons (ps_set (i := 8) sc_read_numbers.nd rfl (Or.inl rfl) (pe_ifExp (pt_cmpR op_lt (pv 7) (pv 2) (nomark _)) pe_int pe_int))
   (pss_cons (ps_set (i := 9) sc_read_numbers.nd rfl (Or.inl rfl) (pe_call G_read_code_L (hr.mono (by first | decide | exact Nat.le_refl _)) (by rfl) D_read_code.g D_read_code.F.kp D_read_code.b .nil pass0 (pa_cons (pv 0) (pa_cons (pv 6) (pa_cons (pe_call G_parameter (hr.mono (by first | decide | exact Nat.le_refl _)) (by rfl) D_parameter.g D_parameter.F.kp D_parameter.b .nil pass0 (pa_cons (pe_ix ix_list (pv 4) (pv 8) (fun _ _ => rfl)) pa_nil)) pa_nil)))))
   (pss_cons (ps_if (pt_cmpR cIsN (pv 9) pe_non (nomark _))
   (pss_one (ps_ret pe_non))
   pss_nil)
   (pss_cons (ps_asg (pv 9) (pg_tup rfl (pgs_cons (pg_name (i := 10) sc_read_numbers.nd rfl (Or.inl rfl)) (pgs_cons (pg_name (i := 6) sc_read_numbers.nd rfl (Or.inl rfl)) pgs_nil))))
   (pss_cons (ps_expr (pe_bm PySem.F.plainAttrs_list PySem.F.slot_list_append PySem.F.type_list_append mt_append (pv 5) (pa_cons (pe_call G_number_with (hr.mono (by first | decide | exact Nat.le_refl _)) (by rfl) D_number_with.g D_number_with.F.kp D_number_with.b .nil pass0 (pa_cons (pv 10) pa_nil)) pa_nil)))
   (pss_one (ps_asg (pe_call G_table_behind (hr.mono (by first | decide | exact Nat.le_refl _)) (by rfl) D_table_behind.g D_table_behind.F.kp D_table_behind.b .nil pass0 (pa_cons (pe_ix ix_list (pv 4) (pv 8) (fun _ _ => rfl)) (pa_cons (pv 10) pa_nil))) (pg_sub (pv 4) (pv 8) set_list)))))))))
   (pss_cons (ps_if (pt_cmpR op_ne (pv 6) (pe_callB cLen (by rfl) bi.len_ (by decide +kernel) (pa_cons (pv 0) pa_nil)) (nomark _))
   (pss_one (ps_ret pe_non))
   pss_nil)
   (pss_one (ps_ret (pe_tup (pa_cons (pv 5) (pa_cons (pe_callTy cTuple (by rfl) bi.tuple_ (by decide +kernel) (pa_cons (pv 4) pa_nil)) pa_nil))))))))))))), ?_⟩
      refine rd_start (σ := [some x, some (.int (n : Nat)), some (.int (first : Int)), some (.ref b), none, none, none, none, none, none, none]) rfl ?_
      walk_at "rd"
      refine use_coding hf hT o1.1 o2.1 ?_
      obtain ⟨r0, r1, h0, h1, h2⟩ := hT
      cases hx with
      | non => walk_at "rd"; exact q1 rfl _ (Same.refl _)
      | bl => walk_at "rd"; exact q1 rfl _ (Same.refl _)
      | int => walk_at "rd"; exact q1 rfl _ (Same.refl _)
      | lst hL => walk_at "rd"; exact q1 rfl _ (Same.refl _)
      | tup hL => walk_at "rd"; exact q1 rfl _ (Same.refl _)
      | @odd l hb hl hcc =>
        have hbf : bitsOf (SX.S l) = false := by
          cases e : bitsOf (SX.S l) with
          | false => rfl
          | true => exact absurd (bits_iff.mp e) hb
        have hbf2 : ¬ V.str (Txt.stripChars (SX.S l) (SX.S [48, 49])) = V.str (Str.ofString "") := of_decide_eq_false hbf
        walk_at "rd"
        refine ⟨SX.S l, _, rfl, rfl, by rw [SX.S_len]; exact Nat.le_trans hl (by unfold sizeLine; decide), ?_⟩
        walk_at "rd"
        refine if_yesN hbf2 ?_
        walk_at "rd"
        exact q1 rfl _ (Same.refl _)
      | @good l hb hl =>
        have hl5 : l.length ≤ 16777216 := by omega
        have nR : ∀ {i : Nat}, rdN l first T i = none → i ≤ n → rdV (some l) n first T = none := fun {i} h hi => by
          show rdA l n first T = none
          unfold rdA
          rw [rdN_none h n hi]
        walk_at "rd"
        refine if_noN (congrArg V.str e_empty.symm) ?_
        walk_at "rd"
        refine rd_listQ h0.1 fun p hp => ?_
        walk_at "rd"
        rename_i w hw
        have hs2 : Same H (upd (upd H p (.lst [.ref r0, .ref r1])) w (.lst [])) := (same_new hp).trans (same_new hw)
        have hwn : H w = none := (same_new hp).free hw
        have hpw : p ≠ w := ne_of_none upd_same hw
        have hwp := hpw.symm
        refine for_range (lo := 0) (n := ((n : Nat) : Int).toNat) (fun i σ H' => ∃ r0 r1 S0 ns pl x7 x8 x9 x10, σ = [some (.str (SX.S l)), some (.int (n : Nat)), some (.int (first : Int)), some (.ref b), some (.ref p), some (.ref w), some (.int ((pl : Nat) : Int)), x7, x8, x9, x10] ∧ rdN l first T i = some (ns, S0, pl) ∧ H' p = some (.lst [.ref r0, .ref r1]) ∧ H' w = some (.lst ((ns : List Int).map V.int)) ∧ TbV K H' r0 S0.1 ∧ TbV K H' r1 S0.2 ∧ Same H H') ⟨r0, r1, T, [], 0, none, none, none, none, rfl, rfl, look_new hw upd_same, upd_same, (h1.lk (.new hp)).lk (.new hw), (h2.lk (.new hp)).lk (.new hw), hs2⟩ (fun i σ H' hi hI => ?_) (fun σ H' hI => ?_)
        · obtain ⟨r0, r1, S0, ns, pl, x7, x8, x9, x10, rfl, hrN, h3, h3w, h4, h5, hs⟩ := hI
          rw [Int.toNat_natCast] at hi
          obtain ⟨hnl, hpl, k1, k2⟩ := rdN_bd (b := 15000) hb hl (by decide) o1 o2 i ns S0 pl hrN
          have nR := fun h => nR (i := i + 1) h (by omega)
          rw [show (0 : Int) + (i : Int) = ((i : Nat) : Int) by omega]
          walk_at "rd"
          refine rd_iteD (fun c => ?_) (fun c => ?_)
          · have c := Int.ofNat_lt.mp c
            walk_at "rd"
            refine use_parG h4 k1.1 ?_
            walk_at "rd"
            have hpp := k1.par
            refine use_rdL hb (by omega) hpl (by omega) (fun hno => ?_) (fun u e hyes p1 hp1 => ?_)
            · have hN := rdN_lo c hrN
              rw [hno] at hN
              walk_at "rd"
              exact q1 (nR hN) _ hs
            · have hN := rdN_lo c hrN
              rw [hyes] at hN
              obtain ⟨hep, hel, hu⟩ := rdC_bd hb hyes
              have hlt : ns.length ≤ 1000 := by omega
              walk_at "rd"
              refine if_noD (fun z => V.noConfusion z) ?_
              have u3 := look_new (o := .tup [.int ((u : Nat) : Int), .int ((e : Nat) : Int)]) hp1 h3
              have u3w := look_new (o := .tup [.int ((u : Nat) : Int), .int ((e : Nat) : Int)]) hp1 h3w
              walk_at "rd"
              have v3 := look_upd (o := .lst ((ns ++ [unU u]).map V.int)) hpw u3
              have v4 : TbV K _ r0 S0.1 := TbV.lk (LK.at (o := .lst ((ns ++ [unU u]).map V.int)) u3w) (h4.lk (.new hp1))
              have v5 : TbV K _ r1 S0.2 := TbV.lk (LK.at (o := .lst ((ns ++ [unU u]).map V.int)) u3w) (h5.lk (.new hp1))
              refine use_behind v4 k1.1 fun p2 hp2 => ?_
              walk_at "rd"
              refine ⟨p2, r1, (tbB S0.1 u, S0.2), ns ++ [unU u], e, _, _, _, _, rfl, hN, upd_same, ?_, ?_, ?_, ?_⟩
              · rw [upd_ne hwp, upd_ne (ne_of_none upd_same hp2), upd_same]
              · exact TbV.lk (LK.at (look_new hp2 v3)) (TbV.of upd_same)
              · exact TbV.lk (LK.at (look_new hp2 v3)) (TbV.lk (LK.new hp2) v5)
              · intro b2 x e
                rw [upd_ne (ne_of_none e hp)]
                refine look_new hp2 ?_
                rw [upd_ne (ne_of_none e hwn)]
                exact look_new hp1 (hs _ _ e)
          · have c : ¬ i < first := fun z => c (Int.ofNat_lt.mpr z)
            walk_at "rd"
            refine use_parG h5 k2.1 ?_
            walk_at "rd"
            have hpp := k2.par
            refine use_rdL hb (by omega) hpl (by omega) (fun hno => ?_) (fun u e hyes p1 hp1 => ?_)
            · have hN := rdN_hi c hrN
              rw [hno] at hN
              walk_at "rd"
              exact q1 (nR hN) _ hs
            · have hN := rdN_hi c hrN
              rw [hyes] at hN
              obtain ⟨hep, hel, hu⟩ := rdC_bd hb hyes
              have hlt : ns.length ≤ 1000 := by omega
              walk_at "rd"
              refine if_noD (fun z => V.noConfusion z) ?_
              have u3 := look_new (o := .tup [.int ((u : Nat) : Int), .int ((e : Nat) : Int)]) hp1 h3
              have u3w := look_new (o := .tup [.int ((u : Nat) : Int), .int ((e : Nat) : Int)]) hp1 h3w
              walk_at "rd"
              have v3 := look_upd (o := .lst ((ns ++ [unU u]).map V.int)) hpw u3
              have v4 : TbV K _ r0 S0.1 := TbV.lk (LK.at (o := .lst ((ns ++ [unU u]).map V.int)) u3w) (h4.lk (.new hp1))
              have v5 : TbV K _ r1 S0.2 := TbV.lk (LK.at (o := .lst ((ns ++ [unU u]).map V.int)) u3w) (h5.lk (.new hp1))
              refine use_behind v5 k2.1 fun p2 hp2 => ?_
              walk_at "rd"
              refine ⟨r0, p2, (S0.1, tbB S0.2 u), ns ++ [unU u], e, _, _, _, _, rfl, hN, upd_same, ?_, ?_, ?_, ?_⟩
              · rw [upd_ne hwp, upd_ne (ne_of_none upd_same hp2), upd_same]
              · exact TbV.lk (LK.at (look_new hp2 v3)) (TbV.lk (LK.new hp2) v4)
              · exact TbV.lk (LK.at (look_new hp2 v3)) (TbV.of upd_same)
              · intro b2 x e
                rw [upd_ne (ne_of_none e hp)]
                refine look_new hp2 ?_
                rw [upd_ne (ne_of_none e hwn)]
                exact look_new hp1 (hs _ _ e)
        · obtain ⟨r0, r1, S0, ns, pl, x7, x8, x9, x10, rfl, hrN, h3, h3w, h4, h5, hs⟩ := hI
          rw [Int.toNat_natCast] at hrN
          have e1 : rdV (some l) n first T = if pl = l.length then some (ns, S0) else none := by
            show rdA l n first T = _
            unfold rdA
            rw [hrN]
          walk_at "rd"
          refine rd_iteN (fun c => ?_) (fun c => ?_)
          · walk_at "rd"
            exact q1 (by rw [e1, if_neg (fun z => c (by rw [z]))]) _ hs
          · walk_at "rd"
            rename_i g1 hg1 p1 hp1
            refine q2 ns S0 (by rw [e1, if_pos (by have := V.int.inj c; omega)]) p1 w g1 _ ((hs.trans (same_new hg1)).trans (same_new hp1)) ((hs.trans (same_new hg1)).free hp1) hwn upd_same (look_new hp1 (look_new hg1 h3w)) ⟨r0, r1, .of (look_new hp1 upd_same), (h4.lk (.new hg1)).lk (.new hp1), (h5.lk (.new hg1)).lk (.new hp1)⟩
    ) only [↓lt_eq]
theorem ok_read_frame_V {f : Addr} {fd : FuncData} {f_read_numbers : Addr} {fd_read_numbers : FuncData} {f_coarse_count : Addr} {fd_coarse_count : FuncData} {f_mark_of : Addr} {fd_mark_of : FuncData}    (D : Dn K mg "read_frame" s_read_frame ["record", "tables"] f fd) (bi : Bi mg) (G_read_numbers : FnOk P w K mg base CX0 6 f_read_numbers fd_read_numbers ["bits", "length", "coarse", "tables"] (spRdM K)) (D_read_numbers : Dn K mg "read_numbers" s_read_numbers ["bits", "length", "coarse", "tables"] f_read_numbers fd_read_numbers) (G_coarse_count : FnOk P w K mg base CX0 4 f_coarse_count fd_coarse_count ["length", "levels"] spCoarse) (D_coarse_count : Dn K mg "coarse_count" s_coarse_count ["length", "levels"] f_coarse_count fd_coarse_count) (G_mark_of : FnOk P w K mg base CX0 4 f_mark_of fd_mark_of ["numbers"] spMark) (D_mark_of : Dn K mg "mark_of" s_mark_of ["numbers"] f_mark_of fd_mark_of) (G_read_numbers_V : FnOk P w K mg base CX0 6 f_read_numbers fd_read_numbers ["bits", "length", "coarse", "tables"] (spRdV K))    : FnOk P w K mg base CX0 7 f fd ["record", "tables"] (spRfV K) := by
  refine lt_out ?_
  simp (disch := with_unfolding_all
    refine D.F.ok sc_read_frame (fun vs H Q E h => ?_) (fun cdv A outer s H vs Q E hr h => ?_)
    · obtain ⟨a, b, j, ln, lv, st, mk, l, T, rfl, _⟩ := h
      rfl
    · obtain ⟨a, b, j, ln, lv, st, mk, l, T, rfl, h, k1, k2, k3, hb, hl, hT, o1, o2, q1, q2⟩ := h
      unfold FrG at h
      unfold rdF at q1 q2
      refine ⟨_, (pss_cons (ps_asg (pe_slice sl_tup (pv 0) (po_some pe_int) po_none) (pg_tup rfl (pgs_cons (pg_name (i := 2) sc_read_frame.nd rfl (Or.inl rfl)) (pgs_cons (pg_name (i := 3) sc_read_frame.nd rfl (Or.inl rfl)) (pgs_cons (pg_name (i := 4) sc_read_frame.nd rfl (Or.inl rfl)) (pgs_cons (pg_name (i := 5) sc_read_frame.nd rfl (Or.inl rfl)) (pgs_cons (pg_name (i := 6) sc_read_frame.nd rfl (Or.inl rfl)) (pgs_cons (pg_name (i := 7) sc_read_frame.nd rfl (Or.inl rfl)) pgs_nil))))))))
   (pss_cons (ps_set (i := 8) sc_read_frame.nd rfl (Or.inl rfl) (pe_call G_read_numbers_V (hr.mono (by first | decide | exact Nat.le_refl _)) (by rfl) D_read_numbers.g D_read_numbers.F.kp D_read_numbers.b .nil pass0 (pa_cons (pv 7) (pa_cons (pv 2) (pa_cons (pe_call G_coarse_count (hr.mono (by first | decide | exact Nat.le_refl _)) (by rfl) D_coarse_count.g D_coarse_count.F.kp D_coarse_count.b .nil pass0 (pa_cons (pv 2) (pa_cons (pv 4) pa_nil))) (pa_cons (pv 1) pa_nil))))))
   (pss_cons (ps_if (PW.pt (pw_or (pt_cmpR cIsN (pv 8) pe_non (nomark _)) (pw_or1 (pt_cmpR op_ne (pe_call G_mark_of (hr.mono (by first | decide | exact Nat.le_refl _)) (by rfl) D_mark_of.g D_mark_of.F.kp D_mark_of.b .nil pass0 (pa_cons (pe_ix ix_tup (pv 8) pe_int (fun _ _ => rfl)) pa_nil)) (pv 6) (nomark _)))))
   (pss_one (ps_ret pe_non))
   pss_nil)
   (pss_one (ps_ret (pv 8)))))), ?_⟩
      refine rd_start (σ := [some (.ref a), some (.ref b), none, none, none, none, none, none, none]) rfl ?_
      walk_at "rd"
      refine rd_slTp (SqT.of h) (ys := [.int (ln : Nat), .ref j, .int (lv : Nat), .int (st : Nat), .int mk, .str (SX.S l)]) rfl (show ¬ (HT.sIx 7 0 (some 1) = 0 ∧ HT.sIx 7 7 none = 7) by decide) fun p1 hp1 => ?_
      have s1 := same_new (o := .tup [.int (ln : Nat), .ref j, .int (lv : Nat), .int (st : Nat), .int mk, .str (SX.S l)]) hp1
      walk_at "rd"
      refine use_coarse k1 k2 k3 ?_
      have hcc := cc_n ln lv
      walk_at "rd"
      refine use_rdV (.good hb hl) k2 (by omega) (hT.lk (.of s1)) o1 o2 (fun e H2 s2 => ?_) (fun ns T' e p m q H2 s2 hp hm ep em eq => ?_)
      · have e : rdA l ln (cc ln lv) T = none := e
        walk_at "rd"
        refine if_yesD rfl ?_
        walk_at "rd"
        exact q1 (by rw [e]) _ (s1.trans s2)
      · have e : rdA l ln (cc ln lv) T = some (ns, T') := e
        rw [e] at q1 q2
        dsimp only at q1 q2
        have hln := (rdA_wst hb hl (by decide) o1 o2 e).1
        walk_at "rd"
        refine if_noD (fun z => V.noConfusion z) ?_
        walk_at "rd"
        rename_i H3 hs3
        refine rd_iteN (fun c => ?_) (fun c => ?_)
        · walk_at "rd"
          exact q1 (if_neg fun z => c (congrArg V.int z)) _ ((s1.trans s2).trans hs3)
        · walk_at "rd"
          exact q2 ns T' (if_pos (V.int.inj c)) p m q _ ((s1.trans s2).trans hs3) (s1.free hp) (s1.free hm) (hs3 _ _ ep) (hs3 _ _ em) (eq.lk (.of hs3))
    ) only [↓lt_eq]
theorem ok_read_frames {f : Addr} {fd : FuncData} {f_read_frame : Addr} {fd_read_frame : FuncData} {C_InvalidStream : Addr}   (D : Dn K mg "read_frames" s_read_frames ["records"] f fd) (bi : Bi mg) (G_read_frame : FnOk P w K mg base CX0 7 f_read_frame fd_read_frame ["record", "tables"] (spRfM K)) (D_read_frame : Dn K mg "read_frame" s_read_frame ["record", "tables"] f_read_frame fd_read_frame) (G_read_frame_V : FnOk P w K mg base CX0 7 f_read_frame fd_read_frame ["record", "tables"] (spRfV K)) (G_read_frame_O : FnOk P w K mg base CX0 7 f_read_frame fd_read_frame ["record", "tables"] (fun vs H Q E => spRfM K vs H Q E ∨ spRfV K vs H Q E))  (T_InvalidStream : ErrK P w K mg base "InvalidStream" "index" C_InvalidStream) {a_START t0 t1 a_HARD : Addr} (g_START : mg "START" = some (.ref a_START)) (hSt : ∀ H, TupV K H a_START [.ref t0, .ref t1]) (hS0 : ∀ H, TupV K H t0 [.int 2, .int 1]) (hS1 : ∀ H, TupV K H t1 [.int 2, .int 1]) (g_HARD : mg "HARD" = some (.ref a_HARD)) (hHd : ∀ H, TupV K H a_HARD [.int 0, .int 0]) : FnOk P w K mg base (L2.CX P w) 8 f fd ["records"] (spFrsZ K C_InvalidStream) := by
  refine lt_out ?_
  simp (disch := with_unfolding_all
    refine D.F.okX sc_read_frames (fun vs H Q E h => ?_) (fun cdv A outer s H vs Q E hr h => ?_)
    · obtain ⟨a, refs, tl, o, rs, T, w, rfl, _⟩ := h
      rfl
    · obtain ⟨a, refs, tl, o, rs, Te, w, rfl, hS, hlen, hR, hTl, hV, hto, q, q1, q2⟩ := h
      have hrl := hR.len
      have hlen2 : refs.length ≤ 400 := by rw [List.length_append] at hlen; omega
      refine ⟨_, (pss_cons (ps_set (i := 1) sc_read_frames.nd rfl (Or.inl rfl) (pe_lst pa_nil))
   (pss_cons (ps_par3 (i := 2) (j := 3) (l := 4) rfl sc_read_frames.nd rfl rfl rfl (by decide) (by decide) (by decide) rfl rfl rfl (pa_cons (pe_glob (v := .ref a_START) (by rfl) g_START rfl) (pa_cons pe_int (pa_cons (pe_glob (v := .ref a_HARD) (by rfl) g_HARD rfl) pa_nil))) rfl)
   (pss_cons (ps_for (passes_of rfl) rfl (pi_enum (by rfl) bi.enumerate_ (pa_cons (pv 0) pa_nil)) (pg_tup rfl (pgs_cons (pg_name (i := 5) sc_read_frames.nd rfl (Or.inl rfl)) (pgs_cons (pg_name (i := 6) sc_read_frames.nd rfl (Or.inl rfl)) pgs_nil)))
   (pss_one (ps_if (pt_cmpR op_eq (pe_ix ix_tup (pv 6) pe_int (fun _ _ => rfl)) pe_str (nomark _))
   (pss_one (ps_set (i := 2) sc_read_frames.nd rfl (Or.inl rfl) (pe_ix ix_tup (pv 6) pe_int (fun _ _ => rfl))))
   (pss_cons (ps_asg (pe_slice sl_tup (pv 6) (po_some pe_int) (po_some pe_int)) (pg_tup rfl (pgs_cons (pg_name (i := 7) sc_read_frames.nd rfl (Or.inl rfl)) (pgs_cons (pg_name (i := 8) sc_read_frames.nd rfl (Or.inl rfl)) pgs_nil))))
   (pss_cons (ps_set (i := 9) sc_read_frames.nd rfl (Or.inl rfl) (pe_call G_read_frame_O (hr.mono (by first | decide | exact Nat.le_refl _)) (by rfl) D_read_frame.g D_read_frame.F.kp D_read_frame.b .nil pass0 (pa_cons (pv 6) (pa_cons (pv 2) pa_nil))))
   (pss_cons (ps_if (PW.pt (pw_or (pt_cmpR op_gt (pe_op op_add (pe_ix ix_tup (pv 4) pe_int (fun _ _ => rfl)) (pe_ix ix_tup (pv 8) pe_int (fun _ _ => rfl))) (pv 7) (nomark _)) (pw_or1 (pt_cmpR cIsN (pv 9) pe_non (nomark _)))))
   (pss_one (ps_raiseE T_InvalidStream rfl (hr.mono (by first | decide | exact Nat.le_refl _)) (takes_of rfl rfl rfl rfl) (pa_cons (pv 5) pa_nil)))
   pss_nil)
   (pss_cons (ps_asg (pv 9) (pg_tup rfl (pgs_cons (pg_name (i := 10) sc_read_frames.nd rfl (Or.inl rfl)) (pgs_cons (pg_name (i := 11) sc_read_frames.nd rfl (Or.inl rfl)) pgs_nil))))
   (pss_cons (ps_expr (pe_bm PySem.F.plainAttrs_list PySem.F.slot_list_append PySem.F.type_list_append mt_append (pv 1) (pa_cons (pe_tup (pa_cons (pe_tup (pa_cons (pv 5) (pa_cons (pv 3) (pa_cons (pv 7) (pa_cons (pv 4) (pa_cons (pv 8) pa_nil)))))) (pa_cons (pv 10) (pa_cons (pv 2) (pa_cons (pv 11) pa_nil))))) pa_nil)))
   (pss_one (ps_par3 (i := 2) (j := 3) (l := 4) rfl sc_read_frames.nd rfl rfl rfl (by decide) (by decide) (by decide) rfl rfl rfl (pa_cons (pv 11) (pa_cons (pe_op op_add (pv 3) (pv 7)) (pa_cons (pv 8) pa_nil))) rfl))))))))))
   (pss_cons (ps_if (pt_cmpR (op_neD hr.units) (pv 4) (pe_glob (v := .ref a_HARD) (by rfl) g_HARD rfl) (nomark _))
   (pss_one (ps_raiseE T_InvalidStream rfl (hr.mono (by first | decide | exact Nat.le_refl _)) (takes_of rfl rfl rfl rfl) (pa_cons (pe_ix ix_tup (pe_ix ix_tup (pe_ix ix_list (pv 1) (pe_un un_neg pe_int) (fun _ _ => rfl)) pe_int (fun _ _ => rfl)) pe_int (fun _ _ => rfl)) pa_nil)))
   pss_nil)
   (pss_one (ps_ret (pv 1))))))), ?_⟩
      refine rd_start (σ := [some (.ref a), none, none, none, none, none, none, none, none, none, none, none]) rfl ?_
      walk_at "rd"
      rename_i F hF
      refine rd_lpE (SqL.of (look_new hF hS)) ?_
      refine for_enum (xs := refs ++ tl) (fun i σ H' => i ≤ refs.length ∧ ∃ fms dn t T pl jl lj x5 x6 x7 x8 x9 x10 x11, σ = [some (.ref a), some (.ref F), some (.ref t), some (.int (pl : Nat)), some (.ref jl), x5, x6, x7, x8, x9, x10, x11] ∧ FIW K F H H' rs Te w i fms dn t T pl jl lj) ⟨Nat.zero_le _, [], [], a_START, T0, 0, a_HARD, (0, 0), none, none, none, none, none, none, none, rfl, ⟨upd_same, hF, .nil, rfl, hV, hHd _, fun _ => rfl, ⟨t0, t1, hSt _, hS0 _, hS1 _⟩, same_new hF, Nat.le_refl _, .inl rfl⟩⟩ (fun i σ H1 _ hI => ?_) (fun i v σ H1 W hv hI hW => ?_) (fun σ H1 hI => ?_)
      · obtain ⟨_, fms, dn, t, T, pl, jl, lj, x5, x6, x7, x8, x9, x10, x11, rfl, hI⟩ := hI
        exact SqL.of (hI.sm _ _ hS)
      · obtain ⟨hir, fms, dn, t, T, pl, jl, lj, x5, x6, x7, x8, x9, x10, x11, rfl, hI⟩ := hI
        by_cases hil : ¬ i < refs.length
        · obtain rfl : i = refs.length := by omega
          rw [List.getElem?_append_right (Nat.le_refl _), Nat.sub_self] at hv
          have hI := hI.same (same_new (o := .tup [.int (refs.length : Nat), v]) hW)
          have hTl := hTl.same hI.sm
          have vd := hI.vd
          have sp := hI.sp
          rw [hrl, List.drop_length] at vd sp
          have l0 : lj.1 = w := vd.2
          rw [show frR rs.length pl lj [] = [] from rfl, List.append_nil] at sp
          cases hTl with
          | nil => cases hv
          | @bad b j ln lv st wd sh mk l post hb hj k1 k2 k3 kb kl hx =>
            obtain rfl : v = .ref b := (Option.some.inj hv).symm
            have hb' := hb
            unfold FrG at hb
            walk_at "rd"
            refine if_noD st_ne_fr ?_
            walk_at "rd"
            refine rd_slTp (SqT.of hb) (ys := [.int (ln : Nat), .ref j]) rfl (show ¬ (HT.sIx 7 0 (some 1) = 0 ∧ HT.sIx 7 7 (some 3) = 7) by decide) fun p1 hp1 => ?_
            have sp1 := same_new (o := .tup [.int (ln : Nat), .ref j]) hp1
            have hI := hI.same sp1
            have hb := sp1 _ _ hb'
            have hj := sp1 _ _ hj
            obtain ⟨ok1, ok2⟩ := hto rfl
            rw [← vd.1] at ok1 ok2 hx
            walk_at "rd"
            refine .inr (use_rfV hb k1 k2 k3 kb kl hI.tb ok1 ok2 (fun e H2 s2 => ?_) (fun ns T' e p m qq H2 s2 hp hm ep em eq => ?_))
            · have hI := hI.same s2
              have hj := s2 _ _ hj
              have L1 := hI.jt.1
              have qq := (q1 rfl).same hI.sm
              rw [← hrl] at qq
              walk_at "rd"
              refine rd_iteD (fun c => ?_) (fun c => ?_)
              · walk_at "rd"
                exact qq.now
              · walk_at "rd"
                refine if_yesD rfl ?_
                walk_at "rd"
                exact qq.now
            · have hx := hx.resolve_right (by rw [e]; exact fun z => by cases z)
              have hI := hI.same s2
              have hj := s2 _ _ hj
              have L1 := hI.jt.1
              have qq := (q1 rfl).same hI.sm
              rw [← hrl] at qq
              walk_at "rd"
              refine if_yesD (by omega) ?_
              walk_at "rd"
              exact qq.now
        have hil := Decidable.not_not.mp hil
        have hv : refs[i]? = some v := by rw [List.getElem?_append_left hil] at hv; exact hv
        obtain ⟨r, rr, hv2, hd1, hd2, hmem⟩ := hR.drop_head hv
        have hI := hI.same (same_new (o := .tup [.int (i : Nat), v]) hW)
        have hv2 := hv2.lk (.of hI.sm)
        have hok := hV.ok r hmem
        cases r with
        | st T' =>
          obtain ⟨b, t', rfl, hb, hT'⟩ := hv2
          walk_at "rd"
          refine if_yesD rfl ?_
          walk_at "rd"
          exact ⟨hil, fms, dn, t', T', pl, jl, lj, _, _, _, _, _, _, _, rfl, hI.st hd1 hd2 hT'⟩
        | fr d ns T' =>
          obtain ⟨b, j, rfl, hb, hj⟩ := hv2
          have vd := hI.vd
          rw [hd1] at vd
          obtain ⟨rfl, v2, v3, v4, v5, v6, v7⟩ := vd
          have hrc : RcAt K _ (.ref b) (.fr d ns T') := ⟨b, j, rfl, hb, hj⟩
          unfold FrAt at hb
          walk_at "rd"
          refine if_noD st_ne_fr ?_
          walk_at "rd"
          refine rd_slTp (SqT.of hb) (ys := [.int (d.1 : Nat), .ref j]) rfl (show ¬ (HT.sIx 7 0 (some 1) = 0 ∧ HT.sIx 7 7 (some 3) = 7) by decide) fun p1 hp1 => ?_
          have lk1 := LK.new (o := .tup [.int (d.1 : Nat), .ref j]) hp1
          have hI := hI.same (same_new (o := .tup [.int (d.1 : Nat), .ref j]) hp1)
          have hrc := hrc.lk lk1
          walk_at "rd"
          refine .inl (use_rfM0 hrc hok hI.tb fun p2 m2 q2 H2 hs2 hn2 hp2 hm2 hq2 => ?_)
          have hI := hI.same hs2
          have hj2 := (LK.of hs2) _ _ (lk1 _ _ hj fun _ z => nomatch z) fun _ z => nomatch z
          have L1 := hI.jt.1
          walk_at "rd"
          refine if_noD (by omega) ?_
          walk_at "rd"
          refine if_noD (fun z => V.noConfusion z) ?_
          have eF := hI.eF
          have hlf := hI.len
          have nmF : m2 ≠ F := ne_fms eF hm2 (by have := v2.1; omega) (fms_ref hI.fm)
          walk_at "rd"
          rename_i b5 hb5 w6 hw6
          have s5 := same_new (o := .tup [.int (i : Nat), .int (pl : Nat), .int (d.1 : Nat), .ref jl, .ref j]) hb5
          have s6 := same_new (o := .tup [.ref b5, .ref m2, .ref t, .ref q2]) hw6
          have hI := hI.same (s5.trans s6)
          refine rd_appG hI.eF (by omega) ?_
          walk_at "rd"
          have lk5 := LK.of (s5.trans s6)
          have fm : FmAt K [F] _ (.ref w6) (i, pl, d, lj, ns, T') := ⟨w6, b5, jl, j, m2, t, q2, rfl, upd_same, s6 _ _ upd_same, hI.jt, lk5 _ _ hj2 (fun _ z => nomatch z), fun z => nmF (List.mem_singleton.mp z), s6 _ _ (s5 _ _ hm2), hI.tb, hq2.lk lk5⟩
          have hI := hI.fr hd1 hd2 fm (lk5 _ _ hj2 fun _ z => nomatch z) (hq2.lk lk5)
          refine ⟨hil, _, _, q2, _, pl + d.1, j, _, some (.int (i : Nat)), some (.ref b), some (.int (d.1 : Nat)), some (.ref j), some (.ref p2), some (.ref m2), some (.ref q2), ?_, hI⟩
          rw [show ((pl + d.1 : Nat) : Int) = (pl : Int) + (d.1 : Int) by omega]
          rfl
      · obtain ⟨hir, fms, dn, t, T, pl, jl, lj, x5, x6, x7, x8, x9, x10, x11, rfl, hI⟩ := hI
        rw [List.length_append] at hir hI
        obtain rfl : tl = [] := List.length_eq_zero_iff.mp (by omega)
        have ho : o = false := by
          cases hTl
          rfl
        have vd := hI.vd
        have sp := hI.sp
        rw [List.length_nil, Nat.add_zero, hrl, List.drop_length] at vd sp
        rw [show frR rs.length pl lj [] = [] from rfl, List.append_nil] at sp
        have eF := hI.eF
        have hfm := hI.fm
        have hjt := hI.jt
        have l0 : lj.1 = w := vd.2
        have j0 := hI.j0
        have nz := hI.nz
        have hdl : dn.length ≤ 400 := Nat.le_trans hI.le (by rw [List.length_nil]; omega)
        have sm := hI.sm
        walk_at "rd"
        by_cases w0 : w = 0
        · have l1 := j0 (l0.trans w0)
          refine rd_neT2 hjt.1 (hHd _).1 (by omega) (by omega) ?_
          walk_at "rd"
          exact q ho w0 F fms _ hF eF (by rw [sp]; exact hfm.imp fun _ _ z => z.out) sm
        · refine rd_neT2n hjt.1 (hHd _).1 (by omega) ?_
          have hne : dn ≠ [] := nz.resolve_left (by omega)
          obtain ⟨ds, f, rfl⟩ : ∃ ds f, dn = ds ++ [f] := ⟨_, _, (List.dropLast_concat_getLast hne).symm⟩
          obtain ⟨vs, v, ev, hvs, hvf⟩ := fms_last hfm
          obtain ⟨fa, b, jl2, j2, m2, t2, q3, rfl, hfa, hfb, _⟩ := hvf
          rw [ev] at eF
          have hvl : vs.length + 1 ≤ 400 := by
            rw [List.length_append] at hdl
            have hdl : ds.length + 1 ≤ 400 := hdl
            omega
          have qq := q2 ho w0 f (by rw [sp, List.getLast?_append]; rfl)
          walk_at "rd"
          refine rd_raiseR (v := .int (f.1 : Nat)) (H1 := H1) (fun Q' hq => ?_) (fun d hd => (qq.same sm).now d hd)
          walk_at "rd"
          refine rd_ixL (SqL.of eF) (atI_last _ _) ?_
          walk_at "rd"
          exact hq
    ) only [↓lt_eq]
theorem ok_check_records {f : Addr} {fd : FuncData} {f_is_record : Addr} {fd_is_record : FuncData} {C_InvalidStream : Addr}   (D : Dn K mg "check_records" s_check_records ["records"] f fd) (bi : Bi mg) (G_is_record : FnOk P w K mg base CX0 6 f_is_record fd_is_record ["value"] (spIsRc K)) (D_is_record : Dn K mg "is_record" s_is_record ["value"] f_is_record fd_is_record) (G_is_record_A : FnOk P w K mg base CX0 6 f_is_record fd_is_record ["value"] spRec)  (T_InvalidStream : ErrK P w K mg base "InvalidStream" "index" C_InvalidStream)  : FnOk P w K mg base (L2.CX P w) 7 f fd ["records"] (spCkZ C_InvalidStream) := by
  refine lt_out ?_
  simp (disch := with_unfolding_all
    refine D.F.okX sc_check_records (fun vs H Q E h => ?_) (fun cdv A outer s H vs Q E hr h => ?_)
    · obtain ⟨v, o, rfl, _⟩ := h
      rfl
    · obtain ⟨v, o, rfl, hC, he, q⟩ := h
      refine ⟨_, (pss_cons (ps_if (pt_not (pt_val (pe_callB call_isiT (by rfl) bi.isinstance_ (by decide +kernel) (pa_cons (pv 0) (pa_cons (pe_tup (pa_cons (pe_bltn (v := .ty "list") (by rfl) bi.list_ (by decide +kernel) rfl) (pa_cons (pe_bltn (v := .ty "tuple") (by rfl) bi.tuple_ (by decide +kernel) rfl) pa_nil))) pa_nil)))))
   (pss_one (ps_raiseE T_InvalidStream rfl (hr.mono (by first | decide | exact Nat.le_refl _)) (takes_of rfl rfl rfl rfl) (pa_cons pe_non pa_nil)))
   pss_nil)
   (pss_one (ps_for (passes_of rfl) rfl (pi_enumA (by rfl) bi.enumerate_ (pa_cons (pv 0) pa_nil)) (pg_tup rfl (pgs_cons (pg_name (i := 1) sc_check_records.nd rfl (Or.inl rfl)) (pgs_cons (pg_name (i := 2) sc_check_records.nd rfl (Or.inl rfl)) pgs_nil)))
   (pss_one (ps_if (pt_not (pt_val (pe_call G_is_record_A (hr.mono (by first | decide | exact Nat.le_refl _)) (by rfl) D_is_record.g D_is_record.F.kp D_is_record.b .nil pass0 (pa_cons (pv 2) pa_nil))))
   (pss_one (ps_raiseE T_InvalidStream rfl (hr.mono (by first | decide | exact Nat.le_refl _)) (takes_of rfl rfl rfl rfl) (pa_cons (pv 1) pa_nil)))
   pss_nil))))), ?_⟩
      refine rd_start (σ := [some v, none, none]) rfl ?_
      walk_at "rd"
      rename_i t ht
      have hst := same_new (o := .tup [.ty "list", .ty "tuple"]) ht
      cases hC with
      | flat h =>
        refine isiT_flat h upd_same ?_
        walk_at "rd"
        exact ((he _ rfl).same hst).now
      | @dct a h =>
        refine isiT_dZ (hst _ _ h) upd_same ?_
        walk_at "rd"
        exact ((he _ rfl).same hst).now
      | @seq a xs bs h hx =>
        have hL : LT (upd H t (.tup [.ty "list", .ty "tuple"])) a xs := h.same hst
        refine isiT_lt hL upd_same ?_
        walk_at "rd"
        refine for_enumA hL (fun i σ H' => ∃ x1 x2, σ = [some (.ref a), x1, x2] ∧ (fstF (bs.drop i)).map (· + i) = fstF bs ∧ Same H H') ⟨none, none, rfl, by rw [List.drop_zero]; simp, hst⟩ (fun i σ H1 _ hI => ?_) (fun i v σ H1 T hv hI hT => ?_) (fun σ H1 hI => ?_)
        · obtain ⟨x1, x2, rfl, _, sm⟩ := hI
          intro ob e
          rcases h with h | h
          · have e2 := hst _ _ h
            rw [e2] at e
            rw [← Option.some.inj e]
            exact sm _ _ h
          · have e2 := hst _ _ h
            rw [e2] at e
            rw [← Option.some.inj e]
            exact sm _ _ h
        · obtain ⟨x1, x2, rfl, hf, sm⟩ := hI
          obtain ⟨b, r, hr, hd, hd2⟩ := hx.get i v hv
          obtain ⟨f1, f2⟩ := fst_drop hd hf
          have s2 := sm.trans (same_new (o := .tup [.int (i : Nat), v]) hT)
          walk_at "rd"
          refine use_rec (hr.same s2) fun H2 s3 => ?_
          have s4 := s2.trans s3
          cases b with
          | false =>
            walk_at "rd"
            refine ((he (.int (i : Nat)) ?_).same s4).now
            rw [f1 rfl]
            rfl
          | true =>
            walk_at "rd"
            exact ⟨_, _, rfl, by rw [hd2]; exact f2 rfl, s4⟩
        · obtain ⟨x1, x2, rfl, hf, sm⟩ := hI
          rw [hx.len, List.drop_length] at hf
          have hf : none = fstF bs := hf
          walk_at "rd"
          exact q (by rw [← hf]; rfl) _ sm
    ) only [↓lt_eq]
theorem ok_join_once {f : Addr} {fd : FuncData}     (D : Dn K mg "join_once" s_join_once ["sums", "differences"] f fd) (bi : Bi mg)      : FnOk P w K mg base CX0 1 f fd ["sums", "differences"] spJoin1 := by
  refine lt_out ?_
  simp (disch := with_unfolding_all
    refine D.F.ok sc_join_once (fun vs H Q E h => ?_) (fun cdv A outer s H vs Q E hr h => ?_)
    · obtain ⟨s, d, S, D, rfl, _⟩ := h
      rfl
    · obtain ⟨s, d, S, D, rfl, e1, e2, h1, h2, q⟩ := h
      refine ⟨_, (pss_cons (ps_set (i := 2) sc_join_once.nd rfl (Or.inl rfl) (pe_lst pa_nil))
   (pss_cons (ps_for PassesOwn.never rfl (pi_enum (by rfl) bi.enumerate_ (pa_cons (pv 1) pa_nil)) (pg_tup rfl (pgs_cons (pg_name (i := 3) sc_join_once.nd rfl (Or.inl rfl)) (pgs_cons (pg_name (i := 4) sc_join_once.nd rfl (Or.inl rfl)) pgs_nil)))
   (pss_cons (ps_set (i := 5) sc_join_once.nd rfl (Or.inl rfl) (pe_op op_sub (pe_ix ix_list (pv 0) (pv 3) (fun _ _ => rfl)) (pe_op op_fdiv (pv 4) pe_int)))
   (pss_cons (ps_expr (pe_bm PySem.F.plainAttrs_list PySem.F.slot_list_append PySem.F.type_list_append mt_append (pv 2) (pa_cons (pe_op op_add (pv 5) (pv 4)) pa_nil)))
   (pss_one (ps_expr (pe_bm PySem.F.plainAttrs_list PySem.F.slot_list_append PySem.F.type_list_append mt_append (pv 2) (pa_cons (pv 5) pa_nil)))))))
   (pss_one (ps_ret (pe_op op_cat (pv 2) (pe_slice sl_list (pv 0) (po_some (pe_callB cLen (by rfl) bi.len_ (by decide +kernel) (pa_cons (pv 1) pa_nil))) po_none)))))), ?_⟩
      refine rd_start (σ := [some (.ref s), some (.ref d), none, none, none, none]) rfl ?_
      have hml : (D.map V.int).length = D.length := List.length_map ..
      have hjl := jp_length S D h1
      walk_at "rd"
      rename_i v1 hv1
      refine rd_lpE (xs := D.map V.int) (SqL.of (look_new hv1 e2)) ?_
      refine for_enum (xs := D.map V.int) (fun i σ H' => ∃ t1 t2 t3, σ = [some (.ref s), some (.ref d), some (.ref v1), t1, t2, t3] ∧ H' v1 = some (.lst (((jp S D).take (2 * i)).map V.int)) ∧ Same H H') ⟨none, none, none, rfl, upd_same, same_new hv1⟩ (fun i σ H1 _ hI => ?_) (fun i v σ H1 T hv hI hT => ?_) (fun σ H1 hI => ?_)
      · obtain ⟨t1, t2, t3, rfl, h3, hs⟩ := hI
        exact SqL.of (hs _ _ e2)
      · obtain ⟨t1, t2, t3, rfl, h3, hs⟩ := hI
        obtain ⟨z, rfl, hz⟩ : ∃ z, v = .int z ∧ D[i]? = some z := by
          rw [List.getElem?_map] at hv
          cases g : D[i]? with
          | none => rw [g] at hv; cases hv
          | some z => rw [g] at hv; exact ⟨z, (Option.some.inj hv).symm, rfl⟩
        have hiD := (List.getElem?_eq_some_iff.mp hz).1
        have hiS : i < S.length := by omega
        have hat := at_ints (List.getElem?_eq_getElem hiS)
        have hst := jp_step S D i _ _ (List.getElem?_eq_getElem hiS) hz
        have k1 : ((jp S D).take (2 * i)).length ≤ 500 := by rw [List.length_take]; omega
        have e1' := hs _ _ e1
        have k2 : ∀ z : Int, ((jp S D).take (2 * i) ++ [z]).length ≤ 1000 := fun z => by rw [List.length_append]; simp only [List.length_cons, List.length_nil]; omega
        walk_at "rd"
        refine' rd_appI ?k1 (k2 _) ?_
        (case k1 => exact upd_same)
        walk_at "rd"
        refine ⟨_, _, _, rfl, ?_, fun b x e => ?_⟩
        · rw [upd_same, hst, List.append_assoc]
          rfl
        · have nb : b ≠ v1 := ne_of_none e hv1
          rw [upd_ne nb, upd_ne nb]
          exact look_new hT (hs _ _ e)
      · obtain ⟨t1, t2, t3, rfl, h3, hs⟩ := hI
        rw [hml, List.take_of_length_le (by omega)] at h3
        have e1' := hs _ _ e1
        have e2' := hs _ _ e2
        walk_at "rd"
        rw [hml]
        refine rd_slF (ns := S) (k := D.length) (SqL.of e1') h1 fun p6 hp6 => ?_
        have hl6 : (S.drop D.length).length ≤ 64 := by rw [List.length_drop]; omega
        walk_at "rd"
        rename_i p7 hp7
        rw [← jn_jp S D h1]
        exact q p7 _ (hs.trans ((same_new hp6).trans (same_new hp7))) (hs.free ((same_new hp6).free hp7)) upd_same
    ) only [↓lt_eq]
theorem ok_join_levels {f : Addr} {fd : FuncData} {f_check_block : Addr} {fd_check_block : FuncData} {f_check_within : Addr} {fd_check_within : FuncData} {f_coarse_count : Addr} {fd_coarse_count : FuncData} {f_join_once : Addr} {fd_join_once : FuncData}    (D : Dn K mg "join_levels" s_join_levels ["numbers", "levels"] f fd) (bi : Bi mg) (G_check_block : FnOk P w K mg base CX0 3 f_check_block fd_check_block ["values", "least"] spBlock) (D_check_block : Dn K mg "check_block" s_check_block ["values", "least"] f_check_block fd_check_block) (G_check_within : FnOk P w K mg base CX0 3 f_check_within fd_check_within ["value", "low", "high"] spCkW) (D_check_within : Dn K mg "check_within" s_check_within ["value", "low", "high"] f_check_within fd_check_within) (G_coarse_count : FnOk P w K mg base CX0 4 f_coarse_count fd_coarse_count ["length", "levels"] spCoarse) (D_coarse_count : Dn K mg "coarse_count" s_coarse_count ["length", "levels"] f_coarse_count fd_coarse_count) (G_join_once : FnOk P w K mg base CX0 1 f_join_once fd_join_once ["sums", "differences"] spJoin1) (D_join_once : Dn K mg "join_once" s_join_once ["sums", "differences"] f_join_once fd_join_once)    (g_LEVEL_LIMIT : ∃ t, mg "LEVEL_LIMIT" = some (.int 5 t)) : FnOk P w K mg base CX0 5 f fd ["numbers", "levels"] spJoin := by
  refine lt_out ?_
  simp (disch := with_unfolding_all
    refine D.F.ok sc_join_levels (fun vs H Q E h => ?_) (fun cdv A outer s H vs Q E hr h => ?_)
    · obtain ⟨a, ns, k, rfl, _⟩ := h
      rfl
    · obtain ⟨a, ns, k, rfl, hS, h1, h2, h3, h4, q⟩ := h
      obtain ⟨t64, g_LEVEL_LIMIT⟩ := g_LEVEL_LIMIT
      obtain ⟨m, rfl⟩ : ∃ m : Nat, k = (m : Int) := ⟨k.toNat, by omega⟩
      have hml : (ns.map V.int).length = ns.length := List.length_map ..
      refine ⟨_, (pss_cons (ps_expr (pe_call G_check_block (hr.mono (by first | decide | exact Nat.le_refl _)) (by rfl) D_check_block.g D_check_block.F.kp D_check_block.b .nil pass0 (pa_cons (pv 0) (pa_cons pe_int pa_nil))))
   (pss_cons (ps_expr (pe_call G_check_within (hr.mono (by first | decide | exact Nat.le_refl _)) (by rfl) D_check_within.g D_check_within.F.kp D_check_within.b .nil pass0 (pa_cons (pv 1) (pa_cons pe_int (pa_cons (pe_glob (v := .int 5) (by rfl) g_LEVEL_LIMIT ⟨_, rfl⟩) pa_nil)))))
   (pss_cons (ps_set (i := 2) sc_join_levels.nd rfl (Or.inl rfl) (pe_slice sl_list (pv 0) po_none (po_some (pe_call G_coarse_count (hr.mono (by first | decide | exact Nat.le_refl _)) (by rfl) D_coarse_count.g D_coarse_count.F.kp D_coarse_count.b .nil pass0 (pa_cons (pe_callB cLen (by rfl) bi.len_ (by decide +kernel) (pa_cons (pv 0) pa_nil)) (pa_cons (pv 1) pa_nil))))))
   (pss_cons (ps_for PassesOwn.never rfl (pi_revR (by rfl) bi.reversed_ (prg_1 (by rfl) bi.range_ (pv 1))) (pg_name (i := 3) sc_join_levels.nd rfl (Or.inl rfl))
   (pss_cons (ps_set (i := 4) sc_join_levels.nd rfl (Or.inl rfl) (pe_call G_coarse_count (hr.mono (by first | decide | exact Nat.le_refl _)) (by rfl) D_coarse_count.g D_coarse_count.F.kp D_coarse_count.b .nil pass0 (pa_cons (pe_callB cLen (by rfl) bi.len_ (by decide +kernel) (pa_cons (pv 0) pa_nil)) (pa_cons (pv 3) pa_nil))))
   (pss_one (ps_set (i := 2) sc_join_levels.nd rfl (Or.inl rfl) (pe_call G_join_once (hr.mono (by first | decide | exact Nat.le_refl _)) (by rfl) D_join_once.g D_join_once.F.kp D_join_once.b .nil pass0 (pa_cons (pv 2) (pa_cons (pe_slice sl_list (pv 0) (po_some (pe_callB cLen (by rfl) bi.len_ (by decide +kernel) (pa_cons (pv 2) pa_nil))) (po_some (pv 4))) pa_nil)))))))
   (pss_one (ps_ret (pv 2))))))), ?_⟩
      refine rd_start (σ := [some (.ref a), some (.int (m : Int)), none, none, none]) rfl ?_
      walk_at "rd"
      rename_i H1 hs1
      rw [hml]
      refine use_coarse h1 h2 (by omega) ?_
      walk_at "rd"
      refine rd_slT (ns := ns) (SqL.of (hs1 _ _ hS)) fun p2 hp2 => ?_
      walk_at "rd"
      refine for_rangeC (lo := _) (c := -1) (n := _) (fun i σ H' => ∃ t1 t2 v2, σ = [some (.ref a), some (.int (m : Int)), some (.ref v2), t1, t2] ∧ H' v2 = some (.lst ((wv ns m i).map V.int)) ∧ Same H H' ∧ H v2 = none) ⟨none, none, p2, rfl, upd_same, hs1.trans (same_new hp2), hs1.free hp2⟩ (fun i σ H2 hi hI => ?_) (fun σ H2 hI => ?_)
      · obtain ⟨t1, t2, v2, rfl, e2, hs, hn2⟩ := hI
        have hi' : i + 1 ≤ m := by omega
        have hlev : ((0 : Int) + ((((m : Int) - 0).toNat : Nat) : Int) - 1 + (i : Nat) * -1) = ((m - (i + 1) : Nat) : Int) := by omega
        rw [hlev]
        have eS := hs _ _ hS
        have hwl := wv_length ns m i (by omega)
        have hst := wv_step hi' hwl
        have hcn := cc_n ns.length (m - i)
        have hcn2 := cc_n ns.length (m - (i + 1))
        have hwm : ((wv ns m i).map V.int).length = (wv ns m i).length := List.length_map ..
        walk_at "rd"
        rw [hml]
        refine use_coarse h1 h2 (by omega) ?_
        walk_at "rd"
        rw [hwm, hwl]
        refine rd_slM (ns := ns) (j := cc ns.length (m - i)) (k := cc ns.length (m - (i + 1))) (SqL.of eS) hcn hcn2 fun p3 hp3 => ?_
        walk_at "rd"
        rename_i p4 H4 hs4 hn4 e4
        exact ⟨_, _, p4, rfl, e4, hs.trans ((same_new hp3).trans hs4), hs.free ((same_new hp3).free hn4)⟩
      · obtain ⟨t1, t2, v2, rfl, e2, hs, hn2⟩ := hI
        rw [show (((m : Nat) : Int) - 0).toNat = m by omega] at e2
        walk_at "rd"
        exact q v2 _ hn2 hs e2
    ) only [↓lt_eq]
theorem ok_block_values {f : Addr} {fd : FuncData} {f_join_levels : Addr} {fd_join_levels : FuncData}    (D : Dn K mg "block_values" s_block_values ["numbers", "levels", "step"] f fd) (bi : Bi mg) (G_join_levels : FnOk P w K mg base CX0 5 f_join_levels fd_join_levels ["numbers", "levels"] spJoin) (D_join_levels : Dn K mg "join_levels" s_join_levels ["numbers", "levels"] f_join_levels fd_join_levels)     : FnOk P w K mg base CX0 6 f fd ["numbers", "levels", "step"] spBlkV := by
  refine lt_out ?_
  simp (disch := with_unfolding_all
    refine D.F.ok sc_block_values (fun vs H Q E h => ?_) (fun cdv A outer s H vs Q E hr h => ?_)
    · obtain ⟨a, ns, k, st, rfl, _⟩ := h
      rfl
    · obtain ⟨a, ns, k, st, rfl, e1, h1, h2, h3, h4, q⟩ := h
      refine ⟨_, (pss_one (ps_ret (pe_call G_join_levels (hr.mono (by first | decide | exact Nat.le_refl _)) (by rfl) D_join_levels.g D_join_levels.F.kp D_join_levels.b .nil pass0 (pa_cons (pe_lc (own := [("number", 3)]) (g := gName 3) (tt := tYes) rfl sc_block_values.nd (pi_list (pv 0)) (blkOk_by (N := ["numbers", "levels", "step", "number"]) (sc := defScope s_block_values) (by decide +kernel)) (fun _ _ _ _ _ => pg_name (i := 3) sc_block_values.nd rfl (Or.inl rfl)) (fun _ _ _ _ _ => pts_nil) (fun _ _ _ _ _ => (pe_op op_mul (pv 3) (pv 2)))) (pa_cons (pv 1) pa_nil))))), ?_⟩
      refine rd_start (σ := [some (.ref a), some (.int (k : Nat)), some (.int (st : Nat)), none]) rfl ?_
      walk_at "rd"
      refine rd_lcP (SqL.of e1) fun D hD => ?_
      refine lc_mapM (fun z => z * (st : Int)) (SqL.of e1) (by omega) (fun _ => rfl) hD (fun z hz H2 Q' hs hq => ?_) fun H2 hs2 eD => ?_
      · walk_at "rd"
        exact hq
      · walk_at "rd"
        refine ⟨D, ns.map fun z => z * (st : Int), k, rfl, eD, by rw [List.length_map]; exact h1, by rw [List.length_map]; exact h2, by omega, by omega, fun p H' hp hs eP => ?_⟩
        exact q p H' (hs2.free hp) (hs2.trans hs) eP
    ) only [↓lt_eq]
theorem ok_Stream___init__ {f : Addr} {fd : FuncData} {f_check_records : Addr} {fd_check_records : FuncData} {f_read_frames : Addr} {fd_read_frames : FuncData} {C_InvalidStream : Addr} {C_Stream : Addr}   (D : Mn K C_Stream "__init__" "Stream.__init__" s_Stream___init__ ["self", "records"] f fd) (bi : Bi mg) (G_check_records : FnOk P w K mg base (L2.CX P w) 7 f_check_records fd_check_records ["records"] (spCkZ C_InvalidStream)) (D_check_records : Dn K mg "check_records" s_check_records ["records"] f_check_records fd_check_records) (G_read_frames : FnOk P w K mg base (L2.CX P w) 8 f_read_frames fd_read_frames ["records"] (spFrsZ K C_InvalidStream)) (D_read_frames : Dn K mg "read_frames" s_read_frames ["records"] f_read_frames fd_read_frames)  (TC_Stream : StmC K mg C_Stream)   : FnOk P w K mg base (L2.CX P w) 9 f fd ["self", "records"] (spInitZ K C_Stream C_InvalidStream) := by
  refine lt_out ?_
  simp (disch := with_unfolding_all
    refine D.F.okX sc_Stream___init__ (fun vs H Q E h => ?_) (fun cdv A outer s H vs Q E hr h => ?_)
    · obtain ⟨x, dx, v, o, rfl, _⟩ := h
      rfl
    · obtain ⟨x, dx, v, o, rfl, hx, hC, he, hq⟩ := h
      refine ⟨_, (pss_cons (ps_expr (pe_call G_check_records (hr.mono (by first | decide | exact Nat.le_refl _)) (by rfl) D_check_records.g D_check_records.F.kp D_check_records.b .nil (passes_call (takes_of rfl rfl rfl rfl) (fun _ _ _ _ h => h)) (pa_cons (pv 1) pa_nil)))
   (pss_cons (ps_fld (pv 0) (pe_callTy cList (by rfl) bi.list_ (by decide +kernel) (pa_cons (pv 1) pa_nil)) rfl)
   (pss_one (ps_fld (pv 0) (pe_call G_read_frames (hr.mono (by first | decide | exact Nat.le_refl _)) (by rfl) D_read_frames.g D_read_frames.F.kp D_read_frames.b .nil (passes_call (takes_of rfl rfl rfl rfl) (fun _ _ _ _ h => h)) (pa_cons (pe_fld (pv 0) rfl) pa_nil)) rfl)))), ?_⟩
      refine rd_start (σ := [some (.ref x), some v]) rfl ?_
      walk_at "rd"
      refine use_ckZ hC (fun u hu d H2 s2 nd ed => he u hu d H2 (Kp.of s2) nd ed) fun ho H1 hs1 => ?_
      obtain ⟨a, refs, tl, t, rs, Te, w, rfl, hS, hl, hR, hTl, hV, hto, q, q1, q2⟩ := hq ho
      have hS1 := hs1 _ _ hS
      have hx1 := hs1 _ _ hx
      walk_at "rd"
      refine rd_setF ?_
      walk_at "rd"
      rename_i L hL
      have nxL : x ≠ L := ne_of_none hx1 hL
      refine ⟨x, C_Stream, dx, _, rfl, look_new hL hx1, TC_Stream.cl, TC_Stream.nh, by decide, ?_⟩
      walk_at "rd"
      refine rd_setF ?_
      walk_at "rd"
      have k1 : Kp x H (upd (upd H1 L (.lst (refs ++ tl))) x (.ins C_Stream dx (putF "held" (.ref L) []))) := fun b o nb e => by rw [upd_ne nb]; exact look_new hL (hs1 _ _ e)
      have eL1 : (upd (upd H1 L (.lst (refs ++ tl))) x (.ins C_Stream dx (putF "held" (.ref L) []))) L = some (.lst (refs ++ tl)) := by rw [upd_ne nxL.symm]; exact upd_same
      refine ⟨.ref x, rfl, x, C_Stream, dx, _, _, rfl, upd_same, TC_Stream.cl, TC_Stream.nh, held_ L, ?_⟩
      walk_at "rd"
      have hR1 := hR.lki (.ofK hx k1)
      have hT1 := hTl.lki (.ofK hx k1)
      refine use_frsZ eL1 hl hR1 hT1 hV hto (fun t0 w0 F fms H2 hF eF hfm hs2 => ?_) (fun t1 d H2 s2 nd ed => q1 t1 d H2 (k1.trans (Kp.of s2)) (nd_ nd k1 upd_same) ed) (fun t1 w0 f hf => fun d H2 s2 nd ed => q2 t1 w0 f hf d H2 (k1.trans (Kp.of s2)) (nd_ nd k1 upd_same) ed)
      subst w0 t0
      obtain rfl : tl = [] := by cases hTl; rfl
      have eL2 := hs2 _ _ eL1
      rw [List.append_nil] at eL2 hl
      have hx2 := hs2 _ _ upd_same
      have k2 := k1.trans (Kp.of hs2)
      have k3 : Kp x H2 (upd H2 x (.ins C_Stream dx (sf L F))) := fun b o nb e => by rw [upd_ne nb]; exact e
      refine ⟨x, C_Stream, dx, _, rfl, hx2, TC_Stream.cl, TC_Stream.nr, by show 1 < 1000; decide, ?_⟩
      walk_at "rd"
      exact q rfl rfl _ ⟨dx, L, F, fms, Te, upd_same, k3 _ _ nxL.symm eL2, hl, hR.lki (.ofK hx (k2.trans k3)), hV, lst_kp hx2 k3 _ _ eF, hfm.fld hx2 k3⟩ (k2.trans k3)
    ) only [↓lt_eq]
theorem ok_Stream_part_of {f : Addr} {fd : FuncData} {f_is_within : Addr} {fd_is_within : FuncData} {C_InvalidPlace : Addr} {C_Stream : Addr}   (D : Mn K C_Stream "part_of" "Stream.part_of" s_Stream_part_of ["self", "frame", "part"] f fd) (bi : Bi mg) (G_is_within : FnOk P w K mg base CX0 2 f_is_within fd_is_within ["value", "low", "high"] spWithin) (D_is_within : Dn K mg "is_within" s_is_within ["value", "low", "high"] f_is_within fd_is_within)  (TC_Stream : StmC K mg C_Stream) (T_InvalidPlace : ErrG P w K mg base "InvalidPlace" "value" C_InvalidPlace)  : FnOk P w K mg base (L2.CX P w) 3 f fd ["self", "frame", "part"] (spPartX C_Stream C_InvalidPlace) := by
  refine lt_out ?_
  simp (disch := with_unfolding_all
    refine D.F.okX sc_Stream_part_of (fun vs H Q E h => ?_) (fun cdv A outer s H vs Q E hr h => ?_)
    · obtain ⟨x, p, n, v, k, rfl, _⟩ := h
      rfl
    · obtain ⟨x, p, n, v, k, rfl, hS, ht, hi, he⟩ := h
      obtain ⟨dx, L, F, fms, h1, h6, hln, _⟩ := hS
      refine ⟨_, (pss_cons (ps_if (pt_not (pt_val (pe_call G_is_within (hr.mono (by first | decide | exact Nat.le_refl _)) (by rfl) D_is_within.g D_is_within.F.kp D_is_within.b .nil pass0 (pa_cons (pv 1) (pa_cons pe_int (pa_cons (pe_op op_sub (pe_callB cLen (by rfl) bi.len_ (by decide +kernel) (pa_cons (pe_fld (pv 0) rfl) pa_nil)) pe_int) pa_nil))))))
   (pss_one (ps_raiseG T_InvalidPlace rfl (hr.mono (by first | decide | exact Nat.le_refl _)) (takes_of rfl rfl rfl rfl) (pa_cons (pv 1) pa_nil)))
   pss_nil)
   (pss_one (ps_ret (pe_ix ix_tup (pe_ix ix_list (pe_fld (pv 0) rfl) (pv 1) (fun _ _ => rfl)) (pv 2) (fun _ _ => rfl))))), ?_⟩
      refine rd_start (σ := [some (.ref x), some v, some (.int k)]) rfl ?_
      walk_at "rd"
      refine rd_readV TC_Stream h1 rfl ?_
      walk_at "rd"
      refine use_within ht ?_
      rw [hln, hi]
      walk_at "rd"
      exact he.now
    ) only [↓lt_eq]
theorem ok_Stream_block {f : Addr} {fd : FuncData} {f_Stream_part_of : Addr} {fd_Stream_part_of : FuncData} {C_InvalidPlace : Addr} {C_Stream : Addr}   (D : Mn K C_Stream "block" "Stream.block" s_Stream_block ["self", "frame"] f fd) (bi : Bi mg) (G_Stream_part_of : FnOk P w K mg base (L2.CX P w) 3 f_Stream_part_of fd_Stream_part_of ["self", "frame", "part"] (spPartX C_Stream C_InvalidPlace)) (D_Stream_part_of : Mn K C_Stream "part_of" "Stream.part_of" s_Stream_part_of ["self", "frame", "part"] f_Stream_part_of fd_Stream_part_of)  (TC_Stream : StmC K mg C_Stream)   : FnOk P w K mg base (L2.CX P w) 4 f fd ["self", "frame"] (spMetX C_Stream C_InvalidPlace) := by
  refine lt_out ?_
  simp (disch := with_unfolding_all
    refine D.F.okX sc_Stream_block (fun vs H Q E h => ?_) (fun cdv A outer s H vs Q E hr h => ?_)
    · obtain ⟨x, p, n, v, rfl, _⟩ := h
      rfl
    · obtain ⟨x, p, n, v, rfl, hS, ht, hi, he⟩ := h
      refine ⟨_, (pss_one (ps_ret (pe_meth (pv 0) TC_Stream.cl D_Stream_part_of.m G_Stream_part_of (hr.mono (by first | decide | exact Nat.le_refl _)) D_Stream_part_of.b .nil (passes_call (takes_of rfl rfl rfl rfl) (fun _ _ _ _ h => h)) (pa_cons (pv 1) (pa_cons pe_int pa_nil))))), ?_⟩
      refine rd_start (σ := [some (.ref x), some v]) rfl ?_
      walk_at "rd"
      refine rd_methL hS rfl (by decide +kernel) (by decide +kernel) ?_
      walk_at "rd"
      exact use_partX hS ht hi he
    ) only [↓lt_eq]
theorem ok_Stream_numbers {f : Addr} {fd : FuncData} {f_Stream_part_of : Addr} {fd_Stream_part_of : FuncData} {C_InvalidPlace : Addr} {C_Stream : Addr}   (D : Mn K C_Stream "numbers" "Stream.numbers" s_Stream_numbers ["self", "frame"] f fd) (bi : Bi mg) (G_Stream_part_of : FnOk P w K mg base (L2.CX P w) 3 f_Stream_part_of fd_Stream_part_of ["self", "frame", "part"] (spPartX C_Stream C_InvalidPlace)) (D_Stream_part_of : Mn K C_Stream "part_of" "Stream.part_of" s_Stream_part_of ["self", "frame", "part"] f_Stream_part_of fd_Stream_part_of)  (TC_Stream : StmC K mg C_Stream)   : FnOk P w K mg base (L2.CX P w) 4 f fd ["self", "frame"] (spMetX C_Stream C_InvalidPlace) := by
  refine lt_out ?_
  simp (disch := with_unfolding_all
    refine D.F.okX sc_Stream_numbers (fun vs H Q E h => ?_) (fun cdv A outer s H vs Q E hr h => ?_)
    · obtain ⟨x, p, n, v, rfl, _⟩ := h
      rfl
    · obtain ⟨x, p, n, v, rfl, hS, ht, hi, he⟩ := h
      refine ⟨_, (pss_one (ps_ret (pe_callTy cList (by rfl) bi.list_ (by decide +kernel) (pa_cons (pe_meth (pv 0) TC_Stream.cl D_Stream_part_of.m G_Stream_part_of (hr.mono (by first | decide | exact Nat.le_refl _)) D_Stream_part_of.b .nil (passes_call (takes_of rfl rfl rfl rfl) (fun _ _ _ _ h => h)) (pa_cons (pv 1) (pa_cons pe_int pa_nil))) pa_nil)))), ?_⟩
      refine rd_start (σ := [some (.ref x), some v]) rfl ?_
      walk_at "rd"
      refine rd_methL hS rfl (by decide +kernel) (by decide +kernel) ?_
      walk_at "rd"
      exact use_partX hS ht hi he
    ) only [↓lt_eq]
theorem ok_Stream_contents {f : Addr} {fd : FuncData} {f_Stream_part_of : Addr} {fd_Stream_part_of : FuncData} {f_block_values : Addr} {fd_block_values : FuncData} {C_InvalidPlace : Addr} {C_Stream : Addr}   (D : Mn K C_Stream "contents" "Stream.contents" s_Stream_contents ["self", "frame"] f fd) (bi : Bi mg) (G_Stream_part_of : FnOk P w K mg base (L2.CX P w) 3 f_Stream_part_of fd_Stream_part_of ["self", "frame", "part"] (spPartX C_Stream C_InvalidPlace)) (D_Stream_part_of : Mn K C_Stream "part_of" "Stream.part_of" s_Stream_part_of ["self", "frame", "part"] f_Stream_part_of fd_Stream_part_of) (G_block_values : FnOk P w K mg base CX0 6 f_block_values fd_block_values ["numbers", "levels", "step"] spBlkV) (D_block_values : Dn K mg "block_values" s_block_values ["numbers", "levels", "step"] f_block_values fd_block_values)  (TC_Stream : StmC K mg C_Stream)   : FnOk P w K mg base (L2.CX P w) 7 f fd ["self", "frame"] (spMetX C_Stream C_InvalidPlace) := by
  refine lt_out ?_
  simp (disch := with_unfolding_all
    refine D.F.okX sc_Stream_contents (fun vs H Q E h => ?_) (fun cdv A outer s H vs Q E hr h => ?_)
    · obtain ⟨x, p, n, v, rfl, _⟩ := h
      rfl
    · obtain ⟨x, p, n, v, rfl, hS, ht, hi, he⟩ := h
      refine ⟨_, (pss_cons (ps_set (i := 2) sc_Stream_contents.nd rfl (Or.inl rfl) (pe_meth (pv 0) TC_Stream.cl D_Stream_part_of.m G_Stream_part_of (hr.mono (by first | decide | exact Nat.le_refl _)) D_Stream_part_of.b .nil (passes_call (takes_of rfl rfl rfl rfl) (fun _ _ _ _ h => h)) (pa_cons (pv 1) (pa_cons pe_int pa_nil))))
   (pss_cons (ps_asg (pe_slice sl_tup (pe_ix ix_list (pe_fld (pv 0) rfl) (pe_ix ix_tup (pe_ix ix_tup (pe_ix ix_list (pe_fld (pv 0) rfl) (pv 1) (fun _ _ => rfl)) pe_int (fun _ _ => rfl)) pe_int (fun _ _ => rfl)) (fun _ _ => rfl)) (po_some pe_int) (po_some pe_int)) (pg_tup rfl (pgs_cons (pg_name (i := 3) sc_Stream_contents.nd rfl (Or.inl rfl)) (pgs_cons (pg_name (i := 4) sc_Stream_contents.nd rfl (Or.inl rfl)) pgs_nil))))
   (pss_one (ps_ret (pe_call G_block_values (hr.mono (by first | decide | exact Nat.le_refl _)) (by rfl) D_block_values.g D_block_values.F.kp D_block_values.b .nil pass0 (pa_cons (pv 2) (pa_cons (pv 3) (pa_cons (pv 4) pa_nil)))))))), ?_⟩
      refine rd_start (σ := [some (.ref x), some v, none, none, none]) rfl ?_
      walk_at "rd"
      refine rd_methL hS rfl (by decide +kernel) (by decide +kernel) ?_
      walk_at "rd"
      exact use_partX hS ht hi he
    ) only [↓lt_eq]
theorem ok_Stream_tables_before {f : Addr} {fd : FuncData} {f_Stream_part_of : Addr} {fd_Stream_part_of : FuncData} {C_InvalidPlace : Addr} {C_Stream : Addr}   (D : Mn K C_Stream "tables_before" "Stream.tables_before" s_Stream_tables_before ["self", "frame"] f fd) (bi : Bi mg) (G_Stream_part_of : FnOk P w K mg base (L2.CX P w) 3 f_Stream_part_of fd_Stream_part_of ["self", "frame", "part"] (spPartX C_Stream C_InvalidPlace)) (D_Stream_part_of : Mn K C_Stream "part_of" "Stream.part_of" s_Stream_part_of ["self", "frame", "part"] f_Stream_part_of fd_Stream_part_of)  (TC_Stream : StmC K mg C_Stream)   : FnOk P w K mg base (L2.CX P w) 4 f fd ["self", "frame"] (spMetX C_Stream C_InvalidPlace) := by
  refine lt_out ?_
  simp (disch := with_unfolding_all
    refine D.F.okX sc_Stream_tables_before (fun vs H Q E h => ?_) (fun cdv A outer s H vs Q E hr h => ?_)
    · obtain ⟨x, p, n, v, rfl, _⟩ := h
      rfl
    · obtain ⟨x, p, n, v, rfl, hS, ht, hi, he⟩ := h
      refine ⟨_, (pss_one (ps_ret (pe_meth (pv 0) TC_Stream.cl D_Stream_part_of.m G_Stream_part_of (hr.mono (by first | decide | exact Nat.le_refl _)) D_Stream_part_of.b .nil (passes_call (takes_of rfl rfl rfl rfl) (fun _ _ _ _ h => h)) (pa_cons (pv 1) (pa_cons pe_int pa_nil))))), ?_⟩
      refine rd_start (σ := [some (.ref x), some v]) rfl ?_
      walk_at "rd"
      refine rd_methL hS rfl (by decide +kernel) (by decide +kernel) ?_
      walk_at "rd"
      exact use_partX hS ht hi he
    ) only [↓lt_eq]
theorem ok_Stream_tables_after {f : Addr} {fd : FuncData} {f_Stream_part_of : Addr} {fd_Stream_part_of : FuncData} {C_InvalidPlace : Addr} {C_Stream : Addr}   (D : Mn K C_Stream "tables_after" "Stream.tables_after" s_Stream_tables_after ["self", "frame"] f fd) (bi : Bi mg) (G_Stream_part_of : FnOk P w K mg base (L2.CX P w) 3 f_Stream_part_of fd_Stream_part_of ["self", "frame", "part"] (spPartX C_Stream C_InvalidPlace)) (D_Stream_part_of : Mn K C_Stream "part_of" "Stream.part_of" s_Stream_part_of ["self", "frame", "part"] f_Stream_part_of fd_Stream_part_of)  (TC_Stream : StmC K mg C_Stream)   : FnOk P w K mg base (L2.CX P w) 4 f fd ["self", "frame"] (spMetX C_Stream C_InvalidPlace) := by
  refine lt_out ?_
  simp (disch := with_unfolding_all
    refine D.F.okX sc_Stream_tables_after (fun vs H Q E h => ?_) (fun cdv A outer s H vs Q E hr h => ?_)
    · obtain ⟨x, p, n, v, rfl, _⟩ := h
      rfl
    · obtain ⟨x, p, n, v, rfl, hS, ht, hi, he⟩ := h
      refine ⟨_, (pss_one (ps_ret (pe_meth (pv 0) TC_Stream.cl D_Stream_part_of.m G_Stream_part_of (hr.mono (by first | decide | exact Nat.le_refl _)) D_Stream_part_of.b .nil (passes_call (takes_of rfl rfl rfl rfl) (fun _ _ _ _ h => h)) (pa_cons (pv 1) (pa_cons pe_int pa_nil))))), ?_⟩
      refine rd_start (σ := [some (.ref x), some v]) rfl ?_
      walk_at "rd"
      refine rd_methL hS rfl (by decide +kernel) (by decide +kernel) ?_
      walk_at "rd"
      exact use_partX hS ht hi he
    ) only [↓lt_eq]
theorem ok_digits {f : Addr} {fd : FuncData}     (D : Dn K mg "_law_digits" s_digits ["_law_number"] f fd) (bi : Bi mg)      : FnOk P w K mg base CX0 1 f fd ["_law_number"] spBinary := by
  refine lt_out ?_
  simp (disch := with_unfolding_all
    refine D.F.ok sc_digits (fun vs H Q E h => ?_) (fun cdv A outer s H vs Q E hr h => ?_)
    · obtain ⟨u, rfl, _⟩ := h
      rfl
    · obtain ⟨u, rfl, hu, q⟩ := h
      refine ⟨_, (pss_cons (ps_set (i := 1) sc_digits.nd rfl (Or.inl rfl) pe_str)
   (pss_cons (ps_while PassesOwn.never (pt_cmpR op_gt (pv 0) pe_int (nomark _))
   (pss_cons (ps_set (i := 1) sc_digits.nd rfl (Or.inl rfl) (pe_op op_addT (pe_callTy call_str_int (by rfl) bi.str_ (by decide +kernel) (pa_cons (pe_op op_odd (pv 0) pe_int) pa_nil)) (pv 1)))
   (pss_one (ps_set (i := 0) sc_digits.nd rfl (Or.inl rfl) (pe_op op_halfN (pv 0) pe_int)))))
   (pss_one (ps_ret (pv 1))))), ?_⟩
      refine rd_start (σ := [some (.int (u : Int)), none]) rfl ?_
      walk_at "rd"
      refine while_n (fun i σ H' => σ = [some (.int ((u / 2 ^ i : Nat) : Int)), some (.str (SX.S (lowB u i)))] ∧ H' = H) (if u = 0 then 0 else nb u) ⟨by rw [Nat.pow_zero, Nat.div_one]; rfl, rfl⟩ (fun i σ H' hi hI => ?_)
      obtain ⟨rfl, rfl⟩ := hI
      walk_at "rd"
      have hii : i ≤ nb u := by split at hi <;> omega
      refine rd_iteD (fun c => ?_) (fun c => ?_)
      · refine while_in ?_ ?_
        · have c' : 0 < u / 2 ^ i := by omega
          by_cases z : u = 0
          · subst z
            rw [Nat.zero_div] at c'
            omega
          · rw [if_neg z] at hi ⊢
            by_cases e : i = nb u
            · subst e
              rw [Nat.div_eq_of_lt (nb_lt u)] at c'
              omega
            · omega
        · walk_at "rd"
          refine ⟨_, rfl, rfl, ?_⟩
          walk_at "rd"
          refine ⟨_, rfl, dig_log _, ?_⟩
          rw [dig_str]
          walk_at "rd"
          refine ⟨_, rfl, rfl, ?_⟩
          walk_at "rd"
          refine ⟨?_, rfl⟩
          rw [Nat.div_div_eq_div_mul, ← Nat.pow_succ, lowB_front]
          rfl
      · walk_at "rd"
        have c' : ¬ 0 < u / 2 ^ i := fun z => c (by omega)
        have hlt : u < 2 ^ i := by
          rcases Nat.lt_or_ge u (2 ^ i) with z | z
          · exact z
          · exact absurd (Nat.div_pos z (Nat.two_pow_pos i)) c'
        by_cases z : u = 0
        · rw [if_pos z] at hi q
          obtain rfl : i = 0 := by omega
          exact q
        · rw [if_neg z] at hi q
          have hi1 : 1 ≤ i := by
            rcases i with _ | i
            · have : (2 : Nat) ^ 0 = 1 := rfl
              omega
            · omega
          have e := nb_min hlt hi1
          obtain rfl : i = nb u := by omega
          exact q
    ) only [↓lt_eq]
theorem ok_code {f : Addr} {fd : FuncData}     (D : Dn K mg "_law_code" s_code ["_law_number"] f fd) (bi : Bi mg)      : FnOk P w K mg base CX0 1 f fd ["_law_number"] spCode := by
  refine lt_out ?_
  simp (disch := with_unfolding_all
    refine D.F.ok sc_code (fun vs H Q E h => ?_) (fun cdv A outer s H vs Q E hr h => ?_)
    · obtain ⟨n, rfl, _⟩ := h
      rfl
    · obtain ⟨n, rfl, q⟩ := h
      refine ⟨_, (pss_one (ps_ret (pe_ifExp (pt_cmpR op_ge (pv 0) pe_int (nomark _)) (pe_op op_mul pe_int (pv 0)) (pe_op op_sub (pe_op op_mul (pe_un un_neg pe_int) (pv 0)) pe_int)))), ?_⟩
      refine rd_start (σ := [some (.int n)]) rfl ?_
      walk_at "rd"
      refine rd_iteD (fun c => ?_) (fun c => ?_)
      · walk_at "rd"
        have e : codeU n = 2 * n := if_pos c
        rw [e] at q
        exact q
      · walk_at "rd"
        have e : codeU n = -2 * n - 1 := if_neg c
        rw [e] at q
        exact q
    ) only [↓lt_eq]
theorem ok_after {f : Addr} {fd : FuncData}     (D : Dn K mg "_law_after" s_after ["_law_table", "_law_code_here"] f fd) (bi : Bi mg)      : FnOk P w K mg base CX0 1 f fd ["_law_table", "_law_code_here"] (spBehind K) := by
  refine lt_out ?_
  simp (disch := with_unfolding_all
    refine D.F.ok sc_after (fun vs H Q E h => ?_) (fun cdv A outer s H vs Q E hr h => ?_)
    · obtain ⟨a, t, m, u, rfl, _⟩ := h
      rfl
    · obtain ⟨a, t, m, u, rfl, h1, ok, q⟩ := h
      have L1 := h1.1
      obtain ⟨o1, o2, o3, o4⟩ := ok
      refine ⟨_, (pss_cons (ps_par (i := 2) (j := 3) rfl sc_after.nd rfl rfl (by decide) rfl rfl (pa_cons (pe_op op_add (pe_ix ix_tup (pv 0) pe_int (fun _ _ => rfl)) (pv 1)) (pa_cons (pe_op op_add (pe_ix ix_tup (pv 0) pe_int (fun _ _ => rfl)) pe_int) pa_nil)) rfl)
   (pss_one (ps_ret (pe_ifExp (pt_cmpR op_eq (pv 3) pe_int (nomark _)) (pe_tup (pa_cons (pe_op op_fdiv (pv 2) pe_int) (pa_cons pe_int pa_nil))) (pe_tup (pa_cons (pv 2) (pa_cons (pv 3) pa_nil))))))), ?_⟩
      refine rd_start (σ := [some (.ref a), some (.int (u : Int)), none, none]) rfl ?_
      walk_at "rd"
      refine rd_iteD (fun c => ?_) (fun c => ?_)
      · walk_at "rd"
        rename_i p hp
        have e : tbB t u = ((t.1 + (u : Int)) / 2, 8) := if_pos (by have := V.int.inj c; omega)
        rw [e] at q
        exact q p hp
      · walk_at "rd"
        rename_i p hp
        have e : tbB t u = (t.1 + (u : Int), t.2 + 1) := if_neg (fun z => c (congrArg V.int (by omega)))
        rw [e] at q
        exact q p hp
    ) only [↓lt_eq]
theorem ok_l_parameter {f : Addr} {fd : FuncData}     (D : Dn K mg "_law_parameter" s_l_parameter ["_law_table"] f fd) (bi : Bi mg)      : FnOk P w K mg base CX0 1 f fd ["_law_table"] (spParM K) := by
  refine lt_out ?_
  simp (disch := with_unfolding_all
    refine D.F.ok sc_l_parameter (fun vs H Q E h => ?_) (fun cdv A outer s H vs Q E hr h => ?_)
    · obtain ⟨a, t, m, rfl, _⟩ := h
      rfl
    · obtain ⟨a, t, m, rfl, h1, ok, hm, q⟩ := h
      have L1 := h1.1
      refine ⟨_, (pss_cons (ps_set (i := 1) sc_l_parameter.nd rfl (Or.inl rfl) pe_int)
   (pss_cons (ps_while PassesOwn.never (pt_cmpR op_lt (pe_op op_shlN (pe_ix ix_tup (pv 0) pe_int (fun _ _ => rfl)) (pv 1)) (pe_ix ix_tup (pv 0) pe_int (fun _ _ => rfl)) (nomark _))
   (pss_one (ps_set (i := 1) sc_l_parameter.nd rfl (Or.inl rfl) (pe_op op_add (pv 1) pe_int))))
   (pss_one (ps_ret (pv 1))))), ?_⟩
      refine rd_start (σ := [some (.ref a), none]) rfl ?_
      walk_at "rd"
      have hp := par_leG ok hm
      refine while_n (fun i σ H' => σ = [some (.ref a), some (.int ((i : Nat) : Int))] ∧ H' = H) (par t.1 t.2) ⟨rfl, rfl⟩ (fun i σ H' hi hI => ?_)
      obtain ⟨rfl, rfl⟩ := hI
      walk_at "rd"
      refine ⟨_, i, rfl, rfl, bits_fit (by have := ok.2.2.1; omega) (by have := ok.2.2.2; omega) (by omega), ?_⟩
      walk_at "rd"
      refine rd_iteD (fun c => ?_) (fun c => ?_)
      · refine while_in ((par_cond ok hi).mp c) ?_
        walk_at "rd"
        exact ⟨rfl, rfl⟩
      · have e : i = par t.1 t.2 := by
          have z : ¬ i < par t.1 t.2 := fun z => c ((par_cond ok hi).mpr z)
          omega
        subst e
        walk_at "rd"
        exact q
    ) only [↓lt_eq]
theorem ok_bits {f : Addr} {fd : FuncData} {f_l_parameter : Addr} {fd_l_parameter : FuncData} {f_digits : Addr} {fd_digits : FuncData}    (D : Dn K mg "_law_bits" s_bits ["_law_table", "_law_code_here"] f fd) (bi : Bi mg) (G_l_parameter : FnOk P w K mg base CX0 1 f_l_parameter fd_l_parameter ["_law_table"] (spParM K)) (D_l_parameter : Dn K mg "_law_parameter" s_l_parameter ["_law_table"] f_l_parameter fd_l_parameter) (G_digits : FnOk P w K mg base CX0 1 f_digits fd_digits ["_law_number"] spBinary) (D_digits : Dn K mg "_law_digits" s_digits ["_law_number"] f_digits fd_digits)     : FnOk P w K mg base CX0 2 f fd ["_law_table", "_law_code_here"] (spBitsT K) := by
  refine lt_out ?_
  simp (disch := with_unfolding_all
    refine D.F.ok sc_bits (fun vs H Q E h => ?_) (fun cdv A outer s H vs Q E hr h => ?_)
    · obtain ⟨a, t, m, u, rfl, _⟩ := h
      rfl
    · obtain ⟨a, t, m, u, rfl, h1, ok, hm, hu, q⟩ := h
      refine ⟨_, (pss_cons (ps_set (i := 2) sc_bits.nd rfl (Or.inl rfl) (pe_call G_l_parameter (hr.mono (by first | decide | exact Nat.le_refl _)) (by rfl) D_l_parameter.g D_l_parameter.F.kp D_l_parameter.b .nil pass0 (pa_cons (pv 0) pa_nil)))
   (pss_cons (ps_if (pt_cmpR op_ge (pe_op op_shrN (pv 1) (pv 2)) pe_int (nomark _))
   (pss_cons (ps_set (i := 3) sc_bits.nd rfl (Or.inl rfl) (pe_call G_digits (hr.mono (by first | decide | exact Nat.le_refl _)) (by rfl) D_digits.g D_digits.F.kp D_digits.b .nil pass0 (pa_cons (pv 1) pa_nil)))
   (pss_one (ps_ret (pe_op op_addT (pe_op op_addT (pe_op op_addT (pe_op op_mulT pe_str pe_int) (pe_op op_mulT pe_str (pe_op op_sub (pe_callB cLen (by rfl) bi.len_ (by decide +kernel) (pa_cons (pv 3) pa_nil)) pe_int))) pe_str) (pv 3)))))
   pss_nil)
   (pss_cons (ps_set (i := 4) sc_bits.nd rfl (Or.inl rfl) (pe_call G_digits (hr.mono (by first | decide | exact Nat.le_refl _)) (by rfl) D_digits.g D_digits.F.kp D_digits.b .nil pass0 (pa_cons (pe_op op_sub (pv 1) (pe_op op_shlN (pe_op op_shrN (pv 1) (pv 2)) (pv 2))) pa_nil)))
   (pss_one (ps_ret (pe_op op_addT (pe_op op_addT (pe_op op_addT (pe_op op_mulT pe_str (pe_op op_shrN (pv 1) (pv 2))) pe_str) (pe_op op_mulT pe_str (pe_op op_sub (pv 2) (pe_callB cLen (by rfl) bi.len_ (by decide +kernel) (pa_cons (pv 4) pa_nil))))) (pv 4))))))), ?_⟩
      refine rd_start (σ := [some (.ref a), some (.int (u : Int)), none, none, none]) rfl ?_
      walk_at "rd"
      refine use_parM h1 ok hm ?_
      have hp := par_leG ok hm
      generalize par t.1 t.2 = k at hp q ⊢
      walk_at "rd"
      refine ⟨_, k, rfl, rfl, ?_⟩
      rw [show ((u : Int) / 2 ^ k) = ((u / 2 ^ k : Nat) : Int) by norm_cast]
      walk_at "rd"
      refine rd_iteD (fun c => ?_) (fun c => ?_)
      · have c2 : ¬ u / 2 ^ k < 20 := by omega
        have e : encB u k = List.replicate (19 + nb u) 49 ++ [48] ++ binB u := if_neg c2
        rw [e] at q
        have z : u ≠ 0 := fun z => c2 (by rw [z, Nat.zero_div]; decide)
        walk_at "rd"
        refine use_binary (by omega) ?_
        rw [if_neg z]
        have hbl := binB_length u
        have hnp := nb_pos u
        walk_at "rd"
        rw [show (20 : Int) = ((20 : Nat) : Int) from rfl]
        walk_at "rd"
        rw [hbl, show ((nb u : Nat) : Int) - 1 = ((nb u - 1 : Nat) : Int) by omega]
        walk_at "rd"
        rw [show 19 + nb u = 20 + (nb u - 1) by omega, ← List.replicate_append_replicate] at q
        exact q
      · have c2 : u / 2 ^ k < 20 := by omega
        have e : encB u k = List.replicate (u / 2 ^ k) 49 ++ [48] ++ lowB u k := if_pos c2
        rw [e] at q
        have hk3 : ((u : Int) / 2 ^ k) = ((u / 2 ^ k : Nat) : Int) := by norm_cast
        have hsub : (u : Int) - ((u / 2 ^ k : Nat) : Int) * 2 ^ k = ((u % 2 ^ k : Nat) : Int) := by
          have h1 := Nat.div_add_mod u (2 ^ k)
          have h2 : (u : Int) = ((2 ^ k * (u / 2 ^ k) + u % 2 ^ k : Nat) : Int) := by rw [h1]
          have h3 : ((2 ^ k * (u / 2 ^ k) + u % 2 ^ k : Nat) : Int) = ((u / 2 ^ k : Nat) : Int) * 2 ^ k + ((u % 2 ^ k : Nat) : Int) := by
            rw [Nat.mul_comm]
            norm_cast
          rw [h3] at h2
          omega
        clear c e
        generalize u / 2 ^ k = g at c2 q hk3 hsub ⊢
        walk_at "rd"
        refine ⟨_, k, rfl, rfl, ?_⟩
        rw [hk3]
        walk_at "rd"
        refine ⟨_, k, rfl, rfl, bits_fit (by omega) (by omega) (by omega), ?_⟩
        walk_at "rd"
        rw [hsub]
        refine use_binary (by
          have h1 : nb (u % 2 ^ k) ≤ 1000 := by
            refine nb_min (Nat.lt_of_le_of_lt (Nat.mod_le u (2 ^ k)) ?_) (by decide)
            have h1 := nb_lt u
            exact Nat.lt_of_lt_of_le h1 (Nat.pow_le_pow_right (by decide) hu)
          omega) ?_
        have hdl := dig_low (u := u) (k := k)
        have hll : (if u % 2 ^ k = 0 then [] else binB (u % 2 ^ k)).length ≤ k := by
          have := congrArg List.length hdl
          rw [lowB_length, List.length_append, List.length_replicate] at this
          omega
        generalize (if u % 2 ^ k = 0 then [] else binB (u % 2 ^ k)) = lo at hdl hll ⊢
        walk_at "rd"
        refine ⟨_, k, rfl, rfl, ?_⟩
        rw [hk3]
        walk_at "rd"
        rw [show (k : Int) - (lo.length : Nat) = ((k - lo.length : Nat) : Int) by omega]
        walk_at "rd"
        rw [← hdl, ← List.append_assoc] at q
        exact q
    ) only [↓lt_eq]
theorem ok_written {f : Addr} {fd : FuncData} {f_code : Addr} {fd_code : FuncData} {f_bits : Addr} {fd_bits : FuncData} {f_after : Addr} {fd_after : FuncData}    (D : Dn K mg "_law_written" s_written ["_law_numbers", "_law_coarse", "_law_tables"] f fd) (bi : Bi mg) (G_code : FnOk P w K mg base CX0 1 f_code fd_code ["_law_number"] spCode) (D_code : Dn K mg "_law_code" s_code ["_law_number"] f_code fd_code) (G_bits : FnOk P w K mg base CX0 2 f_bits fd_bits ["_law_table", "_law_code_here"] (spBitsT K)) (D_bits : Dn K mg "_law_bits" s_bits ["_law_table", "_law_code_here"] f_bits fd_bits) (G_after : FnOk P w K mg base CX0 1 f_after fd_after ["_law_table", "_law_code_here"] (spBehind K)) (D_after : Dn K mg "_law_after" s_after ["_law_table", "_law_code_here"] f_after fd_after)     : FnOk P w K mg base CX0 3 f fd ["_law_numbers", "_law_coarse", "_law_tables"] (spWr K) := by
  refine lt_out ?_
  simp (disch := with_unfolding_all
    refine D.F.ok sc_written (fun vs H Q E h => ?_) (fun cdv A outer s H vs Q E hr h => ?_)
    · obtain ⟨a, ns, first, b, T, rfl, _⟩ := h
      rfl
    · obtain ⟨a, ns, first, b, T, rfl, e1, hl, hf, hn, hT, o1, o2, q⟩ := h
      refine ⟨_, (pss_cons (ps_set (i := 3) sc_written.nd rfl (Or.inl rfl) pe_str)
   (pss_cons (ps_asg (pv 2) (pg_tup rfl (pgs_cons (pg_name (i := 4) sc_written.nd rfl (Or.inl rfl)) (pgs_cons (pg_name (i := 5) sc_written.nd rfl (Or.inl rfl)) pgs_nil))))
   (pss_cons (ps_for PassesOwn.never rfl (pi_range1 (by rfl) bi.range_ (pa_cons (pe_callB cLen (by rfl) bi.len_ (by decide +kernel) (pa_cons (pv 0) pa_nil)) pa_nil)) (pg_name (i := 6) sc_written.nd rfl (Or.inl rfl))
   (pss_cons (ps_set (i := 7) sc_written.nd rfl (Or.inl rfl) (pe_call G_code (hr.mono (by first | decide | exact Nat.le_refl _)) (by rfl) D_code.g D_code.F.kp D_code.b .nil pass0 (pa_cons (pe_ix ix_list (pv 0) (pv 6) (fun _ _ => rfl)) pa_nil)))
   (pss_one (ps_if (pt_cmpR op_lt (pv 6) (pv 1) (nomark _))
   (pss_cons (ps_set (i := 3) sc_written.nd rfl (Or.inl rfl) (pe_op op_addT (pv 3) (pe_call G_bits (hr.mono (by first | decide | exact Nat.le_refl _)) (by rfl) D_bits.g D_bits.F.kp D_bits.b .nil pass0 (pa_cons (pv 4) (pa_cons (pv 7) pa_nil)))))
   (pss_one (ps_set (i := 4) sc_written.nd rfl (Or.inl rfl) (pe_call G_after (hr.mono (by first | decide | exact Nat.le_refl _)) (by rfl) D_after.g D_after.F.kp D_after.b .nil pass0 (pa_cons (pv 4) (pa_cons (pv 7) pa_nil))))))
   (pss_cons (ps_set (i := 3) sc_written.nd rfl (Or.inl rfl) (pe_op op_addT (pv 3) (pe_call G_bits (hr.mono (by first | decide | exact Nat.le_refl _)) (by rfl) D_bits.g D_bits.F.kp D_bits.b .nil pass0 (pa_cons (pv 5) (pa_cons (pv 7) pa_nil)))))
   (pss_one (ps_set (i := 5) sc_written.nd rfl (Or.inl rfl) (pe_call G_after (hr.mono (by first | decide | exact Nat.le_refl _)) (by rfl) D_after.g D_after.F.kp D_after.b .nil pass0 (pa_cons (pv 5) (pa_cons (pv 7) pa_nil))))))))))
   (pss_one (ps_ret (pe_tup (pa_cons (pv 3) (pa_cons (pe_tup (pa_cons (pv 4) (pa_cons (pv 5) pa_nil))) pa_nil)))))))), ?_⟩
      refine rd_start (σ := [some (.ref a), some (.int (first : Int)), some (.ref b), none, none, none, none, none]) rfl ?_
      obtain ⟨r0, r1, h0, h1, h2⟩ := hT
      have L0 := h0.1
      walk_at "rd"
      rw [List.length_map]
      refine ⟨_, rfl, by omega, by omega, ?_⟩
      refine for_range (lo := 0) (n := ((ns.length : Nat) : Int).toNat) (fun i σ H' => ∃ r0 r1 x6 x7, σ = [some (.ref a), some (.int (first : Int)), some (.ref b), some (.str (SX.S (wst ns first T i).1.flatten)), some (.ref r0), some (.ref r1), x6, x7] ∧ TbV K H' r0 (wst ns first T i).2.1 ∧ TbV K H' r1 (wst ns first T i).2.2 ∧ Same H H') ⟨r0, r1, none, none, rfl, h1, h2, Same.refl _⟩ (fun i σ H' hi hI => ?_) (fun σ H' hI => ?_)
      · obtain ⟨r0, r1, x6, x7, rfl, t0, t1, hs⟩ := hI
        have hil : i < ns.length := by omega
        obtain ⟨z, hz, hzi⟩ : ∃ z, ns.getD i 0 = z ∧ ns[i]? = some z := ⟨ns[i], getD_some (List.getElem?_eq_getElem hil), List.getElem?_eq_getElem hil⟩
        obtain ⟨k1, k2⟩ := wst_ok (first := first) hn o1 o2 i (by omega)
        have bnd : (10 ^ 58 + (i : Int) * 10 ^ 56) < 10 ^ 60 := by omega
        have hu := nb_small (uOf_getD hn i)
        rw [hz] at hu
        have wf := wst_flat (first := first) hn o1 o2 i (by omega)
        rw [Int.zero_add]
        walk_at "rd"
        refine rd_ixL (SqL.of (hs _ _ e1)) (atI_nat (v := .int z) (by rw [List.getElem?_map, hzi]; rfl)) ?_
        walk_at "rd"
        rw [← uOf_eq]
        refine rd_iteD (fun c => ?_) (fun c => ?_)
        · have c : i < first := by omega
          walk_at "rd"
          refine use_bitsT t0 k1 bnd (by omega) ?_
          walk_at "rd"
          refine rd_addT rfl rfl (by have := encB_len (uOf z) (par (wst ns first T i).2.1.1 (wst ns first T i).2.1.2); have := par_leG k1 bnd; omega) ?_
          walk_at "rd"
          refine use_behind t0 k1 fun p hp => ?_
          walk_at "rd"
          have sp := same_new (o := .tup [.int (tbB (wst ns first T i).2.1 (uOf z)).1, .int (tbB (wst ns first T i).2.1 (uOf z)).2]) hp
          refine ⟨p, r1, some (.int (i : Nat)), some (.int (uOf z : Nat)), ?_, ?_, ?_, hs.trans sp⟩
          · rw [wst_lo c, hz, List.flatten_append]
            rw [show [encB (uOf z) (par (wst ns first T i).2.1.1 (wst ns first T i).2.1.2)].flatten = encB (uOf z) (par (wst ns first T i).2.1.1 (wst ns first T i).2.1.2) from List.append_nil _]
            rfl
          · rw [wst_lo c, hz]
            exact TbV.of upd_same
          · rw [wst_lo c]
            exact t1.lk (.of sp)
        · have c : ¬ i < first := by omega
          walk_at "rd"
          refine use_bitsT t1 k2 bnd (by omega) ?_
          walk_at "rd"
          refine rd_addT rfl rfl (by have := encB_len (uOf z) (par (wst ns first T i).2.2.1 (wst ns first T i).2.2.2); have := par_leG k2 bnd; omega) ?_
          walk_at "rd"
          refine use_behind t1 k2 fun p hp => ?_
          walk_at "rd"
          have sp := same_new (o := .tup [.int (tbB (wst ns first T i).2.2 (uOf z)).1, .int (tbB (wst ns first T i).2.2 (uOf z)).2]) hp
          refine ⟨r0, p, some (.int (i : Nat)), some (.int (uOf z : Nat)), ?_, ?_, ?_, hs.trans sp⟩
          · rw [wst_hi c, hz, List.flatten_append]
            rw [show [encB (uOf z) (par (wst ns first T i).2.2.1 (wst ns first T i).2.2.2)].flatten = encB (uOf z) (par (wst ns first T i).2.2.1 (wst ns first T i).2.2.2) from List.append_nil _]
            rfl
          · rw [wst_hi c]
            exact t0.lk (.of sp)
          · rw [wst_hi c, hz]
            exact TbV.of upd_same
      · obtain ⟨r0, r1, x6, x7, rfl, t0, t1, hs⟩ := hI
        rw [Int.toNat_natCast] at t0 t1 ⊢
        walk_at "rd"
        rename_i q2 hq2 p hp
        have s1 := same_new (o := .tup [.ref r0, .ref r1]) hq2
        have s2 := same_new (o := .tup [.str (SX.S (wst ns first T ns.length).1.flatten), .ref q2]) hp
        exact q p q2 _ ((hs.trans s1).trans s2) (hs.free (s1.free hp)) upd_same ⟨r0, r1, TupV.of (s2 _ _ upd_same), t0.lk (.of (s1.trans s2)), t1.lk (.of (s1.trans s2))⟩
    ) only [↓lt_eq]
theorem ok_mark {f : Addr} {fd : FuncData} {f_code : Addr} {fd_code : FuncData}    (D : Dn K mg "_law_mark" s_mark ["_law_numbers"] f fd) (bi : Bi mg) (G_code : FnOk P w K mg base CX0 1 f_code fd_code ["_law_number"] spCode) (D_code : Dn K mg "_law_code" s_code ["_law_number"] f_code fd_code)     : FnOk P w K mg base CX0 2 f fd ["_law_numbers"] spMark := by
  refine lt_out ?_
  simp (disch := with_unfolding_all
    refine D.F.ok sc_mark (fun vs H Q E h => ?_) (fun cdv A outer s H vs Q E hr h => ?_)
    · obtain ⟨a, ns, rfl, _⟩ := h
      rfl
    · obtain ⟨a, ns, rfl, hS, hl, q⟩ := h
      refine ⟨_, (pss_cons (ps_set (i := 1) sc_mark.nd rfl (Or.inl rfl) pe_int)
   (pss_cons (ps_for PassesOwn.never rfl (pi_list (pv 0)) (pg_name (i := 2) sc_mark.nd rfl (Or.inl rfl))
   (pss_one (ps_set (i := 1) sc_mark.nd rfl (Or.inl rfl) (pe_op op_mod (pe_callTy cInt (by rfl) bi.int_ (by decide +kernel) (pa_cons (pe_op op_add (pe_op op_mul (pv 1) pe_int) (pe_call G_code (hr.mono (by first | decide | exact Nat.le_refl _)) (by rfl) D_code.g D_code.F.kp D_code.b .nil pass0 (pa_cons (pv 2) pa_nil))) pa_nil)) pe_int))))
   (pss_one (ps_ret (pv 1))))), ?_⟩
      refine rd_start (σ := [some (.ref a), none, none]) rfl ?_
      walk_at "rd"
      refine' rd_lpL (xs := ns.map V.int) ?k1 ?_
      (case k1 => exact SqL.of (by walk_at "hg"))
      refine for_list (xs := ns.map V.int) (fun i σ H' => ∃ t, σ = [some (.ref a), some (.int (markF (ns.take i))), t] ∧ Same H H') ⟨none, rfl, by walk_at "sm"⟩ (fun i σ H1 _ hI => ?_) (fun i v σ H1 hv hI => ?_) (fun σ H1 hI => ?_)
      · obtain ⟨t, rfl, hs⟩ := hI
        exact hs.seq (SqL.of hS)
      · obtain ⟨t, rfl, hs⟩ := hI
        obtain ⟨z, rfl, hz⟩ : ∃ z, v = .int z ∧ ns[i]? = some z := by
          rw [List.getElem?_map] at hv
          cases g : ns[i]? with
          | none => rw [g] at hv; cases hv
          | some z => rw [g] at hv; exact ⟨z, (Option.some.inj hv).symm, rfl⟩
        have hb := markF_bound (ns.take i)
        walk_at "rd"
        refine ⟨some (.int z), ?_, hs⟩
        rw [show ns.take (i + 1) = ns.take i ++ [z] by rw [List.take_add_one, hz]; rfl, markF_snoc]
        rfl
      · obtain ⟨t, rfl, hs⟩ := hI
        walk_at "rd"
        rw [List.take_of_length_le (by rw [List.length_map]; exact Nat.le_refl _)]
        exact q _ hs
    ) only [↓lt_eq]
theorem ok_sizes {f : Addr} {fd : FuncData}     (D : Dn K mg "_law_sizes" s_sizes ["_law_length", "_law_levels"] f fd) (bi : Bi mg)      : FnOk P w K mg base CX0 1 f fd ["_law_length", "_law_levels"] spSizL := by
  refine lt_out ?_
  simp (disch := with_unfolding_all
    refine D.F.ok sc_sizes (fun vs H Q E h => ?_) (fun cdv A outer s H vs Q E hr h => ?_)
    · obtain ⟨n, k, rfl, _⟩ := h
      rfl
    · obtain ⟨n, k, rfl, hk, q⟩ := h
      refine ⟨_, (pss_cons (ps_set (i := 2) sc_sizes.nd rfl (Or.inl rfl) (pe_lst (pa_cons (pv 0) pa_nil)))
   (pss_cons (ps_for PassesOwn.never rfl (pi_range1 (by rfl) bi.range_ (pa_cons (pv 1) pa_nil)) (pg_name (i := 3) sc_sizes.nd rfl (Or.inl rfl))
   (pss_one (ps_if (pt_cmpR op_gt (pe_ix ix_list (pv 2) (pe_un un_neg pe_int) (fun _ _ => rfl)) pe_int (nomark _))
   (pss_one (ps_expr (pe_bm PySem.F.plainAttrs_list PySem.F.slot_list_append PySem.F.type_list_append mt_append (pv 2) (pa_cons (pe_op op_fdiv (pe_op op_add (pe_ix ix_list (pv 2) (pe_un un_neg pe_int) (fun _ _ => rfl)) pe_int) pe_int) pa_nil))))
   pss_nil)))
   (pss_one (ps_ret (pv 2))))), ?_⟩
      refine rd_start (σ := [some (.int (n : Nat)), some (.int (k : Nat)), none, none]) rfl ?_
      walk_at "rd"
      rename_i D hD
      refine for_range (lo := 0) (n := ((k : Nat) : Int).toNat) (fun i σ H' => ∃ t, σ = [some (.int (n : Nat)), some (.int (k : Nat)), some (.ref D), t] ∧ H' D = some (.lst ((List.range (ef n i + 1)).map fun i => V.int (cc n i : Nat))) ∧ Same H H') ⟨none, rfl, upd_same, same_new hD⟩ (fun i σ H' hi hI => ?_) (fun σ H' hI => ?_)
      · obtain ⟨t, rfl, e, hs⟩ := hI
        rw [Int.toNat_natCast] at hi
        have hle := ef_le n i
        have hcc := ef_cc n i
        walk_at "rd"
        refine rd_ixL (SqL.of e) (at_last (k := ef n i) (by simp) (last_range _ (ef n i))) ?_
        rw [hcc]
        walk_at "rd"
        refine rd_iteD (fun c => ?_) (fun c => ?_)
        · have c : cc n i > 1 := by omega
          have hfu := ef_full c
          have hf1 : ef n (i + 1) = i + 1 := if_pos c
          rw [hfu] at e
          walk_at "rd"
          refine rd_ixL (SqL.of e) (at_last (k := i) (by simp) (last_range _ i)) ?_
          walk_at "rd"
          refine rd_appG e (by simp; omega) ?_
          walk_at "rd"
          refine ⟨_, rfl, ?_, fun b o z => by rw [upd_ne (ne_of_none z hD)]; exact hs _ _ z⟩
          rw [hf1, upd_same, List.range_succ (n := i + 1), List.map_append]
          rw [show ((cc n i : Nat) : Int) + 1 = ((cc n i + 1 : Nat) : Int) by omega, show ((cc n i + 1 : Nat) : Int) / 2 = ((cc n (i + 1) : Nat) : Int) by show _ = (((cc n i + 1) / 2 : Nat) : Int); omega]
          rfl
        · have hf1 : ef n (i + 1) = ef n i := if_neg (fun z => c (by omega))
          walk_at "rd"
          exact ⟨_, rfl, by rw [hf1]; exact e, hs⟩
      · obtain ⟨t, rfl, e, hs⟩ := hI
        rw [Int.toNat_natCast] at e
        walk_at "rd"
        exact q D _ hD hs e
    ) only [↓lt_eq]
theorem ok_take {f : Addr} {fd : FuncData}     (D : Dn K mg "_law_take" s_take ["_law_pool_here", "_law_many"] f fd) (bi : Bi mg)      : FnOk P w K mg base CX0 1 f fd ["_law_pool_here", "_law_many"] spTakeV := by
  refine lt_out ?_
  simp (disch := with_unfolding_all
    refine D.F.ok sc_take (fun vs H Q E h => ?_) (fun cdv A outer s H vs Q E hr h => ?_)
    · obtain ⟨p, m, rfl, _⟩ := h
      rfl
    · obtain ⟨p, m, rfl, ⟨x, y, hp, hx, hy0, hy1⟩, hm0, hm1, q⟩ := h
      refine ⟨_, (pss_cons (ps_if (pt_cmpR op_gt (pe_ix ix_list (pv 0) pe_int (fun _ _ => rfl)) pe_int (nomark _))
   (pss_cons (ps_set (i := 2) sc_take.nd rfl (Or.inl rfl) (pe_op op_mod (pe_callTy cInt (by rfl) bi.int_ (by decide +kernel) (pa_cons (pe_ix ix_list (pv 0) pe_int (fun _ _ => rfl)) pa_nil)) (pv 1)))
   (pss_cons (ps_asg (pe_op op_fdivW (pe_ix ix_list (pv 0) pe_int (fun _ _ => rfl)) (pv 1)) (pg_sub (pv 0) pe_int set_list))
   (pss_one (ps_ret (pv 2)))))
   pss_nil)
   (pss_cons (ps_asg (pe_op op_mod (pe_callTy cInt (by rfl) bi.int_ (by decide +kernel) (pa_cons (pe_op op_add (pe_op op_mul (pe_ix ix_list (pv 0) pe_int (fun _ _ => rfl)) pe_int) pe_int) pa_nil)) pe_int) (pg_sub (pv 0) pe_int set_list))
   (pss_one (ps_ret (pe_op op_mod (pe_op op_fdiv (pe_op op_mod (pe_callTy cInt (by rfl) bi.int_ (by decide +kernel) (pa_cons (pe_op op_mul (pe_ix ix_list (pv 0) pe_int (fun _ _ => rfl)) (pe_ix ix_list (pv 0) pe_int (fun _ _ => rfl))) pa_nil)) pe_int) pe_int) (pv 1)))))), ?_⟩
      refine rd_start (σ := [some (.ref p), some (.int m), none]) rfl ?_
      walk_at "rd"
      refine rd_iteD (fun c => ?_) (fun c => ?_)
      · walk_at "rd"
        exact q _ _ (Int.emod_nonneg _ (by omega)) (Int.emod_lt_of_pos _ hm0) ⟨x / m, y, upd_same, Int.ediv_nonneg hx (by omega), hy0, hy1⟩ Kp.at
      · have e0 := Int.emod_nonneg (y * 48271 + 12345) (show (2147483647 : Int) ≠ 0 by decide)
        have e1 := Int.emod_lt_of_pos (y * 48271 + 12345) (show (0 : Int) < 2147483647 by decide)
        walk_at "rd"
        exact q _ _ (Int.emod_nonneg _ (by omega)) (Int.emod_lt_of_pos _ hm0) ⟨x, (y * 48271 + 12345) % 2147483647, upd_same, hx, e0, e1⟩ Kp.at
    ) only [↓lt_eq]
theorem ok_pool {f : Addr} {fd : FuncData}     (D : Dn K mg "_law_pool" s_pool ["_law_script", "_law_k"] f fd) (bi : Bi mg)      : FnOk P w K mg base CX0 1 f fd ["_law_script", "_law_k"] (spPool K) := by
  refine lt_out ?_
  simp (disch := with_unfolding_all
    refine D.F.ok sc_pool (fun vs H Q E h => ?_) (fun cdv A outer s H vs Q E hr h => ?_)
    · obtain ⟨a, ns, k, rfl, _⟩ := h
      rfl
    · obtain ⟨a, ns, k, rfl, hS, hl, hk0, hk1, q⟩ := h
      refine ⟨_, (pss_cons (ps_set (i := 2) sc_pool.nd rfl (Or.inl rfl) (pe_ix ix_list (pe_op op_cat (pe_slice sl_list (pv 0) (po_some (pv 1)) (po_some (pe_op op_add (pv 1) pe_int))) (pe_lst (pa_cons pe_int pa_nil))) pe_int (fun _ _ => rfl)))
   (pss_cons (ps_set (i := 3) sc_pool.nd rfl (Or.inl rfl) (pe_ifExp (pt_cmpR op_ge (pv 2) pe_int (nomark _)) (pv 2) (pe_op op_sub (pe_un un_neg pe_int) (pv 2))))
   (pss_cons (ps_set (i := 4) sc_pool.nd rfl (Or.inl rfl) (pe_op op_mod (pe_op op_mul (pe_callTy cInt (by rfl) bi.int_ (by decide +kernel) (pa_cons (pe_op op_add (pe_op op_add (pe_op op_add (pe_op op_mod (pv 3) pe_int) (pe_op op_mul (pe_op op_mul pe_int (pv 1)) (pv 1))) (pe_op op_mul pe_int (pv 1))) pe_int) pa_nil)) pe_int) pe_int))
   (pss_one (ps_ret (pe_lst (pa_cons (pe_op op_mul (pv 3) (pe_callTy cInt (by rfl) bi.int_ (by decide +kernel) (pa_cons (pe_cmpR op_ge (pv 3) (pe_op op_pow pe_int pe_int) (nomark _)) pa_nil))) (pa_cons (pe_op op_mod (pe_op op_mul (pv 4) (pv 4)) pe_int) pa_nil)))))))), ?_⟩
      refine rd_start (σ := [some (.ref a), some (.int k), none, none, none]) rfl ?_
      have hS' : SqL (cxOf CX0 P w K mg base ["_law_script", "_law_k", "_law_cell", "_law_number", "_law_mixed"] "_law_pool" (defScope s_pool) f cdv A outer s H E).nox.K H a (ns.map V.int) := hS
      walk_at "rd"
      refine ⟨a, _, rfl, hS', fun p1 hp1 => ?_⟩
      walk_at "rd"
      rename_i p2 hp2
      have hc : ∃ c : Int, (cutV (ns.map V.int) (some k) (some (k + 1)) ++ [.int 0])[0]? = some (.int c) := by
        unfold cutV
        rw [← List.map_drop, ← List.map_take]
        cases (ns.drop (HT.sIx (ns.map V.int).length 0 (some k))).take (HT.sIx (ns.map V.int).length (ns.map V.int).length (some (k + 1)) - HT.sIx (ns.map V.int).length 0 (some k)) with
        | nil => exact ⟨0, rfl⟩
        | cons c r => exact ⟨c, rfl⟩
      have hcl : (cutV (ns.map V.int) (some k) (some (k + 1))).length ≤ 63 := by
        unfold cutV
        rw [List.length_take, List.length_drop, List.length_map]
        omega
      obtain ⟨c, hc⟩ := hc
      refine rd_catG (look_new hp2 upd_same) upd_same (by simp; omega) fun p3 hp3 => ?_
      walk_at "rd"
      refine rd_ixL (SqL.of upd_same) (atI_nat (j := 0) hc) ?_
      walk_at "rd"
      refine rd_iteD (fun d => ?_) (fun d => ?_)
      · have e0 := Int.emod_nonneg c (show (2147483629 : Int) ≠ 0 by decide)
        have e1 := Int.emod_lt_of_pos c (show (0 : Int) < 2147483629 by decide)
        walk_at "rd"
        rename_i p hp
        have hsm : Same H (upd (upd (upd H p1 (.lst (cutV (ns.map V.int) (some k) (some (k + 1))))) p2 (.lst [.int 0])) p3 (.lst (cutV (ns.map V.int) (some k) (some (k + 1)) ++ [.int 0]))) := ((same_new hp1).trans (same_new hp2)).trans (same_new hp3)
        exact q p _ (hsm.free hp) (hsm.trans (same_new hp)) ⟨_, _, upd_same, Int.mul_nonneg (by omega) (by split <;> decide), Int.emod_nonneg _ (by decide), Int.lt_trans (Int.emod_lt_of_pos _ (by decide)) (by decide)⟩
      · walk_at "rd"
        rename_i p hp
        have hsm : Same H (upd (upd (upd H p1 (.lst (cutV (ns.map V.int) (some k) (some (k + 1))))) p2 (.lst [.int 0])) p3 (.lst (cutV (ns.map V.int) (some k) (some (k + 1)) ++ [.int 0]))) := ((same_new hp1).trans (same_new hp2)).trans (same_new hp3)
        exact q p _ (hsm.free hp) (hsm.trans (same_new hp)) ⟨_, _, upd_same, Int.mul_nonneg (by omega) (by split <;> decide), Int.emod_nonneg _ (by decide), Int.lt_trans (Int.emod_lt_of_pos _ (by decide)) (by decide)⟩
    ) only [↓lt_eq]
theorem ok_made {f : Addr} {fd : FuncData} {f_take : Addr} {fd_take : FuncData} {f_sizes : Addr} {fd_sizes : FuncData} {f_written : Addr} {fd_written : FuncData} {f_mark : Addr} {fd_mark : FuncData}    (D : Dn K mg "_law_made" s_made ["_law_pool_here", "_law_many"] f fd) (bi : Bi mg) (G_take : FnOk P w K mg base CX0 1 f_take fd_take ["_law_pool_here", "_law_many"] spTakeV) (D_take : Dn K mg "_law_take" s_take ["_law_pool_here", "_law_many"] f_take fd_take) (G_sizes : FnOk P w K mg base CX0 1 f_sizes fd_sizes ["_law_length", "_law_levels"] spSizL) (D_sizes : Dn K mg "_law_sizes" s_sizes ["_law_length", "_law_levels"] f_sizes fd_sizes) (G_written : FnOk P w K mg base CX0 3 f_written fd_written ["_law_numbers", "_law_coarse", "_law_tables"] (spWr K)) (D_written : Dn K mg "_law_written" s_written ["_law_numbers", "_law_coarse", "_law_tables"] f_written fd_written) (G_mark : FnOk P w K mg base CX0 2 f_mark fd_mark ["_law_numbers"] spMark) (D_mark : Dn K mg "_law_mark" s_mark ["_law_numbers"] f_mark fd_mark)     : FnOk P w K mg base CX0 4 f fd ["_law_pool_here", "_law_many"] (spMade K) := by
  refine lt_out ?_
  simp (disch := with_unfolding_all
    refine D.F.ok sc_made (fun vs H Q E h => ?_) (fun cdv A outer s H vs Q E hr h => ?_)
    · obtain ⟨p, m, rfl, _⟩ := h
      rfl
    · obtain ⟨p, m, rfl, hP, hm, q⟩ := h
      refine ⟨_, (pss_cons (ps_set (i := 2) sc_made.nd rfl (Or.inl rfl) (pe_tup (pa_cons (pe_tup (pa_cons pe_int (pa_cons pe_int pa_nil))) (pa_cons (pe_tup (pa_cons pe_int (pa_cons pe_int pa_nil))) pa_nil))))
   (pss_cons (ps_set (i := 3) sc_made.nd rfl (Or.inl rfl) (pe_lst pa_nil))
   (pss_cons (ps_for PassesOwn.never rfl (pi_range1 (by rfl) bi.range_ (pa_cons (pv 1) pa_nil)) (pg_name (i := 4) sc_made.nd rfl (Or.inl rfl))
   (pss_cons (ps_setLc (i := 5) (own := [("_law_turn", 6)]) (g := gName 6) (tt := tYes) rfl sc_made.nd rfl rfl (sw_true rfl rfl rfl (by decide +kernel)) (pi_range1 (by rfl) bi.range_ (pa_cons (pe_op op_add pe_int (pe_call G_take (hr.mono (by first | decide | exact Nat.le_refl _)) (by rfl) D_take.g D_take.F.kp D_take.b .nil pass0 (pa_cons (pv 0) (pa_cons pe_int pa_nil)))) pa_nil)) (blkOk_by (N := ["_law_pool_here", "_law_many", "_law_tables", "_law_records", "_law_k", "_law_numbers", "_law_turn", "_law_width", "_law_joint", "_law_levels", "_law_bits_here"]) (sc := defScope s_made) (by decide +kernel)) (fun _ _ _ _ _ => pg_name (i := 6) sc_made.nd rfl (Or.inl rfl)) (fun _ _ _ _ _ => pts_nil) (fun _ _ _ _ _ => (pe_op op_sub (pe_call G_take (hr.mono (by first | decide | exact Nat.le_refl _)) (by rfl) D_take.g D_take.F.kp D_take.b .nil pass0 (pa_cons (pv 0) (pa_cons pe_int pa_nil))) pe_int)))
   (C8.pss_cut (ps_set (i := 7) sc_made.nd rfl (Or.inl rfl) (pe_ifExp (pt_cmpR op_lt (pv 4) (pe_op op_sub (pv 1) pe_int) (nomark _)) (pe_call G_take (hr.mono (by first | decide | exact Nat.le_refl _)) (by rfl) D_take.g D_take.F.kp D_take.b .nil pass0 (pa_cons (pv 0) (pa_cons pe_int pa_nil))) pe_int))
   (C8.pss_cut (ps_set (i := 8) sc_made.nd rfl (Or.inl rfl) (pe_tup (pa_cons (pv 7) (pa_cons (pe_op op_mul (pe_call G_take (hr.mono (by first | decide | exact Nat.le_refl _)) (by rfl) D_take.g D_take.F.kp D_take.b .nil pass0 (pa_cons (pv 0) (pa_cons pe_int pa_nil))) (pe_callTy cInt (by rfl) bi.int_ (by decide +kernel) (pa_cons (pe_cmpR op_gt (pv 7) pe_int (nomark _)) pa_nil))) pa_nil))))
   (pss_cons (ps_set (i := 9) sc_made.nd rfl (Or.inl rfl) (pe_call G_take (hr.mono (by first | decide | exact Nat.le_refl _)) (by rfl) D_take.g D_take.F.kp D_take.b .nil pass0 (pa_cons (pv 0) (pa_cons pe_int pa_nil))))
   (pss_cons (ps_asg (pe_call G_written (hr.mono (by first | decide | exact Nat.le_refl _)) (by rfl) D_written.g D_written.F.kp D_written.b .nil pass0 (pa_cons (pv 5) (pa_cons (pe_ix ix_list (pe_call G_sizes (hr.mono (by first | decide | exact Nat.le_refl _)) (by rfl) D_sizes.g D_sizes.F.kp D_sizes.b .nil pass0 (pa_cons (pe_callB cLen (by rfl) bi.len_ (by decide +kernel) (pa_cons (pv 5) pa_nil)) (pa_cons (pv 9) pa_nil))) (pe_un un_neg pe_int) (fun _ _ => rfl)) (pa_cons (pv 2) pa_nil)))) (pg_tup rfl (pgs_cons (pg_name (i := 10) sc_made.nd rfl (Or.inl rfl)) (pgs_cons (pg_name (i := 2) sc_made.nd rfl (Or.inl rfl)) pgs_nil))))
   (pss_one (ps_expr (pe_bm PySem.F.plainAttrs_list PySem.F.slot_list_append PySem.F.type_list_append mt_append (pv 3) (pa_cons (pe_tup (pa_cons pe_str (pa_cons (pe_callB cLen (by rfl) bi.len_ (by decide +kernel) (pa_cons (pv 5) pa_nil)) (pa_cons (pv 8) (pa_cons (pv 9) (pa_cons (pe_op op_add pe_int (pe_call G_take (hr.mono (by first | decide | exact Nat.le_refl _)) (by rfl) D_take.g D_take.F.kp D_take.b .nil pass0 (pa_cons (pv 0) (pa_cons pe_int pa_nil)))) (pa_cons (pe_call G_mark (hr.mono (by first | decide | exact Nat.le_refl _)) (by rfl) D_mark.g D_mark.F.kp D_mark.b .nil pass0 (pa_cons (pv 5) pa_nil)) (pa_cons (pv 10) pa_nil)))))))) pa_nil))))))))))
   (pss_one (ps_ret (pv 3)))))), ?_⟩
      refine rd_start (σ := [some (.ref p), some (.int (m : Nat)), none, none, none, none, none, none, none, none, none]) rfl ?_
      walk_at "rd"
      rename_i a1 ha1 a2 ha2 t0 ht0 R hR
      have u1 := same_new (o := .tup [.int 2, .int 1]) ha1
      have u2 := same_new (o := .tup [.int 2, .int 1]) ha2
      have u3 := same_new (o := .tup [.ref a1, .ref a2]) ht0
      have u4 := same_new (o := .lst []) hR
      have s4 := u1.trans (u2.trans (u3.trans u4))
      have hR0 := (u1.trans (u2.trans u3)).free hR
      have nRp : R ≠ p := (hP.same (u1.trans (u2.trans u3))).ne hR
      have tb0 : TbsV K _ t0 T0 := ⟨a1, a2, TupV.of (u4 _ _ upd_same), TbV.of (u4 _ _ (u3 _ _ (u2 _ _ upd_same))), TbV.of (u4 _ _ (u3 _ _ upd_same))⟩
      refine for_range (lo := 0) (n := ((m : Nat) : Int).toNat) (fun i σ H' => ∃ t refs rs T w x4 x5 x6 x7 x8 x9 x10, σ = [some (.ref p), some (.int (m : Nat)), some (.ref t), some (.ref R), x4, x5, x6, x7, x8, x9, x10] ∧ H' R = some (.lst refs) ∧ RcsAt K H' refs rs ∧ Vd T0 0 rs T w ∧ rs.length = i ∧ (∀ r ∈ rs, Md r) ∧ w ≤ 4 ∧ (w = 0 ∨ i < m) ∧ TbsV K H' t T ∧ TbOk (100 + (i : Int) * 600010) T.1 ∧ TbOk (100 + (i : Int) * 600010) T.2 ∧ Pool H' p ∧ Kp p H H') ⟨t0, [], [], T0, 0, none, none, none, none, none, none, none, rfl, upd_same, .nil, ⟨rfl, rfl⟩, rfl, fun r hr => absurd hr List.not_mem_nil, Nat.zero_le _, .inl rfl, tb0, ⟨by decide, by decide, by decide, by decide⟩, ⟨by decide, by decide, by decide, by decide⟩, hP.same s4, Kp.of s4⟩ (fun i σ H1 hi hI => ?_) (fun σ H1 hI => ?_)
      · obtain ⟨t, refs, rs, T, w, x4, x5, x6, x7, x8, x9, x10, rfl, eR, hRc, hV, hrl, hMd, hw, hw0, hT, o1, o2, hP1, hK1⟩ := hI
        rw [Int.toNat_natCast] at hi
        walk_at "rd"
        rename_i r3 G3 h30 h31 hP3 hK3 D hD
        obtain ⟨e3, rfl⟩ : ∃ k : Nat, r3 = (k : Int) := ⟨r3.toNat, by omega⟩
        have hDp := hP3.ne hD
        have nDR : D ≠ R := (ne_of_none (hK3 _ _ nRp eR) hD).symm
        rw [show ((8 : Int) + (e3 : Nat)).toNat = 8 + e3 by omega]
        refine lc_range (Pv := fun j H' => ∃ zs : List Int, zs.length = j ∧ H' D = some (.lst (zs.map V.int)) ∧ (∀ z ∈ zs, z.natAbs ≤ 4) ∧ Pool H' p ∧ Kp p G3 H') ⟨[], rfl, upd_same, List.forall_mem_nil _, hP3.new hD, Kp.new hD⟩ (fun j H' hj hI => ?_) (fun H' hI => ?_)
        · obtain ⟨zs, e1, e2, e4, hPj, hKj⟩ := hI
          refine ⟨rfl, rd_yes ?_⟩
          walk_at "rd"
          rename_i r7 H7 h70 h71 hP7 hK7
          have hSe := hK7 _ _ hDp e2
          refine ⟨_, hSe, small1000 (by rw [List.length_map]; omega), zs ++ [r7 - 4], by rw [List.length_append, e1]; rfl, by rw [upd_same, List.map_append]; rfl, fun z hz => ?_, hP7.setL hDp, kp_app hD hKj hK7⟩
          rcases List.mem_append.mp hz with hz | hz
          · exact e4 z hz
          · rw [List.mem_singleton.mp hz]
            omega
        · obtain ⟨zs, e1, eD, e4, hPj, hKj⟩ := hI
          have K1 := hK3.trans hKj
          have lkj := LK.pool hP1 K1
          have eR1 := K1 _ _ nRp eR
          have hR1 := hRc.lk lkj
          have hT1 := hT.lk lkj
          have kA := hK1.trans K1
          clear hK3 hKj hP3 lkj hP1 eR hRc hT
          refine rd_cut (fun σ H2 => ∃ wd : Nat, σ = [some (.ref p), some (.int (m : Nat)), some (.ref t), some (.ref R), some (.int (0 + (i : Int))), some (.ref D), x6, some (.int (wd : Nat)), x8, x9, x10] ∧ wd ≤ 4 ∧ (wd = 0 ∨ i + 1 < m) ∧ Pool H2 p ∧ Kp p H' H2) ?_ fun σ2 H2 hM => ?_
          · walk_at "rd"
            refine rd_iteD (fun c => ?_) (fun c => ?_)
            · walk_at "rd"
              rename_i r8 H8 h80 h81 hP8 hK8
              obtain ⟨wd, rfl⟩ : ∃ k : Nat, r8 = (k : Int) := ⟨r8.toNat, by omega⟩
              exact ⟨wd, rfl, by omega, .inr (by omega), hP8, hK8⟩
            · walk_at "rd"
              exact ⟨0, rfl, by decide, .inl rfl, hPj, Kp.refl⟩
          obtain ⟨wd, rfl, hwd, hwd0, hP2, hK2⟩ := hM
          have eD2 := hK2 _ _ hDp eD
          refine rd_cut (fun σ H3 => ∃ (j : Addr) (sh : Nat), σ = [some (.ref p), some (.int (m : Nat)), some (.ref t), some (.ref R), some (.int (0 + (i : Int))), some (.ref D), x6, some (.int (wd : Nat)), some (.ref j), x9, x10] ∧ H3 j = some (.tup [.int (wd : Nat), .int (sh : Nat)]) ∧ sh ≤ 3 ∧ (wd = 0 → sh = 0) ∧ Pool H3 p ∧ Kp p H' H3) ?_ fun σ3 H3 hM => ?_
          · walk_at "rd"
            rename_i r9 H9 h90 h91 hP9 hK9 j hj
            obtain ⟨sh, hse, hs1, hs2⟩ : ∃ sh : Nat, r9 * (if decide ((0 : Int) < (wd : Nat)) = true then 1 else 0) = (sh : Int) ∧ sh ≤ 3 ∧ (wd = 0 → sh = 0) := by
              by_cases c : (0 : Int) < (wd : Nat)
              · rw [decide_eq_true c, if_pos rfl, Int.mul_one]
                exact ⟨r9.toNat, by omega, by omega, fun z => by omega⟩
              · rw [decide_eq_false c, if_neg Bool.false_ne_true, Int.mul_zero]
                exact ⟨0, rfl, by decide, fun _ => rfl⟩
            rw [hse]
            exact ⟨j, sh, rfl, upd_same, hs1, hs2, hP9.new hj, (hK2.trans hK9).trans (Kp.new hj)⟩
          obtain ⟨j, sh, rfl, ej, hsh, hsh0, hP3, hK3⟩ := hM
          have eD3 := hK3 _ _ hDp eD
          have eR3 := hK3 _ _ nRp eR1
          have lk3 := LK.pool hPj hK3
          have hR3 := hR1.lk lk3
          have hT3 := hT1.lk lk3
          walk_at "rd"
          rename_i r10 H4 h40 h41 hP4 hK4
          obtain ⟨lv, rfl⟩ : ∃ k : Nat, r10 = (k : Int) := ⟨r10.toNat, by omega⟩
          have lk4 := LK.pool hP3 hK4
          have eD4 := hK4 _ _ hDp eD3
          have eR4 := hK4 _ _ nRp eR3
          have ej4 := lk4 _ _ ej (fun _ z => nomatch z)
          have hR4 := hR3.lk lk4
          have hT4 := hT3.lk lk4
          have k4 := hK3.trans hK4
          clear eD3 eR3 ej hR3 hT3 lk3 lk4 eD2 eR1 hR1 hT1
          rw [List.length_map]
          refine use_sizL (n := zs.length) (k := lv) (by omega) fun C G5 hC s5 eC => ?_
          walk_at "rd"
          refine rd_ixL (SqL.of eC) (at_last (k := ef zs.length lv) (by simp) (last_range _ _)) ?_
          rw [ef_cc]
          have c1 := cc_n zs.length lv
          walk_at "rd"
          refine use_wr (first := cc zs.length lv) (s5 _ _ eD4) (by omega) (by omega) (fun z hz => Nat.lt_of_le_of_lt (e4 z hz) (by decide)) (hT4.lk (.of s5)) (o1.up (by omega)) (o2.up (by omega)) fun p1 q1 G6 s6 hp6 ep6 hq6 => ?_
          have s56 := s5.trans s6
          have eD6 := s56 _ _ eD4
          have hP6 := hP4.same s56
          walk_at "rd"
          rename_i r11 G11 h110 h111 hP11 hK11 G12 s12 r hr
          obtain ⟨st, rfl⟩ : ∃ k : Nat, r11 = (k : Int) := ⟨r11.toNat, by omega⟩
          rw [show (1 : Int) + (st : Nat) = ((1 + st : Nat) : Int) by omega, List.length_map]
          have sr := same_new (o := .tup [.str (Str.ofString "frame"), .int (zs.length : Nat), .ref j, .int (lv : Nat), .int ((1 + st : Nat) : Int), .int (markF zs), .str (SX.S (wst zs (cc zs.length lv) T zs.length).1.flatten)]) hr
          have s1r := s12.trans sr
          have kE := (Kp.of s56).trans (hK11.trans (Kp.of s1r))
          have lkE := (LK.of s56).trans ((LK.pool hP6 hK11).trans (LK.of s1r))
          have lk6 := (LK.pool hP6 hK11).trans (LK.of s1r)
          have eRE := kE _ _ nRp eR4
          have hrl2 := hR4.len
          refine rd_appG eRE (by omega) ?_
          have lkA := LK.at (o := .lst (refs ++ [.ref r])) eRE
          have hqE := (hq6.lk lk6).lk lkA
          have hRE := (hR4.lk lkE).lk lkA
          have ejE := lkA _ _ (lkE _ _ ej4 (fun _ z => nomatch z)) (fun _ z => nomatch z)
          have erE := lkA _ _ upd_same (fun _ z => nomatch z)
          obtain ⟨w1, w2⟩ := wst_small (first := cc zs.length lv) (fun z hz => Nat.le_trans (e4 z hz) (by decide)) o1 o2 zs.length (Nat.le_refl _)
          have tk : TkOk T := ⟨o1.up (by omega), o2.up (by omega)⟩
          have hV2 := Vd.fr' (d := (zs.length, wd, sh, lv, 1 + st)) (ns := zs) ⟨by dsimp only; omega, by dsimp only; omega, by dsimp only; omega, hsh, hsh0, by dsimp only; omega, by dsimp only; omega, by dsimp only; omega⟩ (by dsimp only; omega) rfl (fun z hz => Nat.le_trans (e4 z hz) (by decide)) tk hV
          refine ⟨q1, refs ++ [.ref r], rs ++ [.fr (zs.length, wd, sh, lv, 1 + st) zs T], nextF (zs.length, wd, sh, lv, 1 + st) zs T, wd, _, _, _, _, _, _, _, rfl, upd_same, All2.app hRE (show RcAt K _ (.ref r) (.fr (zs.length, wd, sh, lv, 1 + st) zs T) from ⟨r, j, rfl, erE, ejE⟩), hV2, by rw [List.length_append, hrl]; rfl, fun x hx => ?_, hwd, hwd0, hqE, w1.up ?_, w2.up ?_, (hP11.same s1r).setL nRp, fun b o nb e => ?_⟩
          · rcases List.mem_append.mp hx with hx | hx
            · exact hMd x hx
            · rw [List.mem_singleton.mp hx]
              exact ⟨_, _, _, rfl, by dsimp only; omega, by dsimp only; omega, hwd, e4, o1.up (by omega), o2.up (by omega)⟩
          · omega
          · omega
          · rw [upd_ne (ne_of_none e hR0)]
            exact (kA.trans (k4.trans kE)) b o nb e
      · obtain ⟨t, refs, rs, T, w, x4, x5, x6, x7, x8, x9, x10, rfl, eR, hRc, hV, hrl, hMd, hw, hw0, hT, o1, o2, hP1, hK1⟩ := hI
        rw [Int.toNat_natCast] at hrl hw0
        obtain rfl : w = 0 := hw0.resolve_right (Nat.lt_irrefl _)
        walk_at "rd"
        exact q R refs rs T _ hR0 eR hRc hV hrl hMd hP1 hK1
    ) only [↓lt_eq]
theorem ok_spoilt {f : Addr} {fd : FuncData} {f_take : Addr} {fd_take : FuncData}    (D : Dn K mg "_law_spoilt" s_spoilt ["_law_pool_here", "_law_records", "_law_at", "_law_kind"] f fd) (bi : Bi mg) (G_take : FnOk P w K mg base CX0 1 f_take fd_take ["_law_pool_here", "_law_many"] spTakeV) (D_take : Dn K mg "_law_take" s_take ["_law_pool_here", "_law_many"] f_take fd_take)     : FnOk P w K mg base CX0 2 f fd ["_law_pool_here", "_law_records", "_law_at", "_law_kind"] (spSpoilt K) := by
  refine lt_out ?_
  simp (disch := with_unfolding_all
    refine D.F.ok sc_spoilt (fun vs H Q E h => ?_) (fun cdv A outer s H vs Q E hr h => ?_)
    · obtain ⟨p, a, refs, rs, i, k, d, ns, T, rfl, _⟩ := h
      rfl
    · obtain ⟨p, a, refs, rs, i, k, d, ns, T, rfl, hP, nap, hS, hR, e, hm, hV, hk, q⟩ := h
      obtain ⟨v0, hv0, b, j, rfl, g1, g2⟩ := hR.ta e
      unfold FrAt at g1
      refine ⟨_, (pss_cons (ps_asg (pe_ix ix_list (pv 1) (pv 2) (fun _ _ => rfl)) (pg_tup rfl (pgs_cons (pg_name (i := 4) sc_spoilt.nd rfl (Or.inl rfl)) (pgs_cons (pg_name (i := 5) sc_spoilt.nd rfl (Or.inl rfl)) (pgs_cons (pg_name (i := 6) sc_spoilt.nd rfl (Or.inl rfl)) (pgs_cons (pg_name (i := 7) sc_spoilt.nd rfl (Or.inl rfl)) (pgs_cons (pg_name (i := 8) sc_spoilt.nd rfl (Or.inl rfl)) (pgs_cons (pg_name (i := 9) sc_spoilt.nd rfl (Or.inl rfl)) (pgs_cons (pg_name (i := 10) sc_spoilt.nd rfl (Or.inl rfl)) pgs_nil)))))))))
   (pss_cons (ps_if (pt_cmpR op_eq (pv 3) pe_int (nomark _))
   (pss_one (ps_ret (pe_ix ix_list (pe_lst (pa_cons pe_non (pa_cons (pe_tup (pa_cons pe_str pa_nil)) (pa_cons pe_int (pa_cons (pe_callTy cList (by rfl) bi.list_ (by decide +kernel) (pa_cons (pe_ix ix_list (pv 1) (pv 2) (fun _ _ => rfl)) pa_nil)) (pa_cons (pe_tup (pa_cons pe_str (pa_cons pe_non pa_nil))) pa_nil)))))) (pe_call G_take (hr.mono (by first | decide | exact Nat.le_refl _)) (by rfl) D_take.g D_take.F.kp D_take.b .nil pass0 (pa_cons (pv 0) (pa_cons pe_int pa_nil))) (fun _ _ => rfl))))
   pss_nil)
   (pss_cons (ps_if (pt_cmpR op_eq (pv 3) pe_int (nomark _))
   (pss_one (ps_ret (pe_tup (pa_cons (pv 4) (pa_cons (pv 5) (pa_cons (pe_tup (pa_cons pe_int (pa_cons pe_int pa_nil))) (pa_cons (pv 7) (pa_cons (pv 8) (pa_cons (pv 9) (pa_cons (pv 10) pa_nil))))))))))
   pss_nil)
   (pss_cons (ps_if (pt_cmpR op_eq (pv 3) pe_int (nomark _))
   (pss_one (ps_ret (pe_tup (pa_cons (pv 4) (pa_cons (pv 5) (pa_cons (pv 6) (pa_cons (pv 7) (pa_cons (pv 8) (pa_cons (pv 9) (pa_cons (pe_ix ix_list (pe_lst (pa_cons (pe_op op_addT (pv 10) pe_str) (pa_cons (pe_slice C8.sl_txt (pv 10) po_none (po_some (pe_un un_neg pe_int))) (pa_cons pe_str (pa_cons (pe_op op_addT (pv 10) (pv 10)) pa_nil))))) (pe_call G_take (hr.mono (by first | decide | exact Nat.le_refl _)) (by rfl) D_take.g D_take.F.kp D_take.b .nil pass0 (pa_cons (pv 0) (pa_cons pe_int pa_nil))) (fun _ _ => rfl)) pa_nil))))))))))
   pss_nil)
   (pss_one (ps_ret (pe_tup (pa_cons (pv 4) (pa_cons (pv 5) (pa_cons (pv 6) (pa_cons (pv 7) (pa_cons (pv 8) (pa_cons (pe_op op_mod (pe_callTy cInt (by rfl) bi.int_ (by decide +kernel) (pa_cons (pe_op op_add (pe_op op_add (pv 9) pe_int) (pe_call G_take (hr.mono (by first | decide | exact Nat.le_refl _)) (by rfl) D_take.g D_take.F.kp D_take.b .nil pass0 (pa_cons (pv 0) (pa_cons pe_int pa_nil)))) pa_nil)) pe_int) (pa_cons (pv 10) pa_nil)))))))))))))), ?_⟩
      refine rd_start (σ := [some (.ref p), some (.ref a), some (.int (i : Nat)), some (.int (k : Nat)), none, none, none, none, none, none, none]) rfl ?_
      walk_at "rd"
      refine rd_ixL (SqL.of hS) (atI_nat hv0) ?_
      walk_at "rd"
      refine rd_iteD (fun c => ?_) (fun c => ?_)
      · walk_at "rd"
        rename_i t1 ht1
        have s1 := same_new (o := .tup [.str (Str.ofString "frame")]) ht1
        refine rd_ixL (SqL.of (s1 _ _ hS)) (atI_nat hv0) ?_
        walk_at "rd"
        rename_i l hl t2 ht2 D hD r H6 r0 r5 hP6 hK6
        obtain rfl : k = 0 := by
          have := V.int.inj c
          omega
        have s2 := same_new (o := .lst [.str (Str.ofString "frame"), .int (d.1 : Nat), .ref j, .int (d.2.2.2.1 : Nat), .int (d.2.2.2.2 : Nat), .int (markF ns), .str (SX.S (bitsF d ns T))]) hl
        have s3 := same_new (o := .tup [.str (Str.ofString "state"), .non]) ht2
        have s4 := same_new (o := .lst [.non, .ref t1, .int 5, .ref l, .ref t2]) hD
        have sA := s1.trans (s2.trans (s3.trans s4))
        have hP4 := hP.same sA
        have lk := LK.pool hP4 hK6
        have e1 := lk _ _ ((s2.trans (s3.trans s4)) _ _ (upd_same (a := t1) (o := .tup [.str (Str.ofString "frame")]))) (fun _ z => nomatch z)
        have nlp : l ≠ p := (hP.same s1).ne hl
        have e2 := hK6 _ _ nlp ((s3.trans s4) _ _ (upd_same (a := l) (o := .lst [.str (Str.ofString "frame"), .int (d.1 : Nat), .ref j, .int (d.2.2.2.1 : Nat), .int (d.2.2.2.2 : Nat), .int (markF ns), .str (SX.S (bitsF d ns T))])))
        have e3 := lk _ _ (s4 _ _ (upd_same (a := t2) (o := .tup [.str (Str.ofString "state"), .non]))) (fun _ z => nomatch z)
        have nDp : D ≠ p := (hP.same (s1.trans (s2.trans s3))).ne hD
        have eD := hK6 _ _ nDp (upd_same (a := D) (o := .lst [.non, .ref t1, .int 5, .ref l, .ref t2]))
        have kk : Kp p H H6 := (Kp.of sA).trans hK6
        have hr5 : r = 0 ∨ r = 1 ∨ r = 2 ∨ r = 3 ∨ r = 4 := by omega
        rcases hr5 with rfl | rfl | rfl | rfl | rfl
        · exact rd_ixL (SqL.of eD) rfl (q _ _ (.none (.flat rfl)) hP6 kk)
        · exact rd_ixL (SqL.of eD) rfl (q _ _ (.none (.tupn e1 (by decide) (by decide))) hP6 kk)
        · exact rd_ixL (SqL.of eD) rfl (q _ _ (.none (.flat rfl)) hP6 kk)
        · exact rd_ixL (SqL.of eD) rfl (q _ _ (.none (.lst e2)) hP6 kk)
        · exact rd_ixL (SqL.of eD) rfl (q _ _ (.none (st_no e3 (.flat rfl))) hP6 kk)
      · walk_at "rd"
        refine rd_iteD (fun c1 => ?_) (fun c1 => ?_)
        · walk_at "rd"
          rename_i t1 ht1 t2 ht2
          have s1 := same_new (o := .tup [.int 8, .int 1]) ht1
          have s2 := same_new (o := .tup [.str (Str.ofString "frame"), .int (d.1 : Nat), .ref t1, .int (d.2.2.2.1 : Nat), .int (d.2.2.2.2 : Nat), .int (markF ns), .str (SX.S (bitsF d ns T))]) ht2
          have s3 := s1.trans s2
          obtain rfl : k = 1 := by
            have := V.int.inj c1
            omega
          exact q _ _ (.wide ⟨t2, t1, rfl, upd_same, s2 _ _ upd_same⟩) (hP.same s3) (Kp.of s3)
        · walk_at "rd"
          refine rd_iteD (fun c2 => ?_) (fun c2 => ?_)
          · walk_at "rd"
            obtain ⟨b1, b2, b3, b4, b5, b6⟩ := md_bits hm hV
            refine rd_addX (by rw [SX.S_len]; show _ + 1 ≤ _; omega) ?_
            walk_at "rd"
            refine rd_slBut b2 (by omega) ?_
            walk_at "rd"
            rename_i D hD r H6 r0 r4 hP6 hK6
            have nDp : D ≠ p := hP.ne hD
            have eD := hK6 _ _ nDp upd_same
            rw [e_empty, show (Str.ofString "0") = SX.S [48] by decide +kernel, SX.S_cat] at eD
            have eD : H6 D = some (.lst (bitX d ns T)) := eD
            obtain ⟨l, hl1, hl2, hl3, hl4⟩ := bitX_at hm hV r0 (by omega)
            refine rd_ixL (SqL.of eD) hl1 ?_
            walk_at "rd"
            rename_i t2 ht2
            have s2 := same_new (o := .tup [.str (Str.ofString "frame"), .int (d.1 : Nat), .ref j, .int (d.2.2.2.1 : Nat), .int (d.2.2.2.2 : Nat), .int (markF ns), .str (SX.S l)]) ht2
            have nj : j ≠ p := hP.ne_tup g2
            have hmk := markF_bound ns
            exact q _ _ (.bad (by
              have := V.int.inj c2
              omega) upd_same (s2 _ _ (hK6 _ _ nj (same_new hD _ _ g2))) hmk.1 hmk.2 hl2 hl3 (rdF_none hl4)) (hP6.same s2) ((Kp.new hD).trans (hK6.trans (Kp.of s2)))
          · walk_at "rd"
            rename_i r H2 r0 r1 hP2 hK2 t2 ht2
            have s2 := same_new (o := .tup [.str (Str.ofString "frame"), .int (d.1 : Nat), .ref j, .int (d.2.2.2.1 : Nat), .int (d.2.2.2.2 : Nat), .int ((markF ns + 1 + r) % 9973), .str (SX.S (bitsF d ns T))]) ht2
            obtain ⟨b1, b2, b3, b4, b5, b6⟩ := md_bits hm hV
            obtain ⟨m1, m2, m3⟩ := mark_other (markF_bound ns) r0 (by omega)
            have nj : j ≠ p := hP.ne_tup g2
            exact q _ _ (.bad (by
              have z1 : k ≠ 0 := fun z => c (by rw [z]; rfl)
              have z2 : k ≠ 1 := fun z => c1 (by rw [z]; rfl)
              omega) upd_same (s2 _ _ (hK2 _ _ nj g2)) m2 m3 b3 (by omega) (rdF_mark b4 m1)) (hP2.same s2) (hK2.trans (Kp.of s2))
    ) only [↓lt_eq]
theorem ok_due {f : Addr} {fd : FuncData}     (D : Dn K mg "_law_due" s_due ["_law_records", "_law_spoilt_here"] f fd) (bi : Bi mg)      : FnOk P w K mg base CX0 1 f fd ["_law_records", "_law_spoilt_here"] (spDue K) := by
  refine lt_out ?_
  simp (disch := with_unfolding_all
    refine D.F.ok sc_due (fun vs H Q E h => ?_) (fun cdv A outer s H vs Q E hr h => ?_)
    · obtain ⟨a, b, t, refs, rs, i, k, rfl, _⟩ := h
      rfl
    · obtain ⟨a, b, t, refs, rs, i, k, rfl, hS, hR, hm, hi, hb, ht, q⟩ := h
      have hrl := hR.len
      refine ⟨_, (pss_cons (ps_for PassesOwn.never rfl (pi_list (pv 1)) (pg_tup rfl (pgs_cons (pg_name (i := 2) sc_due.nd rfl (Or.inl rfl)) (pgs_cons (pg_name (i := 3) sc_due.nd rfl (Or.inl rfl)) pgs_nil)))
   (pss_one (ps_if (pt_cmpR op_eq (pv 3) pe_int (nomark _))
   (pss_one (ps_ret (pv 2)))
   pss_nil)))
   (pss_cons (ps_for PassesOwn.never rfl (pi_list (pv 1)) (pg_tup rfl (pgs_cons (pg_name (i := 2) sc_due.nd rfl (Or.inl rfl)) (pgs_cons (pg_name (i := 3) sc_due.nd rfl (Or.inl rfl)) pgs_nil)))
   (C8.pss_cut (ps_set (i := 4) sc_due.nd rfl (Or.inl rfl) (pe_ifExp (pt_cmpR op_gt (pv 2) pe_int (nomark _)) (pe_ix ix_tup (pe_ix ix_tup (pe_ix ix_list (pv 0) (pe_op op_sub (pv 2) pe_int) (fun _ _ => rfl)) pe_int (fun _ _ => rfl)) pe_int (fun _ _ => rfl)) pe_int))
   (pss_cons (ps_if (PW.pt (pw_or (pt_cmpR op_gt (pv 3) pe_int (nomark _)) (pw_or1 (pt_cmpR op_gt (pe_op op_add (pv 4) pe_int) (pe_ix ix_tup (pe_ix ix_list (pv 0) (pv 2) (fun _ _ => rfl)) pe_int (fun _ _ => rfl)) (nomark _)))))
   (pss_one (ps_ret (pv 2)))
   pss_nil)
   (pss_cons (ps_if (PW.pt (pw_and (pt_cmpR op_lt (pe_op op_add (pv 2) pe_int) (pe_callB cLen (by rfl) bi.len_ (by decide +kernel) (pa_cons (pv 0) pa_nil)) (nomark _)) (pw_and1 (pt_cmpR op_gt (pe_op op_add pe_int (pe_ix ix_tup (pe_ix ix_tup (pe_ix ix_list (pv 0) (pe_op op_add (pv 2) pe_int) (fun _ _ => rfl)) pe_int (fun _ _ => rfl)) pe_int (fun _ _ => rfl))) (pe_ix ix_tup (pe_ix ix_list (pv 0) (pe_op op_add (pv 2) pe_int) (fun _ _ => rfl)) pe_int (fun _ _ => rfl)) (nomark _)))))
   (pss_one (ps_ret (pe_op op_add (pv 2) pe_int)))
   pss_nil)
   (pss_one (ps_if (pt_cmpR op_eq (pv 2) (pe_op op_sub (pe_callB cLen (by rfl) bi.len_ (by decide +kernel) (pa_cons (pv 0) pa_nil)) pe_int) (nomark _))
   (pss_one (ps_ret (pv 2)))
   pss_nil))))))
   (pss_one (ps_ret pe_non)))), ?_⟩
      refine rd_start (σ := [some (.ref a), some (.ref b), none, none, none]) rfl ?_
      walk_at "rd"
      refine rd_lpL (SqL.of hb) ?_
      refine for_list (xs := [.ref t]) (fun j σ H' => ∃ x2 x3 x4, σ = [some (.ref a), some (.ref b), x2, x3, x4] ∧ Same H H' ∧ (1 ≤ j → k ≠ 0)) ⟨_, _, _, rfl, Same.refl _, fun z => absurd z (by decide)⟩ (fun j σ H6 _ hI => ?_) (fun j v σ H6 hv hI => ?_) (fun σ H6 hI => ?_)
      · obtain ⟨x2, x3, x4, rfl, sm, _⟩ := hI
        exact SqL.of (sm _ _ hb)
      · obtain ⟨x2, x3, x4, rfl, sm, _⟩ := hI
        obtain ⟨rfl, rfl⟩ : j = 0 ∧ v = .ref t := by
          rcases j with _ | j
          · exact ⟨rfl, (Option.some.inj hv).symm⟩
          · simp at hv
        have ht6 := sm _ _ ht
        walk_at "rd"
        refine rd_iteD (fun c => ?_) (fun c => ?_)
        · walk_at "rd"
          have z := q _ sm
          rw [show dueZ rs i k = some i from if_pos (by have := V.int.inj c; omega)] at z
          exact z
        · walk_at "rd"
          exact ⟨_, _, _, rfl, sm, fun _ z => c (by rw [z]; rfl)⟩
      · obtain ⟨x2, x3, x4, rfl, sm, hk⟩ := hI
        have hk := hk (Nat.le_refl _)
        walk_at "rd"
        refine rd_lpL (SqL.of (sm _ _ hb)) ?_
        refine for_list (xs := [.ref t]) (fun j σ H' => ∃ x2 x3 x4, σ = [some (.ref a), some (.ref b), x2, x3, x4] ∧ Same H H' ∧ (1 ≤ j → dueZ rs i k = none)) ⟨_, _, _, rfl, sm, fun z => absurd z (by decide)⟩ (fun j σ H6 _ hI => ?_) (fun j v σ H6 hv hI => ?_) (fun σ H6 hI => ?_)
        · obtain ⟨x2, x3, x4, rfl, sm, _⟩ := hI
          exact SqL.of (sm _ _ hb)
        · obtain ⟨x2, x3, x4, rfl, sm, _⟩ := hI
          obtain ⟨rfl, rfl⟩ : j = 0 ∧ v = .ref t := by
            rcases j with _ | j
            · exact ⟨rfl, (Option.some.inj hv).symm⟩
            · simp at hv
          have ht6 := sm _ _ ht
          walk_at "rd"
          obtain ⟨d, ns, T, e, md⟩ := md_at hm hi
          obtain ⟨v0, hv0, b0, j0, rfl, g1, g2⟩ := hR.ta e
          unfold FrAt at g1
          have g16 := sm _ _ g1
          have g26 := sm _ _ g2
          have hS6 := sm _ _ hS
          refine rd_cut (fun σ H7 => σ = [some (.ref a), some (.ref b), some (.int (i : Nat)), some (.int (k : Nat)), some (.int (ltI rs i : Nat))] ∧ H7 = H6) ?_ fun σ2 H7 hM => ?_
          · walk_at "rd"
            refine rd_iteD (fun c => ?_) (fun c => ?_)
            · walk_at "rd"
              have hi0 : 0 < i := by omega
              obtain ⟨d9, ns9, T9, e9, md9⟩ := md_at hm (show i - 1 < rs.length by omega)
              obtain ⟨v9, hv9, b9, j9, rfl, g91, g92⟩ := hR.ta e9
              unfold FrAt at g91
              have g916 := sm _ _ g91
              have g926 := sm _ _ g92
              rw [show ((i : Nat) : Int) - 1 = ((i - 1 : Nat) : Int) by omega]
              refine rd_ixL (SqL.of hS6) (atI_nat hv9) ?_
              walk_at "rd"
              refine ⟨?_, rfl⟩
              unfold ltI
              rw [if_pos hi0, wdI_of e9]
              rfl
            · walk_at "rd"
              refine ⟨?_, rfl⟩
              unfold ltI
              rw [if_neg (fun z => c (by omega))]
              rfl
          obtain ⟨rfl, rfl⟩ := hM
          walk_at "rd"
          refine rd_iteD (fun c => ?_) (fun c => ?_)
          · walk_at "rd"
            have z := q _ sm
            rw [show dueZ rs i k = some i by unfold dueZ; rw [if_neg hk, if_pos (.inl (by omega))]] at z
            exact z
          · walk_at "rd"
            refine rd_ixL (SqL.of hS6) (atI_nat hv0) ?_
            walk_at "rd"
            refine rd_iteD (fun c1 => ?_) (fun c1 => ?_)
            · walk_at "rd"
              have z := q _ sm
              rw [show dueZ rs i k = some i by unfold dueZ; rw [if_neg hk, if_pos (.inr (by rw [lnI_of e]; omega))]] at z
              exact z
            · have hk1 : ¬ (1 < k ∨ lnI rs i < ltI rs i + 8) := by rw [lnI_of e]; omega
              walk_at "rd"
              refine rd_iteD (fun c2 => ?_) (fun c2 => ?_)
              · walk_at "rd"
                obtain ⟨d9, ns9, T9, e9, md9⟩ := md_at hm (show i + 1 < rs.length by omega)
                obtain ⟨v9, hv9, b9, j9, rfl, g91, g92⟩ := hR.ta e9
                unfold FrAt at g91
                have g916 := sm _ _ g91
                have g926 := sm _ _ g92
                rw [show ((i : Nat) : Int) + 1 = ((i + 1 : Nat) : Int) by omega]
                refine rd_ixL (SqL.of hS6) (atI_nat hv9) ?_
                walk_at "rd"
                rw [show ((i : Nat) : Int) + 1 = ((i + 1 : Nat) : Int) by omega]
                refine rd_ixL (SqL.of hS6) (atI_nat hv9) ?_
                walk_at "rd"
                refine rd_iteD (fun c3 => ?_) (fun c3 => ?_)
                · walk_at "rd"
                  have z := q _ sm
                  rw [show dueZ rs i k = some (i + 1) by unfold dueZ; rw [if_neg hk, if_neg hk1, if_pos ⟨by omega, by rw [lnI_of e9, wdI_of e9]; omega⟩]] at z
                  exact z
                · walk_at "rd"
                  refine rd_iteD (fun c4 => ?_) (fun c4 => ?_)
                  · have c4 := V.int.inj c4
                    omega
                  · walk_at "rd"
                    refine ⟨_, _, _, rfl, sm, fun _ => ?_⟩
                    unfold dueZ
                    rw [if_neg hk, if_neg hk1, if_neg (by rw [lnI_of e9, wdI_of e9]; omega), if_neg (by omega)]
              · walk_at "rd"
                refine rd_iteD (fun c4 => ?_) (fun c4 => ?_)
                · have c4 := V.int.inj c4
                  walk_at "rd"
                  have z := q _ sm
                  rw [show dueZ rs i k = some i by unfold dueZ; rw [if_neg hk, if_neg hk1, if_neg (by omega), if_pos (by omega)]] at z
                  exact z
                · have c4 : ¬ ((i : Nat) : Int) = (refs.length : Nat) - 1 := fun z => c4 (congrArg V.int z)
                  omega
        · obtain ⟨x2, x3, x4, rfl, sm, hd⟩ := hI
          walk_at "rd"
          have z := q _ sm
          rw [hd (Nat.le_refl _)] at z
          exact z
    ) only [↓lt_eq]
theorem ok_index {f : Addr} {fd : FuncData} {f_Stream___init__ : Addr} {fd_Stream___init__ : FuncData} {C_InvalidStream : Addr} {C_JoinError : Addr} {C_Stream : Addr}   (D : Dn K mg "_law_index" s_index ["_law_records"] f fd) (bi : Bi mg) (G_Stream___init__ : FnOk P w K mg base (L2.CX P w) 9 f_Stream___init__ fd_Stream___init__ ["self", "records"] (spInitZ K C_Stream C_InvalidStream)) (D_Stream___init__ : Mn K C_Stream "__init__" "Stream.__init__" s_Stream___init__ ["self", "records"] f_Stream___init__ fd_Stream___init__)  (TC_Stream : StmC K mg C_Stream) (T_InvalidStream : ErrK P w K mg base "InvalidStream" "index" C_InvalidStream) (g_JoinError : mg "JoinError" = some (.ref C_JoinError)) (q_InvalidStream_JoinError : PySem.W.kitOne K (.ref C_InvalidStream) (.ref C_JoinError) = some true) : FnOk P w K mg base CX0 11 f fd ["_law_records"] (spIdxZ K) := by
  refine lt_out ?_
  simp (disch := with_unfolding_all
    refine D.F.ok sc_index (fun vs H Q E h => ?_) (fun cdv A outer s H vs Q E hr h => ?_)
    · obtain ⟨v, o, rfl, _⟩ := h
      rfl
    · obtain ⟨v, o, rfl, hI, q⟩ := h
      have g_InvalidStream := T_InvalidStream.g
      refine ⟨_, (pss_cons (ps_try_as (i := 1) (Wout := fun _ _ _ _ => False) rfl rfl sc_index.nd rfl rfl ⟨rfl, by decide, Or.inl T_InvalidStream.g⟩ L2.takes0 (fun W pn xe tk _ => (pss_one (ps_expr (pe_make ⟨TC_Stream.mks, D_Stream___init__.m.at_, D_Stream___init__.m.fn, TC_Stream.kc⟩ G_Stream___init__ (hr.mono (by first | decide | exact Nat.le_refl _)) (by rfl) TC_Stream.g D_Stream___init__.b .nil (passes_callL (E := fun cls d H => ∀ σ : L2.St, σ.length = 2 → W cls d σ H) tk (fun _ _ _ _ hl h => h _ hl)) (pa_cons (pv 0) pa_nil))))) (fun a oe cls d pn hz hf => (pss_one (ps_ret (pe_lst (pa_cons (pe_xf T_InvalidStream.xf T_InvalidStream.noF hz hf (pv 1)) (pa_cons (pe_callB (call_isX T_InvalidStream.ec hz hf) (by rfl) bi.isinstance_ (by decide +kernel) (pa_cons (pv 1) (pa_cons (pe_glob (v := .ref C_JoinError) (by rfl) g_JoinError rfl) pa_nil))) pa_nil)))))))
   (pss_one (ps_ret (pe_lst pa_nil)))), ?_⟩
      refine rd_start (σ := [some v, none]) rfl ?_
      walk_at "rd"
      refine rd_mk ?_
      walk_at "rd"
      intro y dx hy hdx hne
      have sx : Same H (upd (upd H dx (.own y)) y (.ins C_Stream dx [])) := same_mk hy hdx
      have kk : ∀ H4, Kp y (upd (upd H dx (.own y)) y (.ins C_Stream dx [])) H4 → Same H H4 := fun H4 hK4 b o e => hK4 b o (ne_of_none e hy) (sx _ _ e)
      refine use_initI upd_same (hI.same sx) (fun ho a refs rs T H4 _ _ _ _ _ hK => ?_) (fun u hu => ?_)
      · subst ho
        refine ⟨rfl, ?_⟩
        walk_at "rd"
        rename_i p hp
        exact q p _ ((kk _ hK).free hp) ((kk _ hK).trans (same_new hp)) upd_same
      · subst hu
        intro d H' hK nd ed σ hl
        obtain ⟨y0, y1, rfl⟩ := len2 hl
        refine ⟨true, T_InvalidStream.te, fun _ a ha => ?_, fun z => Bool.noConfusion z⟩
        walk_at "rd"
        refine ⟨rfl, rfl, d, _, _, rfl, ed, by simp [List.lookup]; rfl, ?_⟩
        walk_at "rd"
        refine rd_isX rfl rfl ed (fun _ e => e) q_InvalidStream_JoinError ?_
        walk_at "rd"
        rename_i p hp
        exact q p _ ((kk _ hK).free hp) ((kk _ hK).trans (same_new hp)) upd_same
    ) only [↓lt_eq]
theorem ok_place {f : Addr} {fd : FuncData} {f_Stream_block : Addr} {fd_Stream_block : FuncData} {f_Stream_numbers : Addr} {fd_Stream_numbers : FuncData} {f_Stream_contents : Addr} {fd_Stream_contents : FuncData} {f_Stream_tables_before : Addr} {fd_Stream_tables_before : FuncData} {f_Stream_tables_after : Addr} {fd_Stream_tables_after : FuncData} {C_InvalidPlace : Addr} {C_Stream : Addr}   (D : Dn K mg "_law_place" s_place ["_law_stream", "_law_way", "_law_at"] f fd) (bi : Bi mg) (G_Stream_block : FnOk P w K mg base (L2.CX P w) 4 f_Stream_block fd_Stream_block ["self", "frame"] (spMetX C_Stream C_InvalidPlace)) (D_Stream_block : Mn K C_Stream "block" "Stream.block" s_Stream_block ["self", "frame"] f_Stream_block fd_Stream_block) (G_Stream_numbers : FnOk P w K mg base (L2.CX P w) 4 f_Stream_numbers fd_Stream_numbers ["self", "frame"] (spMetX C_Stream C_InvalidPlace)) (D_Stream_numbers : Mn K C_Stream "numbers" "Stream.numbers" s_Stream_numbers ["self", "frame"] f_Stream_numbers fd_Stream_numbers) (G_Stream_contents : FnOk P w K mg base (L2.CX P w) 7 f_Stream_contents fd_Stream_contents ["self", "frame"] (spMetX C_Stream C_InvalidPlace)) (D_Stream_contents : Mn K C_Stream "contents" "Stream.contents" s_Stream_contents ["self", "frame"] f_Stream_contents fd_Stream_contents) (G_Stream_tables_before : FnOk P w K mg base (L2.CX P w) 4 f_Stream_tables_before fd_Stream_tables_before ["self", "frame"] (spMetX C_Stream C_InvalidPlace)) (D_Stream_tables_before : Mn K C_Stream "tables_before" "Stream.tables_before" s_Stream_tables_before ["self", "frame"] f_Stream_tables_before fd_Stream_tables_before) (G_Stream_tables_after : FnOk P w K mg base (L2.CX P w) 4 f_Stream_tables_after fd_Stream_tables_after ["self", "frame"] (spMetX C_Stream C_InvalidPlace)) (D_Stream_tables_after : Mn K C_Stream "tables_after" "Stream.tables_after" s_Stream_tables_after ["self", "frame"] f_Stream_tables_after fd_Stream_tables_after)  (TC_Stream : StmC K mg C_Stream) (T_InvalidPlace : ErrG P w K mg base "InvalidPlace" "value" C_InvalidPlace) (z_repr : mg "repr" = none) : FnOk P w K mg base CX0 8 f fd ["_law_stream", "_law_way", "_law_at"] (spPlace C_Stream) := by
  refine lt_out ?_
  simp (disch := with_unfolding_all
    refine D.F.ok sc_place (fun vs H Q E h => ?_) (fun cdv A outer s H vs Q E hr h => ?_)
    · obtain ⟨x, p, n, w, v, rfl, _⟩ := h
      rfl
    · obtain ⟨x, p, n, w, v, rfl, hS, ht, hi, hs, ok, q⟩ := h
      refine ⟨_, (pss_cons (ps_try_as (i := 3) (Wout := fun _ _ _ _ => False) rfl rfl sc_place.nd rfl rfl ⟨rfl, by decide, Or.inl T_InvalidPlace.g⟩ L2.takes0 (fun W pn xe tk _ => (pss_one (ps_if (pt_cmpR op_eq (pv 1) pe_int (nomark _))
   (pss_one (ps_expr (pe_meth (pv 0) TC_Stream.cl D_Stream_block.m G_Stream_block (hr.mono (by first | decide | exact Nat.le_refl _)) D_Stream_block.b .nil (passes_callL (E := fun cls d H => ∀ σ : L2.St, σ.length = 4 → W cls d σ H) tk (fun _ _ _ _ hl h => h _ hl)) (pa_cons (pv 2) pa_nil))))
   (pss_one (ps_if (pt_cmpR op_eq (pv 1) pe_int (nomark _))
   (pss_one (ps_expr (pe_meth (pv 0) TC_Stream.cl D_Stream_numbers.m G_Stream_numbers (hr.mono (by first | decide | exact Nat.le_refl _)) D_Stream_numbers.b .nil (passes_callL (E := fun cls d H => ∀ σ : L2.St, σ.length = 4 → W cls d σ H) tk (fun _ _ _ _ hl h => h _ hl)) (pa_cons (pv 2) pa_nil))))
   (pss_one (ps_if (pt_cmpR op_eq (pv 1) pe_int (nomark _))
   (pss_one (ps_expr (pe_meth (pv 0) TC_Stream.cl D_Stream_contents.m G_Stream_contents (hr.mono (by first | decide | exact Nat.le_refl _)) D_Stream_contents.b .nil (passes_callL (E := fun cls d H => ∀ σ : L2.St, σ.length = 4 → W cls d σ H) tk (fun _ _ _ _ hl h => h _ hl)) (pa_cons (pv 2) pa_nil))))
   (pss_one (ps_if (pt_cmpR op_eq (pv 1) pe_int (nomark _))
   (pss_one (ps_expr (pe_meth (pv 0) TC_Stream.cl D_Stream_tables_before.m G_Stream_tables_before (hr.mono (by first | decide | exact Nat.le_refl _)) D_Stream_tables_before.b .nil (passes_callL (E := fun cls d H => ∀ σ : L2.St, σ.length = 4 → W cls d σ H) tk (fun _ _ _ _ hl h => h _ hl)) (pa_cons (pv 2) pa_nil))))
   (pss_one (ps_expr (pe_meth (pv 0) TC_Stream.cl D_Stream_tables_after.m G_Stream_tables_after (hr.mono (by first | decide | exact Nat.le_refl _)) D_Stream_tables_after.b .nil (passes_callL (E := fun cls d H => ∀ σ : L2.St, σ.length = 4 → W cls d σ H) tk (fun _ _ _ _ hl h => h _ hl)) (pa_cons (pv 2) pa_nil))))))))))))) (fun a oe cls d pn hz hf => (pss_one (ps_ret (pe_callB call_reprS (by rfl) z_repr (by decide +kernel) (pa_cons (pe_xf T_InvalidPlace.xf T_InvalidPlace.noF hz hf (pv 3)) pa_nil))))))
   (pss_one (ps_ret pe_str))), ?_⟩
      refine rd_start (σ := [some (.ref x), some (.int w), some v, none]) rfl ?_
      walk_at "rd"
      have ite_p : ∀ {c : Prop} [Decidable c] {p r : Prop}, (c → p) → (¬ c → r) → (if c then p else r) := fun {c} _ {p r} hp hr => by
        by_cases k : c
        · rw [if_pos k]
          exact hp k
        · rw [if_neg k]
          exact hr k
      refine ite_p (fun _ => ?_) (fun _ => ?_)
      · refine rd_methL hS (show _ = _ from rfl) (by decide) (by decide) ?_
        walk_at "rd"
        refine use_metX hS ht hi ?_
        intro d H' s1 nd ed σ hl
        obtain ⟨y0, y1, y2, y3, rfl⟩ : ∃ a b c d, σ = [a, b, c, d] := match σ, hl with | [a, b, c, d], _ => ⟨a, b, c, d, rfl⟩
        refine ⟨true, T_InvalidPlace.te, fun _ a ha => ?_, fun z => Bool.noConfusion z⟩
        walk_at "rd"
        refine ⟨rfl, rfl, d, _, v, rfl, ed, by simp [List.lookup], ?_⟩
        walk_at "rd"
        refine rd_reprS ok ?_
        walk_at "rd"
        exact q _ s1
      · walk_at "rd"
        refine ite_p (fun _ => ?_) (fun _ => ?_)
        · refine rd_methL hS (show _ = _ from rfl) (by decide) (by decide) ?_
          walk_at "rd"
          refine use_metX hS ht hi ?_
          intro d H' s1 nd ed σ hl
          obtain ⟨y0, y1, y2, y3, rfl⟩ : ∃ a b c d, σ = [a, b, c, d] := match σ, hl with | [a, b, c, d], _ => ⟨a, b, c, d, rfl⟩
          refine ⟨true, T_InvalidPlace.te, fun _ a ha => ?_, fun z => Bool.noConfusion z⟩
          walk_at "rd"
          refine ⟨rfl, rfl, d, _, v, rfl, ed, by simp [List.lookup], ?_⟩
          walk_at "rd"
          refine rd_reprS ok ?_
          walk_at "rd"
          exact q _ s1
        · walk_at "rd"
          refine ite_p (fun _ => ?_) (fun _ => ?_)
          · refine rd_methL hS (show _ = _ from rfl) (by decide) (by decide) ?_
            walk_at "rd"
            refine use_metX hS ht hi ?_
            intro d H' s1 nd ed σ hl
            obtain ⟨y0, y1, y2, y3, rfl⟩ : ∃ a b c d, σ = [a, b, c, d] := match σ, hl with | [a, b, c, d], _ => ⟨a, b, c, d, rfl⟩
            refine ⟨true, T_InvalidPlace.te, fun _ a ha => ?_, fun z => Bool.noConfusion z⟩
            walk_at "rd"
            refine ⟨rfl, rfl, d, _, v, rfl, ed, by simp [List.lookup], ?_⟩
            walk_at "rd"
            refine rd_reprS ok ?_
            walk_at "rd"
            exact q _ s1
          · walk_at "rd"
            refine ite_p (fun _ => ?_) (fun _ => ?_)
            · refine rd_methL hS (show _ = _ from rfl) (by decide) (by decide) ?_
              walk_at "rd"
              refine use_metX hS ht hi ?_
              intro d H' s1 nd ed σ hl
              obtain ⟨y0, y1, y2, y3, rfl⟩ : ∃ a b c d, σ = [a, b, c, d] := match σ, hl with | [a, b, c, d], _ => ⟨a, b, c, d, rfl⟩
              refine ⟨true, T_InvalidPlace.te, fun _ a ha => ?_, fun z => Bool.noConfusion z⟩
              walk_at "rd"
              refine ⟨rfl, rfl, d, _, v, rfl, ed, by simp [List.lookup], ?_⟩
              walk_at "rd"
              refine rd_reprS ok ?_
              walk_at "rd"
              exact q _ s1
            · walk_at "rd"
              refine rd_methL hS (show _ = _ from rfl) (by decide) (by decide) ?_
              walk_at "rd"
              refine use_metX hS ht hi ?_
              intro d H' s1 nd ed σ hl
              obtain ⟨y0, y1, y2, y3, rfl⟩ : ∃ a b c d, σ = [a, b, c, d] := match σ, hl with | [a, b, c, d], _ => ⟨a, b, c, d, rfl⟩
              refine ⟨true, T_InvalidPlace.te, fun _ a ha => ?_, fun z => Bool.noConfusion z⟩
              walk_at "rd"
              refine ⟨rfl, rfl, d, _, v, rfl, ed, by simp [List.lookup], ?_⟩
              walk_at "rd"
              refine rd_reprS ok ?_
              walk_at "rd"
              exact q _ s1
    ) only [↓lt_eq]
theorem ok_law {f : Addr} {fd : FuncData} {f_pool : Addr} {fd_pool : FuncData} {f_take : Addr} {fd_take : FuncData} {f_made : Addr} {fd_made : FuncData} {f_spoilt : Addr} {fd_spoilt : FuncData} {f_due : Addr} {fd_due : FuncData} {f_index : Addr} {fd_index : FuncData} {f_place : Addr} {fd_place : FuncData} {f_Stream___init__ : Addr} {fd_Stream___init__ : FuncData} {C_Stream : Addr}   (D : Dn K mg "law" s_law ["_law_script"] f fd) (bi : Bi mg) (G_pool : FnOk P w K mg base CX0 1 f_pool fd_pool ["_law_script", "_law_k"] (spPool K)) (D_pool : Dn K mg "_law_pool" s_pool ["_law_script", "_law_k"] f_pool fd_pool) (G_take : FnOk P w K mg base CX0 1 f_take fd_take ["_law_pool_here", "_law_many"] spTakeV) (D_take : Dn K mg "_law_take" s_take ["_law_pool_here", "_law_many"] f_take fd_take) (G_made : FnOk P w K mg base CX0 4 f_made fd_made ["_law_pool_here", "_law_many"] (spMade K)) (D_made : Dn K mg "_law_made" s_made ["_law_pool_here", "_law_many"] f_made fd_made) (G_spoilt : FnOk P w K mg base CX0 2 f_spoilt fd_spoilt ["_law_pool_here", "_law_records", "_law_at", "_law_kind"] (spSpoilt K)) (D_spoilt : Dn K mg "_law_spoilt" s_spoilt ["_law_pool_here", "_law_records", "_law_at", "_law_kind"] f_spoilt fd_spoilt) (G_due : FnOk P w K mg base CX0 1 f_due fd_due ["_law_records", "_law_spoilt_here"] (spDue K)) (D_due : Dn K mg "_law_due" s_due ["_law_records", "_law_spoilt_here"] f_due fd_due) (G_index : FnOk P w K mg base CX0 11 f_index fd_index ["_law_records"] (spIdxZ K)) (D_index : Dn K mg "_law_index" s_index ["_law_records"] f_index fd_index) (G_place : FnOk P w K mg base CX0 8 f_place fd_place ["_law_stream", "_law_way", "_law_at"] (spPlace C_Stream)) (D_place : Dn K mg "_law_place" s_place ["_law_stream", "_law_way", "_law_at"] f_place fd_place) (G_Stream___init__ : FnOk P w K mg base (L2.CX P w) 9 f_Stream___init__ fd_Stream___init__ ["self", "records"] (spInitZ K C_Stream C_InvalidStream)) (D_Stream___init__ : Mn K C_Stream "__init__" "Stream.__init__" s_Stream___init__ ["self", "records"] f_Stream___init__ fd_Stream___init__)  (TC_Stream : StmC K mg C_Stream)  (z_repr : mg "repr" = none) : FnOk P w K mg base CX0 12 f fd ["_law_script"] (spLaw K) := by
  refine lt_out ?_
  simp (disch := with_unfolding_all
    refine D.F.ok sc_law (fun vs H Q E h => ?_) (fun cdv A outer s H vs Q E hr h => ?_)
    · obtain ⟨a, ns, rfl, _⟩ := h
      rfl
    · obtain ⟨a, ns, rfl, hS, hl, q⟩ := h
      refine ⟨_, (pss_cons (ps_for PassesOwn.never rfl (pi_list (pe_lst (pa_cons pe_non (pa_cons pe_int (pa_cons pe_str (pa_cons pe_dnewK (pa_cons (pe_tup (pa_cons pe_str pa_nil)) pa_nil))))))) (pg_name (i := 1) sc_law.nd rfl (Or.inl rfl))
   (pss_one (ps_if (pt_cmpR (op_neD hr.units) (pe_call G_index (hr.mono (by first | decide | exact Nat.le_refl _)) (by rfl) D_index.g D_index.F.kp D_index.b .nil pass0 (pa_cons (pv 1) pa_nil)) (pe_lst (pa_cons (pe_ix ix_list (pe_lst (pa_cons pe_non (pa_cons pe_int pa_nil))) (pe_callTy cInt (by rfl) bi.int_ (by decide +kernel) (pa_cons (pe_cmpR (op_eqZ hr.units) (pv 1) (pe_tup (pa_cons pe_str pa_nil)) (nomark _)) pa_nil)) (fun _ _ => rfl)) (pa_cons pe_bl pa_nil))) (nomark _))
   (pss_one (ps_ret pe_bl))
   pss_nil)))
   (pss_cons (ps_for PassesOwn.never rfl (pi_range1 (by rfl) bi.range_ (pa_cons (pe_callB (cMax rfl) (by rfl) bi.max_ (by decide +kernel) (pa_cons pe_int (pa_cons (pe_callB (cMin rfl) (by rfl) bi.min_ (by decide +kernel) (pa_cons pe_int (pa_cons (pe_callB cLen (by rfl) bi.len_ (by decide +kernel) (pa_cons (pv 0) pa_nil)) pa_nil))) pa_nil))) pa_nil)) (pg_name (i := 2) sc_law.nd rfl (Or.inl rfl))
   (pss_cons (ps_set (i := 3) sc_law.nd rfl (Or.inl rfl) (pe_call G_pool (hr.mono (by first | decide | exact Nat.le_refl _)) (by rfl) D_pool.g D_pool.F.kp D_pool.b .nil pass0 (pa_cons (pv 0) (pa_cons (pv 2) pa_nil))))
   (pss_cons (ps_set (i := 4) sc_law.nd rfl (Or.inl rfl) (pe_call G_made (hr.mono (by first | decide | exact Nat.le_refl _)) (by rfl) D_made.g D_made.F.kp D_made.b .nil pass0 (pa_cons (pv 3) (pa_cons (pe_op op_add pe_int (pe_call G_take (hr.mono (by first | decide | exact Nat.le_refl _)) (by rfl) D_take.g D_take.F.kp D_take.b .nil pass0 (pa_cons (pv 3) (pa_cons pe_int pa_nil)))) pa_nil))))
   (pss_cons (ps_set (i := 5) sc_law.nd rfl (Or.inl rfl) (pe_make ⟨TC_Stream.mks, D_Stream___init__.m.at_, D_Stream___init__.m.fn, TC_Stream.kc⟩ G_Stream___init__ (hr.mono (by first | decide | exact Nat.le_refl _)) (by rfl) TC_Stream.g D_Stream___init__.b .nil passL (pa_cons (pv 4) pa_nil)))
   (pss_cons (ps_par (i := 6) (j := 7) rfl sc_law.nd rfl rfl (by decide) rfl rfl (pa_cons (pe_call G_take (hr.mono (by first | decide | exact Nat.le_refl _)) (by rfl) D_take.g D_take.F.kp D_take.b .nil pass0 (pa_cons (pv 3) (pa_cons (pe_callB cLen (by rfl) bi.len_ (by decide +kernel) (pa_cons (pv 4) pa_nil)) pa_nil))) (pa_cons (pe_call G_take (hr.mono (by first | decide | exact Nat.le_refl _)) (by rfl) D_take.g D_take.F.kp D_take.b .nil pass0 (pa_cons (pv 3) (pa_cons pe_int pa_nil))) pa_nil)) rfl)
   (pss_cons (ps_set (i := 8) sc_law.nd rfl (Or.inl rfl) (pe_op op_cat (pe_op op_cat (pe_slice sl_list (pv 4) po_none (po_some (pv 6))) (pe_lst (pa_cons (pe_call G_spoilt (hr.mono (by first | decide | exact Nat.le_refl _)) (by rfl) D_spoilt.g D_spoilt.F.kp D_spoilt.b .nil pass0 (pa_cons (pv 3) (pa_cons (pv 4) (pa_cons (pv 6) (pa_cons (pv 7) pa_nil))))) pa_nil))) (pe_slice sl_list (pv 4) (po_some (pe_op op_add (pv 6) pe_int)) po_none)))
   (pss_cons (ps_set (i := 9) sc_law.nd rfl (Or.inl rfl) (pe_call G_due (hr.mono (by first | decide | exact Nat.le_refl _)) (by rfl) D_due.g D_due.F.kp D_due.b .nil pass0 (pa_cons (pv 4) (pa_cons (pe_lst (pa_cons (pe_tup (pa_cons (pv 6) (pa_cons (pv 7) pa_nil))) pa_nil)) pa_nil))))
   (C8.pss_cut (ps_if (pt_cmpR (op_neD hr.units) (pe_call G_index (hr.mono (by first | decide | exact Nat.le_refl _)) (by rfl) D_index.g D_index.F.kp D_index.b .nil pass0 (pa_cons (pv 8) pa_nil)) (pe_ifExp (pt_cmpR cIsN (pv 9) pe_non (nomark _)) (pe_lst pa_nil) (pe_lst (pa_cons (pv 9) (pa_cons pe_bl pa_nil)))) (nomark _))
   (pss_one (ps_ret pe_bl))
   pss_nil)
   (pss_cons (ps_for PassesOwn.never rfl (pi_list (pe_lst (pa_cons pe_non (pa_cons pe_bl (pa_cons (pe_un un_neg pe_int) (pa_cons (pe_callB cLen (by rfl) bi.len_ (by decide +kernel) (pa_cons (pv 4) pa_nil)) (pa_cons pe_str pa_nil))))))) (pg_name (i := 1) sc_law.nd rfl (Or.inl rfl))
   (pss_one (ps_if (pt_cmpR op_ne (pe_call G_place (hr.mono (by first | decide | exact Nat.le_refl _)) (by rfl) D_place.g D_place.F.kp D_place.b .nil pass0 (pa_cons (pv 5) (pa_cons (pe_call G_take (hr.mono (by first | decide | exact Nat.le_refl _)) (by rfl) D_take.g D_take.F.kp D_take.b .nil pass0 (pa_cons (pv 3) (pa_cons pe_int pa_nil))) (pa_cons (pv 1) pa_nil)))) (pe_callB call_reprS (by rfl) z_repr (by decide +kernel) (pa_cons (pv 1) pa_nil)) (nomark _))
   (pss_one (ps_ret pe_bl))
   pss_nil)))
   (pss_cons (ps_set (i := 10) sc_law.nd rfl (Or.inl rfl) (pe_op op_cat (pe_slice sl_list (pv 4) po_none (po_some (pe_un un_neg pe_int))) (pe_lst (pa_cons (pe_op op_catT (pe_op op_catT (pe_slice sl_tup (pe_ix ix_list (pv 4) (pe_un un_neg pe_int) (fun _ _ => rfl)) po_none (po_some pe_int)) (pe_tup (pa_cons (pe_tup (pa_cons pe_int (pa_cons pe_int pa_nil))) pa_nil))) (pe_slice sl_tup (pe_ix ix_list (pv 4) (pe_un un_neg pe_int) (fun _ _ => rfl)) (po_some pe_int) po_none)) pa_nil))))
   (pss_one (ps_if (pt_cmpR (op_neD hr.units) (pe_call G_index (hr.mono (by first | decide | exact Nat.le_refl _)) (by rfl) D_index.g D_index.F.kp D_index.b .nil pass0 (pa_cons (pv 10) pa_nil)) (pe_lst (pa_cons (pe_op op_sub (pe_callB cLen (by rfl) bi.len_ (by decide +kernel) (pa_cons (pv 4) pa_nil)) pe_int) (pa_cons pe_bl pa_nil))) (nomark _))
   (pss_one (ps_ret pe_bl))
   pss_nil))))))))))))
   (pss_one (ps_ret pe_bl)))), ?_⟩
      refine rd_start (σ := [some (.ref a), none, none, none, none, none, none, none, none, none, none]) rfl ?_
      walk_at "rd"
      refine fun e0 he0 => ?_
      have s0 := same_new (o := .dK []) he0
      walk_at "rd"
      rename_i e1 he1 D0 hD0
      have s1 := same_new (o := .tup [.str (Str.ofString "frame")]) he1
      have s2 := same_new (o := .lst [.non, .int 5, .str (Str.ofString "frame"), .ref e0, .ref e1]) hD0
      have f0 := (s1.trans s2) _ _ (upd_same (a := e0) (o := .dK []))
      have f1 := s2 _ _ (upd_same (a := e1) (o := .tup [.str (Str.ofString "frame")]))
      have sH := s0.trans (s1.trans s2)
      refine rd_lpL (SqL.of upd_same) ?_
      generalize hHV : upd (upd (upd H e0 (.dK [])) e1 (.tup [.str (Str.ofString "frame")])) D0 (.lst [.non, .int 5, .str (Str.ofString "frame"), .ref e0, .ref e1]) = HV at *
      have f2 : HV D0 = some (.lst [.non, .int 5, .str (Str.ofString "frame"), .ref e0, .ref e1]) := by rw [← hHV]; exact upd_same
      clear hHV
      refine for_list (xs := [.non, .int 5, .str (Str.ofString "frame"), .ref e0, .ref e1]) (fun j σ H' => ∃ x1 : Option V, σ = [some (.ref a), x1, none, none, none, none, none, none, none, none, none] ∧ Same HV H') ⟨none, rfl, Same.refl _⟩ (fun j σ H6 _ hI => ?_) (fun j v σ H6 hv hI => ?_) (fun σ H6 hI => ?_)
      · obtain ⟨y1, rfl, sm⟩ := hI
        exact SqL.of (sm _ _ f2)
      · obtain ⟨y1, rfl, sm⟩ := hI
        have g0 := sm _ _ f0
        have g1 := sm _ _ f1
        obtain ⟨b, hI, hE⟩ := odd_case (K := K) g0 g1 hv
        walk_at "rd"
        refine use_idxZ hI fun D H7 hD s7 eD => ?_
        walk_at "rd"
        rename_i e3 he3 e2 he2
        have t3 := same_new (o := .lst [.non, .int 0]) he3
        have t2 := same_new (o := .tup [.str (Str.ofString "frame")]) he2
        refine hE _ _ _ (s7.trans (t3.trans t2)) upd_same ?_
        walk_at "rd"
        refine rd_ixL (SqL.of (t2 _ _ upd_same)) (v := if b = true then .int 0 else .non) (by cases b <;> rfl) ?_
        walk_at "rd"
        rename_i e4 he4
        have t4 := same_new (o := .lst [if b = true then .int 0 else .non, .bl true]) he4
        refine rd_nePV (l := []) (n := 1) (by decide) (SqL.of ((t3.trans (t2.trans t4)) _ _ eD)) (SqL.of upd_same) (fun x hx => ?_) ?_
        · rcases List.mem_cons.mp hx with rfl | hx
          · exact .inl (by cases b <;> rfl)
          · rw [List.mem_singleton.mp hx]
            exact .inl rfl
        · walk_at "rd"
          exact ⟨_, rfl, sm.trans (s7.trans (t3.trans (t2.trans t4)))⟩
      · obtain ⟨y1, rfl, sm⟩ := hI
        have sH6 := sH.trans sm
        clear sm f0 f1 f2 sH s1 s2 s0
        walk_at "rd"
        have hn := mm_nat2 (ns.map V.int).length 12 (by decide)
        refine for_range (lo := 0) (n := _) (fun i σ H' => ∃ x1 x2 x3 x4 x5 x6 x7 x8 x9 x10, σ = [some (.ref a), x1, x2, x3, x4, x5, x6, x7, x8, x9, x10] ∧ Same H H') ⟨_, _, _, _, _, _, _, _, _, _, rfl, sH6⟩ (fun i σ H1 hi hI => ?_) (fun σ H1 hI => ?_)
        · obtain ⟨x1, x2, x3, x4, x5, x6, x7, x8, x9, x10, rfl, hs⟩ := hI
          have hi' : i < 12 := Nat.lt_of_lt_of_le hi hn
          have hS1 : SqL K H1 a (ns.map V.int) := hs.seq hS
          walk_at "rd"
          rename_i p H2 hp0 hs2 hP2 r3 H3 h30 h31 hP3 hK3
          obtain ⟨m, rfl⟩ : ∃ k : Nat, r3 = (k : Int) := ⟨r3.toNat, by omega⟩
          rw [show (1 : Int) + (m : Nat) = ((1 + m : Nat) : Int) by omega]
          refine use_made hP3 (by omega) fun R refs rs T H4 nR eR hR hV hrl hm hP4 hK4 => ?_
          have hsA : Same H H4 := by walk_at "ct"
          have nRp := hP3.ne nR
          have hlr := hR.len
          walk_at "rd"
          refine rd_mk ?_
          walk_at "rd"
          intro y dx hy hdx hne
          have sx : Same H4 (upd (upd H4 dx (.own y)) y (.ins C_Stream dx [])) := same_mk hy hdx
          have hc : CkR H4 (.ref R) none := by
            have z := CkR.seq (.inl eR) (rcs_recR hR hm hV.ok)
            rw [fst_all] at z
            exact z
          refine use_initI (o := none) upd_same ((IdxO.ok eR (by omega) hc hR hV).same sx) (fun _ a' refs' rs' T' H5 ev eL hR' hV' hS5 hK5 => ?_) (fun u hu => by cases hu)
          have kA : Same H4 H5 := fun b o e => hK5 b o (ne_of_none e hy) (sx _ _ e)
          have eR5 := kA _ _ eR
          have hR5 := hR.lk (.of kA)
          have hP5 := hP4.same kA
          have sA5 := hsA.trans kA
          have hfr : (frR 0 0 (0, 0) rs').length ≤ refs.length := by
            obtain rfl : R = a' := V.ref.inj ev
            have e1 := sx _ _ eR
            rw [eL] at e1
            have e2 : refs' = refs := HO.lst.inj (Option.some.inj e1)
            have l1 := hR'.len
            have l2 := frR_le rs' 0 0 (0, 0)
            rw [e2] at l1
            omega
          clear sx hc eL hR' hV' hK5 kA hy hdx hne ev eR hR hP4 hsA
          refine ⟨rfl, ?_⟩
          walk_at "rd"
          rename_i r8 H6 h80 h81 hP6 hK6 r9 H7 h90 h91 hP7 hK7
          obtain ⟨at_, rfl⟩ : ∃ k : Nat, r8 = (k : Int) := ⟨r8.toNat, by omega⟩
          obtain ⟨kd, rfl⟩ : ∃ k : Nat, r9 = (k : Int) := ⟨r9.toNat, by omega⟩
          have hat : at_ < rs.length := by omega
          obtain ⟨d, fs, T1, e, md⟩ := md_at hm hat
          have okd := hV.ok _ (List.mem_of_getElem? e)
          have kB := hK6.trans hK7
          have lkB := LK.pool hP5 kB
          have eR7 := kB _ _ nRp eR5
          have hR7 := hR5.lk lkB
          have sA7 : Same H H7 := fun b o eb => kB b o (ne_of_none eb (hs.free hp0)) (sA5 _ _ eb)
          have hS7 := (hS5.toL hP5).kp kB
          clear hK6 hK7 hP6 eR5 hR5 sA5 hS5 hP5 kB lkB
          refine rd_slGT (k := at_) (SqL.of eR7) fun q1 hq1 => ?_
          have z1 := same_new (o := .lst (refs.take at_)) hq1
          walk_at "rd"
          refine use_spoilt (hP7.same z1) nRp (z1 _ _ eR7) (hR7.lk (.of z1)) e md okd (by omega) fun v H8 hv hP8 hK8 => ?_
          walk_at "rd"
          rename_i q2 hq2
          have z2 := same_new (o := .lst [v]) hq2
          have nqp := (hP7).ne hq1
          refine rd_catG (z2 _ _ (hK8 _ _ nqp upd_same)) upd_same (by rw [List.length_take]; show _ + 1 ≤ 1000; omega) fun q3 hq3 => ?_
          have z3 := same_new (o := .lst (refs.take at_ ++ [v])) hq3
          walk_at "rd"
          rw [show ((at_ : Nat) : Int) + 1 = ((at_ + 1 : Nat) : Int) by omega]
          have kC : Kp p H7 _ := (Kp.of z1).trans (hK8.trans (Kp.of (z2.trans z3)))
          have eR9 := kC _ _ nRp eR7
          refine rd_slGF (k := at_ + 1) (SqL.of eR9) (by omega) fun q4 hq4 => ?_
          have z4 := same_new (o := .lst (refs.drop (at_ + 1))) hq4
          refine rd_catG (z4 _ _ upd_same) upd_same (by rw [List.length_append, List.length_take, List.length_drop]; show _ + 1 + _ ≤ 1000; omega) fun B hB => ?_
          rw [show refs.take at_ ++ [v] ++ refs.drop (at_ + 1) = setR refs at_ v by rw [List.append_assoc]; rfl]
          have z5 := same_new (o := .lst (setR refs at_ v)) hB
          have z25 := z2.trans (z3.trans (z4.trans z5))
          have kD : Kp p H7 _ := (Kp.of z1).trans (hK8.trans (Kp.of z25))
          have hvB := hv.same z25
          have eRB := kD _ _ nRp eR7
          have hRB := hR7.lk (LK.pool hP7 kD)
          have hPB := hP8.same z25
          have sAB : Same H _ := fun b o eb => kD b o (ne_of_none eb (hs.free hp0)) (sA7 _ _ eb)
          have hSB := hS7.kp kD
          have eB := upd_same (H := (upd (upd (upd H8 q2 (.lst [v])) q3 (.lst (refs.take at_ ++ [v]))) q4 (.lst (refs.drop (at_ + 1))))) (a := B) (o := .lst (setR refs at_ v))
          generalize upd (upd (upd (upd H8 q2 (.lst [v])) q3 (.lst (refs.take at_ ++ [v]))) q4 (.lst (refs.drop (at_ + 1)))) B (.lst (setR refs at_ v)) = HB at *
          clear z1 z2 z3 z4 z5 z25 kC kD hv eR9 eR7 hR7 hP7 hP8 hK8 hS7 sA7 nqp hq1 hq2 hq3 hq4 hB
          have hIx := spoilt_idx eB hRB hV hm (by omega) e hvB
          walk_at "rd"
          rename_i t1 ht1 t2 ht2
          have z1 := same_new (o := .tup [.int (at_ : Nat), .int (kd : Nat)]) ht1
          have z2 := same_new (o := .lst [.ref t1]) ht2
          refine use_due ((z1.trans z2) _ _ eRB) (hRB.lk (.of (z1.trans z2))) hm hat upd_same (z2 _ _ upd_same) fun H9 s9 => ?_
          have z19 := z1.trans (z2.trans s9)
          have hIx2 := hIx.same z19
          have hPE := hPB.same z19
          have eRE := z19 _ _ eRB
          have hRE := hRB.lk (.of z19)
          have sAE := sAB.trans z19
          have hSE := hSB.kp (Kp.of z19)
          clear hIx z1 z2 s9 z19 hPB eRB hRB sAB hSB hvB eB ht1 ht2
          refine rd_cut (fun σ H' => σ = [some (.ref a), x1, some (.int (0 + (i : Int))), some (.ref p), some (.ref R), some (.ref y), some (.int (at_ : Nat)), some (.int (kd : Nat)), some (.ref B), some (optN (dueZ rs at_ kd)), x10] ∧ Same H9 H') ?_ fun σ2 H12 hM => ?_
          · walk_at "rd"
            refine use_idxZ hIx2 fun D H10 hD s10 eD => ?_
            walk_at "rd"
            cases hd : dueZ rs at_ kd with
            | none =>
              rw [hd] at eD
              refine rd_iteD (fun _ => ?_) (fun c => absurd rfl c)
              walk_at "rd"
              rename_i e5 he5
              have z5 := same_new (o := .lst []) he5
              refine rd_nePV (l := []) (n := 1) (xs := []) (by decide) (SqL.of (z5 _ _ eD)) (SqL.of upd_same) (fun x hx => absurd hx List.not_mem_nil) ?_
              walk_at "rd"
              exact ⟨rfl, s10.trans z5⟩
            | some n =>
              rw [hd] at eD
              refine rd_iteD (fun c => by cases c) (fun _ => ?_)
              walk_at "rd"
              rename_i e5 he5
              have z5 := same_new (o := .lst [.int (n : Nat), .bl true]) he5
              refine rd_nePV (l := []) (n := 1) (by decide) (SqL.of (z5 _ _ eD)) (SqL.of upd_same) (fun x hx => ?_) ?_
              · rcases List.mem_cons.mp hx with rfl | hx
                · exact .inl rfl
                · rw [List.mem_singleton.mp hx]
                  exact .inl rfl
              · walk_at "rd"
                exact ⟨rfl, s10.trans z5⟩
          obtain ⟨rfl, s12⟩ := hM
          have hPF := hPE.same s12
          have eRF := s12 _ _ eRE
          have hRF := hRE.lk (.of s12)
          have sAF := sAE.trans s12
          have hSF := hSE.kp (Kp.of s12)
          clear hIx2 hPE eRE hRE sAE hSE s12
          walk_at "rd"
          rename_i L hL
          have zL := same_new (o := .lst [.non, .bl true, .int (-1), .int (refs.length : Nat), .str (Str.ofString "0")]) hL
          have nLp := hPF.ne hL
          refine rd_lpL (SqL.of upd_same) ?_
          have eL := upd_same (H := H12) (a := L) (o := .lst [.non, .bl true, .int (-1), .int (refs.length : Nat), .str (Str.ofString "0")])
          generalize upd H12 L (.lst [.non, .bl true, .int (-1), .int (refs.length : Nat), .str (Str.ofString "0")]) = HL at *
          have hPL := hPF.same zL
          have hSL := hSF.kp (Kp.of zL)
          refine for_list (xs := [.non, .bl true, .int (-1), .int (refs.length : Nat), .str (Str.ofString "0")]) (fun j σ H' => ∃ z1 : Option V, σ = [some (.ref a), z1, some (.int (0 + (i : Int))), some (.ref p), some (.ref R), some (.ref y), some (.int (at_ : Nat)), some (.int (kd : Nat)), some (.ref B), some (optN (dueZ rs at_ kd)), x10] ∧ Pool H' p ∧ Kp p HL H') ⟨_, rfl, hPL, Kp.refl⟩ (fun j σ H6 _ hI => ?_) (fun j v2 σ H6 hv hI => ?_) (fun σ H6 hI => ?_)
          · obtain ⟨z1, rfl, hP6, hK6⟩ := hI
            exact SqL.of (hK6 _ _ nLp eL)
          · obtain ⟨z1, rfl, hP6, hK6⟩ := hI
            obtain ⟨u1, u2, u3, u4⟩ : (∀ G, TyV G v2) ∧ inI v2 0 ((((frR 0 0 (0, 0) rs').length : Nat) : Int) - 1) = false ∧ scalarV v2 = true ∧ okR v2 := by
              rcases j with _ | _ | _ | _ | _ | j
              · cases hv
                exact ⟨fun _ => trivial, rfl, rfl, trivial⟩
              · cases hv
                exact ⟨fun _ => trivial, rfl, rfl, trivial⟩
              · cases hv
                exact ⟨fun _ => trivial, rfl, rfl, okR_m1⟩
              · cases hv
                exact ⟨fun _ => trivial, decide_eq_false (by omega), rfl, okR_nat (by omega)⟩
              · cases hv
                exact ⟨fun _ => trivial, rfl, rfl, okR_0⟩
              · simp at hv
            walk_at "rd"
            rename_i r5 H7 h50 h51 hP7 hK7
            refine use_place (hSL.kp (hK6.trans hK7)) (u1 _) u2 u3 u4 fun H8 s8 => ?_
            walk_at "rd"
            refine rd_reprS u4 ?_
            walk_at "rd"
            rw [decide_eq_true rfl]
            walk_at "rd"
            exact ⟨_, rfl, hP7.same s8, hK6.trans (hK7.trans (Kp.of s8))⟩
          · obtain ⟨z1, rfl, hP6, hK6⟩ := hI
            have kE := (Kp.of zL).trans hK6
            have eR6 := kE _ _ nRp eRF
            have hR6 := hRF.lk (LK.pool hPF kE)
            have sA6 : Same H H6 := fun b o eb => kE b o (ne_of_none eb (hs.free hp0)) (sAF _ _ eb)
            clear hSL hSF hPL zL eL nLp hL hPF eRF hRF sAF kE
            obtain ⟨d9, fs9, T9, e9, md9⟩ := md_at hm (show rs.length - 1 < rs.length by omega)
            obtain ⟨v9, hv9, b9, j9, rfl, g91, g92⟩ := hR6.ta e9
            unfold FrAt at g91
            walk_at "rd"
            refine rd_slD (SqL.of eR6) fun q1 hq1 => ?_
            have z1 := same_new (o := .lst refs.dropLast) hq1
            walk_at "rd"
            refine rd_ixL (SqL.of (z1 _ _ eR6)) (at_last (k := rs.length - 1) (by omega) hv9) ?_
            walk_at "rd"
            refine rd_slTp (SqT.of (z1 _ _ g91)) (ys := [.str (Str.ofString "frame"), .int (d9.1 : Nat)]) rfl (show ¬ (HT.sIx 7 0 none = 0 ∧ HT.sIx 7 7 (some 2) = 7) by decide) fun q2 hq2 => ?_
            have z2 := same_new (o := .tup [.str (Str.ofString "frame"), .int (d9.1 : Nat)]) hq2
            walk_at "rd"
            rename_i t1 ht1 t2 ht2
            have z3 := same_new (o := .tup [.int 1, .int 1]) ht1
            have z4 := same_new (o := .tup [.ref t1]) ht2
            have z12 := z1.trans z2
            have z34 := z3.trans z4
            have f1 := z4 _ _ (upd_same (a := t1) (o := .tup [.int 1, .int 1]))
            refine rd_catT2 (zs := [.str (Str.ofString "frame"), .int (d9.1 : Nat), .ref t1]) (SqT.of (z34 _ _ upd_same)) (SqT.of upd_same) (by simp) (by simp) (Nat.le_of_ble_eq_true rfl) rfl fun q3 hq3 => ?_
            have z5 := same_new (o := .tup [.str (Str.ofString "frame"), .int (d9.1 : Nat), .ref t1]) hq3
            have z15 := z12.trans (z34.trans z5)
            walk_at "rd"
            refine rd_ixL (SqL.of (z15 _ _ eR6)) (at_last (k := rs.length - 1) (by omega) hv9) ?_
            walk_at "rd"
            refine rd_slTp (SqT.of (z15 _ _ g91)) (ys := [.int (d9.2.2.2.1 : Nat), .int (d9.2.2.2.2 : Nat), .int (markF fs9), .str (SX.S (bitsF d9 fs9 T9))]) rfl (show ¬ (HT.sIx 7 0 (some 3) = 0 ∧ HT.sIx 7 7 none = 7) by decide) fun q4 hq4 => ?_
            have z6 := same_new (o := .tup [.int (d9.2.2.2.1 : Nat), .int (d9.2.2.2.2 : Nat), .int (markF fs9), .str (SX.S (bitsF d9 fs9 T9))]) hq4
            refine rd_catT2 (zs := [.str (Str.ofString "frame"), .int (d9.1 : Nat), .ref t1, .int (d9.2.2.2.1 : Nat), .int (d9.2.2.2.2 : Nat), .int (markF fs9), .str (SX.S (bitsF d9 fs9 T9))]) (SqT.of (z6 _ _ upd_same)) (SqT.of upd_same) (by simp) (by simp) (Nat.le_of_ble_eq_true rfl) rfl fun q5 hq5 => ?_
            have z7 := same_new (o := .tup [.str (Str.ofString "frame"), .int (d9.1 : Nat), .ref t1, .int (d9.2.2.2.1 : Nat), .int (d9.2.2.2.2 : Nat), .int (markF fs9), .str (SX.S (bitsF d9 fs9 T9))]) hq5
            walk_at "rd"
            rename_i q6 hq6
            have z8 := same_new (o := .lst [.ref q5]) hq6
            have z38 := z34.trans (z5.trans (z6.trans (z7.trans z8)))
            have z28 := z2.trans z38
            refine rd_catG (z28 _ _ (upd_same (a := q1) (o := .lst refs.dropLast))) upd_same (by rw [List.length_dropLast]; show _ + 1 ≤ 1000; omega) fun B2 hB2 => ?_
            have z9 := same_new (o := .lst (refs.dropLast ++ [.ref q5])) hB2
            have zA := z1.trans (z28.trans z9)
            have hRG := hR6.lk (.of zA)
            have g5 := (z8.trans z9) _ _ (upd_same (a := q5) (o := .tup [.str (Str.ofString "frame"), .int (d9.1 : Nat), .ref t1, .int (d9.2.2.2.1 : Nat), .int (d9.2.2.2.2 : Nat), .int (markF fs9), .str (SX.S (bitsF d9 fs9 T9))]))
            have g1 := (z5.trans (z6.trans (z7.trans (z8.trans z9)))) _ _ f1
            have hIx := fun h1 => late_idx (K := K) (a := B2) (v := .ref q5) h1 hRG hV hm (by omega) (by omega) e9 ⟨q5, t1, rfl, g5, g1⟩
            have hIx := hIx upd_same
            have eRG := zA _ _ eR6
            have sAG := sA6.trans zA
            generalize upd _ B2 (.lst (refs.dropLast ++ [.ref q5])) = HG at *
            clear zA z9 z28 z38 z8 z7 z6 z15 z5 z34 z12 z4 z3 z2 z1 g1 g5 f1 hRG hB2 hq6 hq5 hq4 hq3 ht2 ht1 hq2 hq1 g91 g92 eR6 hR6 sA6
            walk_at "rd"
            refine use_idxZ hIx fun D H10 hD s10 eD => ?_
            walk_at "rd"
            rename_i e5 he5
            have zB := same_new (o := .lst [.int ((refs.length : Nat) - 1), .bl true]) he5
            rw [show ((rs.length : Nat) : Int) = (refs.length : Nat) by omega] at eD
            refine rd_nePV (l := []) (n := 1) (by decide) (SqL.of (zB _ _ eD)) (SqL.of upd_same) (fun x hx => ?_) ?_
            · rcases List.mem_cons.mp hx with rfl | hx
              · exact .inl rfl
              · rw [List.mem_singleton.mp hx]
                exact .inl rfl
            · walk_at "rd"
              exact ⟨_, _, _, _, _, _, _, _, _, _, rfl, sAG.trans (s10.trans zB)⟩
        · obtain ⟨x1, x2, x3, x4, x5, x6, x7, x8, x9, x10, rfl, hs⟩ := hI
          walk_at "rd"
          exact q _
    ) only [↓lt_eq]
end
theorem mkD_is_integer {K : PySem.W.Frag} {h : Heap} {mg : Str → Option Value} (X : K.In h) (G : h.Ns mainGlobals mg) {f : Addr} {od an : Option Addr} {sl : Array (Option Value)} {oc kV dc pm cd ct : Value} (a : PySem.W.nsIn K mainGlobals "is_integer" = some (some (.ref f))) (lk : K.lookup f = some ⟨oc, od, .func (PySem.W.fnOf "is_integer" "is_integer" (defArgs s_is_integer) (defBody s_is_integer) (defScope s_is_integer) .none kV dc pm an cd ct), sl⟩) (c : PySem.W.codeIn K cd "is_integer" = true) (k : PySem.W.keepIn K (.ref f) = true) : Dn K mg "is_integer" s_is_integer ["value"] f (PySem.W.fnOf "is_integer" "is_integer" (defArgs s_is_integer) (defBody s_is_integer) (defScope s_is_integer) .none kV dc pm an cd ct) := by
  have F := fun_mk (st := s_is_integer) lk c k
  exact ⟨F, PySem.W.mg_of X G a, F.binds (ps := ["value"]) fun _ _ _ _ _ _ us hl => match us, hl with | [_], _ => rfl⟩
theorem mkD_is_within {K : PySem.W.Frag} {h : Heap} {mg : Str → Option Value} (X : K.In h) (G : h.Ns mainGlobals mg) {f : Addr} {od an : Option Addr} {sl : Array (Option Value)} {oc kV dc pm cd ct : Value} (a : PySem.W.nsIn K mainGlobals "is_within" = some (some (.ref f))) (lk : K.lookup f = some ⟨oc, od, .func (PySem.W.fnOf "is_within" "is_within" (defArgs s_is_within) (defBody s_is_within) (defScope s_is_within) .none kV dc pm an cd ct), sl⟩) (c : PySem.W.codeIn K cd "is_within" = true) (k : PySem.W.keepIn K (.ref f) = true) : Dn K mg "is_within" s_is_within ["value", "low", "high"] f (PySem.W.fnOf "is_within" "is_within" (defArgs s_is_within) (defBody s_is_within) (defScope s_is_within) .none kV dc pm an cd ct) := by
  have F := fun_mk (st := s_is_within) lk c k
  exact ⟨F, PySem.W.mg_of X G a, F.binds (ps := ["value", "low", "high"]) fun _ _ _ _ _ _ us hl => match us, hl with | [_, _, _], _ => rfl⟩
theorem mkD_check_integer {K : PySem.W.Frag} {h : Heap} {mg : Str → Option Value} (X : K.In h) (G : h.Ns mainGlobals mg) {f : Addr} {od an : Option Addr} {sl : Array (Option Value)} {oc kV dc pm cd ct : Value} (a : PySem.W.nsIn K mainGlobals "check_integer" = some (some (.ref f))) (lk : K.lookup f = some ⟨oc, od, .func (PySem.W.fnOf "check_integer" "check_integer" (defArgs s_check_integer) (defBody s_check_integer) (defScope s_check_integer) .none kV dc pm an cd ct), sl⟩) (c : PySem.W.codeIn K cd "check_integer" = true) (k : PySem.W.keepIn K (.ref f) = true) : Dn K mg "check_integer" s_check_integer ["value"] f (PySem.W.fnOf "check_integer" "check_integer" (defArgs s_check_integer) (defBody s_check_integer) (defScope s_check_integer) .none kV dc pm an cd ct) := by
  have F := fun_mk (st := s_check_integer) lk c k
  exact ⟨F, PySem.W.mg_of X G a, F.binds (ps := ["value"]) fun _ _ _ _ _ _ us hl => match us, hl with | [_], _ => rfl⟩
theorem mkD_check_within {K : PySem.W.Frag} {h : Heap} {mg : Str → Option Value} (X : K.In h) (G : h.Ns mainGlobals mg) {f : Addr} {od an : Option Addr} {sl : Array (Option Value)} {oc kV dc pm cd ct : Value} (a : PySem.W.nsIn K mainGlobals "check_within" = some (some (.ref f))) (lk : K.lookup f = some ⟨oc, od, .func (PySem.W.fnOf "check_within" "check_within" (defArgs s_check_within) (defBody s_check_within) (defScope s_check_within) .none kV dc pm an cd ct), sl⟩) (c : PySem.W.codeIn K cd "check_within" = true) (k : PySem.W.keepIn K (.ref f) = true) : Dn K mg "check_within" s_check_within ["value", "low", "high"] f (PySem.W.fnOf "check_within" "check_within" (defArgs s_check_within) (defBody s_check_within) (defScope s_check_within) .none kV dc pm an cd ct) := by
  have F := fun_mk (st := s_check_within) lk c k
  exact ⟨F, PySem.W.mg_of X G a, F.binds (ps := ["value", "low", "high"]) fun _ _ _ _ _ _ us hl => match us, hl with | [_, _, _], _ => rfl⟩
theorem mkD_check_items {K : PySem.W.Frag} {h : Heap} {mg : Str → Option Value} (X : K.In h) (G : h.Ns mainGlobals mg) {f : Addr} {od an : Option Addr} {sl : Array (Option Value)} {oc kV dc pm cd ct : Value} (a : PySem.W.nsIn K mainGlobals "check_items" = some (some (.ref f))) (lk : K.lookup f = some ⟨oc, od, .func (PySem.W.fnOf "check_items" "check_items" (defArgs s_check_items) (defBody s_check_items) (defScope s_check_items) .none kV dc pm an cd ct), sl⟩) (c : PySem.W.codeIn K cd "check_items" = true) (k : PySem.W.keepIn K (.ref f) = true) : Dn K mg "check_items" s_check_items ["values"] f (PySem.W.fnOf "check_items" "check_items" (defArgs s_check_items) (defBody s_check_items) (defScope s_check_items) .none kV dc pm an cd ct) := by
  have F := fun_mk (st := s_check_items) lk c k
  exact ⟨F, PySem.W.mg_of X G a, F.binds (ps := ["values"]) fun _ _ _ _ _ _ us hl => match us, hl with | [_], _ => rfl⟩
theorem mkD_check_block {K : PySem.W.Frag} {h : Heap} {mg : Str → Option Value} (X : K.In h) (G : h.Ns mainGlobals mg) {f : Addr} {od an : Option Addr} {sl : Array (Option Value)} {oc kV dc pm cd ct : Value} (a : PySem.W.nsIn K mainGlobals "check_block" = some (some (.ref f))) (lk : K.lookup f = some ⟨oc, od, .func (PySem.W.fnOf "check_block" "check_block" (defArgs s_check_block) (defBody s_check_block) (defScope s_check_block) .none kV dc pm an cd ct), sl⟩) (c : PySem.W.codeIn K cd "check_block" = true) (k : PySem.W.keepIn K (.ref f) = true) : Dn K mg "check_block" s_check_block ["values", "least"] f (PySem.W.fnOf "check_block" "check_block" (defArgs s_check_block) (defBody s_check_block) (defScope s_check_block) .none kV dc pm an cd ct) := by
  have F := fun_mk (st := s_check_block) lk c k
  exact ⟨F, PySem.W.mg_of X G a, F.binds (ps := ["values", "least"]) fun _ _ _ _ _ _ us hl => match us, hl with | [_, _], _ => rfl⟩
theorem mkD_is_joint {K : PySem.W.Frag} {h : Heap} {mg : Str → Option Value} (X : K.In h) (G : h.Ns mainGlobals mg) {f : Addr} {od an : Option Addr} {sl : Array (Option Value)} {oc kV dc pm cd ct : Value} (a : PySem.W.nsIn K mainGlobals "is_joint" = some (some (.ref f))) (lk : K.lookup f = some ⟨oc, od, .func (PySem.W.fnOf "is_joint" "is_joint" (defArgs s_is_joint) (defBody s_is_joint) (defScope s_is_joint) .none kV dc pm an cd ct), sl⟩) (c : PySem.W.codeIn K cd "is_joint" = true) (k : PySem.W.keepIn K (.ref f) = true) : Dn K mg "is_joint" s_is_joint ["value"] f (PySem.W.fnOf "is_joint" "is_joint" (defArgs s_is_joint) (defBody s_is_joint) (defScope s_is_joint) .none kV dc pm an cd ct) := by
  have F := fun_mk (st := s_is_joint) lk c k
  exact ⟨F, PySem.W.mg_of X G a, F.binds (ps := ["value"]) fun _ _ _ _ _ _ us hl => match us, hl with | [_], _ => rfl⟩
theorem mkD_join_levels {K : PySem.W.Frag} {h : Heap} {mg : Str → Option Value} (X : K.In h) (G : h.Ns mainGlobals mg) {f : Addr} {od an : Option Addr} {sl : Array (Option Value)} {oc kV dc pm cd ct : Value} (a : PySem.W.nsIn K mainGlobals "join_levels" = some (some (.ref f))) (lk : K.lookup f = some ⟨oc, od, .func (PySem.W.fnOf "join_levels" "join_levels" (defArgs s_join_levels) (defBody s_join_levels) (defScope s_join_levels) .none kV dc pm an cd ct), sl⟩) (c : PySem.W.codeIn K cd "join_levels" = true) (k : PySem.W.keepIn K (.ref f) = true) : Dn K mg "join_levels" s_join_levels ["numbers", "levels"] f (PySem.W.fnOf "join_levels" "join_levels" (defArgs s_join_levels) (defBody s_join_levels) (defScope s_join_levels) .none kV dc pm an cd ct) := by
  have F := fun_mk (st := s_join_levels) lk c k
  exact ⟨F, PySem.W.mg_of X G a, F.binds (ps := ["numbers", "levels"]) fun _ _ _ _ _ _ us hl => match us, hl with | [_, _], _ => rfl⟩
theorem mkD_join_once {K : PySem.W.Frag} {h : Heap} {mg : Str → Option Value} (X : K.In h) (G : h.Ns mainGlobals mg) {f : Addr} {od an : Option Addr} {sl : Array (Option Value)} {oc kV dc pm cd ct : Value} (a : PySem.W.nsIn K mainGlobals "join_once" = some (some (.ref f))) (lk : K.lookup f = some ⟨oc, od, .func (PySem.W.fnOf "join_once" "join_once" (defArgs s_join_once) (defBody s_join_once) (defScope s_join_once) .none kV dc pm an cd ct), sl⟩) (c : PySem.W.codeIn K cd "join_once" = true) (k : PySem.W.keepIn K (.ref f) = true) : Dn K mg "join_once" s_join_once ["sums", "differences"] f (PySem.W.fnOf "join_once" "join_once" (defArgs s_join_once) (defBody s_join_once) (defScope s_join_once) .none kV dc pm an cd ct) := by
  have F := fun_mk (st := s_join_once) lk c k
  exact ⟨F, PySem.W.mg_of X G a, F.binds (ps := ["sums", "differences"]) fun _ _ _ _ _ _ us hl => match us, hl with | [_, _], _ => rfl⟩
theorem mkD_coarse_count {K : PySem.W.Frag} {h : Heap} {mg : Str → Option Value} (X : K.In h) (G : h.Ns mainGlobals mg) {f : Addr} {od an : Option Addr} {sl : Array (Option Value)} {oc kV dc pm cd ct : Value} (a : PySem.W.nsIn K mainGlobals "coarse_count" = some (some (.ref f))) (lk : K.lookup f = some ⟨oc, od, .func (PySem.W.fnOf "coarse_count" "coarse_count" (defArgs s_coarse_count) (defBody s_coarse_count) (defScope s_coarse_count) .none kV dc pm an cd ct), sl⟩) (c : PySem.W.codeIn K cd "coarse_count" = true) (k : PySem.W.keepIn K (.ref f) = true) : Dn K mg "coarse_count" s_coarse_count ["length", "levels"] f (PySem.W.fnOf "coarse_count" "coarse_count" (defArgs s_coarse_count) (defBody s_coarse_count) (defScope s_coarse_count) .none kV dc pm an cd ct) := by
  have F := fun_mk (st := s_coarse_count) lk c k
  exact ⟨F, PySem.W.mg_of X G a, F.binds (ps := ["length", "levels"]) fun _ _ _ _ _ _ us hl => match us, hl with | [_, _], _ => rfl⟩
theorem mkD_is_table {K : PySem.W.Frag} {h : Heap} {mg : Str → Option Value} (X : K.In h) (G : h.Ns mainGlobals mg) {f : Addr} {od an : Option Addr} {sl : Array (Option Value)} {oc kV dc pm cd ct : Value} (a : PySem.W.nsIn K mainGlobals "is_table" = some (some (.ref f))) (lk : K.lookup f = some ⟨oc, od, .func (PySem.W.fnOf "is_table" "is_table" (defArgs s_is_table) (defBody s_is_table) (defScope s_is_table) .none kV dc pm an cd ct), sl⟩) (c : PySem.W.codeIn K cd "is_table" = true) (k : PySem.W.keepIn K (.ref f) = true) : Dn K mg "is_table" s_is_table ["value"] f (PySem.W.fnOf "is_table" "is_table" (defArgs s_is_table) (defBody s_is_table) (defScope s_is_table) .none kV dc pm an cd ct) := by
  have F := fun_mk (st := s_is_table) lk c k
  exact ⟨F, PySem.W.mg_of X G a, F.binds (ps := ["value"]) fun _ _ _ _ _ _ us hl => match us, hl with | [_], _ => rfl⟩
theorem mkD_is_tables {K : PySem.W.Frag} {h : Heap} {mg : Str → Option Value} (X : K.In h) (G : h.Ns mainGlobals mg) {f : Addr} {od an : Option Addr} {sl : Array (Option Value)} {oc kV dc pm cd ct : Value} (a : PySem.W.nsIn K mainGlobals "is_tables" = some (some (.ref f))) (lk : K.lookup f = some ⟨oc, od, .func (PySem.W.fnOf "is_tables" "is_tables" (defArgs s_is_tables) (defBody s_is_tables) (defScope s_is_tables) .none kV dc pm an cd ct), sl⟩) (c : PySem.W.codeIn K cd "is_tables" = true) (k : PySem.W.keepIn K (.ref f) = true) : Dn K mg "is_tables" s_is_tables ["value"] f (PySem.W.fnOf "is_tables" "is_tables" (defArgs s_is_tables) (defBody s_is_tables) (defScope s_is_tables) .none kV dc pm an cd ct) := by
  have F := fun_mk (st := s_is_tables) lk c k
  exact ⟨F, PySem.W.mg_of X G a, F.binds (ps := ["value"]) fun _ _ _ _ _ _ us hl => match us, hl with | [_], _ => rfl⟩
theorem mkD_parameter {K : PySem.W.Frag} {h : Heap} {mg : Str → Option Value} (X : K.In h) (G : h.Ns mainGlobals mg) {f : Addr} {od an : Option Addr} {sl : Array (Option Value)} {oc kV dc pm cd ct : Value} (a : PySem.W.nsIn K mainGlobals "parameter" = some (some (.ref f))) (lk : K.lookup f = some ⟨oc, od, .func (PySem.W.fnOf "parameter" "parameter" (defArgs s_parameter) (defBody s_parameter) (defScope s_parameter) .none kV dc pm an cd ct), sl⟩) (c : PySem.W.codeIn K cd "parameter" = true) (k : PySem.W.keepIn K (.ref f) = true) : Dn K mg "parameter" s_parameter ["table"] f (PySem.W.fnOf "parameter" "parameter" (defArgs s_parameter) (defBody s_parameter) (defScope s_parameter) .none kV dc pm an cd ct) := by
  have F := fun_mk (st := s_parameter) lk c k
  exact ⟨F, PySem.W.mg_of X G a, F.binds (ps := ["table"]) fun _ _ _ _ _ _ us hl => match us, hl with | [_], _ => rfl⟩
theorem mkD_table_behind {K : PySem.W.Frag} {h : Heap} {mg : Str → Option Value} (X : K.In h) (G : h.Ns mainGlobals mg) {f : Addr} {od an : Option Addr} {sl : Array (Option Value)} {oc kV dc pm cd ct : Value} (a : PySem.W.nsIn K mainGlobals "table_behind" = some (some (.ref f))) (lk : K.lookup f = some ⟨oc, od, .func (PySem.W.fnOf "table_behind" "table_behind" (defArgs s_table_behind) (defBody s_table_behind) (defScope s_table_behind) .none kV dc pm an cd ct), sl⟩) (c : PySem.W.codeIn K cd "table_behind" = true) (k : PySem.W.keepIn K (.ref f) = true) : Dn K mg "table_behind" s_table_behind ["table", "code"] f (PySem.W.fnOf "table_behind" "table_behind" (defArgs s_table_behind) (defBody s_table_behind) (defScope s_table_behind) .none kV dc pm an cd ct) := by
  have F := fun_mk (st := s_table_behind) lk c k
  exact ⟨F, PySem.W.mg_of X G a, F.binds (ps := ["table", "code"]) fun _ _ _ _ _ _ us hl => match us, hl with | [_, _], _ => rfl⟩
theorem mkD_code_number {K : PySem.W.Frag} {h : Heap} {mg : Str → Option Value} (X : K.In h) (G : h.Ns mainGlobals mg) {f : Addr} {od an : Option Addr} {sl : Array (Option Value)} {oc kV dc pm cd ct : Value} (a : PySem.W.nsIn K mainGlobals "code_number" = some (some (.ref f))) (lk : K.lookup f = some ⟨oc, od, .func (PySem.W.fnOf "code_number" "code_number" (defArgs s_code_number) (defBody s_code_number) (defScope s_code_number) .none kV dc pm an cd ct), sl⟩) (c : PySem.W.codeIn K cd "code_number" = true) (k : PySem.W.keepIn K (.ref f) = true) : Dn K mg "code_number" s_code_number ["number"] f (PySem.W.fnOf "code_number" "code_number" (defArgs s_code_number) (defBody s_code_number) (defScope s_code_number) .none kV dc pm an cd ct) := by
  have F := fun_mk (st := s_code_number) lk c k
  exact ⟨F, PySem.W.mg_of X G a, F.binds (ps := ["number"]) fun _ _ _ _ _ _ us hl => match us, hl with | [_], _ => rfl⟩
theorem mkD_number_with {K : PySem.W.Frag} {h : Heap} {mg : Str → Option Value} (X : K.In h) (G : h.Ns mainGlobals mg) {f : Addr} {od an : Option Addr} {sl : Array (Option Value)} {oc kV dc pm cd ct : Value} (a : PySem.W.nsIn K mainGlobals "number_with" = some (some (.ref f))) (lk : K.lookup f = some ⟨oc, od, .func (PySem.W.fnOf "number_with" "number_with" (defArgs s_number_with) (defBody s_number_with) (defScope s_number_with) .none kV dc pm an cd ct), sl⟩) (c : PySem.W.codeIn K cd "number_with" = true) (k : PySem.W.keepIn K (.ref f) = true) : Dn K mg "number_with" s_number_with ["code"] f (PySem.W.fnOf "number_with" "number_with" (defArgs s_number_with) (defBody s_number_with) (defScope s_number_with) .none kV dc pm an cd ct) := by
  have F := fun_mk (st := s_number_with) lk c k
  exact ⟨F, PySem.W.mg_of X G a, F.binds (ps := ["code"]) fun _ _ _ _ _ _ us hl => match us, hl with | [_], _ => rfl⟩
theorem mkD_read_numbers {K : PySem.W.Frag} {h : Heap} {mg : Str → Option Value} (X : K.In h) (G : h.Ns mainGlobals mg) {f : Addr} {od an : Option Addr} {sl : Array (Option Value)} {oc kV dc pm cd ct : Value} (a : PySem.W.nsIn K mainGlobals "read_numbers" = some (some (.ref f))) (lk : K.lookup f = some ⟨oc, od, .func (PySem.W.fnOf "read_numbers" "read_numbers" (defArgs s_read_numbers) (defBody s_read_numbers) (defScope s_read_numbers) .none kV dc pm an cd ct), sl⟩) (c : PySem.W.codeIn K cd "read_numbers" = true) (k : PySem.W.keepIn K (.ref f) = true) : Dn K mg "read_numbers" s_read_numbers ["bits", "length", "coarse", "tables"] f (PySem.W.fnOf "read_numbers" "read_numbers" (defArgs s_read_numbers) (defBody s_read_numbers) (defScope s_read_numbers) .none kV dc pm an cd ct) := by
  have F := fun_mk (st := s_read_numbers) lk c k
  exact ⟨F, PySem.W.mg_of X G a, F.binds (ps := ["bits", "length", "coarse", "tables"]) fun _ _ _ _ _ _ us hl => match us, hl with | [_, _, _, _], _ => rfl⟩
theorem mkD_check_coding {K : PySem.W.Frag} {h : Heap} {mg : Str → Option Value} (X : K.In h) (G : h.Ns mainGlobals mg) {f : Addr} {od an : Option Addr} {sl : Array (Option Value)} {oc kV dc pm cd ct : Value} (a : PySem.W.nsIn K mainGlobals "check_coding" = some (some (.ref f))) (lk : K.lookup f = some ⟨oc, od, .func (PySem.W.fnOf "check_coding" "check_coding" (defArgs s_check_coding) (defBody s_check_coding) (defScope s_check_coding) .none kV dc pm an cd ct), sl⟩) (c : PySem.W.codeIn K cd "check_coding" = true) (k : PySem.W.keepIn K (.ref f) = true) : Dn K mg "check_coding" s_check_coding ["length", "coarse", "tables"] f (PySem.W.fnOf "check_coding" "check_coding" (defArgs s_check_coding) (defBody s_check_coding) (defScope s_check_coding) .none kV dc pm an cd ct) := by
  have F := fun_mk (st := s_check_coding) lk c k
  exact ⟨F, PySem.W.mg_of X G a, F.binds (ps := ["length", "coarse", "tables"]) fun _ _ _ _ _ _ us hl => match us, hl with | [_, _, _], _ => rfl⟩
theorem mkD_read_code {K : PySem.W.Frag} {h : Heap} {mg : Str → Option Value} (X : K.In h) (G : h.Ns mainGlobals mg) {f : Addr} {od an : Option Addr} {sl : Array (Option Value)} {oc kV dc pm cd ct : Value} (a : PySem.W.nsIn K mainGlobals "read_code" = some (some (.ref f))) (lk : K.lookup f = some ⟨oc, od, .func (PySem.W.fnOf "read_code" "read_code" (defArgs s_read_code) (defBody s_read_code) (defScope s_read_code) .none kV dc pm an cd ct), sl⟩) (c : PySem.W.codeIn K cd "read_code" = true) (k : PySem.W.keepIn K (.ref f) = true) : Dn K mg "read_code" s_read_code ["bits", "place", "k"] f (PySem.W.fnOf "read_code" "read_code" (defArgs s_read_code) (defBody s_read_code) (defScope s_read_code) .none kV dc pm an cd ct) := by
  have F := fun_mk (st := s_read_code) lk c k
  exact ⟨F, PySem.W.mg_of X G a, F.binds (ps := ["bits", "place", "k"]) fun _ _ _ _ _ _ us hl => match us, hl with | [_, _, _], _ => rfl⟩
theorem mkD_mark_of {K : PySem.W.Frag} {h : Heap} {mg : Str → Option Value} (X : K.In h) (G : h.Ns mainGlobals mg) {f : Addr} {od an : Option Addr} {sl : Array (Option Value)} {oc kV dc pm cd ct : Value} (a : PySem.W.nsIn K mainGlobals "mark_of" = some (some (.ref f))) (lk : K.lookup f = some ⟨oc, od, .func (PySem.W.fnOf "mark_of" "mark_of" (defArgs s_mark_of) (defBody s_mark_of) (defScope s_mark_of) .none kV dc pm an cd ct), sl⟩) (c : PySem.W.codeIn K cd "mark_of" = true) (k : PySem.W.keepIn K (.ref f) = true) : Dn K mg "mark_of" s_mark_of ["numbers"] f (PySem.W.fnOf "mark_of" "mark_of" (defArgs s_mark_of) (defBody s_mark_of) (defScope s_mark_of) .none kV dc pm an cd ct) := by
  have F := fun_mk (st := s_mark_of) lk c k
  exact ⟨F, PySem.W.mg_of X G a, F.binds (ps := ["numbers"]) fun _ _ _ _ _ _ us hl => match us, hl with | [_], _ => rfl⟩
theorem mkD_is_record {K : PySem.W.Frag} {h : Heap} {mg : Str → Option Value} (X : K.In h) (G : h.Ns mainGlobals mg) {f : Addr} {od an : Option Addr} {sl : Array (Option Value)} {oc kV dc pm cd ct : Value} (a : PySem.W.nsIn K mainGlobals "is_record" = some (some (.ref f))) (lk : K.lookup f = some ⟨oc, od, .func (PySem.W.fnOf "is_record" "is_record" (defArgs s_is_record) (defBody s_is_record) (defScope s_is_record) .none kV dc pm an cd ct), sl⟩) (c : PySem.W.codeIn K cd "is_record" = true) (k : PySem.W.keepIn K (.ref f) = true) : Dn K mg "is_record" s_is_record ["value"] f (PySem.W.fnOf "is_record" "is_record" (defArgs s_is_record) (defBody s_is_record) (defScope s_is_record) .none kV dc pm an cd ct) := by
  have F := fun_mk (st := s_is_record) lk c k
  exact ⟨F, PySem.W.mg_of X G a, F.binds (ps := ["value"]) fun _ _ _ _ _ _ us hl => match us, hl with | [_], _ => rfl⟩
theorem mkD_is_state {K : PySem.W.Frag} {h : Heap} {mg : Str → Option Value} (X : K.In h) (G : h.Ns mainGlobals mg) {f : Addr} {od an : Option Addr} {sl : Array (Option Value)} {oc kV dc pm cd ct : Value} (a : PySem.W.nsIn K mainGlobals "is_state" = some (some (.ref f))) (lk : K.lookup f = some ⟨oc, od, .func (PySem.W.fnOf "is_state" "is_state" (defArgs s_is_state) (defBody s_is_state) (defScope s_is_state) .none kV dc pm an cd ct), sl⟩) (c : PySem.W.codeIn K cd "is_state" = true) (k : PySem.W.keepIn K (.ref f) = true) : Dn K mg "is_state" s_is_state ["value"] f (PySem.W.fnOf "is_state" "is_state" (defArgs s_is_state) (defBody s_is_state) (defScope s_is_state) .none kV dc pm an cd ct) := by
  have F := fun_mk (st := s_is_state) lk c k
  exact ⟨F, PySem.W.mg_of X G a, F.binds (ps := ["value"]) fun _ _ _ _ _ _ us hl => match us, hl with | [_], _ => rfl⟩
theorem mkD_is_frame {K : PySem.W.Frag} {h : Heap} {mg : Str → Option Value} (X : K.In h) (G : h.Ns mainGlobals mg) {f : Addr} {od an : Option Addr} {sl : Array (Option Value)} {oc kV dc pm cd ct : Value} (a : PySem.W.nsIn K mainGlobals "is_frame" = some (some (.ref f))) (lk : K.lookup f = some ⟨oc, od, .func (PySem.W.fnOf "is_frame" "is_frame" (defArgs s_is_frame) (defBody s_is_frame) (defScope s_is_frame) .none kV dc pm an cd ct), sl⟩) (c : PySem.W.codeIn K cd "is_frame" = true) (k : PySem.W.keepIn K (.ref f) = true) : Dn K mg "is_frame" s_is_frame ["value"] f (PySem.W.fnOf "is_frame" "is_frame" (defArgs s_is_frame) (defBody s_is_frame) (defScope s_is_frame) .none kV dc pm an cd ct) := by
  have F := fun_mk (st := s_is_frame) lk c k
  exact ⟨F, PySem.W.mg_of X G a, F.binds (ps := ["value"]) fun _ _ _ _ _ _ us hl => match us, hl with | [_], _ => rfl⟩
theorem mkD_is_layout {K : PySem.W.Frag} {h : Heap} {mg : Str → Option Value} (X : K.In h) (G : h.Ns mainGlobals mg) {f : Addr} {od an : Option Addr} {sl : Array (Option Value)} {oc kV dc pm cd ct : Value} (a : PySem.W.nsIn K mainGlobals "is_layout" = some (some (.ref f))) (lk : K.lookup f = some ⟨oc, od, .func (PySem.W.fnOf "is_layout" "is_layout" (defArgs s_is_layout) (defBody s_is_layout) (defScope s_is_layout) .none kV dc pm an cd ct), sl⟩) (c : PySem.W.codeIn K cd "is_layout" = true) (k : PySem.W.keepIn K (.ref f) = true) : Dn K mg "is_layout" s_is_layout ["value"] f (PySem.W.fnOf "is_layout" "is_layout" (defArgs s_is_layout) (defBody s_is_layout) (defScope s_is_layout) .none kV dc pm an cd ct) := by
  have F := fun_mk (st := s_is_layout) lk c k
  exact ⟨F, PySem.W.mg_of X G a, F.binds (ps := ["value"]) fun _ _ _ _ _ _ us hl => match us, hl with | [_], _ => rfl⟩
theorem mkD_is_bits {K : PySem.W.Frag} {h : Heap} {mg : Str → Option Value} (X : K.In h) (G : h.Ns mainGlobals mg) {f : Addr} {od an : Option Addr} {sl : Array (Option Value)} {oc kV dc pm cd ct : Value} (a : PySem.W.nsIn K mainGlobals "is_bits" = some (some (.ref f))) (lk : K.lookup f = some ⟨oc, od, .func (PySem.W.fnOf "is_bits" "is_bits" (defArgs s_is_bits) (defBody s_is_bits) (defScope s_is_bits) .none kV dc pm an cd ct), sl⟩) (c : PySem.W.codeIn K cd "is_bits" = true) (k : PySem.W.keepIn K (.ref f) = true) : Dn K mg "is_bits" s_is_bits ["value"] f (PySem.W.fnOf "is_bits" "is_bits" (defArgs s_is_bits) (defBody s_is_bits) (defScope s_is_bits) .none kV dc pm an cd ct) := by
  have F := fun_mk (st := s_is_bits) lk c k
  exact ⟨F, PySem.W.mg_of X G a, F.binds (ps := ["value"]) fun _ _ _ _ _ _ us hl => match us, hl with | [_], _ => rfl⟩
theorem mkD_read_frame {K : PySem.W.Frag} {h : Heap} {mg : Str → Option Value} (X : K.In h) (G : h.Ns mainGlobals mg) {f : Addr} {od an : Option Addr} {sl : Array (Option Value)} {oc kV dc pm cd ct : Value} (a : PySem.W.nsIn K mainGlobals "read_frame" = some (some (.ref f))) (lk : K.lookup f = some ⟨oc, od, .func (PySem.W.fnOf "read_frame" "read_frame" (defArgs s_read_frame) (defBody s_read_frame) (defScope s_read_frame) .none kV dc pm an cd ct), sl⟩) (c : PySem.W.codeIn K cd "read_frame" = true) (k : PySem.W.keepIn K (.ref f) = true) : Dn K mg "read_frame" s_read_frame ["record", "tables"] f (PySem.W.fnOf "read_frame" "read_frame" (defArgs s_read_frame) (defBody s_read_frame) (defScope s_read_frame) .none kV dc pm an cd ct) := by
  have F := fun_mk (st := s_read_frame) lk c k
  exact ⟨F, PySem.W.mg_of X G a, F.binds (ps := ["record", "tables"]) fun _ _ _ _ _ _ us hl => match us, hl with | [_, _], _ => rfl⟩
theorem mkD_block_values {K : PySem.W.Frag} {h : Heap} {mg : Str → Option Value} (X : K.In h) (G : h.Ns mainGlobals mg) {f : Addr} {od an : Option Addr} {sl : Array (Option Value)} {oc kV dc pm cd ct : Value} (a : PySem.W.nsIn K mainGlobals "block_values" = some (some (.ref f))) (lk : K.lookup f = some ⟨oc, od, .func (PySem.W.fnOf "block_values" "block_values" (defArgs s_block_values) (defBody s_block_values) (defScope s_block_values) .none kV dc pm an cd ct), sl⟩) (c : PySem.W.codeIn K cd "block_values" = true) (k : PySem.W.keepIn K (.ref f) = true) : Dn K mg "block_values" s_block_values ["numbers", "levels", "step"] f (PySem.W.fnOf "block_values" "block_values" (defArgs s_block_values) (defBody s_block_values) (defScope s_block_values) .none kV dc pm an cd ct) := by
  have F := fun_mk (st := s_block_values) lk c k
  exact ⟨F, PySem.W.mg_of X G a, F.binds (ps := ["numbers", "levels", "step"]) fun _ _ _ _ _ _ us hl => match us, hl with | [_, _, _], _ => rfl⟩
theorem mkD_check_records {K : PySem.W.Frag} {h : Heap} {mg : Str → Option Value} (X : K.In h) (G : h.Ns mainGlobals mg) {f : Addr} {od an : Option Addr} {sl : Array (Option Value)} {oc kV dc pm cd ct : Value} (a : PySem.W.nsIn K mainGlobals "check_records" = some (some (.ref f))) (lk : K.lookup f = some ⟨oc, od, .func (PySem.W.fnOf "check_records" "check_records" (defArgs s_check_records) (defBody s_check_records) (defScope s_check_records) .none kV dc pm an cd ct), sl⟩) (c : PySem.W.codeIn K cd "check_records" = true) (k : PySem.W.keepIn K (.ref f) = true) : Dn K mg "check_records" s_check_records ["records"] f (PySem.W.fnOf "check_records" "check_records" (defArgs s_check_records) (defBody s_check_records) (defScope s_check_records) .none kV dc pm an cd ct) := by
  have F := fun_mk (st := s_check_records) lk c k
  exact ⟨F, PySem.W.mg_of X G a, F.binds (ps := ["records"]) fun _ _ _ _ _ _ us hl => match us, hl with | [_], _ => rfl⟩
theorem mkD_read_frames {K : PySem.W.Frag} {h : Heap} {mg : Str → Option Value} (X : K.In h) (G : h.Ns mainGlobals mg) {f : Addr} {od an : Option Addr} {sl : Array (Option Value)} {oc kV dc pm cd ct : Value} (a : PySem.W.nsIn K mainGlobals "read_frames" = some (some (.ref f))) (lk : K.lookup f = some ⟨oc, od, .func (PySem.W.fnOf "read_frames" "read_frames" (defArgs s_read_frames) (defBody s_read_frames) (defScope s_read_frames) .none kV dc pm an cd ct), sl⟩) (c : PySem.W.codeIn K cd "read_frames" = true) (k : PySem.W.keepIn K (.ref f) = true) : Dn K mg "read_frames" s_read_frames ["records"] f (PySem.W.fnOf "read_frames" "read_frames" (defArgs s_read_frames) (defBody s_read_frames) (defScope s_read_frames) .none kV dc pm an cd ct) := by
  have F := fun_mk (st := s_read_frames) lk c k
  exact ⟨F, PySem.W.mg_of X G a, F.binds (ps := ["records"]) fun _ _ _ _ _ _ us hl => match us, hl with | [_], _ => rfl⟩
theorem mkD_pool {K : PySem.W.Frag} {h : Heap} {mg : Str → Option Value} (X : K.In h) (G : h.Ns mainGlobals mg) {f : Addr} {od an : Option Addr} {sl : Array (Option Value)} {oc kV dc pm cd ct : Value} (a : PySem.W.nsIn K mainGlobals "_law_pool" = some (some (.ref f))) (lk : K.lookup f = some ⟨oc, od, .func (PySem.W.fnOf "_law_pool" "_law_pool" (defArgs s_pool) (defBody s_pool) (defScope s_pool) .none kV dc pm an cd ct), sl⟩) (c : PySem.W.codeIn K cd "_law_pool" = true) (k : PySem.W.keepIn K (.ref f) = true) : Dn K mg "_law_pool" s_pool ["_law_script", "_law_k"] f (PySem.W.fnOf "_law_pool" "_law_pool" (defArgs s_pool) (defBody s_pool) (defScope s_pool) .none kV dc pm an cd ct) := by
  have F := fun_mk (st := s_pool) lk c k
  exact ⟨F, PySem.W.mg_of X G a, F.binds (ps := ["_law_script", "_law_k"]) fun _ _ _ _ _ _ us hl => match us, hl with | [_, _], _ => rfl⟩
theorem mkD_take {K : PySem.W.Frag} {h : Heap} {mg : Str → Option Value} (X : K.In h) (G : h.Ns mainGlobals mg) {f : Addr} {od an : Option Addr} {sl : Array (Option Value)} {oc kV dc pm cd ct : Value} (a : PySem.W.nsIn K mainGlobals "_law_take" = some (some (.ref f))) (lk : K.lookup f = some ⟨oc, od, .func (PySem.W.fnOf "_law_take" "_law_take" (defArgs s_take) (defBody s_take) (defScope s_take) .none kV dc pm an cd ct), sl⟩) (c : PySem.W.codeIn K cd "_law_take" = true) (k : PySem.W.keepIn K (.ref f) = true) : Dn K mg "_law_take" s_take ["_law_pool_here", "_law_many"] f (PySem.W.fnOf "_law_take" "_law_take" (defArgs s_take) (defBody s_take) (defScope s_take) .none kV dc pm an cd ct) := by
  have F := fun_mk (st := s_take) lk c k
  exact ⟨F, PySem.W.mg_of X G a, F.binds (ps := ["_law_pool_here", "_law_many"]) fun _ _ _ _ _ _ us hl => match us, hl with | [_, _], _ => rfl⟩
theorem mkD_sizes {K : PySem.W.Frag} {h : Heap} {mg : Str → Option Value} (X : K.In h) (G : h.Ns mainGlobals mg) {f : Addr} {od an : Option Addr} {sl : Array (Option Value)} {oc kV dc pm cd ct : Value} (a : PySem.W.nsIn K mainGlobals "_law_sizes" = some (some (.ref f))) (lk : K.lookup f = some ⟨oc, od, .func (PySem.W.fnOf "_law_sizes" "_law_sizes" (defArgs s_sizes) (defBody s_sizes) (defScope s_sizes) .none kV dc pm an cd ct), sl⟩) (c : PySem.W.codeIn K cd "_law_sizes" = true) (k : PySem.W.keepIn K (.ref f) = true) : Dn K mg "_law_sizes" s_sizes ["_law_length", "_law_levels"] f (PySem.W.fnOf "_law_sizes" "_law_sizes" (defArgs s_sizes) (defBody s_sizes) (defScope s_sizes) .none kV dc pm an cd ct) := by
  have F := fun_mk (st := s_sizes) lk c k
  exact ⟨F, PySem.W.mg_of X G a, F.binds (ps := ["_law_length", "_law_levels"]) fun _ _ _ _ _ _ us hl => match us, hl with | [_, _], _ => rfl⟩
theorem mkD_digits {K : PySem.W.Frag} {h : Heap} {mg : Str → Option Value} (X : K.In h) (G : h.Ns mainGlobals mg) {f : Addr} {od an : Option Addr} {sl : Array (Option Value)} {oc kV dc pm cd ct : Value} (a : PySem.W.nsIn K mainGlobals "_law_digits" = some (some (.ref f))) (lk : K.lookup f = some ⟨oc, od, .func (PySem.W.fnOf "_law_digits" "_law_digits" (defArgs s_digits) (defBody s_digits) (defScope s_digits) .none kV dc pm an cd ct), sl⟩) (c : PySem.W.codeIn K cd "_law_digits" = true) (k : PySem.W.keepIn K (.ref f) = true) : Dn K mg "_law_digits" s_digits ["_law_number"] f (PySem.W.fnOf "_law_digits" "_law_digits" (defArgs s_digits) (defBody s_digits) (defScope s_digits) .none kV dc pm an cd ct) := by
  have F := fun_mk (st := s_digits) lk c k
  exact ⟨F, PySem.W.mg_of X G a, F.binds (ps := ["_law_number"]) fun _ _ _ _ _ _ us hl => match us, hl with | [_], _ => rfl⟩
theorem mkD_code {K : PySem.W.Frag} {h : Heap} {mg : Str → Option Value} (X : K.In h) (G : h.Ns mainGlobals mg) {f : Addr} {od an : Option Addr} {sl : Array (Option Value)} {oc kV dc pm cd ct : Value} (a : PySem.W.nsIn K mainGlobals "_law_code" = some (some (.ref f))) (lk : K.lookup f = some ⟨oc, od, .func (PySem.W.fnOf "_law_code" "_law_code" (defArgs s_code) (defBody s_code) (defScope s_code) .none kV dc pm an cd ct), sl⟩) (c : PySem.W.codeIn K cd "_law_code" = true) (k : PySem.W.keepIn K (.ref f) = true) : Dn K mg "_law_code" s_code ["_law_number"] f (PySem.W.fnOf "_law_code" "_law_code" (defArgs s_code) (defBody s_code) (defScope s_code) .none kV dc pm an cd ct) := by
  have F := fun_mk (st := s_code) lk c k
  exact ⟨F, PySem.W.mg_of X G a, F.binds (ps := ["_law_number"]) fun _ _ _ _ _ _ us hl => match us, hl with | [_], _ => rfl⟩
theorem mkD_after {K : PySem.W.Frag} {h : Heap} {mg : Str → Option Value} (X : K.In h) (G : h.Ns mainGlobals mg) {f : Addr} {od an : Option Addr} {sl : Array (Option Value)} {oc kV dc pm cd ct : Value} (a : PySem.W.nsIn K mainGlobals "_law_after" = some (some (.ref f))) (lk : K.lookup f = some ⟨oc, od, .func (PySem.W.fnOf "_law_after" "_law_after" (defArgs s_after) (defBody s_after) (defScope s_after) .none kV dc pm an cd ct), sl⟩) (c : PySem.W.codeIn K cd "_law_after" = true) (k : PySem.W.keepIn K (.ref f) = true) : Dn K mg "_law_after" s_after ["_law_table", "_law_code_here"] f (PySem.W.fnOf "_law_after" "_law_after" (defArgs s_after) (defBody s_after) (defScope s_after) .none kV dc pm an cd ct) := by
  have F := fun_mk (st := s_after) lk c k
  exact ⟨F, PySem.W.mg_of X G a, F.binds (ps := ["_law_table", "_law_code_here"]) fun _ _ _ _ _ _ us hl => match us, hl with | [_, _], _ => rfl⟩
theorem mkD_l_parameter {K : PySem.W.Frag} {h : Heap} {mg : Str → Option Value} (X : K.In h) (G : h.Ns mainGlobals mg) {f : Addr} {od an : Option Addr} {sl : Array (Option Value)} {oc kV dc pm cd ct : Value} (a : PySem.W.nsIn K mainGlobals "_law_parameter" = some (some (.ref f))) (lk : K.lookup f = some ⟨oc, od, .func (PySem.W.fnOf "_law_parameter" "_law_parameter" (defArgs s_l_parameter) (defBody s_l_parameter) (defScope s_l_parameter) .none kV dc pm an cd ct), sl⟩) (c : PySem.W.codeIn K cd "_law_parameter" = true) (k : PySem.W.keepIn K (.ref f) = true) : Dn K mg "_law_parameter" s_l_parameter ["_law_table"] f (PySem.W.fnOf "_law_parameter" "_law_parameter" (defArgs s_l_parameter) (defBody s_l_parameter) (defScope s_l_parameter) .none kV dc pm an cd ct) := by
  have F := fun_mk (st := s_l_parameter) lk c k
  exact ⟨F, PySem.W.mg_of X G a, F.binds (ps := ["_law_table"]) fun _ _ _ _ _ _ us hl => match us, hl with | [_], _ => rfl⟩
theorem mkD_bits {K : PySem.W.Frag} {h : Heap} {mg : Str → Option Value} (X : K.In h) (G : h.Ns mainGlobals mg) {f : Addr} {od an : Option Addr} {sl : Array (Option Value)} {oc kV dc pm cd ct : Value} (a : PySem.W.nsIn K mainGlobals "_law_bits" = some (some (.ref f))) (lk : K.lookup f = some ⟨oc, od, .func (PySem.W.fnOf "_law_bits" "_law_bits" (defArgs s_bits) (defBody s_bits) (defScope s_bits) .none kV dc pm an cd ct), sl⟩) (c : PySem.W.codeIn K cd "_law_bits" = true) (k : PySem.W.keepIn K (.ref f) = true) : Dn K mg "_law_bits" s_bits ["_law_table", "_law_code_here"] f (PySem.W.fnOf "_law_bits" "_law_bits" (defArgs s_bits) (defBody s_bits) (defScope s_bits) .none kV dc pm an cd ct) := by
  have F := fun_mk (st := s_bits) lk c k
  exact ⟨F, PySem.W.mg_of X G a, F.binds (ps := ["_law_table", "_law_code_here"]) fun _ _ _ _ _ _ us hl => match us, hl with | [_, _], _ => rfl⟩
theorem mkD_written {K : PySem.W.Frag} {h : Heap} {mg : Str → Option Value} (X : K.In h) (G : h.Ns mainGlobals mg) {f : Addr} {od an : Option Addr} {sl : Array (Option Value)} {oc kV dc pm cd ct : Value} (a : PySem.W.nsIn K mainGlobals "_law_written" = some (some (.ref f))) (lk : K.lookup f = some ⟨oc, od, .func (PySem.W.fnOf "_law_written" "_law_written" (defArgs s_written) (defBody s_written) (defScope s_written) .none kV dc pm an cd ct), sl⟩) (c : PySem.W.codeIn K cd "_law_written" = true) (k : PySem.W.keepIn K (.ref f) = true) : Dn K mg "_law_written" s_written ["_law_numbers", "_law_coarse", "_law_tables"] f (PySem.W.fnOf "_law_written" "_law_written" (defArgs s_written) (defBody s_written) (defScope s_written) .none kV dc pm an cd ct) := by
  have F := fun_mk (st := s_written) lk c k
  exact ⟨F, PySem.W.mg_of X G a, F.binds (ps := ["_law_numbers", "_law_coarse", "_law_tables"]) fun _ _ _ _ _ _ us hl => match us, hl with | [_, _, _], _ => rfl⟩
theorem mkD_mark {K : PySem.W.Frag} {h : Heap} {mg : Str → Option Value} (X : K.In h) (G : h.Ns mainGlobals mg) {f : Addr} {od an : Option Addr} {sl : Array (Option Value)} {oc kV dc pm cd ct : Value} (a : PySem.W.nsIn K mainGlobals "_law_mark" = some (some (.ref f))) (lk : K.lookup f = some ⟨oc, od, .func (PySem.W.fnOf "_law_mark" "_law_mark" (defArgs s_mark) (defBody s_mark) (defScope s_mark) .none kV dc pm an cd ct), sl⟩) (c : PySem.W.codeIn K cd "_law_mark" = true) (k : PySem.W.keepIn K (.ref f) = true) : Dn K mg "_law_mark" s_mark ["_law_numbers"] f (PySem.W.fnOf "_law_mark" "_law_mark" (defArgs s_mark) (defBody s_mark) (defScope s_mark) .none kV dc pm an cd ct) := by
  have F := fun_mk (st := s_mark) lk c k
  exact ⟨F, PySem.W.mg_of X G a, F.binds (ps := ["_law_numbers"]) fun _ _ _ _ _ _ us hl => match us, hl with | [_], _ => rfl⟩
theorem mkD_made {K : PySem.W.Frag} {h : Heap} {mg : Str → Option Value} (X : K.In h) (G : h.Ns mainGlobals mg) {f : Addr} {od an : Option Addr} {sl : Array (Option Value)} {oc kV dc pm cd ct : Value} (a : PySem.W.nsIn K mainGlobals "_law_made" = some (some (.ref f))) (lk : K.lookup f = some ⟨oc, od, .func (PySem.W.fnOf "_law_made" "_law_made" (defArgs s_made) (defBody s_made) (defScope s_made) .none kV dc pm an cd ct), sl⟩) (c : PySem.W.codeIn K cd "_law_made" = true) (k : PySem.W.keepIn K (.ref f) = true) : Dn K mg "_law_made" s_made ["_law_pool_here", "_law_many"] f (PySem.W.fnOf "_law_made" "_law_made" (defArgs s_made) (defBody s_made) (defScope s_made) .none kV dc pm an cd ct) := by
  have F := fun_mk (st := s_made) lk c k
  exact ⟨F, PySem.W.mg_of X G a, F.binds (ps := ["_law_pool_here", "_law_many"]) fun _ _ _ _ _ _ us hl => match us, hl with | [_, _], _ => rfl⟩
theorem mkD_spoilt {K : PySem.W.Frag} {h : Heap} {mg : Str → Option Value} (X : K.In h) (G : h.Ns mainGlobals mg) {f : Addr} {od an : Option Addr} {sl : Array (Option Value)} {oc kV dc pm cd ct : Value} (a : PySem.W.nsIn K mainGlobals "_law_spoilt" = some (some (.ref f))) (lk : K.lookup f = some ⟨oc, od, .func (PySem.W.fnOf "_law_spoilt" "_law_spoilt" (defArgs s_spoilt) (defBody s_spoilt) (defScope s_spoilt) .none kV dc pm an cd ct), sl⟩) (c : PySem.W.codeIn K cd "_law_spoilt" = true) (k : PySem.W.keepIn K (.ref f) = true) : Dn K mg "_law_spoilt" s_spoilt ["_law_pool_here", "_law_records", "_law_at", "_law_kind"] f (PySem.W.fnOf "_law_spoilt" "_law_spoilt" (defArgs s_spoilt) (defBody s_spoilt) (defScope s_spoilt) .none kV dc pm an cd ct) := by
  have F := fun_mk (st := s_spoilt) lk c k
  exact ⟨F, PySem.W.mg_of X G a, F.binds (ps := ["_law_pool_here", "_law_records", "_law_at", "_law_kind"]) fun _ _ _ _ _ _ us hl => match us, hl with | [_, _, _, _], _ => rfl⟩
theorem mkD_due {K : PySem.W.Frag} {h : Heap} {mg : Str → Option Value} (X : K.In h) (G : h.Ns mainGlobals mg) {f : Addr} {od an : Option Addr} {sl : Array (Option Value)} {oc kV dc pm cd ct : Value} (a : PySem.W.nsIn K mainGlobals "_law_due" = some (some (.ref f))) (lk : K.lookup f = some ⟨oc, od, .func (PySem.W.fnOf "_law_due" "_law_due" (defArgs s_due) (defBody s_due) (defScope s_due) .none kV dc pm an cd ct), sl⟩) (c : PySem.W.codeIn K cd "_law_due" = true) (k : PySem.W.keepIn K (.ref f) = true) : Dn K mg "_law_due" s_due ["_law_records", "_law_spoilt_here"] f (PySem.W.fnOf "_law_due" "_law_due" (defArgs s_due) (defBody s_due) (defScope s_due) .none kV dc pm an cd ct) := by
  have F := fun_mk (st := s_due) lk c k
  exact ⟨F, PySem.W.mg_of X G a, F.binds (ps := ["_law_records", "_law_spoilt_here"]) fun _ _ _ _ _ _ us hl => match us, hl with | [_, _], _ => rfl⟩
theorem mkD_index {K : PySem.W.Frag} {h : Heap} {mg : Str → Option Value} (X : K.In h) (G : h.Ns mainGlobals mg) {f : Addr} {od an : Option Addr} {sl : Array (Option Value)} {oc kV dc pm cd ct : Value} (a : PySem.W.nsIn K mainGlobals "_law_index" = some (some (.ref f))) (lk : K.lookup f = some ⟨oc, od, .func (PySem.W.fnOf "_law_index" "_law_index" (defArgs s_index) (defBody s_index) (defScope s_index) .none kV dc pm an cd ct), sl⟩) (c : PySem.W.codeIn K cd "_law_index" = true) (k : PySem.W.keepIn K (.ref f) = true) : Dn K mg "_law_index" s_index ["_law_records"] f (PySem.W.fnOf "_law_index" "_law_index" (defArgs s_index) (defBody s_index) (defScope s_index) .none kV dc pm an cd ct) := by
  have F := fun_mk (st := s_index) lk c k
  exact ⟨F, PySem.W.mg_of X G a, F.binds (ps := ["_law_records"]) fun _ _ _ _ _ _ us hl => match us, hl with | [_], _ => rfl⟩
theorem mkD_place {K : PySem.W.Frag} {h : Heap} {mg : Str → Option Value} (X : K.In h) (G : h.Ns mainGlobals mg) {f : Addr} {od an : Option Addr} {sl : Array (Option Value)} {oc kV dc pm cd ct : Value} (a : PySem.W.nsIn K mainGlobals "_law_place" = some (some (.ref f))) (lk : K.lookup f = some ⟨oc, od, .func (PySem.W.fnOf "_law_place" "_law_place" (defArgs s_place) (defBody s_place) (defScope s_place) .none kV dc pm an cd ct), sl⟩) (c : PySem.W.codeIn K cd "_law_place" = true) (k : PySem.W.keepIn K (.ref f) = true) : Dn K mg "_law_place" s_place ["_law_stream", "_law_way", "_law_at"] f (PySem.W.fnOf "_law_place" "_law_place" (defArgs s_place) (defBody s_place) (defScope s_place) .none kV dc pm an cd ct) := by
  have F := fun_mk (st := s_place) lk c k
  exact ⟨F, PySem.W.mg_of X G a, F.binds (ps := ["_law_stream", "_law_way", "_law_at"]) fun _ _ _ _ _ _ us hl => match us, hl with | [_, _, _], _ => rfl⟩
theorem all_mk {l : PySem.W.OpenLaw} {w : World} {K : PySem.W.Frag} {h : Heap} {mg : Str → Option Value} {fa : Addr} (X : K.In h) (G : h.Ns mainGlobals mg) (hfa : mg "law" = some (.ref fa))
    {f_is_integer : Addr} {fd_is_integer : FuncData}
    {f_is_within : Addr} {fd_is_within : FuncData}
    {f_check_integer : Addr} {fd_check_integer : FuncData}
    {f_check_within : Addr} {fd_check_within : FuncData}
    {f_check_items : Addr} {fd_check_items : FuncData}
    {f_check_block : Addr} {fd_check_block : FuncData}
    {f_is_joint : Addr} {fd_is_joint : FuncData}
    {f_join_levels : Addr} {fd_join_levels : FuncData}
    {f_join_once : Addr} {fd_join_once : FuncData}
    {f_coarse_count : Addr} {fd_coarse_count : FuncData}
    {f_is_table : Addr} {fd_is_table : FuncData}
    {f_is_tables : Addr} {fd_is_tables : FuncData}
    {f_parameter : Addr} {fd_parameter : FuncData}
    {f_table_behind : Addr} {fd_table_behind : FuncData}
    {f_code_number : Addr} {fd_code_number : FuncData}
    {f_number_with : Addr} {fd_number_with : FuncData}
    {f_read_numbers : Addr} {fd_read_numbers : FuncData}
    {f_check_coding : Addr} {fd_check_coding : FuncData}
    {f_read_code : Addr} {fd_read_code : FuncData}
    {f_mark_of : Addr} {fd_mark_of : FuncData}
    {f_is_record : Addr} {fd_is_record : FuncData}
    {f_is_state : Addr} {fd_is_state : FuncData}
    {f_is_frame : Addr} {fd_is_frame : FuncData}
    {f_is_layout : Addr} {fd_is_layout : FuncData}
    {f_is_bits : Addr} {fd_is_bits : FuncData}
    {f_read_frame : Addr} {fd_read_frame : FuncData}
    {f_block_values : Addr} {fd_block_values : FuncData}
    {f_check_records : Addr} {fd_check_records : FuncData}
    {f_read_frames : Addr} {fd_read_frames : FuncData}
    {f_pool : Addr} {fd_pool : FuncData}
    {f_take : Addr} {fd_take : FuncData}
    {f_sizes : Addr} {fd_sizes : FuncData}
    {f_digits : Addr} {fd_digits : FuncData}
    {f_code : Addr} {fd_code : FuncData}
    {f_after : Addr} {fd_after : FuncData}
    {f_l_parameter : Addr} {fd_l_parameter : FuncData}
    {f_bits : Addr} {fd_bits : FuncData}
    {f_written : Addr} {fd_written : FuncData}
    {f_mark : Addr} {fd_mark : FuncData}
    {f_made : Addr} {fd_made : FuncData}
    {f_spoilt : Addr} {fd_spoilt : FuncData}
    {f_due : Addr} {fd_due : FuncData}
    {f_index : Addr} {fd_index : FuncData}
    {f_place : Addr} {fd_place : FuncData}
    {f_law : Addr} {od_law an_law : Option Addr} {sl_law : Array (Option Value)} {oc_law kV_law dc_law pm_law cd_law ct_law : Value}
    {t_BLOCK_LIMIT : Tok}
    {t_COUNT_LIMIT : Tok}
    {t_SHAPE_LIMIT : Tok}
    {t_WIDTH_LIMIT : Tok}
    {t_LEVEL_LIMIT : Tok}
    {t_STEP_LIMIT : Tok}
    {t_MARK_MODULUS : Tok}
    {t_HALVED_COUNT : Tok}
    {t_LONG_FORM : Tok}
    {t_MARK_FACTOR : Tok}
    {t_FRAME_ITEMS : Tok}
    (D_is_integer : Dn K mg "is_integer" s_is_integer ["value"] f_is_integer fd_is_integer)
    (D_is_within : Dn K mg "is_within" s_is_within ["value", "low", "high"] f_is_within fd_is_within)
    (D_check_integer : Dn K mg "check_integer" s_check_integer ["value"] f_check_integer fd_check_integer)
    (D_check_within : Dn K mg "check_within" s_check_within ["value", "low", "high"] f_check_within fd_check_within)
    (D_check_items : Dn K mg "check_items" s_check_items ["values"] f_check_items fd_check_items)
    (D_check_block : Dn K mg "check_block" s_check_block ["values", "least"] f_check_block fd_check_block)
    (D_is_joint : Dn K mg "is_joint" s_is_joint ["value"] f_is_joint fd_is_joint)
    (D_join_levels : Dn K mg "join_levels" s_join_levels ["numbers", "levels"] f_join_levels fd_join_levels)
    (D_join_once : Dn K mg "join_once" s_join_once ["sums", "differences"] f_join_once fd_join_once)
    (D_coarse_count : Dn K mg "coarse_count" s_coarse_count ["length", "levels"] f_coarse_count fd_coarse_count)
    (D_is_table : Dn K mg "is_table" s_is_table ["value"] f_is_table fd_is_table)
    (D_is_tables : Dn K mg "is_tables" s_is_tables ["value"] f_is_tables fd_is_tables)
    (D_parameter : Dn K mg "parameter" s_parameter ["table"] f_parameter fd_parameter)
    (D_table_behind : Dn K mg "table_behind" s_table_behind ["table", "code"] f_table_behind fd_table_behind)
    (D_code_number : Dn K mg "code_number" s_code_number ["number"] f_code_number fd_code_number)
    (D_number_with : Dn K mg "number_with" s_number_with ["code"] f_number_with fd_number_with)
    (D_read_numbers : Dn K mg "read_numbers" s_read_numbers ["bits", "length", "coarse", "tables"] f_read_numbers fd_read_numbers)
    (D_check_coding : Dn K mg "check_coding" s_check_coding ["length", "coarse", "tables"] f_check_coding fd_check_coding)
    (D_read_code : Dn K mg "read_code" s_read_code ["bits", "place", "k"] f_read_code fd_read_code)
    (D_mark_of : Dn K mg "mark_of" s_mark_of ["numbers"] f_mark_of fd_mark_of)
    (D_is_record : Dn K mg "is_record" s_is_record ["value"] f_is_record fd_is_record)
    (D_is_state : Dn K mg "is_state" s_is_state ["value"] f_is_state fd_is_state)
    (D_is_frame : Dn K mg "is_frame" s_is_frame ["value"] f_is_frame fd_is_frame)
    (D_is_layout : Dn K mg "is_layout" s_is_layout ["value"] f_is_layout fd_is_layout)
    (D_is_bits : Dn K mg "is_bits" s_is_bits ["value"] f_is_bits fd_is_bits)
    (D_read_frame : Dn K mg "read_frame" s_read_frame ["record", "tables"] f_read_frame fd_read_frame)
    (D_block_values : Dn K mg "block_values" s_block_values ["numbers", "levels", "step"] f_block_values fd_block_values)
    (D_check_records : Dn K mg "check_records" s_check_records ["records"] f_check_records fd_check_records)
    (D_read_frames : Dn K mg "read_frames" s_read_frames ["records"] f_read_frames fd_read_frames)
    (D_pool : Dn K mg "_law_pool" s_pool ["_law_script", "_law_k"] f_pool fd_pool)
    (D_take : Dn K mg "_law_take" s_take ["_law_pool_here", "_law_many"] f_take fd_take)
    (D_sizes : Dn K mg "_law_sizes" s_sizes ["_law_length", "_law_levels"] f_sizes fd_sizes)
    (D_digits : Dn K mg "_law_digits" s_digits ["_law_number"] f_digits fd_digits)
    (D_code : Dn K mg "_law_code" s_code ["_law_number"] f_code fd_code)
    (D_after : Dn K mg "_law_after" s_after ["_law_table", "_law_code_here"] f_after fd_after)
    (D_l_parameter : Dn K mg "_law_parameter" s_l_parameter ["_law_table"] f_l_parameter fd_l_parameter)
    (D_bits : Dn K mg "_law_bits" s_bits ["_law_table", "_law_code_here"] f_bits fd_bits)
    (D_written : Dn K mg "_law_written" s_written ["_law_numbers", "_law_coarse", "_law_tables"] f_written fd_written)
    (D_mark : Dn K mg "_law_mark" s_mark ["_law_numbers"] f_mark fd_mark)
    (D_made : Dn K mg "_law_made" s_made ["_law_pool_here", "_law_many"] f_made fd_made)
    (D_spoilt : Dn K mg "_law_spoilt" s_spoilt ["_law_pool_here", "_law_records", "_law_at", "_law_kind"] f_spoilt fd_spoilt)
    (D_due : Dn K mg "_law_due" s_due ["_law_records", "_law_spoilt_here"] f_due fd_due)
    (D_index : Dn K mg "_law_index" s_index ["_law_records"] f_index fd_index)
    (D_place : Dn K mg "_law_place" s_place ["_law_stream", "_law_way", "_law_at"] f_place fd_place)
    (a_law : PySem.W.nsIn K mainGlobals "law" = some (some (.ref f_law))) (l_law : K.lookup f_law = some ⟨oc_law, od_law, .func (PySem.W.fnOf "law" "law" (defArgs s_law) (defBody s_law) (defScope s_law) .none kV_law dc_law pm_law an_law cd_law ct_law), sl_law⟩) (c_law : PySem.W.codeIn K cd_law "law" = true) (k_law : PySem.W.keepIn K (.ref f_law) = true)
    (a_BLOCK_LIMIT : PySem.W.nsIn K mainGlobals "BLOCK_LIMIT" = some (some (.int 64 t_BLOCK_LIMIT)))
    (a_COUNT_LIMIT : PySem.W.nsIn K mainGlobals "COUNT_LIMIT" = some (some (.int 15 t_COUNT_LIMIT)))
    (a_SHAPE_LIMIT : PySem.W.nsIn K mainGlobals "SHAPE_LIMIT" = some (some (.int 3 t_SHAPE_LIMIT)))
    (a_WIDTH_LIMIT : PySem.W.nsIn K mainGlobals "WIDTH_LIMIT" = some (some (.int 8 t_WIDTH_LIMIT)))
    (a_LEVEL_LIMIT : PySem.W.nsIn K mainGlobals "LEVEL_LIMIT" = some (some (.int 5 t_LEVEL_LIMIT)))
    (a_STEP_LIMIT : PySem.W.nsIn K mainGlobals "STEP_LIMIT" = some (some (.int 64 t_STEP_LIMIT)))
    (a_MARK_MODULUS : PySem.W.nsIn K mainGlobals "MARK_MODULUS" = some (some (.int 9973 t_MARK_MODULUS)))
    (a_HALVED_COUNT : PySem.W.nsIn K mainGlobals "HALVED_COUNT" = some (some (.int 8 t_HALVED_COUNT)))
    (a_LONG_FORM : PySem.W.nsIn K mainGlobals "LONG_FORM" = some (some (.int 20 t_LONG_FORM)))
    (a_MARK_FACTOR : PySem.W.nsIn K mainGlobals "MARK_FACTOR" = some (some (.int 31 t_MARK_FACTOR)))
    (a_FRAME_ITEMS : PySem.W.nsIn K mainGlobals "FRAME_ITEMS" = some (some (.int 7 t_FRAME_ITEMS)))
    {a_START t0 t1 a_HARD : Addr} {oS o0 o1 oH : Option Addr} {nS n0 n1 nH : Nat} {qS q0 q1 qH : Array (Option Value)} {b0 b1 d0 d1 bH dH : Tok} (zS : PySem.W.nsIn K mainGlobals "START" = some (some (.ref a_START))) (lS : K.lookup a_START = some ⟨.type "tuple", oS, .seq #[.ref t0, .ref t1] nS, qS⟩) (lt0 : K.lookup t0 = some ⟨.type "tuple", o0, .seq #[.int 2 b0, .int 1 d0] n0, q0⟩) (lt1 : K.lookup t1 = some ⟨.type "tuple", o1, .seq #[.int 2 b1, .int 1 d1] n1, q1⟩)
    (zH : PySem.W.nsIn K mainGlobals "HARD" = some (some (.ref a_HARD))) (lH : K.lookup a_HARD = some ⟨.type "tuple", oH, .seq #[.int 0 bH, .int 0 dH] nH, qH⟩)
     (z_sorted : PySem.W.nsIn K mainGlobals "sorted" = some none)
    {a_COEFFICIENTS ct0 ct1 ct2 ct3 : Addr} {oC co0 co1 co2 co3 : Option Addr} {nC cn0 cn1 cn2 cn3 : Nat} {qC cq0 cq1 cq2 cq3 : Array (Option Value)} {cb0 cb1 cb2 cb3 cd0 cd1 cd2 cd3 : Tok} (zC : PySem.W.nsIn K mainGlobals "COEFFICIENTS" = some (some (.ref a_COEFFICIENTS))) (lC : K.lookup a_COEFFICIENTS = some ⟨.type "tuple", oC, .seq #[.ref ct0, .ref ct1, .ref ct2, .ref ct3] nC, qC⟩)
    (l0 : K.lookup ct0 = some ⟨.type "tuple", co0, .seq #[.int (-1) cb0, .int 2 cd0] cn0, cq0⟩) (l1 : K.lookup ct1 = some ⟨.type "tuple", co1, .seq #[.int (-2) cb1, .int 3 cd1] cn1, cq1⟩)
    (l2 : K.lookup ct2 = some ⟨.type "tuple", co2, .seq #[.int 1 cb2, .int (-2) cd2] cn2, cq2⟩) (l3 : K.lookup ct3 = some ⟨.type "tuple", co3, .seq #[.int 2 cb3, .int (-3) cd3] cn3, cq3⟩)
     (z_dg1 : PySem.W.nsIn K cStatics "sys.int_max_str_digits" = some none)
     (z_dg2 : PySem.W.nsOkIn K cStatics = true)
     (z_repr : PySem.W.nsIn K mainGlobals "repr" = some none)
    (z_int : PySem.W.nsIn K mainGlobals "int" = some none)
    (z_bool : PySem.W.nsIn K mainGlobals "bool" = some none)
    (z_str : PySem.W.nsIn K mainGlobals "str" = some none)
    (z_list : PySem.W.nsIn K mainGlobals "list" = some none)
    (z_tuple : PySem.W.nsIn K mainGlobals "tuple" = some none)
    (z_len : PySem.W.nsIn K mainGlobals "len" = some none)
    (z_abs : PySem.W.nsIn K mainGlobals "abs" = some none)
    (z_max : PySem.W.nsIn K mainGlobals "max" = some none)
    (z_min : PySem.W.nsIn K mainGlobals "min" = some none)
    (z_range : PySem.W.nsIn K mainGlobals "range" = some none)
    (z_zip : PySem.W.nsIn K mainGlobals "zip" = some none)
    (z_isinstance : PySem.W.nsIn K mainGlobals "isinstance" = some none)
    (z_enumerate : PySem.W.nsIn K mainGlobals "enumerate" = some none)
    (z_reversed : PySem.W.nsIn K mainGlobals "reversed" = some none)
    {C_Stream : Addr} (x_Stream : PySem.W.nsIn K mainGlobals "Stream" = some (some (.ref C_Stream))) (pg_Stream : PySem.W.plainGet K C_Stream Str.empty = true) (hd_Stream : PySem.W.hasDictIn K C_Stream = true) (po_Stream : PySem.W.plainOver K C_Stream = true) (sa_Stream : PySem.W.findIn K (.ref C_Stream) "__setattr__" = some (some (.builtin "object.__setattr__"))) (mk_Stream : PySem.W.makesIn K C_Stream = true) (kc_Stream : PySem.W.keepIn K (.ref C_Stream) = true)
    (na_Stream_held : PySem.W.findIn K (.ref C_Stream) "held" = some none)
    (na_Stream_read : PySem.W.findIn K (.ref C_Stream) "read" = some none)
    {C_JoinError C_InvalidStream C_InvalidPlace : Addr}
    (x_JoinError : PySem.W.nsIn K mainGlobals "JoinError" = some (some (.ref C_JoinError)))
    (x_InvalidStream : PySem.W.nsIn K mainGlobals "InvalidStream" = some (some (.ref C_InvalidStream)))
    (x_InvalidPlace : PySem.W.nsIn K mainGlobals "InvalidPlace" = some (some (.ref C_InvalidPlace)))
    {N_InvalidStream fI_InvalidStream : Addr} {nm_InvalidStream qn_InvalidStream : Str} {bs_InvalidStream : List Value} {sn_InvalidStream : List Str} {sb_InvalidStream : List Value} {ab_InvalidStream : Bool} {co_InvalidStream : Option Bool} {dd_InvalidStream : Option Addr} {m0_InvalidStream m1_InvalidStream m2_InvalidStream m3_InvalidStream m5_InvalidStream : Option Value} {odi_InvalidStream ani_InvalidStream : Option Addr} {sli_InvalidStream : Array (Option Value)} {oci_InvalidStream kVi_InvalidStream dci_InvalidStream pmi_InvalidStream cdi_InvalidStream cti_InvalidStream : Value}
    (xl_InvalidStream : K.lookup C_InvalidStream = some (PySem.excClassObj nm_InvalidStream qn_InvalidStream C_InvalidStream N_InvalidStream bs_InvalidStream [.ref C_JoinError, .type "ValueError", .type "Exception", .type "BaseException", .type "object"] true sn_InvalidStream sb_InvalidStream ab_InvalidStream co_InvalidStream dd_InvalidStream m0_InvalidStream m1_InvalidStream m2_InvalidStream m3_InvalidStream m5_InvalidStream "ValueError.__new__"))
    (sa_InvalidStream : PySem.W.findIn K (.ref C_InvalidStream) "__setattr__" = some (some (.builtin "object.__setattr__")))
    (ga_InvalidStream : PySem.W.findIn K (.ref C_InvalidStream) "__getattribute__" = some (some (.builtin "BaseException.__getattribute__")))
    (gg_InvalidStream : PySem.W.findIn K (.ref C_InvalidStream) "__getattr__" = some none)
    (nf_InvalidStream : PySem.W.findIn K (.ref C_InvalidStream) "index" = some none)
    (ic_InvalidStream : PySem.W.findIn K (.ref C_InvalidStream) "__init__" = some (some (.ref fI_InvalidStream)))
    (ti_InvalidStream : PySem.W.typeIn K (.ref fI_InvalidStream) = some (.type "function"))
    (cac_InvalidStream : PySem.W.findIn K (.ref C_InvalidStream) "__class__" = some (some (.builtin "object.__class__")))
    (cmc_InvalidStream : PySem.W.mroIn K C_InvalidStream (.type "object") = some true)
    (kc_InvalidStream : PySem.W.keepIn K (.ref C_InvalidStream) = true)
    (sB_InvalidStream : PySem.W.subIn K (.ref C_InvalidStream) (.type "BaseException") = some true)
    (tc_InvalidStream : PySem.W.typeIn K (.ref C_InvalidStream) = some (.type "type"))
    (hd_InvalidStream : PySem.W.hasDictIn K C_InvalidStream = true)
    (ss_InvalidStream : PySem.W.subIn K (.ref C_InvalidStream) (.ref C_InvalidStream) = some true)
    (li_InvalidStream : K.lookup fI_InvalidStream = some ⟨oci_InvalidStream, odi_InvalidStream, .func (PySem.W.fnOf "__init__" "InvalidStream.__init__" (defArgs s_init_InvalidStream) (defBody s_init_InvalidStream) (defScope s_init_InvalidStream) .none kVi_InvalidStream dci_InvalidStream pmi_InvalidStream ani_InvalidStream cdi_InvalidStream cti_InvalidStream), sli_InvalidStream⟩)
    (ci_InvalidStream : PySem.W.codeIn K cdi_InvalidStream "InvalidStream.__init__" = true)
    (ki_InvalidStream : PySem.W.keepIn K (.ref fI_InvalidStream) = true)
    {N_InvalidPlace fI_InvalidPlace : Addr} {nm_InvalidPlace qn_InvalidPlace : Str} {bs_InvalidPlace : List Value} {sn_InvalidPlace : List Str} {sb_InvalidPlace : List Value} {ab_InvalidPlace : Bool} {co_InvalidPlace : Option Bool} {dd_InvalidPlace : Option Addr} {m0_InvalidPlace m1_InvalidPlace m2_InvalidPlace m3_InvalidPlace m5_InvalidPlace : Option Value} {odi_InvalidPlace ani_InvalidPlace : Option Addr} {sli_InvalidPlace : Array (Option Value)} {oci_InvalidPlace kVi_InvalidPlace dci_InvalidPlace pmi_InvalidPlace cdi_InvalidPlace cti_InvalidPlace : Value}
    (xl_InvalidPlace : K.lookup C_InvalidPlace = some (PySem.excClassObj nm_InvalidPlace qn_InvalidPlace C_InvalidPlace N_InvalidPlace bs_InvalidPlace [.type "IndexError", .type "LookupError", .type "Exception", .type "BaseException", .type "object"] true sn_InvalidPlace sb_InvalidPlace ab_InvalidPlace co_InvalidPlace dd_InvalidPlace m0_InvalidPlace m1_InvalidPlace m2_InvalidPlace m3_InvalidPlace m5_InvalidPlace "IndexError.__new__"))
    (sa_InvalidPlace : PySem.W.findIn K (.ref C_InvalidPlace) "__setattr__" = some (some (.builtin "object.__setattr__")))
    (ga_InvalidPlace : PySem.W.findIn K (.ref C_InvalidPlace) "__getattribute__" = some (some (.builtin "BaseException.__getattribute__")))
    (gg_InvalidPlace : PySem.W.findIn K (.ref C_InvalidPlace) "__getattr__" = some none)
    (nf_InvalidPlace : PySem.W.findIn K (.ref C_InvalidPlace) "value" = some none)
    (ic_InvalidPlace : PySem.W.findIn K (.ref C_InvalidPlace) "__init__" = some (some (.ref fI_InvalidPlace)))
    (ti_InvalidPlace : PySem.W.typeIn K (.ref fI_InvalidPlace) = some (.type "function"))
    (cac_InvalidPlace : PySem.W.findIn K (.ref C_InvalidPlace) "__class__" = some (some (.builtin "object.__class__")))
    (cmc_InvalidPlace : PySem.W.mroIn K C_InvalidPlace (.type "object") = some true)
    (kc_InvalidPlace : PySem.W.keepIn K (.ref C_InvalidPlace) = true)
    (sB_InvalidPlace : PySem.W.subIn K (.ref C_InvalidPlace) (.type "BaseException") = some true)
    (tc_InvalidPlace : PySem.W.typeIn K (.ref C_InvalidPlace) = some (.type "type"))
    (hd_InvalidPlace : PySem.W.hasDictIn K C_InvalidPlace = true)
    (ss_InvalidPlace : PySem.W.subIn K (.ref C_InvalidPlace) (.ref C_InvalidPlace) = some true)
    (li_InvalidPlace : K.lookup fI_InvalidPlace = some ⟨oci_InvalidPlace, odi_InvalidPlace, .func (PySem.W.fnOf "__init__" "InvalidPlace.__init__" (defArgs s_init_InvalidPlace) (defBody s_init_InvalidPlace) (defScope s_init_InvalidPlace) .none kVi_InvalidPlace dci_InvalidPlace pmi_InvalidPlace ani_InvalidPlace cdi_InvalidPlace cti_InvalidPlace), sli_InvalidPlace⟩)
    (ci_InvalidPlace : PySem.W.codeIn K cdi_InvalidPlace "InvalidPlace.__init__" = true)
    (ki_InvalidPlace : PySem.W.keepIn K (.ref fI_InvalidPlace) = true)
    (cn : PySem.W.specialIn K (.builtin "object.__class__") "__get__" = some (some (.builtin "getset_descriptor.__get__"))) (ct : PySem.W.takesIn K (.builtin "object.__class__") = some true)
    (u_InvalidStream_JoinError : PySem.W.subIn K (.ref C_InvalidStream) (.ref C_JoinError) = some true) (n_InvalidStream_JoinError : C_InvalidStream ≠ C_JoinError)
    (y_JoinError : PySem.W.typeIn K (.ref C_JoinError) = some (.type "type")) (i_JoinError : PySem.W.isClsIn K C_JoinError = true)
    {f_Stream___init__ : Addr} {od_Stream___init__ an_Stream___init__ : Option Addr} {sl_Stream___init__ : Array (Option Value)} {oc_Stream___init__ kV_Stream___init__ dc_Stream___init__ pm_Stream___init__ cd_Stream___init__ ct_Stream___init__ : Value}
    (at_Stream___init__ : PySem.W.findIn K (.ref C_Stream) "__init__" = some (some (.ref f_Stream___init__))) (if_Stream___init__ : PySem.W.isFn K (.ref f_Stream___init__) = true)
    (l_Stream___init__ : K.lookup f_Stream___init__ = some ⟨oc_Stream___init__, od_Stream___init__, .func (PySem.W.fnOf "__init__" "Stream.__init__" (defArgs s_Stream___init__) (defBody s_Stream___init__) (defScope s_Stream___init__) .none kV_Stream___init__ dc_Stream___init__ pm_Stream___init__ an_Stream___init__ cd_Stream___init__ ct_Stream___init__), sl_Stream___init__⟩) (c_Stream___init__ : PySem.W.codeIn K cd_Stream___init__ "Stream.__init__" = true) (k_Stream___init__ : PySem.W.keepIn K (.ref f_Stream___init__) = true)
    {f_Stream_block : Addr} {od_Stream_block an_Stream_block : Option Addr} {sl_Stream_block : Array (Option Value)} {oc_Stream_block kV_Stream_block dc_Stream_block pm_Stream_block cd_Stream_block ct_Stream_block : Value}
    (at_Stream_block : PySem.W.findIn K (.ref C_Stream) "block" = some (some (.ref f_Stream_block))) (if_Stream_block : PySem.W.isFn K (.ref f_Stream_block) = true)
    (l_Stream_block : K.lookup f_Stream_block = some ⟨oc_Stream_block, od_Stream_block, .func (PySem.W.fnOf "block" "Stream.block" (defArgs s_Stream_block) (defBody s_Stream_block) (defScope s_Stream_block) .none kV_Stream_block dc_Stream_block pm_Stream_block an_Stream_block cd_Stream_block ct_Stream_block), sl_Stream_block⟩) (c_Stream_block : PySem.W.codeIn K cd_Stream_block "Stream.block" = true) (k_Stream_block : PySem.W.keepIn K (.ref f_Stream_block) = true)
    {f_Stream_numbers : Addr} {od_Stream_numbers an_Stream_numbers : Option Addr} {sl_Stream_numbers : Array (Option Value)} {oc_Stream_numbers kV_Stream_numbers dc_Stream_numbers pm_Stream_numbers cd_Stream_numbers ct_Stream_numbers : Value}
    (at_Stream_numbers : PySem.W.findIn K (.ref C_Stream) "numbers" = some (some (.ref f_Stream_numbers))) (if_Stream_numbers : PySem.W.isFn K (.ref f_Stream_numbers) = true)
    (l_Stream_numbers : K.lookup f_Stream_numbers = some ⟨oc_Stream_numbers, od_Stream_numbers, .func (PySem.W.fnOf "numbers" "Stream.numbers" (defArgs s_Stream_numbers) (defBody s_Stream_numbers) (defScope s_Stream_numbers) .none kV_Stream_numbers dc_Stream_numbers pm_Stream_numbers an_Stream_numbers cd_Stream_numbers ct_Stream_numbers), sl_Stream_numbers⟩) (c_Stream_numbers : PySem.W.codeIn K cd_Stream_numbers "Stream.numbers" = true) (k_Stream_numbers : PySem.W.keepIn K (.ref f_Stream_numbers) = true)
    {f_Stream_contents : Addr} {od_Stream_contents an_Stream_contents : Option Addr} {sl_Stream_contents : Array (Option Value)} {oc_Stream_contents kV_Stream_contents dc_Stream_contents pm_Stream_contents cd_Stream_contents ct_Stream_contents : Value}
    (at_Stream_contents : PySem.W.findIn K (.ref C_Stream) "contents" = some (some (.ref f_Stream_contents))) (if_Stream_contents : PySem.W.isFn K (.ref f_Stream_contents) = true)
    (l_Stream_contents : K.lookup f_Stream_contents = some ⟨oc_Stream_contents, od_Stream_contents, .func (PySem.W.fnOf "contents" "Stream.contents" (defArgs s_Stream_contents) (defBody s_Stream_contents) (defScope s_Stream_contents) .none kV_Stream_contents dc_Stream_contents pm_Stream_contents an_Stream_contents cd_Stream_contents ct_Stream_contents), sl_Stream_contents⟩) (c_Stream_contents : PySem.W.codeIn K cd_Stream_contents "Stream.contents" = true) (k_Stream_contents : PySem.W.keepIn K (.ref f_Stream_contents) = true)
    {f_Stream_tables_before : Addr} {od_Stream_tables_before an_Stream_tables_before : Option Addr} {sl_Stream_tables_before : Array (Option Value)} {oc_Stream_tables_before kV_Stream_tables_before dc_Stream_tables_before pm_Stream_tables_before cd_Stream_tables_before ct_Stream_tables_before : Value}
    (at_Stream_tables_before : PySem.W.findIn K (.ref C_Stream) "tables_before" = some (some (.ref f_Stream_tables_before))) (if_Stream_tables_before : PySem.W.isFn K (.ref f_Stream_tables_before) = true)
    (l_Stream_tables_before : K.lookup f_Stream_tables_before = some ⟨oc_Stream_tables_before, od_Stream_tables_before, .func (PySem.W.fnOf "tables_before" "Stream.tables_before" (defArgs s_Stream_tables_before) (defBody s_Stream_tables_before) (defScope s_Stream_tables_before) .none kV_Stream_tables_before dc_Stream_tables_before pm_Stream_tables_before an_Stream_tables_before cd_Stream_tables_before ct_Stream_tables_before), sl_Stream_tables_before⟩) (c_Stream_tables_before : PySem.W.codeIn K cd_Stream_tables_before "Stream.tables_before" = true) (k_Stream_tables_before : PySem.W.keepIn K (.ref f_Stream_tables_before) = true)
    {f_Stream_tables_after : Addr} {od_Stream_tables_after an_Stream_tables_after : Option Addr} {sl_Stream_tables_after : Array (Option Value)} {oc_Stream_tables_after kV_Stream_tables_after dc_Stream_tables_after pm_Stream_tables_after cd_Stream_tables_after ct_Stream_tables_after : Value}
    (at_Stream_tables_after : PySem.W.findIn K (.ref C_Stream) "tables_after" = some (some (.ref f_Stream_tables_after))) (if_Stream_tables_after : PySem.W.isFn K (.ref f_Stream_tables_after) = true)
    (l_Stream_tables_after : K.lookup f_Stream_tables_after = some ⟨oc_Stream_tables_after, od_Stream_tables_after, .func (PySem.W.fnOf "tables_after" "Stream.tables_after" (defArgs s_Stream_tables_after) (defBody s_Stream_tables_after) (defScope s_Stream_tables_after) .none kV_Stream_tables_after dc_Stream_tables_after pm_Stream_tables_after an_Stream_tables_after cd_Stream_tables_after ct_Stream_tables_after), sl_Stream_tables_after⟩) (c_Stream_tables_after : PySem.W.codeIn K cd_Stream_tables_after "Stream.tables_after" = true) (k_Stream_tables_after : PySem.W.keepIn K (.ref f_Stream_tables_after) = true)
    {f_Stream_part_of : Addr} {od_Stream_part_of an_Stream_part_of : Option Addr} {sl_Stream_part_of : Array (Option Value)} {oc_Stream_part_of kV_Stream_part_of dc_Stream_part_of pm_Stream_part_of cd_Stream_part_of ct_Stream_part_of : Value}
    (at_Stream_part_of : PySem.W.findIn K (.ref C_Stream) "part_of" = some (some (.ref f_Stream_part_of))) (if_Stream_part_of : PySem.W.isFn K (.ref f_Stream_part_of) = true)
    (l_Stream_part_of : K.lookup f_Stream_part_of = some ⟨oc_Stream_part_of, od_Stream_part_of, .func (PySem.W.fnOf "part_of" "Stream.part_of" (defArgs s_Stream_part_of) (defBody s_Stream_part_of) (defScope s_Stream_part_of) .none kV_Stream_part_of dc_Stream_part_of pm_Stream_part_of an_Stream_part_of cd_Stream_part_of ct_Stream_part_of), sl_Stream_part_of⟩) (c_Stream_part_of : PySem.W.codeIn K cd_Stream_part_of "Stream.part_of" = true) (k_Stream_part_of : PySem.W.keepIn K (.ref f_Stream_part_of) = true)
    : ∃ fd : FuncData, (∀ (s : Shared) (v : Value), BindsTo s fd ⟨[v], []⟩ [("_law_script", v)]) ∧ ∀ base : Heap, K.In base → base.Ns mainGlobals mg → FnOk l.prog w K mg base CX0 12 fa fd ["_law_script"] (spLaw K) := by
  have e := hfa.symm.trans (PySem.W.mg_of X G a_law)
  cases e
  have bi : Bi mg := ⟨PySem.W.mg_none_of X G z_int, PySem.W.mg_none_of X G z_bool, PySem.W.mg_none_of X G z_str, PySem.W.mg_none_of X G z_list, PySem.W.mg_none_of X G z_tuple, PySem.W.mg_none_of X G z_len, PySem.W.mg_none_of X G z_abs, PySem.W.mg_none_of X G z_max, PySem.W.mg_none_of X G z_min, PySem.W.mg_none_of X G z_range, PySem.W.mg_none_of X G z_zip, PySem.W.mg_none_of X G z_isinstance, PySem.W.mg_none_of X G z_enumerate, PySem.W.mg_none_of X G z_reversed⟩
  have F_law := fun_mk (st := s_law) l_law c_law k_law
  have D_law : Dn K mg "law" s_law ["_law_script"] _ _ := ⟨F_law, PySem.W.mg_of X G a_law, F_law.binds (ps := ["_law_script"]) fun _ _ _ _ _ _ us hl => match us, hl with | [_], _ => rfl⟩
  have TC_Stream : StmC K mg C_Stream := ⟨⟨pg_Stream, hd_Stream, po_Stream, sa_Stream⟩, PySem.W.mg_of X G x_Stream, mk_Stream, kc_Stream, na_Stream_held, na_Stream_read⟩
  have F_Stream___init__ := fun_mk (st := s_Stream___init__) l_Stream___init__ c_Stream___init__ k_Stream___init__
  have D_Stream___init__ : Mn K C_Stream "__init__" "Stream.__init__" s_Stream___init__ ["self", "records"] _ _ := ⟨F_Stream___init__, ⟨at_Stream___init__, if_Stream___init__, k_Stream___init__⟩, F_Stream___init__.binds (ps := ["self", "records"]) fun _ _ _ _ _ _ us hl => match us, hl with | [_, _], _ => rfl⟩
  have F_Stream_block := fun_mk (st := s_Stream_block) l_Stream_block c_Stream_block k_Stream_block
  have D_Stream_block : Mn K C_Stream "block" "Stream.block" s_Stream_block ["self", "frame"] _ _ := ⟨F_Stream_block, ⟨at_Stream_block, if_Stream_block, k_Stream_block⟩, F_Stream_block.binds (ps := ["self", "frame"]) fun _ _ _ _ _ _ us hl => match us, hl with | [_, _], _ => rfl⟩
  have F_Stream_numbers := fun_mk (st := s_Stream_numbers) l_Stream_numbers c_Stream_numbers k_Stream_numbers
  have D_Stream_numbers : Mn K C_Stream "numbers" "Stream.numbers" s_Stream_numbers ["self", "frame"] _ _ := ⟨F_Stream_numbers, ⟨at_Stream_numbers, if_Stream_numbers, k_Stream_numbers⟩, F_Stream_numbers.binds (ps := ["self", "frame"]) fun _ _ _ _ _ _ us hl => match us, hl with | [_, _], _ => rfl⟩
  have F_Stream_contents := fun_mk (st := s_Stream_contents) l_Stream_contents c_Stream_contents k_Stream_contents
  have D_Stream_contents : Mn K C_Stream "contents" "Stream.contents" s_Stream_contents ["self", "frame"] _ _ := ⟨F_Stream_contents, ⟨at_Stream_contents, if_Stream_contents, k_Stream_contents⟩, F_Stream_contents.binds (ps := ["self", "frame"]) fun _ _ _ _ _ _ us hl => match us, hl with | [_, _], _ => rfl⟩
  have F_Stream_tables_before := fun_mk (st := s_Stream_tables_before) l_Stream_tables_before c_Stream_tables_before k_Stream_tables_before
  have D_Stream_tables_before : Mn K C_Stream "tables_before" "Stream.tables_before" s_Stream_tables_before ["self", "frame"] _ _ := ⟨F_Stream_tables_before, ⟨at_Stream_tables_before, if_Stream_tables_before, k_Stream_tables_before⟩, F_Stream_tables_before.binds (ps := ["self", "frame"]) fun _ _ _ _ _ _ us hl => match us, hl with | [_, _], _ => rfl⟩
  have F_Stream_tables_after := fun_mk (st := s_Stream_tables_after) l_Stream_tables_after c_Stream_tables_after k_Stream_tables_after
  have D_Stream_tables_after : Mn K C_Stream "tables_after" "Stream.tables_after" s_Stream_tables_after ["self", "frame"] _ _ := ⟨F_Stream_tables_after, ⟨at_Stream_tables_after, if_Stream_tables_after, k_Stream_tables_after⟩, F_Stream_tables_after.binds (ps := ["self", "frame"]) fun _ _ _ _ _ _ us hl => match us, hl with | [_, _], _ => rfl⟩
  have F_Stream_part_of := fun_mk (st := s_Stream_part_of) l_Stream_part_of c_Stream_part_of k_Stream_part_of
  have D_Stream_part_of : Mn K C_Stream "part_of" "Stream.part_of" s_Stream_part_of ["self", "frame", "part"] _ _ := ⟨F_Stream_part_of, ⟨at_Stream_part_of, if_Stream_part_of, k_Stream_part_of⟩, F_Stream_part_of.binds (ps := ["self", "frame", "part"]) fun _ _ _ _ _ _ us hl => match us, hl with | [_, _, _], _ => rfl⟩
  have F_init_InvalidStream := fun_mk (st := s_init_InvalidStream) li_InvalidStream ci_InvalidStream ki_InvalidStream
  have B_init_InvalidStream := F_init_InvalidStream.binds (ps := ["self", "index"]) fun _ _ _ _ _ _ us hl => match us, hl with | [_, _], _ => rfl
  have E_InvalidStream : EC K mg "InvalidStream" "index" C_InvalidStream fI_InvalidStream := ec_mk (PySem.W.mg_of X G x_InvalidStream) xl_InvalidStream rfl sa_InvalidStream ga_InvalidStream gg_InvalidStream nf_InvalidStream ic_InvalidStream ti_InvalidStream cac_InvalidStream cn ct cmc_InvalidStream kc_InvalidStream sB_InvalidStream tc_InvalidStream hd_InvalidStream ss_InvalidStream
  have F_init_InvalidPlace := fun_mk (st := s_init_InvalidPlace) li_InvalidPlace ci_InvalidPlace ki_InvalidPlace
  have B_init_InvalidPlace := F_init_InvalidPlace.binds (ps := ["self", "value"]) fun _ _ _ _ _ _ us hl => match us, hl with | [_, _], _ => rfl
  have E_InvalidPlace : EG K mg "InvalidPlace" "value" C_InvalidPlace fI_InvalidPlace "IndexError" _ _ _ := eg_mk PySem.F.excBase_IndexError PySem.F.store_IndexError (PySem.W.mg_of X G x_InvalidPlace) xl_InvalidPlace sa_InvalidPlace ga_InvalidPlace gg_InvalidPlace nf_InvalidPlace ic_InvalidPlace ti_InvalidPlace cac_InvalidPlace cn ct cmc_InvalidPlace kc_InvalidPlace sB_InvalidPlace tc_InvalidPlace hd_InvalidPlace ss_InvalidPlace
  have g_JoinError := PySem.W.mg_of X G x_JoinError
  have g_InvalidStream := PySem.W.mg_of X G x_InvalidStream
  have g_InvalidPlace := PySem.W.mg_of X G x_InvalidPlace
  have q_InvalidStream_JoinError := kit_ref u_InvalidStream_JoinError n_InvalidStream_JoinError i_JoinError y_JoinError
  refine ⟨PySem.W.fnOf "law" "law" (defArgs s_law) (defBody s_law) (defScope s_law) .none kV_law dc_law pm_law an_law cd_law ct_law, fun s v => .of_eq rfl, fun base _ _ => ?_⟩
  have hSt := tupV_K (xs := [.ref t0, .ref t1]) lS (Nat.le_of_ble_eq_true rfl) (.cons rfl (.cons rfl .nil))
  have hS0 := tupV_K (xs := [.int 2, .int 1]) lt0 (Nat.le_of_ble_eq_true rfl) (.cons ⟨_, rfl⟩ (.cons ⟨_, rfl⟩ .nil))
  have hS1 := tupV_K (xs := [.int 2, .int 1]) lt1 (Nat.le_of_ble_eq_true rfl) (.cons ⟨_, rfl⟩ (.cons ⟨_, rfl⟩ .nil))
  have hHd := tupV_K (xs := [.int 0, .int 0]) lH (Nat.le_of_ble_eq_true rfl) (.cons ⟨_, rfl⟩ (.cons ⟨_, rfl⟩ .nil))
  have hCo := seqT_K (xs := [.ref ct0, .ref ct1, .ref ct2, .ref ct3]) lC (Nat.le_of_ble_eq_true rfl) (.cons rfl (.cons rfl (.cons rfl (.cons rfl .nil))))
  have hC0 := seqT_K (xs := [.int (-1), .int 2]) l0 (Nat.le_of_ble_eq_true rfl) (.cons ⟨_, rfl⟩ (.cons ⟨_, rfl⟩ .nil))
  have hC1 := seqT_K (xs := [.int (-2), .int 3]) l1 (Nat.le_of_ble_eq_true rfl) (.cons ⟨_, rfl⟩ (.cons ⟨_, rfl⟩ .nil))
  have hC2 := seqT_K (xs := [.int 1, .int (-2)]) l2 (Nat.le_of_ble_eq_true rfl) (.cons ⟨_, rfl⟩ (.cons ⟨_, rfl⟩ .nil))
  have hC3 := seqT_K (xs := [.int 2, .int (-3)]) l3 (Nat.le_of_ble_eq_true rfl) (.cons ⟨_, rfl⟩ (.cons ⟨_, rfl⟩ .nil))
  have zdg : DgK K := ⟨z_dg2, z_dg1⟩
  have T_InvalidPlace : ErrG l.prog w K mg base "InvalidPlace" "value" C_InvalidPlace := ⟨_, _, _, _, _, _, E_InvalidPlace, ok_init_InvalidPlace F_init_InvalidPlace E_InvalidPlace, B_init_InvalidPlace⟩
  have T_InvalidStream : ErrK l.prog w K mg base "InvalidStream" "index" C_InvalidStream := ⟨_, _, E_InvalidStream, ok_init_InvalidStream F_init_InvalidStream E_InvalidStream, B_init_InvalidStream⟩
  have G_is_integer := ok_is_integer (P := l.prog) (w := w) (base := base) D_is_integer bi     
  have G_is_within := ok_is_within (P := l.prog) (w := w) (base := base) D_is_within bi G_is_integer D_is_integer    
  have G_is_joint := ok_is_joint (P := l.prog) (w := w) (base := base) D_is_joint bi G_is_within D_is_within    ⟨_, PySem.W.mg_of X G a_WIDTH_LIMIT⟩ ⟨_, PySem.W.mg_of X G a_SHAPE_LIMIT⟩
  have G_is_table := ok_is_table (P := l.prog) (w := w) (base := base) D_is_table bi G_is_integer D_is_integer G_is_within D_is_within    ⟨_, PySem.W.mg_of X G a_COUNT_LIMIT⟩
  have G_is_tables := ok_is_tables (P := l.prog) (w := w) (base := base) D_is_tables bi G_is_table D_is_table    
  have G_is_bits := ok_is_bits (P := l.prog) (w := w) (base := base) D_is_bits bi     
  have G_is_layout := ok_is_layout (P := l.prog) (w := w) (base := base) D_is_layout bi G_is_within D_is_within G_is_joint D_is_joint    ⟨_, PySem.W.mg_of X G a_BLOCK_LIMIT⟩ ⟨_, PySem.W.mg_of X G a_LEVEL_LIMIT⟩ ⟨_, PySem.W.mg_of X G a_STEP_LIMIT⟩
  have G_is_frame := ok_is_frame (P := l.prog) (w := w) (base := base) D_is_frame bi G_is_layout D_is_layout G_is_within D_is_within G_is_bits D_is_bits    ⟨_, PySem.W.mg_of X G a_FRAME_ITEMS⟩ ⟨_, PySem.W.mg_of X G a_MARK_MODULUS⟩
  have G_is_state := ok_is_state (P := l.prog) (w := w) (base := base) D_is_state bi G_is_tables D_is_tables    
  have G_is_record := ok_is_record (P := l.prog) (w := w) (base := base) D_is_record bi G_is_state D_is_state G_is_frame D_is_frame    
  have G_is_table_A := ok_is_table_A (P := l.prog) (w := w) (base := base) D_is_table bi G_is_integer D_is_integer G_is_within D_is_within    ⟨_, PySem.W.mg_of X G a_COUNT_LIMIT⟩
  have G_is_tables_A := ok_is_tables_A (P := l.prog) (w := w) (base := base) D_is_tables bi G_is_table D_is_table G_is_table_A   
  have G_is_bits_A := ok_is_bits_A (P := l.prog) (w := w) (base := base) D_is_bits bi     
  have G_is_layout_A := ok_is_layout_A (P := l.prog) (w := w) (base := base) D_is_layout bi G_is_within D_is_within G_is_joint D_is_joint    ⟨_, PySem.W.mg_of X G a_BLOCK_LIMIT⟩ ⟨_, PySem.W.mg_of X G a_LEVEL_LIMIT⟩ ⟨_, PySem.W.mg_of X G a_STEP_LIMIT⟩
  have G_is_state_A := ok_is_state_A (P := l.prog) (w := w) (base := base) D_is_state bi G_is_tables D_is_tables G_is_tables_A   
  have G_is_frame_A := ok_is_frame_A (P := l.prog) (w := w) (base := base) D_is_frame bi G_is_layout D_is_layout G_is_within D_is_within G_is_bits D_is_bits G_is_layout_A G_is_bits_A   ⟨_, PySem.W.mg_of X G a_FRAME_ITEMS⟩ ⟨_, PySem.W.mg_of X G a_MARK_MODULUS⟩
  have G_is_record_A := ok_is_record_A (P := l.prog) (w := w) (base := base) D_is_record bi G_is_state D_is_state G_is_frame D_is_frame G_is_state_A G_is_frame_A   
  have G_check_within := ok_check_within (P := l.prog) (w := w) (base := base) D_check_within bi G_is_within D_is_within    
  have G_check_integer := ok_check_integer (P := l.prog) (w := w) (base := base) D_check_integer bi G_is_integer D_is_integer    
  have G_check_items := ok_check_items (P := l.prog) (w := w) (base := base) D_check_items bi G_is_integer D_is_integer    
  have G_check_block := ok_check_block (P := l.prog) (w := w) (base := base) D_check_block bi G_check_items D_check_items    ⟨_, PySem.W.mg_of X G a_BLOCK_LIMIT⟩
  have G_coarse_count := ok_coarse_count (P := l.prog) (w := w) (base := base) D_coarse_count bi G_check_within D_check_within    ⟨_, PySem.W.mg_of X G a_BLOCK_LIMIT⟩ ⟨_, PySem.W.mg_of X G a_LEVEL_LIMIT⟩
  have G_parameter := ok_parameter (P := l.prog) (w := w) (base := base) D_parameter bi G_is_table D_is_table    
  have G_table_behind := ok_table_behind (P := l.prog) (w := w) (base := base) D_table_behind bi     ⟨_, PySem.W.mg_of X G a_COUNT_LIMIT⟩ ⟨_, PySem.W.mg_of X G a_HALVED_COUNT⟩
  have G_code_number := ok_code_number (P := l.prog) (w := w) (base := base) D_code_number bi     
  have G_number_with := ok_number_with (P := l.prog) (w := w) (base := base) D_number_with bi     
  have G_read_code := ok_read_code (P := l.prog) (w := w) (base := base) D_read_code bi     ⟨_, PySem.W.mg_of X G a_LONG_FORM⟩
  have G_check_coding := ok_check_coding (P := l.prog) (w := w) (base := base) D_check_coding bi G_check_within D_check_within G_is_tables D_is_tables    
  have G_read_numbers := ok_read_numbers (P := l.prog) (w := w) (base := base) D_read_numbers bi G_check_within D_check_within G_check_coding D_check_coding G_parameter D_parameter G_read_code D_read_code G_number_with D_number_with G_table_behind D_table_behind    ⟨_, PySem.W.mg_of X G a_BLOCK_LIMIT⟩
  have G_mark_of := ok_mark_of (P := l.prog) (w := w) (base := base) D_mark_of bi G_check_block D_check_block G_code_number D_code_number    ⟨_, PySem.W.mg_of X G a_MARK_FACTOR⟩ ⟨_, PySem.W.mg_of X G a_MARK_MODULUS⟩
  have G_read_frame := ok_read_frame (P := l.prog) (w := w) (base := base) D_read_frame bi G_read_numbers D_read_numbers G_coarse_count D_coarse_count G_mark_of D_mark_of    
  have G_read_code_L := ok_read_code_L (P := l.prog) (w := w) (base := base) D_read_code bi     ⟨_, PySem.W.mg_of X G a_LONG_FORM⟩ zdg
  have G_read_numbers_V := ok_read_numbers_V (P := l.prog) (w := w) (base := base) D_read_numbers bi G_check_within D_check_within G_check_coding D_check_coding G_parameter D_parameter G_read_code D_read_code G_number_with D_number_with G_table_behind D_table_behind G_read_code_L   ⟨_, PySem.W.mg_of X G a_BLOCK_LIMIT⟩
  have G_read_frame_V := ok_read_frame_V (P := l.prog) (w := w) (base := base) D_read_frame bi G_read_numbers D_read_numbers G_coarse_count D_coarse_count G_mark_of D_mark_of G_read_numbers_V   
  have G_read_frame_O := fn_or (so := (fun vs H Q E => spRfM K vs H Q E ∨ spRfV K vs H Q E)) (n := 7) G_read_frame G_read_frame_V (by decide) (by decide) (fun _ _ _ _ h => h)
  have G_read_frames := ok_read_frames (P := l.prog) (w := w) (base := base) D_read_frames bi G_read_frame D_read_frame G_read_frame_V G_read_frame_O  T_InvalidStream (PySem.W.mg_of X G zS) hSt hS0 hS1 (PySem.W.mg_of X G zH) hHd
  have G_check_records := ok_check_records (P := l.prog) (w := w) (base := base) D_check_records bi G_is_record D_is_record G_is_record_A  T_InvalidStream 
  have G_join_once := ok_join_once (P := l.prog) (w := w) (base := base) D_join_once bi     
  have G_join_levels := ok_join_levels (P := l.prog) (w := w) (base := base) D_join_levels bi G_check_block D_check_block G_check_within D_check_within G_coarse_count D_coarse_count G_join_once D_join_once    ⟨_, PySem.W.mg_of X G a_LEVEL_LIMIT⟩
  have G_block_values := ok_block_values (P := l.prog) (w := w) (base := base) D_block_values bi G_join_levels D_join_levels    
  have G_Stream___init__ := ok_Stream___init__ (P := l.prog) (w := w) (base := base) D_Stream___init__ bi G_check_records D_check_records G_read_frames D_read_frames  TC_Stream  
  have G_Stream_part_of := ok_Stream_part_of (P := l.prog) (w := w) (base := base) D_Stream_part_of bi G_is_within D_is_within  TC_Stream T_InvalidPlace 
  have G_Stream_block := ok_Stream_block (P := l.prog) (w := w) (base := base) D_Stream_block bi G_Stream_part_of D_Stream_part_of  TC_Stream  
  have G_Stream_numbers := ok_Stream_numbers (P := l.prog) (w := w) (base := base) D_Stream_numbers bi G_Stream_part_of D_Stream_part_of  TC_Stream  
  have G_Stream_contents := ok_Stream_contents (P := l.prog) (w := w) (base := base) D_Stream_contents bi G_Stream_part_of D_Stream_part_of G_block_values D_block_values  TC_Stream  
  have G_Stream_tables_before := ok_Stream_tables_before (P := l.prog) (w := w) (base := base) D_Stream_tables_before bi G_Stream_part_of D_Stream_part_of  TC_Stream  
  have G_Stream_tables_after := ok_Stream_tables_after (P := l.prog) (w := w) (base := base) D_Stream_tables_after bi G_Stream_part_of D_Stream_part_of  TC_Stream  
  have G_digits := ok_digits (P := l.prog) (w := w) (base := base) D_digits bi     
  have G_code := ok_code (P := l.prog) (w := w) (base := base) D_code bi     
  have G_after := ok_after (P := l.prog) (w := w) (base := base) D_after bi     
  have G_l_parameter := ok_l_parameter (P := l.prog) (w := w) (base := base) D_l_parameter bi     
  have G_bits := ok_bits (P := l.prog) (w := w) (base := base) D_bits bi G_l_parameter D_l_parameter G_digits D_digits    
  have G_written := ok_written (P := l.prog) (w := w) (base := base) D_written bi G_code D_code G_bits D_bits G_after D_after    
  have G_mark := ok_mark (P := l.prog) (w := w) (base := base) D_mark bi G_code D_code    
  have G_sizes := ok_sizes (P := l.prog) (w := w) (base := base) D_sizes bi     
  have G_take := ok_take (P := l.prog) (w := w) (base := base) D_take bi     
  have G_pool := ok_pool (P := l.prog) (w := w) (base := base) D_pool bi     
  have G_made := ok_made (P := l.prog) (w := w) (base := base) D_made bi G_take D_take G_sizes D_sizes G_written D_written G_mark D_mark    
  have G_spoilt := ok_spoilt (P := l.prog) (w := w) (base := base) D_spoilt bi G_take D_take    
  have G_due := ok_due (P := l.prog) (w := w) (base := base) D_due bi     
  have G_index := ok_index (P := l.prog) (w := w) (base := base) D_index bi G_Stream___init__ D_Stream___init__  TC_Stream T_InvalidStream g_JoinError q_InvalidStream_JoinError
  have G_place := ok_place (P := l.prog) (w := w) (base := base) D_place bi G_Stream_block D_Stream_block G_Stream_numbers D_Stream_numbers G_Stream_contents D_Stream_contents G_Stream_tables_before D_Stream_tables_before G_Stream_tables_after D_Stream_tables_after  TC_Stream T_InvalidPlace (PySem.W.mg_none_of X G z_repr)
  exact ok_law D_law bi G_pool D_pool G_take D_take G_made D_made G_spoilt D_spoilt G_due D_due G_index D_index G_place D_place G_Stream___init__ D_Stream___init__  TC_Stream  (PySem.W.mg_none_of X G z_repr)
end Z
open PySem PySem.W PyProof.Rows
set_option maxHeartbeats 0 in
theorem PySem.Challenge.cw_framejoins_k22_streams_refused_holds : PySem.Challenge.rw_framejoins_k22_streams_refused.Holds := by
  w_on; refine headTop ?_
  k_fill
  refine L2.walk_of (l := PySem.Challenge.rw_framejoins_k22_streams_refused) (n := 63) (k := 12) (x := "_law_script") (CX := fun _ => L2.CX0) (sp := fun w => Z.spLaw _) rfl (by decide) rfl ⟨rfl, by decide, by decide⟩ (fun w h Y => PySem.W.kIn_of Y) ?F (fun _ _ a ns hl _ hS => ⟨a, ns, rfl, hS, hl, fun _ => rfl⟩) (fun _ _ _ _ _ h => h)
  case F =>
    intro w mg fa h KX G hmg
    refine' Z.all_mk KX G hmg (Z.mkD_is_integer KX G ?a_is_integer ?l_is_integer ?c_is_integer ?k_is_integer) (Z.mkD_is_within KX G ?a_is_within ?l_is_within ?c_is_within ?k_is_within) (Z.mkD_check_integer KX G ?a_check_integer ?l_check_integer ?c_check_integer ?k_check_integer) (Z.mkD_check_within KX G ?a_check_within ?l_check_within ?c_check_within ?k_check_within) (Z.mkD_check_items KX G ?a_check_items ?l_check_items ?c_check_items ?k_check_items) (Z.mkD_check_block KX G ?a_check_block ?l_check_block ?c_check_block ?k_check_block) (Z.mkD_is_joint KX G ?a_is_joint ?l_is_joint ?c_is_joint ?k_is_joint) (Z.mkD_join_levels KX G ?a_join_levels ?l_join_levels ?c_join_levels ?k_join_levels) (Z.mkD_join_once KX G ?a_join_once ?l_join_once ?c_join_once ?k_join_once) (Z.mkD_coarse_count KX G ?a_coarse_count ?l_coarse_count ?c_coarse_count ?k_coarse_count) (Z.mkD_is_table KX G ?a_is_table ?l_is_table ?c_is_table ?k_is_table) (Z.mkD_is_tables KX G ?a_is_tables ?l_is_tables ?c_is_tables ?k_is_tables) (Z.mkD_parameter KX G ?a_parameter ?l_parameter ?c_parameter ?k_parameter) (Z.mkD_table_behind KX G ?a_table_behind ?l_table_behind ?c_table_behind ?k_table_behind) (Z.mkD_code_number KX G ?a_code_number ?l_code_number ?c_code_number ?k_code_number) (Z.mkD_number_with KX G ?a_number_with ?l_number_with ?c_number_with ?k_number_with) (Z.mkD_read_numbers KX G ?a_read_numbers ?l_read_numbers ?c_read_numbers ?k_read_numbers) (Z.mkD_check_coding KX G ?a_check_coding ?l_check_coding ?c_check_coding ?k_check_coding) (Z.mkD_read_code KX G ?a_read_code ?l_read_code ?c_read_code ?k_read_code) (Z.mkD_mark_of KX G ?a_mark_of ?l_mark_of ?c_mark_of ?k_mark_of) (Z.mkD_is_record KX G ?a_is_record ?l_is_record ?c_is_record ?k_is_record) (Z.mkD_is_state KX G ?a_is_state ?l_is_state ?c_is_state ?k_is_state) (Z.mkD_is_frame KX G ?a_is_frame ?l_is_frame ?c_is_frame ?k_is_frame) (Z.mkD_is_layout KX G ?a_is_layout ?l_is_layout ?c_is_layout ?k_is_layout) (Z.mkD_is_bits KX G ?a_is_bits ?l_is_bits ?c_is_bits ?k_is_bits) (Z.mkD_read_frame KX G ?a_read_frame ?l_read_frame ?c_read_frame ?k_read_frame) (Z.mkD_block_values KX G ?a_block_values ?l_block_values ?c_block_values ?k_block_values) (Z.mkD_check_records KX G ?a_check_records ?l_check_records ?c_check_records ?k_check_records) (Z.mkD_read_frames KX G ?a_read_frames ?l_read_frames ?c_read_frames ?k_read_frames) (Z.mkD_pool KX G ?a_pool ?l_pool ?c_pool ?k_pool) (Z.mkD_take KX G ?a_take ?l_take ?c_take ?k_take) (Z.mkD_sizes KX G ?a_sizes ?l_sizes ?c_sizes ?k_sizes) (Z.mkD_digits KX G ?a_digits ?l_digits ?c_digits ?k_digits) (Z.mkD_code KX G ?a_code ?l_code ?c_code ?k_code) (Z.mkD_after KX G ?a_after ?l_after ?c_after ?k_after) (Z.mkD_l_parameter KX G ?a_l_parameter ?l_l_parameter ?c_l_parameter ?k_l_parameter) (Z.mkD_bits KX G ?a_bits ?l_bits ?c_bits ?k_bits) (Z.mkD_written KX G ?a_written ?l_written ?c_written ?k_written) (Z.mkD_mark KX G ?a_mark ?l_mark ?c_mark ?k_mark) (Z.mkD_made KX G ?a_made ?l_made ?c_made ?k_made) (Z.mkD_spoilt KX G ?a_spoilt ?l_spoilt ?c_spoilt ?k_spoilt) (Z.mkD_due KX G ?a_due ?l_due ?c_due ?k_due) (Z.mkD_index KX G ?a_index ?l_index ?c_index ?k_index) (Z.mkD_place KX G ?a_place ?l_place ?c_place ?k_place) ?a_law ?l_law ?c_law ?k_law ?a_BLOCK_LIMIT ?a_COUNT_LIMIT ?a_SHAPE_LIMIT ?a_WIDTH_LIMIT ?a_LEVEL_LIMIT ?a_STEP_LIMIT ?a_MARK_MODULUS ?a_HALVED_COUNT ?a_LONG_FORM ?a_MARK_FACTOR ?a_FRAME_ITEMS ?zS ?lS ?lt0 ?lt1 ?zH ?lH ?z_sorted ?zC ?lC ?l0 ?l1 ?l2 ?l3 ?z_dg1 ?z_dg2 ?z_repr ?z_int ?z_bool ?z_str ?z_list ?z_tuple ?z_len ?z_abs ?z_max ?z_min ?z_range ?z_zip ?z_isinstance ?z_enumerate ?z_reversed ?x_Stream ?pg_Stream ?hd_Stream ?po_Stream ?sa_Stream ?mk_Stream ?kc_Stream ?na_Stream_held ?na_Stream_read ?x_JoinError ?x_InvalidStream ?x_InvalidPlace ?xl_InvalidStream ?sa_InvalidStream ?ga_InvalidStream ?gg_InvalidStream ?nf_InvalidStream ?ic_InvalidStream ?ti_InvalidStream ?cac_InvalidStream ?cmc_InvalidStream ?kc_InvalidStream ?sB_InvalidStream ?tc_InvalidStream ?hd_InvalidStream ?ss_InvalidStream ?li_InvalidStream ?ci_InvalidStream ?ki_InvalidStream ?xl_InvalidPlace ?sa_InvalidPlace ?ga_InvalidPlace ?gg_InvalidPlace ?nf_InvalidPlace ?ic_InvalidPlace ?ti_InvalidPlace ?cac_InvalidPlace ?cmc_InvalidPlace ?kc_InvalidPlace ?sB_InvalidPlace ?tc_InvalidPlace ?hd_InvalidPlace ?ss_InvalidPlace ?li_InvalidPlace ?ci_InvalidPlace ?ki_InvalidPlace ?cn ?ct ?u_InvalidStream_JoinError ?n_InvalidStream_JoinError ?y_JoinError ?i_JoinError ?at_Stream___init__ ?if_Stream___init__ ?l_Stream___init__ ?c_Stream___init__ ?k_Stream___init__ ?at_Stream_block ?if_Stream_block ?l_Stream_block ?c_Stream_block ?k_Stream_block ?at_Stream_numbers ?if_Stream_numbers ?l_Stream_numbers ?c_Stream_numbers ?k_Stream_numbers ?at_Stream_contents ?if_Stream_contents ?l_Stream_contents ?c_Stream_contents ?k_Stream_contents ?at_Stream_tables_before ?if_Stream_tables_before ?l_Stream_tables_before ?c_Stream_tables_before ?k_Stream_tables_before ?at_Stream_tables_after ?if_Stream_tables_after ?l_Stream_tables_after ?c_Stream_tables_after ?k_Stream_tables_after ?at_Stream_part_of ?if_Stream_part_of ?l_Stream_part_of ?c_Stream_part_of ?k_Stream_part_of
    (case a_is_integer => as_aux_lemma => k_is); (case l_is_integer => as_aux_lemma => k_is); (case c_is_integer => as_aux_lemma => k_is); (case k_is_integer => as_aux_lemma => k_is); (case a_is_within => as_aux_lemma => k_is); (case l_is_within => as_aux_lemma => k_is); (case c_is_within => as_aux_lemma => k_is); (case k_is_within => as_aux_lemma => k_is); (case a_check_integer => as_aux_lemma => k_is); (case l_check_integer => as_aux_lemma => k_is); (case c_check_integer => as_aux_lemma => k_is); (case k_check_integer => as_aux_lemma => k_is); (case a_check_within => as_aux_lemma => k_is); (case l_check_within => as_aux_lemma => k_is); (case c_check_within => as_aux_lemma => k_is); (case k_check_within => as_aux_lemma => k_is); (case a_check_items => as_aux_lemma => k_is); (case l_check_items => as_aux_lemma => k_is); (case c_check_items => as_aux_lemma => k_is); (case k_check_items => as_aux_lemma => k_is); (case a_check_block => as_aux_lemma => k_is); (case l_check_block => as_aux_lemma => k_is); (case c_check_block => as_aux_lemma => k_is); (case k_check_block => as_aux_lemma => k_is); (case a_is_joint => as_aux_lemma => k_is); (case l_is_joint => as_aux_lemma => k_is); (case c_is_joint => as_aux_lemma => k_is); (case k_is_joint => as_aux_lemma => k_is); (case a_join_levels => as_aux_lemma => k_is); (case l_join_levels => as_aux_lemma => k_is); (case c_join_levels => as_aux_lemma => k_is); (case k_join_levels => as_aux_lemma => k_is); (case a_join_once => as_aux_lemma => k_is); (case l_join_once => as_aux_lemma => k_is); (case c_join_once => as_aux_lemma => k_is); (case k_join_once => as_aux_lemma => k_is); (case a_coarse_count => as_aux_lemma => k_is); (case l_coarse_count => as_aux_lemma => k_is); (case c_coarse_count => as_aux_lemma => k_is); (case k_coarse_count => as_aux_lemma => k_is); (case a_is_table => as_aux_lemma => k_is); (case l_is_table => as_aux_lemma => k_is); (case c_is_table => as_aux_lemma => k_is); (case k_is_table => as_aux_lemma => k_is); (case a_is_tables => as_aux_lemma => k_is); (case l_is_tables => as_aux_lemma => k_is); (case c_is_tables => as_aux_lemma => k_is); (case k_is_tables => as_aux_lemma => k_is); (case a_parameter => as_aux_lemma => k_is); (case l_parameter => as_aux_lemma => k_is); (case c_parameter => as_aux_lemma => k_is); (case k_parameter => as_aux_lemma => k_is); (case a_table_behind => as_aux_lemma => k_is); (case l_table_behind => as_aux_lemma => k_is); (case c_table_behind => as_aux_lemma => k_is); (case k_table_behind => as_aux_lemma => k_is); (case a_code_number => as_aux_lemma => k_is); (case l_code_number => as_aux_lemma => k_is); (case c_code_number => as_aux_lemma => k_is); (case k_code_number => as_aux_lemma => k_is); (case a_number_with => as_aux_lemma => k_is); (case l_number_with => as_aux_lemma => k_is); (case c_number_with => as_aux_lemma => k_is); (case k_number_with => as_aux_lemma => k_is); (case a_read_numbers => as_aux_lemma => k_is); (case l_read_numbers => as_aux_lemma => k_is); (case c_read_numbers => as_aux_lemma => k_is); (case k_read_numbers => as_aux_lemma => k_is); (case a_check_coding => as_aux_lemma => k_is); (case l_check_coding => as_aux_lemma => k_is); (case c_check_coding => as_aux_lemma => k_is); (case k_check_coding => as_aux_lemma => k_is); (case a_read_code => as_aux_lemma => k_is); (case l_read_code => as_aux_lemma => k_is); (case c_read_code => as_aux_lemma => k_is); (case k_read_code => as_aux_lemma => k_is); (case a_mark_of => as_aux_lemma => k_is); (case l_mark_of => as_aux_lemma => k_is); (case c_mark_of => as_aux_lemma => k_is); (case k_mark_of => as_aux_lemma => k_is); (case a_is_record => as_aux_lemma => k_is); (case l_is_record => as_aux_lemma => k_is); (case c_is_record => as_aux_lemma => k_is); (case k_is_record => as_aux_lemma => k_is); (case a_is_state => as_aux_lemma => k_is); (case l_is_state => as_aux_lemma => k_is); (case c_is_state => as_aux_lemma => k_is); (case k_is_state => as_aux_lemma => k_is); (case a_is_frame => as_aux_lemma => k_is); (case l_is_frame => as_aux_lemma => k_is); (case c_is_frame => as_aux_lemma => k_is); (case k_is_frame => as_aux_lemma => k_is); (case a_is_layout => as_aux_lemma => k_is); (case l_is_layout => as_aux_lemma => k_is); (case c_is_layout => as_aux_lemma => k_is); (case k_is_layout => as_aux_lemma => k_is); (case a_is_bits => as_aux_lemma => k_is); (case l_is_bits => as_aux_lemma => k_is); (case c_is_bits => as_aux_lemma => k_is); (case k_is_bits => as_aux_lemma => k_is); (case a_read_frame => as_aux_lemma => k_is); (case l_read_frame => as_aux_lemma => k_is); (case c_read_frame => as_aux_lemma => k_is); (case k_read_frame => as_aux_lemma => k_is); (case a_block_values => as_aux_lemma => k_is); (case l_block_values => as_aux_lemma => k_is); (case c_block_values => as_aux_lemma => k_is); (case k_block_values => as_aux_lemma => k_is); (case a_check_records => as_aux_lemma => k_is); (case l_check_records => as_aux_lemma => k_is); (case c_check_records => as_aux_lemma => k_is); (case k_check_records => as_aux_lemma => k_is); (case a_read_frames => as_aux_lemma => k_is); (case l_read_frames => as_aux_lemma => k_is); (case c_read_frames => as_aux_lemma => k_is); (case k_read_frames => as_aux_lemma => k_is); (case a_pool => as_aux_lemma => k_is); (case l_pool => as_aux_lemma => k_is); (case c_pool => as_aux_lemma => k_is); (case k_pool => as_aux_lemma => k_is); (case a_take => as_aux_lemma => k_is); (case l_take => as_aux_lemma => k_is); (case c_take => as_aux_lemma => k_is); (case k_take => as_aux_lemma => k_is); (case a_sizes => as_aux_lemma => k_is); (case l_sizes => as_aux_lemma => k_is); (case c_sizes => as_aux_lemma => k_is); (case k_sizes => as_aux_lemma => k_is); (case a_digits => as_aux_lemma => k_is); (case l_digits => as_aux_lemma => k_is); (case c_digits => as_aux_lemma => k_is); (case k_digits => as_aux_lemma => k_is); (case a_code => as_aux_lemma => k_is); (case l_code => as_aux_lemma => k_is); (case c_code => as_aux_lemma => k_is); (case k_code => as_aux_lemma => k_is); (case a_after => as_aux_lemma => k_is); (case l_after => as_aux_lemma => k_is); (case c_after => as_aux_lemma => k_is); (case k_after => as_aux_lemma => k_is); (case a_l_parameter => as_aux_lemma => k_is); (case l_l_parameter => as_aux_lemma => k_is); (case c_l_parameter => as_aux_lemma => k_is); (case k_l_parameter => as_aux_lemma => k_is); (case a_bits => as_aux_lemma => k_is); (case l_bits => as_aux_lemma => k_is); (case c_bits => as_aux_lemma => k_is); (case k_bits => as_aux_lemma => k_is); (case a_written => as_aux_lemma => k_is); (case l_written => as_aux_lemma => k_is); (case c_written => as_aux_lemma => k_is); (case k_written => as_aux_lemma => k_is); (case a_mark => as_aux_lemma => k_is); (case l_mark => as_aux_lemma => k_is); (case c_mark => as_aux_lemma => k_is); (case k_mark => as_aux_lemma => k_is); (case a_made => as_aux_lemma => k_is); (case l_made => as_aux_lemma => k_is); (case c_made => as_aux_lemma => k_is); (case k_made => as_aux_lemma => k_is); (case a_spoilt => as_aux_lemma => k_is); (case l_spoilt => as_aux_lemma => k_is); (case c_spoilt => as_aux_lemma => k_is); (case k_spoilt => as_aux_lemma => k_is); (case a_due => as_aux_lemma => k_is); (case l_due => as_aux_lemma => k_is); (case c_due => as_aux_lemma => k_is); (case k_due => as_aux_lemma => k_is); (case a_index => as_aux_lemma => k_is); (case l_index => as_aux_lemma => k_is); (case c_index => as_aux_lemma => k_is); (case k_index => as_aux_lemma => k_is); (case a_place => as_aux_lemma => k_is); (case l_place => as_aux_lemma => k_is); (case c_place => as_aux_lemma => k_is); (case k_place => as_aux_lemma => k_is); (case a_law => as_aux_lemma => k_is); (case l_law => as_aux_lemma => k_is); (case c_law => as_aux_lemma => k_is); (case k_law => as_aux_lemma => k_is); (case a_BLOCK_LIMIT => as_aux_lemma => k_is); (case a_COUNT_LIMIT => as_aux_lemma => k_is); (case a_SHAPE_LIMIT => as_aux_lemma => k_is); (case a_WIDTH_LIMIT => as_aux_lemma => k_is); (case a_LEVEL_LIMIT => as_aux_lemma => k_is); (case a_STEP_LIMIT => as_aux_lemma => k_is); (case a_MARK_MODULUS => as_aux_lemma => k_is); (case a_HALVED_COUNT => as_aux_lemma => k_is); (case a_LONG_FORM => as_aux_lemma => k_is); (case a_MARK_FACTOR => as_aux_lemma => k_is); (case a_FRAME_ITEMS => as_aux_lemma => k_is); (case zS => as_aux_lemma => k_is); (case lS => as_aux_lemma => k_is); (case lt0 => as_aux_lemma => k_is); (case lt1 => as_aux_lemma => k_is); (case zH => as_aux_lemma => k_is); (case lH => as_aux_lemma => k_is); (case z_sorted => as_aux_lemma => k_is); (case zC => as_aux_lemma => k_is); (case lC => as_aux_lemma => k_is); (case l0 => as_aux_lemma => k_is); (case l1 => as_aux_lemma => k_is); (case l2 => as_aux_lemma => k_is); (case l3 => as_aux_lemma => k_is); (case z_dg1 => as_aux_lemma => k_is); (case z_dg2 => as_aux_lemma => kernel_rfl); (case z_repr => as_aux_lemma => k_is); (case z_int => as_aux_lemma => k_is); (case z_bool => as_aux_lemma => k_is); (case z_str => as_aux_lemma => k_is); (case z_list => as_aux_lemma => k_is); (case z_tuple => as_aux_lemma => k_is); (case z_len => as_aux_lemma => k_is); (case z_abs => as_aux_lemma => k_is); (case z_max => as_aux_lemma => k_is); (case z_min => as_aux_lemma => k_is); (case z_range => as_aux_lemma => k_is); (case z_zip => as_aux_lemma => k_is); (case z_isinstance => as_aux_lemma => k_is); (case z_enumerate => as_aux_lemma => k_is); (case z_reversed => as_aux_lemma => k_is); (case x_Stream => as_aux_lemma => k_is); (case pg_Stream => as_aux_lemma => k_is); (case hd_Stream => as_aux_lemma => k_is); (case po_Stream => as_aux_lemma => k_is); (case sa_Stream => as_aux_lemma => k_is); (case mk_Stream => as_aux_lemma => k_is); (case kc_Stream => as_aux_lemma => k_is); (case na_Stream_held => as_aux_lemma => k_is); (case na_Stream_read => as_aux_lemma => k_is); (case x_JoinError => as_aux_lemma => k_is); (case x_InvalidStream => as_aux_lemma => k_is); (case x_InvalidPlace => as_aux_lemma => k_is); (case xl_InvalidStream => as_aux_lemma => k_is); (case sa_InvalidStream => as_aux_lemma => k_is); (case ga_InvalidStream => as_aux_lemma => k_is); (case gg_InvalidStream => as_aux_lemma => k_is); (case nf_InvalidStream => as_aux_lemma => k_is); (case ic_InvalidStream => as_aux_lemma => k_is); (case ti_InvalidStream => as_aux_lemma => k_is); (case cac_InvalidStream => as_aux_lemma => k_is); (case cmc_InvalidStream => as_aux_lemma => k_is); (case kc_InvalidStream => as_aux_lemma => k_is); (case sB_InvalidStream => as_aux_lemma => k_is); (case tc_InvalidStream => as_aux_lemma => k_is); (case hd_InvalidStream => as_aux_lemma => k_is); (case ss_InvalidStream => as_aux_lemma => k_is); (case li_InvalidStream => as_aux_lemma => k_is); (case ci_InvalidStream => as_aux_lemma => k_is); (case ki_InvalidStream => as_aux_lemma => k_is); (case xl_InvalidPlace => as_aux_lemma => k_is); (case sa_InvalidPlace => as_aux_lemma => k_is); (case ga_InvalidPlace => as_aux_lemma => k_is); (case gg_InvalidPlace => as_aux_lemma => k_is); (case nf_InvalidPlace => as_aux_lemma => k_is); (case ic_InvalidPlace => as_aux_lemma => k_is); (case ti_InvalidPlace => as_aux_lemma => k_is); (case cac_InvalidPlace => as_aux_lemma => k_is); (case cmc_InvalidPlace => as_aux_lemma => k_is); (case kc_InvalidPlace => as_aux_lemma => k_is); (case sB_InvalidPlace => as_aux_lemma => k_is); (case tc_InvalidPlace => as_aux_lemma => k_is); (case hd_InvalidPlace => as_aux_lemma => k_is); (case ss_InvalidPlace => as_aux_lemma => k_is); (case li_InvalidPlace => as_aux_lemma => k_is); (case ci_InvalidPlace => as_aux_lemma => k_is); (case ki_InvalidPlace => as_aux_lemma => k_is); (case cn => as_aux_lemma => k_is); (case ct => as_aux_lemma => k_is); (case u_InvalidStream_JoinError => as_aux_lemma => k_is); (case n_InvalidStream_JoinError => decide); (case y_JoinError => as_aux_lemma => k_is); (case i_JoinError => as_aux_lemma => k_is); (case at_Stream___init__ => as_aux_lemma => k_is); (case if_Stream___init__ => as_aux_lemma => k_is); (case l_Stream___init__ => as_aux_lemma => k_is); (case c_Stream___init__ => as_aux_lemma => k_is); (case k_Stream___init__ => as_aux_lemma => k_is); (case at_Stream_block => as_aux_lemma => k_is); (case if_Stream_block => as_aux_lemma => k_is); (case l_Stream_block => as_aux_lemma => k_is); (case c_Stream_block => as_aux_lemma => k_is); (case k_Stream_block => as_aux_lemma => k_is); (case at_Stream_numbers => as_aux_lemma => k_is); (case if_Stream_numbers => as_aux_lemma => k_is); (case l_Stream_numbers => as_aux_lemma => k_is); (case c_Stream_numbers => as_aux_lemma => k_is); (case k_Stream_numbers => as_aux_lemma => k_is); (case at_Stream_contents => as_aux_lemma => k_is); (case if_Stream_contents => as_aux_lemma => k_is); (case l_Stream_contents => as_aux_lemma => k_is); (case c_Stream_contents => as_aux_lemma => k_is); (case k_Stream_contents => as_aux_lemma => k_is); (case at_Stream_tables_before => as_aux_lemma => k_is); (case if_Stream_tables_before => as_aux_lemma => k_is); (case l_Stream_tables_before => as_aux_lemma => k_is); (case c_Stream_tables_before => as_aux_lemma => k_is); (case k_Stream_tables_before => as_aux_lemma => k_is); (case at_Stream_tables_after => as_aux_lemma => k_is); (case if_Stream_tables_after => as_aux_lemma => k_is); (case l_Stream_tables_after => as_aux_lemma => k_is); (case c_Stream_tables_after => as_aux_lemma => k_is); (case k_Stream_tables_after => as_aux_lemma => k_is); (case at_Stream_part_of => as_aux_lemma => k_is); (case if_Stream_part_of => as_aux_lemma => k_is); (case l_Stream_part_of => as_aux_lemma => k_is); (case c_Stream_part_of => as_aux_lemma => k_is); (case k_Stream_part_of => as_aux_lemma => k_is)
