import PyProof.Rows.All
import Wide.All
import OpenK.AllK
import Wide.FinOn
import HandS.ForExc
import HandS.ForMost
import HandS.IsInst
import HandS.Style
import HandS.Zip
import HandS.RevRange
import HandS.Lambda
import HandS.TryOnly
import HandS.TryMany
import HandS.ExcOwn
import HandS.ExcInit
import HandS.ExcField
import HandS.ExcIs
import HandS.EndTab
import HandS.CallLocal
import KE.KExcIs
import KE.KNestM
import KE.IntBitsLaws
import HandS.WideBits
import KE.GoesEnum
import KE.GoesMore
import HandS.Codes
import HandS.Conv
import HandS.IntHex
import PyProof.FString3
import PyProof.StrOps2
import KE.IntText
import HandS.StrMore
import HandS.FStr
import HandS.Wide
import PySem.Challenge.RW_framejoins_k79_whole_padding_is_least
set_option Elab.async false
set_option linter.all false
set_option maxRecDepth 100000
set_option maxHeartbeats 4000000
section
open PySem PySem.W PyProof.Rows
set_option maxHeartbeats 0 in
open_top headTop for PySem.Challenge.rw_framejoins_k79_whole_padding_is_least
end
namespace Z
open PySem PySem.Spec PyProof.Rows L2
def rLen (K : PySem.W.Frag) : List V → Hp → VK → Prop := fun xs H Q => ∃ x n, xs = [x] ∧ LenV K x H n ∧ Q (.int n) H
def rAbs : List V → Hp → VK → Prop := fun xs H Q => ∃ i, xs = [.int i] ∧ Q (.int (if i < 0 then -i else i)) H
def rMax2 : List V → Hp → VK → Prop := fun xs H Q => ∃ i j, xs = [.int i, .int j] ∧ Q (.int (if j > i then j else i)) H
def rMin2 : List V → Hp → VK → Prop := fun xs H Q => ∃ i j, xs = [.int i, .int j] ∧ Q (.int (if j < i then j else i)) H
def rToInt : List V → Hp → VK → Prop := fun xs H Q => (∃ i, xs = [.int i] ∧ Q (.int i) H) ∨ ∃ k, xs = [.bl k] ∧ Q (.int (if k then 1 else 0)) H
def rToList (K : PySem.W.Frag) : List V → Hp → VK → Prop := fun xs H Q => ∃ p ys, xs = [.ref p] ∧ (SqL K H p ys ∨ SqT K H p ys) ∧ ∀ l, H l = none → Q (.ref l) (upd H l (.lst ys))
section
variable {X : Cx}
theorem cLen : CallR X (.builtin "len") (rLen X.K) := call_len
theorem cAbs : CallR X (.builtin "abs") rAbs := call_abs
theorem cMax (hc : X.calm = true) : CallR X (.builtin "max") rMax2 := call_max2 hc
theorem cMin (hc : X.calm = true) : CallR X (.builtin "min") rMin2 := call_min2 hc
theorem cInt : CallR X (.type "int") rToInt := call_int1
theorem cList : CallR X (.type "list") (rToList X.K) := call_list_of
end
/-- the values by position and by keyword, put in the parameters' order -/
def kg {α : Type} (m n : Nat) (idx : List Nat) (us ws : List α) : List α := if us.length = m ∧ ws.length = n then idx.filterMap (fun i => (us ++ ws)[i]?) else []
section
variable {X : Cx} {K : PySem.W.Frag} {σ : L2.St} {H : Hp} {Q : VK} {n : L2.St → Hp → Prop} {r : VK} {b c : L2.St → Hp → Prop} {ta tb tc te : TE} {tA tB1 : TT} {t u : TS} {v : V}
theorem rd_seq (h : t ⟨u ⟨n, r, b, c⟩, r, b, c⟩ σ H) : tSeq t u ⟨n, r, b, c⟩ σ H := h
theorem rd_start {D : Ends} {σ σ' : L2.St} (e : σ' = σ) (h : t D σ H) : t D σ' H := e ▸ h
theorem rd_next (h : n σ H) : tNext ⟨n, r, b, c⟩ σ H := h
theorem rd_asg {g : TG} (h : te σ H fun x H1 => g x σ H1 n) : tAsg te g ⟨n, r, b, c⟩ σ H := h
theorem rd_gname {i : Nat} {Q : L2.St → Hp → Prop} (h : Q (σ.set i (some v)) H) : gName i v σ H Q := h
theorem rd_gsub {to ti : TE} {s : TSet} {Q : L2.St → Hp → Prop} (h : to σ H fun o H1 => ti σ H1 fun i H2 => s o i v H2 fun H3 => Q σ H3) : gSub to ti s v σ H Q := h
theorem rd_ret (h : te σ H r) : tRet te ⟨n, r, b, c⟩ σ H := h
theorem rd_retn (h : r .non H) : tRetN ⟨n, r, b, c⟩ σ H := h
theorem rd_ifs (h : tA σ H fun d H1 => if d = true then t ⟨n, r, b, c⟩ σ H1 else u ⟨n, r, b, c⟩ σ H1) : tIfS tA t u ⟨n, r, b, c⟩ σ H := h
theorem rd_drop (h : te σ H fun _ H1 => n σ H1) : tDrop te ⟨n, r, b, c⟩ σ H := h
theorem rd_par {i j : Nat} {ts : TA} (h : ts σ H fun vs H1 => ∃ v w, vs = [v, w] ∧ n ((σ.set i (some v)).set j (some w)) H1) : tPar i j ts ⟨n, r, b, c⟩ σ H := h
theorem rd_par3 {i j l : Nat} {ts : TA} (h : ts σ H fun vs H1 => ∃ u v w, vs = [u, v, w] ∧ n (((σ.set i (some u)).set j (some v)).set l (some w)) H1) : tPar3 i j l ts ⟨n, r, b, c⟩ σ H := h
theorem rd_two {v w : V} {P : V → V → Prop} (h : P v w) : ∃ a b, [v, w] = [a, b] ∧ P a b := ⟨v, w, rfl, h⟩
theorem rd_three {u v w : V} {P : V → V → V → Prop} (h : P u v w) : ∃ a b c, [u, v, w] = [a, b, c] ∧ P a b c := ⟨u, v, w, rfl, h⟩
theorem rd_var {i : Nat} (e : σ[i]? = some (some v)) (h : Q v H) : tVar i σ H Q := ⟨v, e, h⟩
theorem rd_c (h : Q v H) : tC v σ H Q := h
theorem rd_op {o : R2} (h : ta σ H fun x H1 => tb σ H1 fun y H2 => o x y H2 Q) : tOp o ta tb σ H Q := h
theorem rd_un {o : V → Hp → VK → Prop} (h : ta σ H fun x H1 => o x H1 Q) : tUn o ta σ H Q := h
theorem rd_i0 {g : Int → Int → V} {i j : Int} (h : Q (g i j) H) : rI0 g (.int i) (.int j) H Q := ⟨i, j, rfl, rfl, h⟩
theorem rd_i {C : Int → Int → Prop} {g : Int → Int → V} {i j : Int} (hC : C i j) (h : Q (g i j) H) : rI C g (.int i) (.int j) H Q := ⟨i, j, rfl, rfl, hC, h⟩
theorem rd_u {g : Int → V} {i : Int} (h : Q (g i) H) : rU g (.int i) H Q := ⟨i, rfl, h⟩
theorem rd_eq {x y : V} (e : scal x y = true) (h : Q (.bl (decide (x = y))) H) : rEq x y H Q := ⟨e, h⟩
theorem rd_ne {x y : V} (e : scal x y = true) (h : Q (.bl (!decide (x = y))) H) : rNe x y H Q := ⟨e, h⟩
theorem rd_test {q : Bool → Hp → Prop} (h : te σ H fun x H' => ∃ k, x = .bl k ∧ q k H') : tTest te σ H q := h
theorem rd_b {q : Bool → Hp → Prop} (h : te σ H fun x H' => ∃ k, x = .bl k ∧ q k H') : tB te σ H q := h
theorem rd_bl {k : Bool} {P : Bool → Prop} (h : P k) : ∃ d, V.bl k = .bl d ∧ P d := ⟨k, rfl, h⟩
theorem rd_not {q : Bool → Hp → Prop} (h : tA σ H fun d H1 => q (!d) H1) : tNot tA σ H q := h
theorem rd_and {q : Bool → Hp → Prop} (h : tA σ H fun d H1 => if d = true then tB1 σ H1 q else q false H1) : tAnd tA tB1 σ H q := h
theorem rd_or {q : Bool → Hp → Prop} (h : tA σ H fun d H1 => if d = true then q true H1 else tB1 σ H1 q) : tOr tA tB1 σ H q := h
theorem rd_andV (h : ta σ H fun x H1 => ∃ c, x = .bl c ∧ if c = true then tb σ H1 Q else Q (.bl false) H1) : tAndV ta tb σ H Q := h
theorem rd_orV (h : ta σ H fun x H1 => ∃ c, x = .bl c ∧ if c = true then Q (.bl true) H1 else tb σ H1 Q) : tOrV ta tb σ H Q := h
theorem rd_notV (h : ta σ H fun x H1 => ∃ c, x = .bl c ∧ Q (.bl (!c)) H1) : tNotV ta σ H Q := h
theorem rd_if (h : tA σ H fun d H1 => if d = true then ta σ H1 Q else tb σ H1 Q) : tIf tA ta tb σ H Q := h
theorem rd_chain {o o' : R2} (h : ta σ H fun x H1 => tb σ H1 fun y H2 => o x y H2 fun z H3 => ∃ k, z = .bl k ∧ if k = true then tc σ H3 fun w' H4 => o' y w' H4 Q else Q (.bl false) H3) : tChain o o' ta tb tc σ H Q := h
theorem rd_call {sp : Sp} {dvs : List V} {E : XK} {ts : TA} (h : ts σ H fun vs H1 => sp (vs ++ dvs) H1 Q E) : tCall sp dvs E ts σ H Q := h
theorem rd_callK {sp : Sp} {gV : List V → List V → List V} {E : XK} {ts tk : TA} (h : ts σ H fun vs H1 => tk σ H1 fun zs H2 => sp (gV vs zs) H2 Q E) : tCallK sp gV E ts tk σ H Q := h
theorem rd_cb {rr : List V → Hp → VK → Prop} {ts : TA} (h : ts σ H fun vs H1 => rr vs H1 Q) : tCB rr ts σ H Q := h
theorem rd_cons {tr : TA} {q : List V → Hp → Prop} (h : te σ H fun x H1 => tr σ H1 fun xs H2 => q (x :: xs) H2) : tCons te tr σ H q := h
theorem rd_nil {q : List V → Hp → Prop} (h : q [] H) : tNil σ H q := h
theorem rd_tup {ts : TA} (h : ts σ H fun xs H1 => xs.length ≤ sizeLine ∧ ∀ p, H1 p = none → Q (.ref p) (upd H1 p (.tup xs))) : tTup ts σ H Q := h
theorem rd_lst {ts : TA} (h : ts σ H fun xs H1 => xs.length ≤ sizeLine ∧ ∀ p, H1 p = none → Q (.ref p) (upd H1 p (.lst xs))) : tLst ts σ H Q := h
theorem rd_int {i : Int} (h : Q (.int i) H) : rToInt [.int i] H Q := .inl ⟨i, rfl, h⟩
theorem rd_intb {k : Bool} (h : Q (.int (if k then 1 else 0)) H) : rToInt [.bl k] H Q := .inr ⟨k, rfl, h⟩
theorem rd_abs {i : Int} (h : Q (.int (if i < 0 then -i else i)) H) : rAbs [.int i] H Q := ⟨i, rfl, h⟩
theorem rd_max {i j : Int} (h : Q (.int (if j > i then j else i)) H) : rMax2 [.int i, .int j] H Q := ⟨i, j, rfl, h⟩
theorem rd_min {i j : Int} (h : Q (.int (if j < i then j else i)) H) : rMin2 [.int i, .int j] H Q := ⟨i, j, rfl, h⟩
theorem rd_lenL {p : Addr} {xs : List V} (e : SqL K H p xs) (h : Q (.int xs.length) H) : rLen K [.ref p] H Q := ⟨.ref p, xs.length, rfl, .inl ⟨xs, e, rfl⟩, h⟩
theorem rd_lenT {p : Addr} {xs : List V} (e : SqT K H p xs) (h : Q (.int xs.length) H) : rLen K [.ref p] H Q := ⟨.ref p, xs.length, rfl, .inr ⟨xs, e, rfl⟩, h⟩
theorem rd_ixL {p : Addr} {xs : List V} {i : Int} {v : V} (e : SqL K H p xs) (a : atI xs i = some v) (h : Q v H) : rIxL K (.ref p) (.int i) H Q := ⟨p, xs, i, v, rfl, rfl, e, a, h⟩
theorem rd_ixT {p : Addr} {xs : List V} {i : Int} {v : V} (e : SqT K H p xs) (a : atI xs i = some v) (h : Q v H) : rIxT K (.ref p) (.int i) H Q := ⟨p, xs, i, v, rfl, rfl, e, a, h⟩
theorem rd_setL {p : Addr} {xs : List V} {i : Int} {j : Nat} {v : V} {q : Hp → Prop} (e : H p = some (.lst xs)) (a : ixN xs.length i = some j) (h : q (upd H p (.lst (xs.set j v)))) : rSetL (.ref p) (.int i) v H q := ⟨p, xs, i, j, rfl, rfl, e, a, h⟩
theorem rd_listL {p : Addr} {xs : List V} (e : SqL K H p xs) (h : ∀ l, H l = none → Q (.ref l) (upd H l (.lst xs))) : rToList K [.ref p] H Q := ⟨p, xs, rfl, .inl e, h⟩
theorem rd_iteD {p : Prop} [Decidable p] {A B : Prop} (h1 : p → A) (h2 : ¬ p → B) : if decide p = true then A else B := by
  by_cases h : p
  · rw [if_pos (decide_eq_true h)]; exact h1 h
  · rw [decide_eq_false h, if_neg Bool.false_ne_true]; exact h2 h
theorem rd_iteN {p : Prop} [Decidable p] {A B : Prop} (h1 : ¬ p → A) (h2 : p → B) : if (!decide p) = true then A else B := by
  by_cases h : p
  · rw [decide_eq_true h]; exact iteF (h2 h)
  · rw [decide_eq_false h]; exact iteT (h1 h)
theorem iteNT {A B : Prop} (h : B) : if (!true) = true then A else B := iteF h
theorem iteNF {A B : Prop} (h : A) : if (!false) = true then A else B := iteT h
theorem rd_isi {x c : V} {t' u' : Value} {d : Bool} (k : ClsV c u') (ty : TyX K H x t') (e : PySem.W.kitOne K t' u' = some d) (h : Q (.bl d) H) : rIsi K [x, c] H Q := ⟨x, c, t', u', d, rfl, k, ty, e, h⟩
theorem isi_int_int {i : Int} (h : Q (.bl true) H) : rIsi K [.int i, .ty "int"] H Q := rd_isi (.ty "int") (.base (.int i)) (kit_ty (by decide +kernel)) h
theorem isi_int_bool {i : Int} (h : Q (.bl false) H) : rIsi K [.int i, .ty "bool"] H Q := rd_isi (.ty "bool") (.base (.int i)) (kit_ty (by decide +kernel)) h
theorem isi_int_str {i : Int} (h : Q (.bl false) H) : rIsi K [.int i, .ty "str"] H Q := rd_isi (.ty "str") (.base (.int i)) (kit_ty (by decide +kernel)) h
theorem isi_int_list {i : Int} (h : Q (.bl false) H) : rIsi K [.int i, .ty "list"] H Q := rd_isi (.ty "list") (.base (.int i)) (kit_ty (by decide +kernel)) h
theorem isi_int_tuple {i : Int} (h : Q (.bl false) H) : rIsi K [.int i, .ty "tuple"] H Q := rd_isi (.ty "tuple") (.base (.int i)) (kit_ty (by decide +kernel)) h
theorem isi_bl_int {i : Bool} (h : Q (.bl true) H) : rIsi K [.bl i, .ty "int"] H Q := rd_isi (.ty "int") (.base (.bl i)) (kit_ty (by decide +kernel)) h
theorem isi_bl_bool {i : Bool} (h : Q (.bl true) H) : rIsi K [.bl i, .ty "bool"] H Q := rd_isi (.ty "bool") (.base (.bl i)) (kit_ty (by decide +kernel)) h
theorem isi_bl_str {i : Bool} (h : Q (.bl false) H) : rIsi K [.bl i, .ty "str"] H Q := rd_isi (.ty "str") (.base (.bl i)) (kit_ty (by decide +kernel)) h
theorem isi_bl_list {i : Bool} (h : Q (.bl false) H) : rIsi K [.bl i, .ty "list"] H Q := rd_isi (.ty "list") (.base (.bl i)) (kit_ty (by decide +kernel)) h
theorem isi_bl_tuple {i : Bool} (h : Q (.bl false) H) : rIsi K [.bl i, .ty "tuple"] H Q := rd_isi (.ty "tuple") (.base (.bl i)) (kit_ty (by decide +kernel)) h
theorem isi_non_int  (h : Q (.bl false) H) : rIsi K [.non, .ty "int"] H Q := rd_isi (.ty "int") (.base .non) (kit_ty (by decide +kernel)) h
theorem isi_non_bool  (h : Q (.bl false) H) : rIsi K [.non, .ty "bool"] H Q := rd_isi (.ty "bool") (.base .non) (kit_ty (by decide +kernel)) h
theorem isi_non_str  (h : Q (.bl false) H) : rIsi K [.non, .ty "str"] H Q := rd_isi (.ty "str") (.base .non) (kit_ty (by decide +kernel)) h
theorem isi_non_list  (h : Q (.bl false) H) : rIsi K [.non, .ty "list"] H Q := rd_isi (.ty "list") (.base .non) (kit_ty (by decide +kernel)) h
theorem isi_non_tuple  (h : Q (.bl false) H) : rIsi K [.non, .ty "tuple"] H Q := rd_isi (.ty "tuple") (.base .non) (kit_ty (by decide +kernel)) h
theorem isi_str_int {z : Str} (h : Q (.bl false) H) : rIsi K [.str z, .ty "int"] H Q := rd_isi (.ty "int") (.base (.str z)) (kit_ty (by decide +kernel)) h
theorem isi_str_bool {z : Str} (h : Q (.bl false) H) : rIsi K [.str z, .ty "bool"] H Q := rd_isi (.ty "bool") (.base (.str z)) (kit_ty (by decide +kernel)) h
theorem isi_str_str {z : Str} (h : Q (.bl true) H) : rIsi K [.str z, .ty "str"] H Q := rd_isi (.ty "str") (.base (.str z)) (kit_ty (by decide +kernel)) h
theorem isi_str_list {z : Str} (h : Q (.bl false) H) : rIsi K [.str z, .ty "list"] H Q := rd_isi (.ty "list") (.base (.str z)) (kit_ty (by decide +kernel)) h
theorem isi_str_tuple {z : Str} (h : Q (.bl false) H) : rIsi K [.str z, .ty "tuple"] H Q := rd_isi (.ty "tuple") (.base (.str z)) (kit_ty (by decide +kernel)) h
theorem isi_lst_int {p : Addr} {xs : List V} (hp : H p = some (.lst xs)) (h : Q (.bl false) H) : rIsi K [.ref p, .ty "int"] H Q := rd_isi (.ty "int") (.base (.lst hp)) (kit_ty (by decide +kernel)) h
theorem isi_lst_bool {p : Addr} {xs : List V} (hp : H p = some (.lst xs)) (h : Q (.bl false) H) : rIsi K [.ref p, .ty "bool"] H Q := rd_isi (.ty "bool") (.base (.lst hp)) (kit_ty (by decide +kernel)) h
theorem isi_lst_str {p : Addr} {xs : List V} (hp : H p = some (.lst xs)) (h : Q (.bl false) H) : rIsi K [.ref p, .ty "str"] H Q := rd_isi (.ty "str") (.base (.lst hp)) (kit_ty (by decide +kernel)) h
theorem isi_lst_list {p : Addr} {xs : List V} (hp : H p = some (.lst xs)) (h : Q (.bl true) H) : rIsi K [.ref p, .ty "list"] H Q := rd_isi (.ty "list") (.base (.lst hp)) (kit_ty (by decide +kernel)) h
theorem isi_lst_tuple {p : Addr} {xs : List V} (hp : H p = some (.lst xs)) (h : Q (.bl false) H) : rIsi K [.ref p, .ty "tuple"] H Q := rd_isi (.ty "tuple") (.base (.lst hp)) (kit_ty (by decide +kernel)) h
theorem isi_tup_int {p : Addr} {xs : List V} (hp : H p = some (.tup xs)) (h : Q (.bl false) H) : rIsi K [.ref p, .ty "int"] H Q := rd_isi (.ty "int") (.base (.tup hp)) (kit_ty (by decide +kernel)) h
theorem isi_tup_bool {p : Addr} {xs : List V} (hp : H p = some (.tup xs)) (h : Q (.bl false) H) : rIsi K [.ref p, .ty "bool"] H Q := rd_isi (.ty "bool") (.base (.tup hp)) (kit_ty (by decide +kernel)) h
theorem isi_tup_str {p : Addr} {xs : List V} (hp : H p = some (.tup xs)) (h : Q (.bl false) H) : rIsi K [.ref p, .ty "str"] H Q := rd_isi (.ty "str") (.base (.tup hp)) (kit_ty (by decide +kernel)) h
theorem isi_tup_list {p : Addr} {xs : List V} (hp : H p = some (.tup xs)) (h : Q (.bl false) H) : rIsi K [.ref p, .ty "list"] H Q := rd_isi (.ty "list") (.base (.tup hp)) (kit_ty (by decide +kernel)) h
theorem isi_tup_tuple {p : Addr} {xs : List V} (hp : H p = some (.tup xs)) (h : Q (.bl true) H) : rIsi K [.ref p, .ty "tuple"] H Q := rd_isi (.ty "tuple") (.base (.tup hp)) (kit_ty (by decide +kernel)) h
theorem rd_for1 {ts : TA} {g : TG} {tb' : TS} {D : Ends} (h : ts σ H fun vs H1 => ∃ j : Int, vs = [.int j] ∧ -(2 ^ 62) ≤ j ∧ j < 2 ^ 62 ∧ (∃ W : Nat → Nat → L2.St → Hp → Prop, (∃ m, W 0 m σ H1) ∧ ∀ i m σ H, W i m σ H →
      ((Itr 0 j.toNat).stop i H ∧ D.nx σ H) ∨ ((Itr 0 j.toNat).go i H ∧ ∃ N : L2.St → Hp → Prop, (∀ σ' H', N σ' H' → ∃ m', m' < m ∧ W (i + 1) m' σ' H') ∧ ∀ x H', (Itr 0 j.toNat).yld i H x H' → g x σ H' fun σ2 H2 => tb' { D with nx := N, ct := N, bk := D.nx } σ2 H2))) : tFor (iRng1 ts) g tb' D σ H := h
theorem rd_all {n m : Nat} {P : Addr → Prop} (h1 : n ≤ m) (h : ∀ p, H p = none → P p) : n ≤ m ∧ ∀ p, H p = none → P p := ⟨h1, h⟩
theorem rd_ixP {p : Addr} {xs : List V} {i : Int} (Pm : V → Prop) (e : SqL K H p xs) (h0 : 0 ≤ i) (h1 : i < xs.length) (hP : ∀ v ∈ xs, Pm v) (h : ∀ v, Pm v → Q v H) : rIxL K (.ref p) (.int i) H Q := by
  obtain ⟨j, rfl⟩ : ∃ j : Nat, i = (j : Int) := ⟨i.toNat, by omega⟩
  have hj : j < xs.length := by omega
  have g : xs[j]? = some xs[j] := List.getElem?_eq_getElem hj
  exact ⟨p, xs, (j : Int), xs[j], rfl, rfl, e, atI_nat g, h _ (hP _ (List.getElem_mem hj))⟩
theorem rd_gtup {a : Addr} {xs : List V} {k : Nat} {ts : TGs} {q : L2.St → Hp → Prop} (e : SqT K H a xs) (l : xs.length = k) (h : ts xs σ H q) : gTup K k ts (.ref a) σ H q := ⟨a, xs, rfl, e, l, h⟩
theorem rd_gcons {g : TG} {ts : TGs} {v : V} {vs : List V} {q : L2.St → Hp → Prop} (h : g v σ H fun σ' H' => ts vs σ' H' q) : gCons g ts (v :: vs) σ H q := ⟨v, vs, rfl, h⟩
theorem rd_gnil {q : L2.St → Hp → Prop} (h : q σ H) : gNil [] σ H q := ⟨rfl, h⟩
def LpW (J : It) (g : TG) (tb : TS) (D : Ends) (σ : L2.St) (H1 : Hp) : Prop := ∃ W : Nat → Nat → L2.St → Hp → Prop, (∃ m, W 0 m σ H1) ∧ ∀ i m σ H, W i m σ H →
      (J.stop i H ∧ D.nx σ H) ∨ (J.go i H ∧ ∃ N : L2.St → Hp → Prop, (∀ σ' H', N σ' H' → ∃ m', m' < m ∧ W (i + 1) m' σ' H') ∧ ∀ x H', J.yld i H x H' → g x σ H' fun σ2 H2 => tb { D with nx := N, ct := N, bk := D.nx } σ2 H2)
theorem rd_forT {g : TG} {tb' : TS} {D : Ends} (h : te σ H fun x H1 => ∃ a, x = .ref a ∧ (∃ xs, SqT K H1 a xs) ∧ LpW (Itt K a) g tb' D σ H1) : tFor (iTup K te) g tb' D σ H := h
theorem rd_forL {g : TG} {tb' : TS} {D : Ends} (h : te σ H fun x H1 => ∃ a, x = .ref a ∧ (∃ xs, SqL K H1 a xs) ∧ LpW (Itl K a) g tb' D σ H1) : tFor (iList K te) g tb' D σ H := h
theorem rd_lpT {a : Addr} {xs : List V} {g : TG} {tb' : TS} {D : Ends} (e : SqT K H a xs) (h : LpW (Itt K a) g tb' D σ H) : ∃ b, V.ref a = .ref b ∧ (∃ xs, SqT K H b xs) ∧ LpW (Itt K b) g tb' D σ H := ⟨a, rfl, ⟨xs, e⟩, h⟩
theorem rd_lpL {a : Addr} {xs : List V} {g : TG} {tb' : TS} {D : Ends} (e : SqL K H a xs) (h : LpW (Itl K a) g tb' D σ H) : ∃ b, V.ref a = .ref b ∧ (∃ xs, SqL K H b xs) ∧ LpW (Itl K b) g tb' D σ H := ⟨a, rfl, ⟨xs, e⟩, h⟩
theorem rd_for2 {ts : TA} {g : TG} {tb' : TS} {D : Ends} (h : ts σ H fun vs H1 => ∃ i j : Int, vs = [.int i, .int j] ∧ (-(2 ^ 62) ≤ i ∧ i < 2 ^ 62 ∧ -(2 ^ 62) ≤ j ∧ j < 2 ^ 62) ∧ LpW (Itr i (j - i).toNat) g tb' D σ H1) : tFor (iRng2 ts) g tb' D σ H := h
theorem rd_n2 {i j : Int} {A : Int → Int → Prop} (h1 : -(2 ^ 62) ≤ i ∧ i < 2 ^ 62 ∧ -(2 ^ 62) ≤ j ∧ j < 2 ^ 62) (h : A i j) : ∃ k l : Int, [V.int i, V.int j] = [V.int k, V.int l] ∧ (-(2 ^ 62) ≤ k ∧ k < 2 ^ 62 ∧ -(2 ^ 62) ≤ l ∧ l < 2 ^ 62) ∧ A k l := ⟨i, j, rfl, h1, h⟩
theorem dp_ints : ∀ ns : List Int, DpAll K H (ns.map V.int) (ns.map PyData.int)
  | [] => .nil
  | n :: r => .cons (.int n) (dp_ints r)
theorem rd_neT2 {p q : Addr} {a b c d : Int} (hp : SqT K H p [.int a, .int b]) (hq : SqT K H q [.int c, .int d]) (e1 : a = c) (e2 : b = d) (h : Q (.bl false) H) : rNeD K (.ref p) (.ref q) H Q := by
  subst e1 e2
  exact ⟨_, _, .tup hp (dp_ints [a, b]), .tup hq (dp_ints [a, b]), rfl, rfl, by
    have e : PyData.eqv (.tuple ([a, b].map PyData.int)) (.tuple ([a, b].map PyData.int)) = true := by simp [PyData.eqv, PyData.eqvAll]
    rw [e]
    exact h⟩
def rIsN : R2 := fun x y H Q => y = .non ∧ Q (.bl (decide (x = .non))) H
theorem rd_isN {x : V} (h : Q (.bl (decide (x = .non))) H) : rIsN x .non H Q := ⟨rfl, h⟩
theorem rd_one {v : V} {P : V → Prop} (h : P v) : ∃ a, [v] = [a] ∧ P a := ⟨v, rfl, h⟩
theorem rd_n1 {j : Int} {A : Int → Prop} (h1 : -(2 ^ 62) ≤ j) (h2 : j < 2 ^ 62) (h : A j) : ∃ k : Int, [V.int j] = [V.int k] ∧ -(2 ^ 62) ≤ k ∧ k < 2 ^ 62 ∧ A k := ⟨j, rfl, h1, h2, h⟩
end
theorem look_same {H H' : Hp} {a : Addr} {u : HO} (s : Same H H') (h : H a = some u) : H' a = some u := s a u h
theorem look_new {H : Hp} {p a : Addr} {o u : HO} (hp : H p = none) (h : H a = some u) : upd H p o a = some u := by rw [upd_ne (ne_of_none h hp)]; exact h
/-- all but the object at p stay -/
def Kp (p : Addr) (H H' : Hp) : Prop := ∀ a o, a ≠ p → H a = some o → H' a = some o
theorem Kp.refl {p : Addr} {H : Hp} : Kp p H H := fun _ _ _ h => h
theorem Kp.trans {p : Addr} {H H1 H2 : Hp} (a : Kp p H H1) (b : Kp p H1 H2) : Kp p H H2 := fun c o n h => b c o n (a c o n h)
theorem Kp.of {p : Addr} {H H' : Hp} (s : Same H H') : Kp p H H' := fun a o _ h => s a o h
theorem same_new {H : Hp} {p : Addr} {o : HO} (h : H p = none) : Same H (upd H p o) := fun b x e => look_new h e
theorem Kp.new {p q : Addr} {H : Hp} {o : HO} (h : H q = none) : Kp p H (upd H q o) := .of (same_new h)
theorem Kp.at {p : Addr} {H : Hp} {o : HO} : Kp p H (upd H p o) := fun a x n h => by rw [upd_ne n]; exact h
theorem same_kp {p : Addr} {H0 H H' : Hp} (s : Same H0 H) (n : H0 p = none) (k : Kp p H H') : Same H0 H' := fun a o h => k a o (ne_of_none h n) (s a o h)
theorem sqL_new {K : PySem.W.Frag} {p a : Addr} {H : Hp} {o : HO} {xs : List V} (n : H p = none) (h : SqL K H a xs) : SqL K (upd H p o) a xs := (same_new n).seq h
theorem sqL_same {K : PySem.W.Frag} {a : Addr} {H H' : Hp} {xs : List V} (s : Same H H') (h : SqL K H a xs) : SqL K H' a xs := s.seq h
theorem by_all {K : PySem.W.Frag} {a : Addr} {xs : List V} {H : Hp} (h : ∀ H, SqT K H a xs) : SqT K H a xs := h H
def Pool (H : Hp) (p : Addr) : Prop := ∃ x y : Int, H p = some (.lst [.int x, .int y]) ∧ 0 ≤ x ∧ 0 ≤ y ∧ y < 2147483647
theorem look_kp {p a : Addr} {H H' : Hp} {u : HO} (k : Kp p H H') (n : a ≠ p) (h : H a = some u) : H' a = some u := k a u n h
theorem Pool.ne {H : Hp} {p a : Addr} (h : Pool H p) (n : H a = none) : a ≠ p := by
  obtain ⟨x, y, e, _⟩ := h
  exact (ne_of_none e n).symm
theorem Pool.ne' {H : Hp} {p a : Addr} (n : H a = none) (h : Pool H p) : a ≠ p := h.ne n
theorem Pool.new {H : Hp} {p q : Addr} {o : HO} (h : Pool H p) (n : H q = none) : Pool (upd H q o) p := by
  obtain ⟨x, y, e, r⟩ := h
  exact ⟨x, y, look_new n e, r⟩
theorem Pool.same {H H' : Hp} {p : Addr} (h : Pool H p) (s : Same H H') : Pool H' p := by
  obtain ⟨x, y, e, r⟩ := h
  exact ⟨x, y, s _ _ e, r⟩
theorem Pool.same' {H H' : Hp} {p : Addr} (s : Same H H') (h : Pool H p) : Pool H' p := h.same s
theorem Pool.new' {H : Hp} {p q : Addr} {o : HO} (n : H q = none) (h : Pool H p) : Pool (upd H q o) p := h.new n
def spTake : Sp := fun vs H Q _ => ∃ (p : Addr) (m : Int), vs = [.ref p, .int m] ∧ Pool H p ∧ 0 < m ∧ m < 1073741824 ∧ ∀ r H', 0 ≤ r → r < m → Pool H' p → Kp p H H' → Q (.int r) H'
theorem use_take {p : Addr} {m : Int} {H : Hp} {Q : VK} {E : XK} (h1 : Pool H p) (h2 : 0 < m) (h3 : m < 1073741824) (q : ∀ r H', 0 ≤ r → r < m → Pool H' p → Kp p H H' → Q (.int r) H') : spTake ([.ref p, .int m] ++ []) H Q E := ⟨p, m, rfl, h1, h2, h3, q⟩
def spPool (K : PySem.W.Frag) : Sp := fun vs H Q _ => ∃ (a : Addr) (ns : List Int) (k : Int), vs = [.ref a, .int k] ∧ SqL K H a (ns.map V.int) ∧ ns.length ≤ 63 ∧ 0 ≤ k ∧ k < 64 ∧ ∀ p H', H p = none → Same H H' → Pool H' p → Q (.ref p) H'
theorem use_pool {K : PySem.W.Frag} {a : Addr} {ns : List Int} {k : Int} {H : Hp} {Q : VK} {E : XK} (h1 : SqL K H a (ns.map V.int)) (h2 : ns.length ≤ 63) (h3 : 0 ≤ k) (h4 : k < 64) (q : ∀ p H', H p = none → Same H H' → Pool H' p → Q (.ref p) H') : spPool K ([.ref a, .int k] ++ []) H Q E := ⟨a, ns, k, rfl, h1, h2, h3, h4, q⟩
def spNumber : Sp := fun vs H Q _ => ∃ (p : Addr), vs = [.ref p] ∧ Pool H p ∧ ∀ r H', r.natAbs < 10 ^ 55 → Pool H' p → Kp p H H' → Q (.int r) H'
theorem great_nn (z : Int) (b : Bool) : 0 ≤ (if z < 0 then -z else z) * (if b = true then (1 : Int) else 0) := Int.mul_nonneg (by split <;> omega) (by split <;> decide)
theorem use_number {p : Addr} {H : Hp} {Q : VK} {E : XK} (h1 : Pool H p) (q : ∀ r H', r.natAbs < 10 ^ 55 → Pool H' p → Kp p H H' → Q (.int r) H') : spNumber ([.ref p] ++ []) H Q E := ⟨p, rfl, h1, q⟩
def isI : V → Bool
  | .int _ => true
  | _ => false
def TyV (H : Hp) : V → Prop
  | .non => True
  | .bl _ => True
  | .int _ => True
  | .str _ => True
  | .ref a => (∃ xs, H a = some (.lst xs)) ∨ ∃ xs, H a = some (.tup xs)
  | _ => False
def spIsI : Sp := fun vs H Q _ => ∃ x, vs = [x] ∧ TyV H x ∧ Q (.bl (isI x)) H
theorem use_isi {x : V} {H : Hp} {Q : VK} {E : XK} (t : TyV H x) (q : Q (.bl (isI x)) H) : spIsI ([x] ++ []) H Q E := ⟨x, rfl, t, q⟩
theorem use_isi_int {i : Int} {H : Hp} {Q : VK} {E : XK} (q : Q (.bl true) H) : spIsI ([.int i] ++ []) H Q E := ⟨_, rfl, trivial, q⟩
def inI (x : V) (lo hi : Int) : Bool := match x with
  | .int i => decide (lo ≤ i ∧ i ≤ hi)
  | _ => false
def spWithin : Sp := fun vs H Q _ => ∃ x lo hi, vs = [x, .int lo, .int hi] ∧ TyV H x ∧ Q (.bl (inI x lo hi)) H
theorem use_within_int {i lo hi : Int} {H : Hp} {Q : VK} {E : XK} (q : Q (.bl (decide (lo ≤ i ∧ i ≤ hi))) H) : spWithin ([.int i, .int lo, .int hi] ++ []) H Q E := ⟨_, lo, hi, rfl, trivial, q⟩
def spCkI : Sp := fun vs H Q _ => ∃ i, vs = [.int i] ∧ Q .non H
theorem use_cki {i : Int} {H : Hp} {Q : VK} {E : XK} (q : Q .non H) : spCkI ([.int i] ++ []) H Q E := ⟨_, rfl, q⟩
def spCkW : Sp := fun vs H Q _ => ∃ i lo hi, vs = [.int i, .int lo, .int hi] ∧ lo ≤ i ∧ i ≤ hi ∧ Q .non H
theorem use_ckw {i lo hi : Int} {H : Hp} {Q : VK} {E : XK} (h1 : lo ≤ i) (h2 : i ≤ hi) (q : Q .non H) : spCkW ([.int i, .int lo, .int hi] ++ []) H Q E := ⟨_, _, _, rfl, h1, h2, q⟩
def spQuant : Sp := fun vs H Q _ => ∃ v s, vs = [.int v, .int s] ∧ 1 ≤ s ∧ s ≤ 64 ∧ Q (.int ((2 * v + s) / (2 * s))) H
theorem use_quant {v s : Int} {H : Hp} {Q : VK} {E : XK} (h1 : 1 ≤ s) (h2 : s ≤ 64) (q : Q (.int ((2 * v + s) / (2 * s))) H) : spQuant ([.int v, .int s] ++ []) H Q E := ⟨v, s, rfl, h1, h2, q⟩
theorem use_quantK {v s : Int} {H : Hp} {Q : VK} {E : XK} (h1 : 1 ≤ s) (h2 : s ≤ 64) (q : Q (.int ((2 * v + s) / (2 * s))) H) : spQuant (kg 0 2 [1, 0] [] [.int s, .int v]) H Q E := ⟨v, s, rfl, h1, h2, q⟩
def cC (s : Int) : Int := if s = 0 then -1 else if s = 1 then -2 else if s = 2 then 1 else 2
def cD (s : Int) : Int := if s = 0 then 2 else if s = 1 then 3 else if s = 2 then -2 else -3
def foldP (s a b : Int) : Int × Int :=
  (a + (cC s * b + 2) / 4 + (cC s * (b + (cD s * (a + (cC s * b + 2) / 4) + 2) / 4) + 2) / 4, b + (cD s * (a + (cC s * b + 2) / 4) + 2) / 4)
def unfoldP (s a b : Int) : Int × Int :=
  (a - (cC s * b + 2) / 4 - (cC s * (b - (cD s * (a - (cC s * b + 2) / 4) + 2) / 4) + 2) / 4, b - (cD s * (a - (cC s * b + 2) / 4) + 2) / 4)
theorem unfold_fold (s a b : Int) : unfoldP s (foldP s a b).1 (foldP s a b).2 = (a, b) := by
  unfold unfoldP foldP
  dsimp only
  rw [Int.add_sub_cancel, Int.add_sub_cancel, Int.add_sub_cancel]
theorem fold_unfold (s a b : Int) : foldP s (unfoldP s a b).1 (unfoldP s a b).2 = (a, b) := by
  unfold unfoldP foldP
  dsimp only
  rw [Int.sub_add_cancel, Int.sub_add_cancel, Int.sub_add_cancel]
def spPair (f : Int → Int → Int → Int × Int) : Sp := fun vs H Q _ => ∃ s a b, vs = [.int s, .int a, .int b] ∧ 0 ≤ s ∧ s < 4 ∧ ∀ p, H p = none → Q (.ref p) (upd H p (.tup [.int (f s a b).1, .int (f s a b).2]))
theorem use_pair {f : Int → Int → Int → Int × Int} {s a b : Int} {H : Hp} {Q : VK} {E : XK} (h1 : 0 ≤ s) (h2 : s < 4) (q : ∀ p, H p = none → Q (.ref p) (upd H p (.tup [.int (f s a b).1, .int (f s a b).2]))) : spPair f ([.int s, .int a, .int b] ++ []) H Q E := ⟨s, a, b, rfl, h1, h2, q⟩
def spCkP : Sp := fun vs H Q _ => ∃ s a b, vs = [.int s, .int a, .int b] ∧ 0 ≤ s ∧ s < 4 ∧ Q .non H
theorem use_ckp {s a b : Int} {H : Hp} {Q : VK} {E : XK} (h1 : 0 ≤ s) (h2 : s < 4) (q : Q .non H) : spCkP ([.int s, .int a, .int b] ++ []) H Q E := ⟨s, a, b, rfl, h1, h2, q⟩
def spLFold : Sp := fun vs H Q _ => ∃ s a b, vs = [.int s, .int a, .int b] ∧ 0 ≤ s ∧ s < 4 ∧ ∀ p H', Same H H' → H' p = some (.tup [.int (foldP s a b).1, .int (foldP s a b).2]) → Q (.ref p) H'
theorem use_lfold {s a b : Int} {H : Hp} {Q : VK} {E : XK} (h1 : 0 ≤ s) (h2 : s < 4) (q : ∀ p H', Same H H' → H' p = some (.tup [.int (foldP s a b).1, .int (foldP s a b).2]) → Q (.ref p) H') : spLFold ([.int s, .int a, .int b] ++ []) H Q E := ⟨s, a, b, rfl, h1, h2, q⟩
def spIsPair : Sp := fun vs H Q _ => ∃ p x y, vs = [.ref p] ∧ H p = some (.tup [.int x, .int y]) ∧ Q (.bl true) H
theorem use_ispair {p : Addr} {x y : Int} {H : Hp} {Q : VK} {E : XK} (h : H p = some (.tup [.int x, .int y])) (q : Q (.bl true) H) : spIsPair ([.ref p] ++ []) H Q E := ⟨p, x, y, rfl, h, q⟩
theorem look_upd {H : Hp} {p a : Addr} {o u : HO} (n : a ≠ p) (h : H a = some u) : upd H p o a = some u := by rw [upd_ne n]; exact h
def Kp2 (p q : Addr) (H H' : Hp) : Prop := ∀ a o, a ≠ p → a ≠ q → H a = some o → H' a = some o
theorem Kp2.refl {p q : Addr} {H : Hp} : Kp2 p q H H := fun _ _ _ _ h => h
theorem Kp2.trans {p q : Addr} {H H1 H2 : Hp} (a : Kp2 p q H H1) (b : Kp2 p q H1 H2) : Kp2 p q H H2 := fun c o n m h => b c o n m (a c o n m h)
theorem Kp2.ofK {p q : Addr} {H H' : Hp} (k : Kp p H H') : Kp2 p q H H' := fun a o n _ h => k a o n h
theorem Kp2.ofS {p q : Addr} {H H' : Hp} (k : Same H H') : Kp2 p q H H' := fun a o _ _ h => k a o h
theorem Kp2.new {p q r : Addr} {H : Hp} {o : HO} (h : H r = none) : Kp2 p q H (upd H r o) := .ofS (same_new h)
theorem Kp2.at {p q : Addr} {H : Hp} {o : HO} : Kp2 p q H (upd H q o) := fun a x _ n h => by rw [upd_ne n]; exact h
theorem close_turn {p : Addr} {H H1 H2 H3 : Hp} (s : Same H H1) (n : H1 p = none) (s2 : Same H1 H2) (k : Kp p H2 H3) : Same H H3 := same_kp (s.trans s2) (s.free n) k
theorem mm_nat (n c : Nat) (hc : 1 ≤ c) : (if (if (c : Int) < (n : Int) then (c : Int) else (n : Int)) > 1 then (if (c : Int) < (n : Int) then (c : Int) else (n : Int)) else 1).toNat ≤ c := by
  split
  · split <;> omega
  · split <;> omega
def spLaw (K : PySem.W.Frag) : Sp := fun vs H Q _ => ∃ (a : Addr) (ns : List Int), vs = [.ref a] ∧ SqL K H a (ns.map V.int) ∧ ns.length ≤ 63 ∧ ∀ H', Q (.bl true) H'
theorem if_no {c : Bool} {A B : Prop} (h : c = false) (q : B) : if c = true then A else B := by rw [h]; exact iteF q
theorem if_yes {c : Bool} {A B : Prop} (h : c = true) (q : A) : if c = true then A else B := by rw [h]; exact iteT q
theorem if_noN {p : Prop} [Decidable p] {A B : Prop} (h : p) (q : B) : if (!decide p) = true then A else B := if_no (by rw [decide_eq_true h]; rfl) q
theorem canLay_ints : ∀ ns : List Int, PyData.canLayAll0 (ns.map PyData.int) = true
  | [] => rfl
  | n :: r => by
    show (PyData.canLay0 (.int n) && PyData.canLayAll0 (r.map PyData.int)) = true
    rw [canLay_ints r]
    rfl
theorem depth_ints : ∀ ns : List Int, PyData.depthAll (ns.map PyData.int) = 0
  | [] => rfl
  | n :: r => by
    show max (PyData.depth (.int n)) (PyData.depthAll (r.map PyData.int)) = 0
    rw [depth_ints r]
    rfl
theorem shaped_ints (ns : List Int) : SeqAt.shaped (.list (ns.map PyData.int)) = true := by
  show (PyData.canLayAll0 (ns.map PyData.int) && decide (PyData.depthAll (ns.map PyData.int) + 1 ≤ 64)) = true
  rw [canLay_ints, depth_ints]
  rfl
theorem eqv_ints : ∀ ns ms : List Int, PyData.eqvAll (ns.map PyData.int) (ms.map PyData.int) = decide (ns = ms)
  | [], [] => by simp [PyData.eqvAll]
  | [], m :: r => by simp [PyData.eqvAll]
  | n :: r, [] => by simp [PyData.eqvAll]
  | n :: r, m :: t => by
    show (PyData.eqv (.int n) (.int m) && PyData.eqvAll (r.map PyData.int) (t.map PyData.int)) = decide (n :: r = m :: t)
    rw [eqv_ints r t]
    show ((n == m) && decide (r = t)) = decide (n :: r = m :: t)
    by_cases h : n = m
    · subst h
      simp
    · have e : (n == m) = false := by simpa using h
      rw [e, Bool.false_and]
      exact (decide_eq_false fun z => h (List.cons.inj z).1).symm
section
variable {K : PySem.W.Frag} {H : Hp} {Q : VK} {p q : Addr} {ns ms : List Int}
theorem rd_neL (hp : SqL K H p (ns.map V.int)) (hq : SqL K H q (ms.map V.int)) (h : Q (.bl (!decide (ns = ms))) H) : rNeD K (.ref p) (.ref q) H Q :=
  ⟨_, _, .lst hp (dp_ints ns), .lst hq (dp_ints ms), shaped_ints ns, shaped_ints ms, by
    rw [show PyData.eqv (.list (ns.map PyData.int)) (.list (ms.map PyData.int)) = decide (ns = ms) by rw [← eqv_ints]; simp only [PyData.eqv]]
    exact h⟩
theorem rd_eqL (hp : SqL K H p (ns.map V.int)) (hq : SqL K H q (ms.map V.int)) (h : Q (.bl (decide (ns = ms))) H) : rEqD K (.ref p) (.ref q) H Q :=
  ⟨_, _, .lst hp (dp_ints ns), .lst hq (dp_ints ms), shaped_ints ns, shaped_ints ms, by
    rw [show PyData.eqv (.list (ns.map PyData.int)) (.list (ms.map PyData.int)) = decide (ns = ms) by rw [← eqv_ints]; simp only [PyData.eqv]]
    exact h⟩
theorem rd_neN (hp : SqL K H p (ns.map V.int)) (hq : SqL K H q []) (h : Q (.bl (!decide (ns = []))) H) : rNeD K (.ref p) (.ref q) H Q := rd_neL (ms := []) hp hq h
end
section
variable {K : PySem.W.Frag} {σ : L2.St} {H : Hp} {Q : VK} {g : TG} {tb : TS} {D : Ends}
theorem rd_forE {ts : TA} (h : ts σ H fun vs H1 => ∃ a xs, vs = [.ref a] ∧ SqL K H1 a xs ∧ LpW (Ite K a) g tb D σ H1) : tFor (iEnum K ts) g tb D σ H := h
theorem for_enum {a : Addr} {xs : List V} (Pv : Nat → L2.St → Hp → Prop) (h0 : Pv 0 σ H) (hl : ∀ i σ H, i ≤ xs.length → Pv i σ H → SqL K H a xs)
    (hs : ∀ i x σ H T, xs[i]? = some x → Pv i σ H → H T = none → g (.ref T) σ (upd H T (.tup [.int (i : Nat), x])) fun σ2 H2 => tb { D with nx := Pv (i + 1), ct := Pv (i + 1), bk := D.nx } σ2 H2) (hd : ∀ σ H, Pv xs.length σ H → D.nx σ H) : LpW (Ite K a) g tb D σ H := by
  refine ⟨fun i m σ H => m = xs.length - i ∧ i ≤ xs.length ∧ Pv i σ H, ⟨xs.length, by simp, Nat.zero_le _, h0⟩, ?_⟩
  rintro i m σ H ⟨rfl, hi, p⟩
  have q := hl i σ H hi p
  by_cases hlt : i < xs.length
  · refine .inr ⟨⟨xs, xs[i], q, by simp [hlt]⟩, Pv (i + 1), fun σ' H' p' => ⟨xs.length - (i + 1), by omega, rfl, hlt, p'⟩, fun x H' y => ?_⟩
    obtain ⟨T, x1, rfl, nT, rfl, y⟩ := y
    exact hs i x1 σ H T (y xs q) p nT
  · have e : i = xs.length := by omega
    subst e
    exact .inl ⟨⟨xs, q, Nat.le_refl _⟩, hd σ H p⟩
theorem rd_forZ {ts : TA} (h : ts σ H fun vs H1 => ∃ a b xs ys, vs = [.ref a, .ref b] ∧ ((SqL K H1 a xs ∧ SqL K H1 b ys ∧ LpW (Itz K a b) g tb D σ H1) ∨ (SqT K H1 a xs ∧ SqT K H1 b ys ∧ LpW (RZ.ItzT K a b) g tb D σ H1))) : tFor (RZ.iZipA K ts) g tb D σ H := h
def LcW (J : It) (g : TG) (tt : TT) (te : TE) (vs : List Nat) (Q : VK) (σ : L2.St) (H1 : Hp) (D : Addr) : Prop := ∃ W : Nat → Nat → Hp → Prop, (∃ m, W 0 m (upd H1 D (.lst []))) ∧ ∀ i m H, W i m H →
  (J.stop i H ∧ Q (.ref D) H) ∨ (J.go i H ∧ ∃ Nx : Hp → Prop, (∀ H', Nx H' → ∃ m', m' < m ∧ W (i + 1) m' H') ∧ ∀ x H', J.yld i H x H' → g x (wipe σ vs) H' fun σ2 H2 => wipe σ2 vs = wipe σ vs ∧ tt σ2 H2 fun b H3 =>
    if b = true then te σ2 H3 fun y H4 => ∃ acc, H4 D = some (.lst acc) ∧ acc.length < sizeLine ∧ Nx (upd H4 D (.lst (acc ++ [y]))) else Nx H3)
theorem rd_lc1 {ts : TA} {tt : TT} {te : TE} {vs : List Nat} (h : ts σ H fun us H1 => ∃ j : Int, us = [.int j] ∧ -(2 ^ 62) ≤ j ∧ j < 2 ^ 62 ∧ ∀ D, H1 D = none → LcW (Itr 0 j.toNat) g tt te vs Q σ H1 D) : tLc (iRng1 ts) g tt te vs σ H Q := h
theorem rd_yes {σ : L2.St} {H : Hp} {A B : Hp → Prop} (h : A H) : tYes σ H fun b H3 => if b = true then A H3 else B H3 := by
  show if true = true then A H else B H
  rw [if_pos rfl]
  exact h
theorem kp_app {p D : Addr} {H1 H H' : Hp} {o : HO} (hD : H1 D = none) (k : Kp p H1 H) (k2 : Kp p H H') : Kp p H1 (upd H' D o) := fun a x n e => by
  rw [upd_ne (ne_of_none e hD)]
  exact k2 a x n (k a x n e)
theorem rd_lcD {J : It} {tt : TT} {te : TE} {vs : List Nat} (h : ∀ D, H D = none → LcW J g tt te vs Q σ H D) : ∀ D, H D = none → LcW J g tt te vs Q σ H D := h
theorem lc_numbers {vs : List Nat} {i k : Nat} {p D : Addr} {n : Nat} {H1 : Hp} (hσ : ∀ v, ((wipe σ vs).set k (some v))[i]? = some (some (.ref p))) (hw : ∀ v, wipe ((wipe σ vs).set k (some v)) vs = wipe σ vs) (hP : Pool H1 p) (hD : H1 D = none) (hn : n ≤ 1000)
    (q : ∀ (ns : List Int) H', ns.length = n → (∀ z ∈ ns, z.natAbs < 10 ^ 55) → Pool H' p → Kp p H1 H' → H' D = some (.lst (ns.map V.int)) → Q (.ref D) H') :
    LcW (Itr 0 n) (gName k) tYes (tCall spNumber [] E0 (tCons (tVar i) tNil)) vs Q σ H1 D := by
  have hDp : D ≠ p := hP.ne hD
  refine lc_range (Pv := fun j H => ∃ ns : List Int, ns.length = j ∧ (∀ z ∈ ns, z.natAbs < 10 ^ 55) ∧ Pool H p ∧ Kp p H1 H ∧ H D = some (.lst (ns.map V.int))) ⟨[], rfl, List.forall_mem_nil _, hP.new hD, Kp.new hD, upd_same⟩ (fun j H hj hI => ?_) (fun H hI => ?_)
  · obtain ⟨ns, hl, hb, hP', hK, hd⟩ := hI
    refine ⟨hw _, rd_yes ?_⟩
    refine rd_call (rd_cons (rd_var (hσ _) (rd_nil (use_number hP' fun r H' hr hP2 hK2 => ?_))))
    refine ⟨_, hK2 _ _ hDp hd, ?_, ns ++ [r], ?_, ?_, ?_, kp_app hD hK hK2, ?_⟩
    · rw [List.length_map]
      exact small1000 (by omega)
    · rw [List.length_append, hl]
      rfl
    · intro z hz
      rcases List.mem_append.mp hz with hz | hz
      · exact hb z hz
      · rw [List.mem_singleton.mp hz]
        exact hr
    · obtain ⟨x, y, e, r⟩ := hP2
      exact ⟨x, y, by rw [upd_ne hDp.symm]; exact e, r⟩
    · rw [upd_same, List.map_append]
      rfl
  · obtain ⟨ns, hl, hb, hP', hK, hd⟩ := hI
    exact q ns H hl hb hP' hK hd
end
def scalarV : V → Bool
  | .non => true
  | .bl _ => true
  | .int _ => true
  | .str _ => true
  | _ => false
def LstV (K : PySem.W.Frag) (H : Hp) (a : Addr) (xs : List V) : Prop := SqL K H a xs ∧ TyX K H (.ref a) (.type "list")
def TupV (K : PySem.W.Frag) (H : Hp) (a : Addr) (xs : List V) : Prop := SqT K H a xs ∧ TyX K H (.ref a) (.type "tuple")
def SmV (K : PySem.W.Frag) (H : Hp) : Nat → V → V → Prop
  | 0, x, y => x = y ∧ scalarV x = true
  | n + 1, x, y => (x = y ∧ scalarV x = true) ∨ (∃ a b xs ys, x = .ref a ∧ y = .ref b ∧ LstV K H a xs ∧ LstV K H b ys ∧ xs.length = ys.length ∧ ∀ (i : Nat) x y, xs[i]? = some x → ys[i]? = some y → SmV K H n x y) ∨
      ∃ a b xs ys, x = .ref a ∧ y = .ref b ∧ TupV K H a xs ∧ TupV K H b ys ∧ xs.length = ys.length ∧ ∀ (i : Nat) x y, xs[i]? = some x → ys[i]? = some y → SmV K H n x y
theorem LstV.of {K : PySem.W.Frag} {H : Hp} {a : Addr} {xs : List V} (h : H a = some (.lst xs)) : LstV K H a xs := ⟨SqL.of h, .base (.lst h)⟩
theorem TupV.of {K : PySem.W.Frag} {H : Hp} {a : Addr} {xs : List V} (h : H a = some (.tup xs)) : TupV K H a xs := ⟨SqT.of h, .base (.tup h)⟩
section
variable {K : PySem.W.Frag} {H H' : Hp}
theorem tyo_same {x : V} {t : Value} (s : Same H H') (h : TyOf K H x t) : TyOf K H' x t := by
  cases h with
  | non => exact .non
  | bl x => exact .bl x
  | int i => exact .int i
  | str x => exact .str x
  | flt x => exact .flt x
  | lst e => exact .lst (s _ _ e)
  | frz e => exact .frz (s _ _ e)
  | tup e => exact .tup (s _ _ e)
  | dK e => exact .dK (s _ _ e)
  | dT e => exact .dT (s _ _ e)
  | ins e cl ha hn htk hm => exact .ins (s _ _ e) cl ha hn htk hm
theorem tyx_same {x : V} {t : Value} (s : Same H H') (h : TyX K H x t) : TyX K H' x t := by
  cases h with
  | base b => exact .base (tyo_same s b)
  | byt b => exact .byt b
  | set e => exact .set (s _ _ e)
  | kList e c => exact .kList e c
  | kTuple e c => exact .kTuple e c
  | kDict e c => exact .kDict e c
  | fTuple e => exact .fTuple (s _ _ e)
  | fDict e => exact .fDict (s _ _ e)
theorem LstV.same {a : Addr} {xs : List V} (s : Same H H') (h : LstV K H a xs) : LstV K H' a xs := ⟨s.seq h.1, tyx_same s h.2⟩
theorem same_seqT {a : Addr} {xs : List V} (s : Same H H') (h : SqT K H a xs) : SqT K H' a xs := by
  rcases h with (h | ⟨o, h⟩) | h
  · exact .inl (.inl (s _ _ h))
  · exact .inl (.inr ⟨o, s _ _ h⟩)
  · exact .inr h
theorem TupV.same {a : Addr} {xs : List V} (s : Same H H') (h : TupV K H a xs) : TupV K H' a xs := ⟨same_seqT s h.1, tyx_same s h.2⟩
theorem SmV.same (s : Same H H') : ∀ (n : Nat) {x y : V}, SmV K H n x y → SmV K H' n x y
  | 0, _, _, h => h
  | n + 1, x, y, h => by
    rcases h with h | ⟨a, b, xs, ys, e1, e2, h1, h2, l, h⟩ | ⟨a, b, xs, ys, e1, e2, h1, h2, l, h⟩
    · exact .inl h
    · exact .inr (.inl ⟨a, b, xs, ys, e1, e2, h1.same s, h2.same s, l, fun i x y a b => SmV.same s n (h i x y a b)⟩)
    · exact .inr (.inr ⟨a, b, xs, ys, e1, e2, h1.same s, h2.same s, l, fun i x y a b => SmV.same s n (h i x y a b)⟩)
theorem sm_ints {p q : Addr} {ns : List Int} (hp : H p = some (.lst (ns.map V.int))) (hq : H q = some (.lst (ns.map V.int))) : SmV K H 1 (.ref p) (.ref q) :=
  .inr (.inl ⟨p, q, _, _, rfl, rfl, .of hp, .of hq, rfl, fun i x y e1 e2 => by
    rw [e1] at e2
    have e := Option.some.inj e2
    subst e
    rw [List.getElem?_map] at e1
    cases g : ns[i]? with
    | none => rw [g] at e1; cases e1
    | some z => rw [g] at e1; cases e1; exact ⟨rfl, rfl⟩⟩)
end
theorem sm_sc {K : PySem.W.Frag} {H : Hp} {x : V} (h : scalarV x = true) : ∀ {n : Nat}, SmV K H n x x
  | 0 => ⟨rfl, h⟩
  | _ + 1 => .inl ⟨rfl, h⟩
def spSame (K : PySem.W.Frag) (n : Nat) : Sp := fun vs H Q _ => ∃ x y, vs = [x, y] ∧ SmV K H n x y ∧ ∀ H', Same H H' → Q (.bl true) H'
theorem use_same {K : PySem.W.Frag} {n : Nat} {x y : V} {H : Hp} {Q : VK} {E : XK} (h : SmV K H n x y) (q : ∀ H', Same H H' → Q (.bl true) H') : spSame K n ([x, y] ++ []) H Q E := ⟨x, y, rfl, h, q⟩
def spItems (K : PySem.W.Frag) : Sp := fun vs H Q _ => ∃ (a : Addr) (ns : List Int), vs = [.ref a] ∧ SqL K H a (ns.map V.int) ∧ ∀ H', Same H H' → Q .non H'
theorem use_items {K : PySem.W.Frag} {a : Addr} {ns : List Int} {H : Hp} {Q : VK} {E : XK} (h : SqL K H a (ns.map V.int)) (q : ∀ H', Same H H' → Q .non H') : spItems K ([.ref a] ++ []) H Q E := ⟨a, ns, rfl, h, q⟩
def spBlock : Sp := fun vs H Q _ => ∃ (a : Addr) (ns : List Int) (least : Int), vs = [.ref a, .int least] ∧ H a = some (.lst (ns.map V.int)) ∧ least ≤ ns.length ∧ ns.length ≤ 64 ∧ ∀ H', Same H H' → Q .non H'
theorem use_block {a : Addr} {ns : List Int} {least : Int} {H : Hp} {Q : VK} {E : XK} (h : H a = some (.lst (ns.map V.int))) (h1 : least ≤ ns.length) (h2 : ns.length ≤ 64) (q : ∀ H', Same H H' → Q .non H') : spBlock ([.ref a, .int least] ++ []) H Q E := ⟨a, ns, least, rfl, h, h1, h2, q⟩
def codeU (n : Int) : Int := if n ≥ 0 then 2 * n else -2 * n - 1
def spCode : Sp := fun vs H Q _ => ∃ n, vs = [.int n] ∧ Q (.int (codeU n)) H
theorem use_code {n : Int} {H : Hp} {Q : VK} {E : XK} (q : Q (.int (codeU n)) H) : spCode ([.int n] ++ []) H Q E := ⟨n, rfl, q⟩
def markF (ns : List Int) : Int := ns.foldl (fun m n => (m * 31 + codeU n) % 9973) 1
def spMark : Sp := fun vs H Q _ => ∃ (a : Addr) (ns : List Int), vs = [.ref a] ∧ H a = some (.lst (ns.map V.int)) ∧ ns.length ≤ 64 ∧ ∀ H', Same H H' → Q (.int (markF ns)) H'
theorem use_mark {a : Addr} {ns : List Int} {H : Hp} {Q : VK} {E : XK} (h : H a = some (.lst (ns.map V.int))) (h2 : ns.length ≤ 64) (q : ∀ H', Same H H' → Q (.int (markF ns)) H') : spMark ([.ref a] ++ []) H Q E := ⟨a, ns, rfl, h, h2, q⟩
def jx (u v : V) : Bool := match u, v with
  | .int w, .int t => decide (0 < w) || decide (t = 0)
  | _, _ => false
def jt (u v : V) : Bool := inI u 0 8 && (inI v 0 3 && jx u v)
inductive JR (H : Hp) : V → Bool → Prop where
  | flat {x : V} (h : scalarV x = true) : JR H x false
  | lst {a : Addr} {xs : List V} (h : H a = some (.lst xs)) : JR H (.ref a) false
  | tupn {a : Addr} {xs : List V} (h : H a = some (.tup xs)) (n : xs.length ≠ 2) : JR H (.ref a) false
  | tup2 {a : Addr} {u v : V} (h : H a = some (.tup [u, v])) (hu : TyV H u) (hv : TyV H v) : JR H (.ref a) (jt u v)
def spS : List Int → List Int
  | a :: b :: r => ((a + b) / 2) :: spS r
  | r => r
def spD : List Int → List Int
  | a :: b :: r => (a - b) :: spD r
  | _ => []
/-- behind i levels: the sums, and the differences -/
def lvS (ns : List Int) : Nat → List Int
  | 0 => ns
  | i + 1 => spS (lvS ns i)
def lvR (ns : List Int) : Nat → List Int
  | 0 => []
  | i + 1 => spD (lvS ns i) ++ lvR ns i
def splitL (ns : List Int) (i : Nat) : List Int := lvS ns i ++ lvR ns i
theorem rg2 (n : Nat) (h : n ≤ 64) : RgC 0 ((n : Int) - 1) 2 (n / 2) := by
  have hs : Builtin.Range.rangeSize 0 ((n : Int) - 1) 2 = ((n / 2 : Nat) : Int) := by
    unfold Builtin.Range.rangeSize
    rw [if_pos (by decide)]
    split <;> omega
  refine ⟨by decide, by decide, ?_, hs⟩
  unfold Builtin.Range.small
  rw [hs]
  simp only [Builtin.Range.rangeFitsLong, Bool.and_eq_true, Bool.or_eq_true, decide_eq_true_eq, beq_iff_eq, show ((2 : Int) > 0) by decide, if_true]
  omega
section
variable {K : PySem.W.Frag} {σ : L2.St} {H : Hp} {Q : VK} {g : TG} {tb : TS} {D : Ends}
theorem rd_for3 {ts : TA} (h : ts σ H fun vs H1 => ∃ (i j c : Int) (n : Nat), vs = [.int i, .int j, .int c] ∧ RgC i j c n ∧ LpW (Itc i c n) g tb D σ H1) : tFor (iRng3 ts) g tb D σ H := h
theorem rd_n3 {n : Nat} {A : Int → Int → Int → Nat → Prop} (h : n ≤ 64) (q : A 0 ((n : Int) - 1) 2 (n / 2)) : ∃ (i j c : Int) (k : Nat), [V.int 0, V.int ((n : Int) - 1), V.int 2] = [.int i, .int j, .int c] ∧ RgC i j c k ∧ A i j c k := ⟨_, _, _, _, rfl, rg2 n h, q⟩
theorem rd_catL {a b : Addr} {xs ys : List Int} (h1 : H a = some (.lst (xs.map V.int))) (h2 : H b = some (.lst (ys.map V.int))) (n : xs.length + ys.length ≤ 1000) (q : ∀ p, H p = none → Q (.ref p) (upd H p (.lst ((xs ++ ys).map V.int)))) : rCat (.ref a) (.ref b) H Q :=
  ⟨a, b, _, _, rfl, rfl, h1, h2, by rw [List.length_map, List.length_map]; exact Nat.le_of_lt (small1000 n), fun p hp => by rw [← List.map_append]; exact q p hp⟩
theorem rd_appI {a : Addr} {xs : List Int} {z : Int} (h : H a = some (.lst (xs.map V.int))) (n : xs.length ≤ 1000) (q : Q .non (upd H a (.lst ((xs ++ [z]).map V.int)))) : rAppend (.ref a) [.int z] H Q :=
  ⟨a, _, _, rfl, rfl, h, by rw [List.length_map]; exact small1000 n, by rw [List.map_append] at q; exact q⟩
theorem rd_sl {te : TE} {tl th : TO} {r : V → Option Int → Option Int → Hp → VK → Prop} (h : te σ H fun x H1 => tl σ H1 fun l H2 => th σ H2 fun u H3 => r x l u H3 Q) : L2.tSl r te tl th σ H Q := h
theorem rd_part {te : TE} {q : Option Int → Hp → Prop} (h : te σ H fun x H1 => ∃ i, x = .int i ∧ q (some i) H1) : tPart te σ H q := h
theorem rd_nopart {q : Option Int → Hp → Prop} (h : q none H) : tNoPart σ H q := h
theorem rd_oneI {i : Int} {P : Int → Prop} (h : P i) : ∃ j, V.int i = .int j ∧ P j := ⟨i, rfl, h⟩
theorem rd_bm {m : V → List V → Hp → VK → Prop} {to : TE} {ts : TA} (h : to σ H fun x H1 => tyV K "list" x H1 ∧ ts σ H1 fun xs H2 => m x xs H2 Q) : tBM K "list" m to ts σ H Q := h
theorem rd_tyL {a : Addr} {xs : List V} {P : Prop} (h : H a = some (.lst xs)) (q : P) : tyV K "list" (.ref a) H ∧ P := ⟨.inl ⟨rfl, _, .inl (.inl h)⟩, q⟩
end
def spOnce (K : PySem.W.Frag) : Sp := fun vs H Q _ => ∃ (a : Addr) (ns : List Int), vs = [.ref a] ∧ SqL K H a (ns.map V.int) ∧ ns.length ≤ 64 ∧ ∀ p s d H', Same H H' → H' p = some (.tup [.ref s, .ref d]) → H' s = some (.lst ((spS ns).map V.int)) → H' d = some (.lst ((spD ns).map V.int)) → H s = none → Q (.ref p) H'
theorem use_once {K : PySem.W.Frag} {a : Addr} {ns : List Int} {H : Hp} {Q : VK} {E : XK} (h : SqL K H a (ns.map V.int)) (n : ns.length ≤ 64) (q : ∀ p s d H', Same H H' → H' p = some (.tup [.ref s, .ref d]) → H' s = some (.lst ((spS ns).map V.int)) → H' d = some (.lst ((spD ns).map V.int)) → H s = none → Q (.ref p) H') : spOnce K ([.ref a] ++ []) H Q E := ⟨a, ns, rfl, h, n, q⟩
def spSplit : Sp := fun vs H Q _ => ∃ (a : Addr) (ns : List Int) (k : Int), vs = [.ref a, .int k] ∧ H a = some (.lst (ns.map V.int)) ∧ 1 ≤ ns.length ∧ ns.length ≤ 64 ∧ 0 ≤ k ∧ k ≤ 5 ∧ ∀ p H', H p = none → Same H H' → H' p = some (.lst ((splitL ns k.toNat).map V.int)) → Q (.ref p) H'
theorem use_split {a : Addr} {ns : List Int} {k : Int} {H : Hp} {Q : VK} {E : XK} (h : H a = some (.lst (ns.map V.int))) (h1 : 1 ≤ ns.length) (h2 : ns.length ≤ 64) (h3 : 0 ≤ k) (h4 : k ≤ 5) (q : ∀ p H', H p = none → Same H H' → H' p = some (.lst ((splitL ns k.toNat).map V.int)) → Q (.ref p) H') : spSplit ([.ref a, .int k] ++ []) H Q E := ⟨a, ns, k, rfl, h, h1, h2, h3, h4, q⟩
theorem use_splitK {a : Addr} {ns : List Int} {k : Int} {H : Hp} {Q : VK} {E : XK} (h : H a = some (.lst (ns.map V.int))) (h1 : 1 ≤ ns.length) (h2 : ns.length ≤ 64) (h3 : 0 ≤ k) (h4 : k ≤ 5) (q : ∀ p H', H p = none → Same H H' → H' p = some (.lst ((splitL ns k.toNat).map V.int)) → Q (.ref p) H') : spSplit (kg 0 2 [1, 0] [] [.int k, .ref a]) H Q E := ⟨a, ns, k, rfl, h, h1, h2, h3, h4, q⟩
def jn : List Int → List Int → List Int
  | s :: S, d :: D => (s - d / 2 + d) :: (s - d / 2) :: jn S D
  | S, _ => S
/-- how many are coarse -/
def cc (n : Nat) : Nat → Nat
  | 0 => n
  | i + 1 => (cc n i + 1) / 2
/-- the values when j of m levels are joined -/
def wv (ns : List Int) (m : Nat) : Nat → List Int
  | 0 => ns.take (cc ns.length m)
  | j + 1 => jn (wv ns m j) ((ns.drop (cc ns.length (m - j))).take (cc ns.length (m - (j + 1)) - cc ns.length (m - j)))
def joinL (ns : List Int) (m : Nat) : List Int := wv ns m m
section
variable {K : PySem.W.Frag} {σ : L2.St} {H : Hp} {Q : VK} {g : TG} {tb : TS} {D : Ends}
theorem rd_forV {te : TE} (h : te σ H fun x H1 => ∃ n, x = .int n ∧ (-(2 ^ 62) ≤ (0 : Int) ∧ (0 : Int) < 2 ^ 62 ∧ -(2 ^ 62) ≤ n ∧ n < 2 ^ 62 ∧ LpW (Itc (0 + (((n - 0).toNat : Nat) : Int) - 1) (-1) (n - 0).toNat) g tb D σ H1)) : tFor (iRevR (tRg1 te)) g tb D σ H := h
theorem rd_nV {n : Int} {P : Prop} (h1 : -(2 ^ 62) ≤ n) (h2 : n < 2 ^ 62) (q : P) : -(2 ^ 62) ≤ (0 : Int) ∧ (0 : Int) < 2 ^ 62 ∧ -(2 ^ 62) ≤ n ∧ n < 2 ^ 62 ∧ P := ⟨by decide, by decide, h1, h2, q⟩
end
def spJoin1 : Sp := fun vs H Q _ => ∃ (s d : Addr) (S D : List Int), vs = [.ref s, .ref d] ∧ H s = some (.lst (S.map V.int)) ∧ H d = some (.lst (D.map V.int)) ∧ D.length ≤ S.length ∧ S.length ≤ 64 ∧ ∀ p H', Same H H' → H p = none → H' p = some (.lst ((jn S D).map V.int)) → Q (.ref p) H'
theorem use_join1 {s d : Addr} {S D : List Int} {H : Hp} {Q : VK} {E : XK} (h1 : H s = some (.lst (S.map V.int))) (h2 : H d = some (.lst (D.map V.int))) (h3 : D.length ≤ S.length) (h4 : S.length ≤ 64) (q : ∀ p H', Same H H' → H p = none → H' p = some (.lst ((jn S D).map V.int)) → Q (.ref p) H') : spJoin1 ([.ref s, .ref d] ++ []) H Q E := ⟨s, d, S, D, rfl, h1, h2, h3, h4, q⟩
def spJoin : Sp := fun vs H Q _ => ∃ (a : Addr) (ns : List Int) (k : Int), vs = [.ref a, .int k] ∧ H a = some (.lst (ns.map V.int)) ∧ 1 ≤ ns.length ∧ ns.length ≤ 64 ∧ 0 ≤ k ∧ k ≤ 5 ∧ ∀ p H', H p = none → Same H H' → H' p = some (.lst ((joinL ns k.toNat).map V.int)) → Q (.ref p) H'
theorem use_join {a : Addr} {ns : List Int} {k : Int} {H : Hp} {Q : VK} {E : XK} (h : H a = some (.lst (ns.map V.int))) (h1 : 1 ≤ ns.length) (h2 : ns.length ≤ 64) (h3 : 0 ≤ k) (h4 : k ≤ 5) (q : ∀ p H', H p = none → Same H H' → H' p = some (.lst ((joinL ns k.toNat).map V.int)) → Q (.ref p) H') : spJoin ([.ref a, .int k] ++ []) H Q E := ⟨a, ns, k, rfl, h, h1, h2, h3, h4, q⟩
theorem use_joinK {a : Addr} {ns : List Int} {k : Int} {H : Hp} {Q : VK} {E : XK} (h : H a = some (.lst (ns.map V.int))) (h1 : 1 ≤ ns.length) (h2 : ns.length ≤ 64) (h3 : 0 ≤ k) (h4 : k ≤ 5) (q : ∀ p H', H p = none → Same H H' → H' p = some (.lst ((joinL ns k.toNat).map V.int)) → Q (.ref p) H') : spJoin (kg 0 2 [1, 0] [] [.int k, .ref a]) H Q E := ⟨a, ns, k, rfl, h, h1, h2, h3, h4, q⟩
def spInts : Sp := fun vs H Q _ => ∃ (a : Addr) (ns : List Int) (n : Int), vs = [.ref a, .int n] ∧ H a = some (.lst (ns.map V.int)) ∧ (ns.length : Int) = n ∧ Q (.bl true) H
theorem use_ints {a : Addr} {ns : List Int} {n : Int} {H : Hp} {Q : VK} {E : XK} (h : H a = some (.lst (ns.map V.int))) (h1 : (ns.length : Int) = n) (q : Q (.bl true) H) : spInts ([.ref a, .int n] ++ []) H Q E := ⟨a, ns, n, rfl, h, h1, q⟩
section
variable {K : PySem.W.Frag} {σ : L2.St} {H : Hp} {Q : VK} {g : TG}
theorem rd_lcL {ti te : TE} {tt : TT} {vs : List Nat} (h : ti σ H fun x H1 => ∃ a, x = .ref a ∧ (∃ xs, SqL K H1 a xs) ∧ ∀ D, H1 D = none → LcW (Itl K a) g tt te vs Q σ H1 D) : tLc (iList K ti) g tt te vs σ H Q := h
theorem rd_lcP {a : Addr} {xs : List V} {te : TE} {tt : TT} {vs : List Nat} (e : SqL K H a xs) (h : ∀ D, H D = none → LcW (Itl K a) g tt te vs Q σ H D) : ∃ b, V.ref a = .ref b ∧ (∃ xs, SqL K H b xs) ∧ ∀ D, H D = none → LcW (Itl K b) g tt te vs Q σ H D := ⟨a, rfl, ⟨xs, e⟩, h⟩
end
structure Dn (K : PySem.W.Frag) (mg : Str → Option Value) (x : Str) (st : Stmt) (ps : List Str) (f : Addr) (fd : FuncData) : Prop where
  F : Fun K x x st f fd
  g : mg x = some (.ref f)
  b : Binds K fd ps []
structure Bi (mg : Str → Option Value) : Prop where
  int_ : mg "int" = none
  bool_ : mg "bool" = none
  str_ : mg "str" = none
  list_ : mg "list" = none
  tuple_ : mg "tuple" = none
  len_ : mg "len" = none
  abs_ : mg "abs" = none
  max_ : mg "max" = none
  min_ : mg "min" = none
  range_ : mg "range" = none
  zip_ : mg "zip" = none
  isinstance_ : mg "isinstance" = none
  enumerate_ : mg "enumerate" = none
  reversed_ : mg "reversed" = none
end Z
namespace Z
open PySem PySem.Spec PyProof.Rows L2
theorem mk_heap {H : Hp} {a d : Addr} {o1 o2 o3 o4 : HO} (ha : H a = none) (hd : d ≠ a) : upd (del (upd (upd (upd H a o1) d o2) a o3) a) d o4 = upd H d o4 := by
  funext b
  by_cases h1 : b = d
  · subst h1; rw [upd_same, upd_same]
  · rw [upd_ne h1, upd_ne h1]
    by_cases h2 : b = a
    · subst h2; rw [del_same, ha]
    · rw [del_ne h2, upd_ne h2, upd_ne h1, upd_ne h2]
/-- an own error class C, its name x, its one field f, its __init__ at fI -/
structure EC (K : PySem.W.Frag) (mg : Str → Option Value) (x f : Str) (C fI : Addr) : Prop where
  o : OexC K C
  xf : XfC K C
  ec : ExcC K C
  g : mg x = some (.ref C)
  noF : PySem.W.findIn K (.ref C) f = some none
  te : PySem.W.exmOne K (.ref C) (.ref C) = some true
  iC : PySem.W.findIn K (.ref C) "__init__" = some (some (.ref fI))
  tI : PySem.W.typeIn K (.ref fI) = some (.type "function")
def spInit (K : PySem.W.Frag) (C : Addr) (f : Str) : Sp := fun vs H Q _ => ∃ (a : Addr) (v : V), vs = [.ref a, v] ∧ H a = some (exo a C none) ∧ ∀ dx, H dx = none → dx ≠ a → Q .non (upd (upd H dx (exd dx [(f, v)])) a (exo a C (some dx)))
/-- the reading of raise C(e) -/
def tRaiseX (K : PySem.W.Frag) (C : Addr) (f : Str) (W : WX) (ta : TA) : TS := fun _ σ H => tMkO C (spInit K C f) [] ta σ H fun cls d H' => W cls d σ H'
section
variable {K : PySem.W.Frag} {σ : L2.St} {H : Hp} {C : Addr} {f : Str} {W : WX} {ta : TA} {D : Ends}
theorem rd_raiseX (h : ta σ H fun vs H1 => ∃ v, vs = [v] ∧ ∀ d, H1 d = none → W (.ref C) (some d) σ (upd H1 d (.xd [(f, v)]))) (hm : ∀ {q q' : List V → Hp → Prop}, (∀ vs H, q vs H → q' vs H) → ta σ H q → ta σ H q') : tRaiseX K C f W ta D σ H := by
  refine hm (fun vs H1 h => ?_) h
  obtain ⟨v, rfl, h⟩ := h
  refine ⟨by simp, fun a ha => ⟨a, v, rfl, upd_same, fun dx hdx hne => ⟨rfl, dx, [(f, v)], upd_same, ?_, ?_, ?_⟩⟩⟩
  · rw [upd_ne hne, upd_same]
  · rw [upd_ne hne] at hdx
    exact hdx
  · rw [mk_heap ha hne]
    rw [upd_ne hne] at hdx
    exact h dx hdx
theorem rd_raise1 {te : TE} (h : te σ H fun v H1 => ∀ d, H1 d = none → W (.ref C) (some d) σ (upd H1 d (.xd [(f, v)]))) (hm : ∀ {q q' : V → Hp → Prop}, (∀ v H, q v H → q' v H) → te σ H q → te σ H q') : tRaiseX K C f W (tCons te tNil) D σ H :=
  rd_raiseX (hm (fun v H1 z => ⟨v, rfl, z⟩) h) fun {q q'} hq hh => hm (fun v H1 z => hq _ _ z) hh
theorem rd_raiseV {i : Nat} {v : V} (e : σ[i]? = some (some v)) (h : ∀ d, H d = none → W (.ref C) (some d) σ (upd H d (.xd [(f, v)]))) : tRaiseX K C f W (tCons (tVar i) tNil) D σ H :=
  rd_raise1 ⟨v, e, h⟩ fun hq ⟨v, e, z⟩ => ⟨v, e, hq _ _ z⟩
theorem rd_raiseC {v : V} (h : ∀ d, H d = none → W (.ref C) (some d) σ (upd H d (.xd [(f, v)]))) : tRaiseX K C f W (tCons (tC v) tNil) D σ H := rd_raise1 (te := tC v) h fun hq z => hq _ _ z
end
/-- how an error leaves: of the class C, the field f holding v -/
def Err (C : Addr) (f : Str) (v : V) (H : Hp) (E : XK) : Prop := ∀ d H', Same H H' → H d = none → H' d = some (.xd [(f, v)]) → E (.ref C) (some d) H'
theorem Err.same {C : Addr} {f : Str} {v : V} {H H' : Hp} {E : XK} (s : Same H H') (h : Err C f v H E) : Err C f v H' E := fun d H2 s2 n e => h d H2 (s.trans s2) (s.free n) e
/-- an own error class with its own __init__, ready to be made -/
def ErrK (P : Program) (w : World) (K : PySem.W.Frag) (mg : Str → Option Value) (base : Heap) (x f : Str) (C : Addr) : Prop :=
  ∃ (fI : Addr) (fd : FuncData), EC K mg x f C fI ∧ FnOk P w K mg base CX0 1 fI fd ["self", f] (spInit K C f) ∧ Binds K fd ["self", f] []
section
variable {P : Program} {w : World} {K : PySem.W.Frag} {mg : Str → Option Value} {base : Heap} {x f : Str} {C : Addr}
theorem ErrK.g (T : ErrK P w K mg base x f C) : mg x = some (.ref C) := let ⟨_, _, t, _⟩ := T; t.g
end
open LamX
def KpN (p : Addr) (H H' : Hp) : Prop := ∀ b o, b ≠ p → H b = some o → (∀ ps, o ≠ .tbl ps) → H' b = some o
section
variable {p q : Addr} {H H' H1 H2 : Hp} {o u : HO}
theorem KpN.refl : KpN p H H := fun _ _ _ h _ => h
theorem KpN.trans (a : KpN p H H1) (b : KpN p H1 H2) : KpN p H H2 := fun c o n h t => b c o n (a c o n h t) t
theorem KpN.ofK (k : Kp p H H') : KpN p H H' := fun a o n h _ => k a o n h
theorem KpN.of (s : Same H H') : KpN p H H' := fun a o _ h _ => s a o h
theorem KpN.ofN (s : ExtN H H') : KpN p H H' := fun a o _ h t => s a o h t
theorem KpN.new (h : H q = none) : KpN p H (upd H q o) := .of (same_new h)
theorem KpN.at : KpN p H (upd H p o) := .ofK Kp.at
theorem lst_ntbl {xs : List V} : ∀ ps, HO.lst xs ≠ .tbl ps := fun _ z => nomatch z
theorem tup_ntbl {xs : List V} : ∀ ps, HO.tup xs ≠ .tbl ps := fun _ z => nomatch z
theorem look_extL {a : Addr} {xs : List V} (s : ExtN H H') (h : H a = some (.lst xs)) : H' a = some (.lst xs) := s _ _ h lst_ntbl
theorem look_extT {a : Addr} {xs : List V} (s : ExtN H H') (h : H a = some (.tup xs)) : H' a = some (.tup xs) := s _ _ h tup_ntbl
theorem Pool.ext (s : ExtN H H') (h : Pool H p) : Pool H' p := by
  obtain ⟨x, y, e, r⟩ := h
  exact ⟨x, y, s _ _ e lst_ntbl, r⟩
theorem Tabs.same {T : List (Addr × Str)} (s : Same H H') (t : Tabs T H) : Tabs T H' := t.ext fun b o h => s b o h
theorem Tabs.new {T : List (Addr × Str)} (n : H q = none) (t : Tabs T H) : Tabs T (upd H q o) := t.ext fun b o h => same_new n b o h
theorem codeO_lst {c : Addr} {q : Str} {xs : List V} : CodeO c q ≠ .lst xs := fun z => by
  unfold CodeO at z
  cases z
theorem Tabs.kp {T : List (Addr × Str)} (hp : Pool H p) (k : Kp p H H') (t : Tabs T H) : Tabs T H' := fun e he => by
  obtain ⟨x, y, hl, _⟩ := hp
  obtain ⟨ps, h1, h2, h3⟩ := t e he
  refine ⟨ps, k _ _ (fun z => by rw [z, hl] at h1; cases h1) h1, h2, fun pos cv hc => ?_⟩
  obtain ⟨c, e1, e2⟩ := h3 pos cv hc
  exact ⟨c, e1, k _ _ (fun z => by rw [z, hl] at e2; exact codeO_lst (Option.some.inj e2).symm) e2⟩
end
def DV (p : Addr) (H : Hp) (v : V) : Prop := scalarV v = true ∨ ∃ a xs, v = .ref a ∧ a ≠ p ∧ (H a = some (.lst xs) ∨ H a = some (.tup xs)) ∧ ∀ x ∈ xs, scalarV x = true
section
variable {p : Addr} {H H' : Hp} {v : V} {K : PySem.W.Frag}
theorem DV.ty (h : DV p H v) : TyV H v := by
  rcases h with h | ⟨a, xs, rfl, _, h | h, _⟩
  · cases v <;> first | exact True.intro | exact Bool.noConfusion h
  · exact .inl ⟨xs, h⟩
  · exact .inr ⟨xs, h⟩
theorem DV.sc (h : scalarV v = true) : DV p H v := .inl h
theorem DV.lst {a : Addr} {xs : List V} (n : a ≠ p) (h : H a = some (.lst xs)) (s : ∀ x ∈ xs, scalarV x = true) : DV p H (.ref a) := .inr ⟨a, xs, rfl, n, .inl h, s⟩
theorem DV.tup {a : Addr} {xs : List V} (n : a ≠ p) (h : H a = some (.tup xs)) (s : ∀ x ∈ xs, scalarV x = true) : DV p H (.ref a) := .inr ⟨a, xs, rfl, n, .inr h, s⟩
end
/-- what the error that told caught becomes: a list of flags and of its field -/
def ErL (C : Addr) (f : Str) (L : V → List V) (Q : VK) : XK := fun cls d H' => cls = .ref C ∧ ∃ dd v, d = some dd ∧ H' dd = some (.xd [(f, v)]) ∧ ∀ p H'', Same H' H'' → H' p = none → H'' p = some (.lst (L v)) → Q (.ref p) H''
/-- try: a() / except C as e: return [.., e.f] / return None -/
def TTnone (C : Addr) (f : Str) (L : V → List V) : (XK → Hp → VK → Prop) → Hp → VK → Prop := fun tl H Q => tl (ErL C f L Q) H (fun _ H' => Q .non H')
section
variable {X : Cx} {K : PySem.W.Frag} {σ : L2.St} {H : Hp} {Q : VK} {D : Ends} {n : L2.St → Hp → Prop} {r : VK} {b c : L2.St → Hp → Prop}
theorem rd_xf {C a : Addr} {cls : Value} {d : Option Addr} {f : Str} {te : TE} (h : te σ H fun x H1 => x = .ref a ∧ cls = .ref C ∧ ∃ (dd : Addr) (fs : List (Str × V)) (v : V), d = some dd ∧ H1 dd = some (.xd fs) ∧ fs.lookup f = some v ∧ Q v H1) : tXf a cls d C f te σ H Q := h
theorem rd_lam {T : List (Addr × Str)} {TT : (XK → Hp → VK → Prop) → Hp → VK → Prop} {t : XK → TE} (h1 : Tabs T H) (h2 : ∀ H1, ExtN H H1 → Tabs T H1 → TT (fun E H' Q' => t E σ H' Q') H1 Q) : tLam T TT t σ H Q := ⟨h1, h2⟩
theorem rd_told {C : Addr} {f : Str} {L : V → List V} {tl : XK → Hp → VK → Prop} (h : tl (ErL C f L Q) H (fun _ H' => Q .non H')) : TTnone C f L tl H Q := h
end
end Z
namespace Z
open PySem PySem.Spec PyProof.Rows L2
def geZ : V → Bool
  | .int i => decide (0 ≤ i)
  | _ => false
def tt (u v : V) : Bool := isI u && (geZ u && inI v 1 15)
/-- drawn rows: drawn values, their numbers not too long -/
def smallV : V → Prop
  | .int i => i.natAbs < 10 ^ 58
  | _ => True
def RV (p : Addr) (H : Hp) (v : V) : Prop := scalarV v = true ∨ ∃ a xs, v = .ref a ∧ a ≠ p ∧ (H a = some (.lst xs) ∨ H a = some (.tup xs)) ∧ (∀ x ∈ xs, scalarV x = true) ∧ ∀ x ∈ xs, smallV x
section
variable {p : Addr} {H H' : Hp} {v : V}
theorem RV.lst {a : Addr} {xs : List V} (n : a ≠ p) (h : H a = some (.lst xs)) (s : ∀ x ∈ xs, scalarV x = true) (t : ∀ x ∈ xs, smallV x) : RV p H (.ref a) := .inr ⟨a, xs, rfl, n, .inl h, s, t⟩
theorem RV.tup {a : Addr} {xs : List V} (n : a ≠ p) (h : H a = some (.tup xs)) (s : ∀ x ∈ xs, scalarV x = true) (t : ∀ x ∈ xs, smallV x) : RV p H (.ref a) := .inr ⟨a, xs, rfl, n, .inr h, s, t⟩
theorem RV.ne {a : Addr} (h : RV p H (.ref a)) : a ≠ p := by
  rcases h with h | ⟨b, xs, e, n, _⟩
  · exact Bool.noConfusion h
  · cases e
    exact n
end
end Z
namespace Z
open PySem PySem.Spec PyProof.Rows L2
/-- joints: place, width, shape -/
abbrev Jo := Nat × Nat × Nat
/-- the steps of a folding: shape, left, right -/
def prs1 (j : Jo) (i : Nat) : List (Nat × Nat × Nat) := (List.range i).map fun i => (j.2.2, j.1 - 1 - i, j.1 + i)
def prs (js : List Jo) : List (Nat × Nat × Nat) := js.flatMap fun j => prs1 j j.2.1
def stp (f : Int → Int → Int → Int × Int) (xs : List Int) (t : Nat × Nat × Nat) : List Int := (xs.set t.2.1 (f t.1 (xs.getD t.2.1 0) (xs.getD t.2.2 0)).1).set t.2.2 (f t.1 (xs.getD t.2.1 0) (xs.getD t.2.2 0)).2
def turnL (f : Int → Int → Int → Int × Int) (xs : List Int) (js : List Jo) : List Int := (prs js).foldl (stp f) xs
/-- the joints have room: behind the place b of a joint of the width wb, in a list of n values -/
def Rm (n : Nat) : Nat → Nat → List Jo → Prop
  | _, _, [] => True
  | b, wb, j :: r => b < j.1 ∧ j.1 < n ∧ b + wb + j.2.1 ≤ j.1 ∧ j.1 + j.2.1 ≤ n ∧ j.2.1 ≤ 8 ∧ j.2.2 ≤ 3 ∧ (j.2.1 = 0 → j.2.2 = 0) ∧ Rm n j.1 j.2.1 r
/-- the place that is folded with a place -/
def prt : List Jo → Nat → Option Nat
  | [], _ => none
  | j :: r, k => if j.1 ≤ k + j.2.1 ∧ k < j.1 + j.2.1 then some (2 * j.1 - 1 - k) else prt r k
def JsAt (H : Hp) (vs : List V) (js : List Jo) : Prop := vs.length = js.length ∧ ∀ (i : Nat) (v : V), vs[i]? = some v → ∃ (j : Jo) (a q : Addr), js[i]? = some j ∧ v = .ref a ∧ H a = some (.tup [.int (j.1 : Nat), .ref q]) ∧ H q = some (.tup [.int (j.2.1 : Nat), .int (j.2.2 : Nat)])
theorem JsAt.kp {p : Addr} {H H' : Hp} {vs : List V} {js : List Jo} (k : Kp p H H') (hp : ∃ xs, H p = some (.lst xs)) (h : JsAt H vs js) : JsAt H' vs js := ⟨h.1, fun i v e => by
  obtain ⟨j, a, q, e1, e2, e3, e4⟩ := h.2 i v e
  obtain ⟨xs, hp⟩ := hp
  exact ⟨j, a, q, e1, e2, k _ _ (fun z => by rw [z, hp] at e3; cases e3) e3, k _ _ (fun z => by rw [z, hp] at e4; cases e4) e4⟩⟩
theorem JsAt.same {H H' : Hp} {vs : List V} {js : List Jo} (k : Same H H') (h : JsAt H vs js) : JsAt H' vs js := ⟨h.1, fun i v e => by
  obtain ⟨j, a, q, e1, e2, e3, e4⟩ := h.2 i v e
  exact ⟨j, a, q, e1, e2, k _ _ e3, k _ _ e4⟩⟩
def spSound : Sp := fun vs H Q _ => ∃ (a : Addr) (ns : List Int), vs = [.ref a] ∧ H a = some (.lst (ns.map V.int)) ∧ ∀ H', Same H H' → Q .non H'
theorem use_sound {a : Addr} {ns : List Int} {H : Hp} {Q : VK} {E : XK} (h : H a = some (.lst (ns.map V.int))) (q : ∀ H', Same H H' → Q .non H') : spSound ([.ref a] ++ []) H Q E := ⟨a, ns, rfl, h, q⟩
def spFolds (f : Int → Int → Int → Int × Int) : Sp := fun vs H Q _ => ∃ (a b : Addr) (xs : List Int) (refs : List V) (js : List Jo), vs = [.ref a, .ref b] ∧ H a = some (.lst (xs.map V.int)) ∧ H b = some (.lst refs) ∧ JsAt H refs js ∧ Rm xs.length 0 0 js ∧ xs.length ≤ 100 ∧
  ∀ p H', H p = none → Same H H' → H' p = some (.lst ((turnL f xs js).map V.int)) → Q (.ref p) H'
theorem use_folds {f : Int → Int → Int → Int × Int} {a b : Addr} {xs : List Int} {refs : List V} {js : List Jo} {H : Hp} {Q : VK} {E : XK} (h1 : H a = some (.lst (xs.map V.int))) (h2 : H b = some (.lst refs)) (h3 : JsAt H refs js) (h4 : Rm xs.length 0 0 js) (h5 : xs.length ≤ 100)
    (q : ∀ p H', H p = none → Same H H' → H' p = some (.lst ((turnL f xs js).map V.int)) → Q (.ref p) H') : spFolds f ([.ref a, .ref b] ++ []) H Q E := ⟨a, b, xs, refs, js, rfl, h1, h2, h3, h4, h5, q⟩
theorem rd_callL {σ : L2.St} {H : Hp} {Q : VK} {i : Nat} {f : Addr} {sp : Sp} {dvs : List V} {E : XK} {t : TA} (e : σ[i]? = some (some (.ref f))) (h : t σ H fun vs H1 => sp (vs ++ dvs) H1 Q E) : tCallL i f sp dvs E t σ H Q := ⟨e, h⟩
section
variable {K : PySem.W.Frag} {H : Hp} {Q : VK}
theorem isiT_lst {a t : Addr} {xs : List V} (h : H a = some (.lst xs)) (ht : H t = some (.tup [.ty "list", .ty "tuple"])) (q : Q (.bl true) H) : rIsiT K [.ref a, .ref t] H Q :=
  ⟨.ref a, t, _, .type "list", [.type "list", .type "tuple"], true, rfl, ht, .cons (.ty "list") (.cons (.ty "tuple") .nil), .base (.lst h), rfl, q⟩
end
theorem rd_appG {a : Addr} {xs : List V} {v : V} {H : Hp} {Q : VK} (h : H a = some (.lst xs)) (n : xs.length ≤ 1000) (q : Q .non (upd H a (.lst (xs ++ [v])))) : rAppend (.ref a) [v] H Q := ⟨a, _, _, rfl, rfl, h, small1000 n, q⟩
def spLJoints : Sp := fun vs H Q _ => ∃ (p : Addr) (n : Nat), vs = [.ref p, .int (n : Nat)] ∧ Pool H p ∧ n ≤ 100 ∧ ∀ D H' refs js, H D = none → H' D = some (.lst refs) → JsAt H' refs js → Rm n 0 0 js → Pool H' p → Kp p H H' → Q (.ref D) H'
theorem use_ljoints {p : Addr} {n : Nat} {H : Hp} {Q : VK} {E : XK} (h : Pool H p) (hn : n ≤ 100) (q : ∀ D H' refs js, H D = none → H' D = some (.lst refs) → JsAt H' refs js → Rm n 0 0 js → Pool H' p → Kp p H H' → Q (.ref D) H') : spLJoints ([.ref p, .int (n : Nat)] ++ []) H Q E := ⟨p, n, rfl, h, hn, q⟩
def optV : Option Nat → V
  | some m => .int (m : Nat)
  | none => .non
def spPartner : Sp := fun vs H Q _ => ∃ (b : Addr) (refs : List V) (js : List Jo) (n k : Nat), vs = [.ref b, .int (k : Nat)] ∧ H b = some (.lst refs) ∧ JsAt H refs js ∧ Rm n 0 0 js ∧ Q (optV (prt js k)) H
theorem use_partner {b : Addr} {refs : List V} {js : List Jo} {n k : Nat} {H : Hp} {Q : VK} {E : XK} (h1 : H b = some (.lst refs)) (h2 : JsAt H refs js) (h3 : Rm n 0 0 js) (q : Q (optV (prt js k)) H) : spPartner ([.ref b, .int (k : Nat)] ++ []) H Q E := ⟨b, refs, js, n, k, rfl, h1, h2, h3, q⟩
theorem JsAt.pool {p : Addr} {H H' : Hp} {vs : List V} {js : List Jo} (hp : Pool H p) (k : Kp p H H') (h : JsAt H vs js) : JsAt H' vs js := by
  obtain ⟨x, y, e, _⟩ := hp
  exact h.kp k ⟨_, e⟩
theorem JsAt.new' {q : Addr} {H : Hp} {o : HO} {vs : List V} {js : List Jo} (n : H q = none) (h : JsAt H vs js) : JsAt (upd H q o) vs js := h.same (same_new n)
theorem JsAt.same' {H H' : Hp} {vs : List V} {js : List Jo} (s : Same H H') (h : JsAt H vs js) : JsAt H' vs js := h.same s
theorem JsAt.at' {q : Addr} {xs : List V} {H : Hp} {o : HO} {vs : List V} {js : List Jo} (n : H q = some (.lst xs)) (h : JsAt H vs js) : JsAt (upd H q o) vs js := h.kp Kp.at ⟨_, n⟩
def KpL (l : List Addr) (H H' : Hp) : Prop := ∀ a o, a ∉ l → H a = some o → H' a = some o
section
variable {l : List Addr} {p q : Addr} {H H' H1 H2 : Hp} {o : HO}
theorem KpL.refl : KpL l H H := fun _ _ _ h => h
theorem KpL.trans (a : KpL l H H1) (b : KpL l H1 H2) : KpL l H H2 := fun c o n h => b c o n (a c o n h)
theorem KpL.ofS (s : Same H H') : KpL l H H' := fun a o _ h => s a o h
theorem KpL.ofK (m : p ∈ l) (k : Kp p H H') : KpL l H H' := fun a o n h => k a o (fun z => n (by rw [z]; exact m)) h
theorem KpL.new (n : H q = none) : KpL l H (upd H q o) := .ofS (same_new n)
theorem KpL.at (m : q ∈ l) : KpL l H (upd H q o) := fun a x n h => by
  have ne : a ≠ q := fun z => n (by rw [z]; exact m)
  rw [upd_ne ne]
  exact h
theorem KpL.mono {m : List Addr} (h : ∀ a ∈ l, a ∈ m) (k : KpL l H H') : KpL m H H' := fun a o n e => k a o (fun z => n (h a z)) e
theorem KpL.free (k : KpL l H H') (n : H' q = none) (m : q ∉ l) : H q = none := by
  cases e : H q with
  | none => rfl
  | some o => rw [k _ _ m e] at n; cases n
end
end Z
namespace Z
open PySem PySem.Spec PyProof.Rows L2
section
open Sem (wp)
open Builtin
set_option maxHeartbeats 1000000 in
theorem meets_enum1 {v : Value} {o : Obj} {HH : Heap → Prop} (BB : Begins v o HH) :
    Meets (Builtin.«enumerate.__new__» ⟨[.type "enumerate", v], []⟩) (fun _ R s => HH s.heap ∧
      R (.ok (.ret (.ref (s.heap.push o).objs.size))) { s with heap := (s.heap.push o).push { cls := .type "enumerate", data := .fields #[.none, .bool false, .ref s.heap.objs.size, rawInt 0, .none, .none] } }) :=
  .of_wp fun prog w A R s h => by
    obtain ⟨hp, g, d, tk, os⟩ := s; obtain ⟨h1, h⟩ := h
    have hsub := sub_enumerate
    have step : ∀ {A2 : Around} {E2 : Value → Shared → Prop} {Q2 : Value → Shared → Prop}, Q2 (.ref hp.objs.size) ⟨hp.push o, g, d, tk, os⟩ → wpAny (model prog w) A2 (pyIter v) Q2 E2 ⟨hp, g, d, tk, os⟩ :=
      fun z => BB.iter prog w _ _ ⟨hp, g, d, tk, os⟩ _ h1 z
    wp_walk using step
    refine wpAny_stack_any fun st => wpAny_pure ?_
    split
    · rename_i c _ _ _ _ _
      cases (c == Value.type "enumerate") <;> (wp_walk using step) <;> exact ⟨_, rfl, h⟩
    · wp_walk using step
      exact ⟨_, rfl, h⟩
theorem call_enum1 {prog : Program} {w : World} {A : Around} {E : Value → Shared → Prop} {s : Shared} {v : Value} {o : Obj} {HH : Heap → Prop} {Q : Value → Shared → Prop} (BB : Begins v o HH) (h1 : HH s.heap)
    (k : ∀ h2, IsEnum h2 (s.heap.objs.size + 1) s.heap.objs.size 0 .none → h2.get? s.heap.objs.size = some o → h2.objs.size = s.heap.objs.size + 2 →
      (∀ b u, s.heap.get? b = some u → h2.get? b = some u) → Q (.ref (s.heap.objs.size + 1)) { s with heap := h2 }) :
    wpAny (model prog w) A (call (.type "enumerate") [v]) Q E s := by
  refine callType_new F.called_enumerate (by decide) (F.typeCall_enumerate_1 _) (F.newCall_enumerate_1 _) (fun z => F.args_object_init_2 z _) F.entry_enumerate_new (meets_enum1 BB) ⟨h1, ?_⟩
  have z1 : (s.heap.push o).objs.size = s.heap.objs.size + 1 := Heap.size_push ..
  show _ ∧ _
  rw [z1]
  have e1 : IsEnum ((s.heap.push o).push { cls := .type "enumerate", data := .fields #[.none, .bool false, .ref s.heap.objs.size, rawInt 0, .none, .none] }) (s.heap.objs.size + 1) s.heap.objs.size 0 .none := by
    have z2 := Heap.get?_push_size (s.heap.push o) (o := { cls := .type "enumerate", data := .fields #[.none, .bool false, .ref s.heap.objs.size, rawInt 0, .none, .none] }) rfl
    rw [z1] at z2
    exact z2
  exact ⟨⟨_, e1, rfl⟩, k _ e1 (Heap.get?_push_of_some _ (Heap.get?_push_size _ BB.free)) (by rw [Heap.size_push, z1]) fun b u x => Heap.get?_push_of_some _ (Heap.get?_push_of_some _ x)⟩
end
/-- the tuple at a, each item in a new pair -/
def IteT (K : PySem.W.Frag) (a : Addr) : It :=
  ⟨fun i H => ∃ (xs : List V) (x : V), SqT K H a xs ∧ xs[i]? = some x, fun i H v H' => ∃ T x, v = .ref T ∧ H T = none ∧ H' = upd H T (.tup [.int (i : Nat), x]) ∧ ∀ xs, SqT K H a xs → xs[i]? = some x, fun i H => ∃ xs : List V, SqT K H a xs ∧ xs.length = i⟩
theorem turn_enumT {P : Program} {w : World} {K : PySem.W.Frag} {elts : List Expr} {kk : Nat} {tpos : Pos} (a e it : Addr) (hae : e ≠ a) (hai : a ≠ it) :
    Turn P w K (.Tuple elts kk tpos) (IteT K a) [e, it] e (fun i h => (∃ old, IsEnum h e it ((i : Nat) : Int) old) ∧ h.IsTupleIter it a i ∧ e ≠ it) where
  mem := List.mem_cons_self ..
  obj := fun i h st b hb => by
    obtain ⟨⟨old, h1⟩, ⟨o, h2, _, h3⟩, _⟩ := st
    rcases (show b = e ∨ b = it by simpa using hb) with z | z
    · rw [z]; exact ⟨_, h1, fun v q => nomatch q⟩
    · rw [z]; exact ⟨o, h2, fun v q => by rw [h3] at q; cases q⟩
  keep := fun i h h' st k => let ⟨⟨old, h1⟩, h2, n⟩ := st; ⟨⟨old, k e (List.mem_cons_self ..) _ h1⟩, h2.at fun o q => k it (by simp) o q, n⟩
  item := by
    intro X hP hw hK hc i pins s σ H E I hf st hg
    subst hP hw hK
    obtain ⟨⟨old, h1⟩, hit, hne⟩ := st
    obtain ⟨xs, x, hq, hx⟩ := hg
    obtain ⟨its, rv, p, hz⟩ := I.tuple hq
    obtain ⟨u, hu, ru⟩ := rv.get hx
    have hel : e < s.heap.objs.size := Heap.lt_size h1
    have hil : it < s.heap.objs.size := by obtain ⟨_, q, _⟩ := hit; exact Heap.lt_size q
    have hlt : i < its.toArray.size := by
      have z := (List.getElem?_eq_some_iff.mp hu).1
      simpa using z
    refine wpAny_pyNext_enum_itemD (Draws.tuple (A := X.A.in1) (I.ok.hd hc) it a hai its.toArray) h1 ⟨hit, p⟩ hlt hne (by simp; exact ⟨hne, hae⟩) fun u2 h2 tk hP ho hs2 hT hsz hk => ?_
    obtain rfl : u = u2 := by
      have z : its.toArray[i]? = some u := by simpa using hu
      rw [z] at hP
      exact Option.some.inj hP
    refine ⟨_, rfl, wpAny_letOwnedTupleGo_enum (s := { s with heap := h2, toks := tk + 1 }) ho fun h3 he3 sb => ?_⟩
    have hT2 : h3.get? s.heap.objs.size = some { cls := .type "tuple", data := .seq #[.int i tk, u] } := (sb.2 _ (Nat.ne_of_gt hel)).trans hT
    have new : ObjOk X.prog X.w (upd H s.heap.objs.size (.tup [.int (i : Nat), x])) h3 s.heap.objs.size (.tup [.int (i : Nat), x]) :=
      ⟨by show 2 ≤ sizeLine; decide, [.int i tk, u], .cons ⟨_, rfl⟩ (.cons ru .nil), ⟨_, hT2, rfl, _, rfl⟩⟩
    have I1 : Inv X pins σ (upd H s.heap.objs.size (.tup [.int (i : Nat), x])) { s with heap := h3, toks := tk + 1 } :=
      I.turnedNew (ch := [e, it]) (fun b ob hb q => (sb.2 b (fun z => hb (by simp [z]))).trans (hk b ob (fun z => hb (by simp [z])) (fun z => hb (by simp [z])) q)) hf (Nat.le_refl _) new
    refine ⟨.ref s.heap.objs.size, _, I1, rfl, ⟨_, x, rfl, I.hok.fresh (Nat.le_refl _), rfl, fun ys hy => by rw [I.tuple_inj hy hq]; exact hx⟩, ⟨⟨u, ?_⟩, hs2.1.at fun o q => (sb.2 it (Ne.symm hne)).trans q, hne⟩, fun b hb => ?_⟩
    · rw [show ((i + 1 : Nat) : Int) = (i : Int) + 1 by omega]
      exact he3
    · have hb' : b < s.heap.objs.size := by
        rcases (show b = e ∨ b = it by simpa using hb) with z | z
        · rw [z]; exact hel
        · rw [z]; exact hil
      rw [upd_ne (Nat.ne_of_lt hb')]
      exact (hf b hb).1
  done := by
    intro X hP hw hK hc i pins s σ H E I hf st hg
    subst hP hw hK
    obtain ⟨⟨old, h1⟩, hit, hne⟩ := st
    obtain ⟨xs, hq, hx⟩ := hg
    obtain ⟨its, rv, p, hz⟩ := I.tuple hq
    obtain ⟨f0, f1, f2, f3, f4, f5⟩ := hf it (by simp)
    have hl := rv.length
    have hi : i = its.toArray.size := by simp; omega
    subst hi
    exact wpAny_pyNext_enum_endD (Draws.tuple (A := X.A.in1) (I.ok.hd hc) it a hai its.toArray) h1 ⟨hit, p⟩ fun h2 eb => ⟨rfl, I.turned (t' := s.toks) (fun b o hb q => eb b o hb q) f0 f1 f3 f4 f5⟩
  self := fun A i s Q E st h => let ⟨⟨_, h1⟩, _⟩ := st; wpAny_pyIter_enum h1 h
def iEnumA (K : PySem.W.Frag) (ta : TA) : TI := fun σ H R => ta σ H fun vs H1 => ∃ a xs, vs = [.ref a] ∧ ((SqL K H1 a xs ∧ R (Ite K a) H1) ∨ (SqT K H1 a xs ∧ R (IteT K a) H1))
theorem pi_enumA {X : Cx} {e : Expr} {ta : TA} {p pos tpos : Pos} {elts : List Expr} {kk : Nat} (hg : Gl X "enumerate") (hm : X.mg "enumerate" = none) (ha : PA X [e] ta) (hs : starEach [e] X.env = [(false, eval e X.env)] := by rfl) :
    PI X (.Tuple elts kk tpos) (.Call (.Name "enumerate" p) [e] [] pos) (iEnumA X.K ta) := by
  constructor
  intro pins s σ H R I h
  refine Call_ (ld_blt I hg hm boot_enumerate (PyProof.Rows.callWith_type1 (thn (ha.run pos pins s σ H _ I h) fun us s1 ⟨vs, H1, I1, r1, q1⟩ => ?_) hs rfl))
  obtain ⟨a, xs, ex, q1⟩ := q1
  subst ex
  cases r1 with
  | cons r rr =>
    cases rr
    cases r
    have fr : ∀ b ∈ [s1.heap.objs.size + 1, s1.heap.objs.size], FpOk X pins H1 b := fun b hb => by
      have hle : s1.heap.objs.size ≤ b := by
        rcases (show b = s1.heap.objs.size + 1 ∨ b = s1.heap.objs.size by simpa using hb) with z | z
        · rw [z]; exact Nat.le_add_right _ _
        · rw [z]; exact Nat.le_refl _
      exact I1.fpOk hle (I1.hok.fresh hle)
    rcases q1 with ⟨hq, q⟩ | ⟨hq, q⟩
    · obtain ⟨its, rv, p', hz⟩ := I1.list hq
      refine call_enumerate_list p'.isList fun h2 he hit hsz hk => wpAny_pyIter_enum he ?_
      have I2 : Inv X pins σ H1 { s1 with heap := h2 } := I1.kept (t' := s1.toks) hk
      exact ⟨s1.heap.objs.size + 1, [s1.heap.objs.size + 1, s1.heap.objs.size], _, _, H1, rfl, I2, turn_enum a (s1.heap.objs.size + 1) s1.heap.objs.size, ⟨⟨.none, he⟩, hit, Nat.succ_ne_self _⟩, fr, q⟩
    · obtain ⟨its, rv, p', hz⟩ := I1.tuple hq
      have hal : a < s1.heap.objs.size := by
        obtain ⟨_, z, _⟩ := id p'
        exact Heap.lt_size z
      refine call_enum1 (begins_tuple a its.toArray) (show s1.heap.IsTuple a its.toArray from p') fun h2 he hit hsz hk => wpAny_pyIter_enum he ?_
      have I2 : Inv X pins σ H1 { s1 with heap := h2 } := I1.kept (t' := s1.toks) hk
      exact ⟨s1.heap.objs.size + 1, [s1.heap.objs.size + 1, s1.heap.objs.size], _, _, H1, rfl, I2, turn_enumT a (s1.heap.objs.size + 1) s1.heap.objs.size (Nat.ne_of_gt (Nat.lt_succ_of_lt hal)) (Nat.ne_of_lt hal), ⟨⟨.none, he⟩, ⟨_, hit, rfl, rfl⟩, Nat.succ_ne_self _⟩, fr, q⟩
def iSeq (K : PySem.W.Frag) (tl : TE) : TI := fun σ H R => tl σ H fun x H1 => ∃ a xs, x = .ref a ∧ ((SqL K H1 a xs ∧ R (Itl K a) H1) ∨ (SqT K H1 a xs ∧ R (Itt K a) H1))
def LT (H : Hp) (a : Addr) (xs : List V) : Prop := H a = some (.lst xs) ∨ H a = some (.tup xs)
section
variable {K : PySem.W.Frag} {σ : L2.St} {H H' : Hp} {Q : VK} {g : TG} {tb : TS} {D : Ends} {a : Addr} {xs : List V}
theorem LT.same (s : Same H H') (h : LT H a xs) : LT H' a xs := h.imp (s _ _) (s _ _)
theorem LT.same' (s : Same H H') (h : LT H a xs) : LT H' a xs := h.same s
theorem LT.new' {q : Addr} {o : HO} (n : H q = none) (h : LT H a xs) : LT (upd H q o) a xs := h.same (same_new n)
theorem LT.l (h : H a = some (.lst xs)) : LT H a xs := .inl h
theorem LT.t (h : H a = some (.tup xs)) : LT H a xs := .inr h
theorem LT.ne {q : Addr} (h : LT H a xs) (n : H q = none) : a ≠ q := by
  rcases h with h | h
  · exact ne_of_none h n
  · exact ne_of_none h n
theorem rd_lenA (h : LT H a xs) (q : Q (.int xs.length) H) : rLen K [.ref a] H Q := by
  rcases h with h | h
  · exact rd_lenL (SqL.of h) q
  · exact rd_lenT (SqT.of h) q
theorem rd_listA (h : LT H a xs) (q : ∀ l, H l = none → Q (.ref l) (upd H l (.lst xs))) : rToList K [.ref a] H Q := by
  rcases h with h | h
  · exact ⟨a, xs, rfl, .inl (SqL.of h), q⟩
  · exact ⟨a, xs, rfl, .inr (SqT.of h), q⟩
theorem isiT_lt {t : Addr} (h : LT H a xs) (ht : H t = some (.tup [.ty "list", .ty "tuple"])) (q : Q (.bl true) H) : rIsiT K [.ref a, .ref t] H Q := by
  rcases h with h | h
  · exact isiT_lst h ht q
  · exact ⟨.ref a, t, _, .type "tuple", [.type "list", .type "tuple"], true, rfl, ht, .cons (.ty "list") (.cons (.ty "tuple") .nil), .base (.tup h), rfl, q⟩
theorem rd_forEA {ts : TA} (h : ts σ H fun vs H1 => ∃ a xs, vs = [.ref a] ∧ ((SqL K H1 a xs ∧ LpW (Ite K a) g tb D σ H1) ∨ (SqT K H1 a xs ∧ LpW (IteT K a) g tb D σ H1))) : tFor (iEnumA K ts) g tb D σ H := h
theorem rd_forS {te : TE} (h : te σ H fun x H1 => ∃ a xs, x = .ref a ∧ ((SqL K H1 a xs ∧ LpW (Itl K a) g tb D σ H1) ∨ (SqT K H1 a xs ∧ LpW (Itt K a) g tb D σ H1))) : tFor (iSeq K te) g tb D σ H := h
theorem for_enumT (Pv : Nat → L2.St → Hp → Prop) (h0 : Pv 0 σ H) (hl : ∀ i σ H, i ≤ xs.length → Pv i σ H → SqT K H a xs)
    (hs : ∀ i x σ H T, xs[i]? = some x → Pv i σ H → H T = none → g (.ref T) σ (upd H T (.tup [.int (i : Nat), x])) fun σ2 H2 => tb { D with nx := Pv (i + 1), ct := Pv (i + 1), bk := D.nx } σ2 H2) (hd : ∀ σ H, Pv xs.length σ H → D.nx σ H) : LpW (IteT K a) g tb D σ H := by
  refine ⟨fun i m σ H => m = xs.length - i ∧ i ≤ xs.length ∧ Pv i σ H, ⟨xs.length, by simp, Nat.zero_le _, h0⟩, ?_⟩
  rintro i m σ H ⟨rfl, hi, p⟩
  have q := hl i σ H hi p
  by_cases hlt : i < xs.length
  · refine .inr ⟨⟨xs, xs[i], q, by simp [hlt]⟩, Pv (i + 1), fun σ' H' p' => ⟨xs.length - (i + 1), by omega, rfl, hlt, p'⟩, fun x H' y => ?_⟩
    obtain ⟨T, x1, rfl, nT, rfl, y⟩ := y
    exact hs i x1 σ H T (y xs q) p nT
  · have e : i = xs.length := by omega
    subst e
    exact .inl ⟨⟨xs, q, rfl⟩, hd σ H p⟩
/-- a loop over enumerate(xs), xs a list or a tuple -/
theorem for_enumA (h : LT H a xs) (Pv : Nat → L2.St → Hp → Prop) (h0 : Pv 0 σ H) (hl : ∀ i σ H', i ≤ xs.length → Pv i σ H' → ∀ o, H a = some o → H' a = some o)
    (hs : ∀ i x σ H T, xs[i]? = some x → Pv i σ H → H T = none → g (.ref T) σ (upd H T (.tup [.int (i : Nat), x])) fun σ2 H2 => tb { D with nx := Pv (i + 1), ct := Pv (i + 1), bk := D.nx } σ2 H2) (hd : ∀ σ H, Pv xs.length σ H → D.nx σ H) :
    ∃ b ys, [V.ref a] = [.ref b] ∧ ((SqL K H b ys ∧ LpW (Ite K b) g tb D σ H) ∨ (SqT K H b ys ∧ LpW (IteT K b) g tb D σ H)) := by
  rcases h with h | h
  · exact ⟨a, xs, rfl, .inl ⟨SqL.of h, for_enum (xs := xs) Pv h0 (fun i σ H' hi p => SqL.of (hl i σ H' hi p _ h)) hs hd⟩⟩
  · exact ⟨a, xs, rfl, .inr ⟨SqT.of h, for_enumT (xs := xs) Pv h0 (fun i σ H' hi p => SqT.of (hl i σ H' hi p _ h)) hs hd⟩⟩
theorem rd_cut {t u : TS} (M : L2.St → Hp → Prop) (h1 : t { D with nx := M } σ H) (h2 : ∀ σ' H', M σ' H' → u D σ' H') : C8.tCut t u D σ H := ⟨M, h1, h2⟩
end
def rToTup (K : PySem.W.Frag) : List V → Hp → VK → Prop := fun xs H Q => ∃ p ys, xs = [.ref p] ∧ ((SqL K H p ys ∧ ∀ l, H l = none → Q (.ref l) (upd H l (.tup ys))) ∨ (SqT K H p ys ∧ Q (.ref p) H))
theorem rd_tupL {K : PySem.W.Frag} {H : Hp} {Q : VK} {p : Addr} {xs : List V} (h : SqL K H p xs) (q : ∀ l, H l = none → Q (.ref l) (upd H l (.tup xs))) : rToTup K [.ref p] H Q := ⟨p, xs, rfl, .inl ⟨h, q⟩⟩
def spItemsA : Sp := fun vs H Q _ => ∃ (a : Addr) (ns : List Int), vs = [.ref a] ∧ LT H a (ns.map V.int) ∧ ∀ H', Same H H' → Q .non H'
theorem use_itemsA {a : Addr} {ns : List Int} {H : Hp} {Q : VK} {E : XK} (h : LT H a (ns.map V.int)) (q : ∀ H', Same H H' → Q .non H') : spItemsA ([.ref a] ++ []) H Q E := ⟨a, ns, rfl, h, q⟩
def spSoundA : Sp := spItemsA
theorem use_soundA {a : Addr} {ns : List Int} {H : Hp} {Q : VK} {E : XK} (h : LT H a (ns.map V.int)) (q : ∀ H', Same H H' → Q .non H') : spSoundA ([.ref a] ++ []) H Q E := ⟨a, ns, rfl, h, q⟩
def spFoldsA (f : Int → Int → Int → Int × Int) : Sp := fun vs H Q _ => ∃ (a b : Addr) (xs : List Int) (refs : List V) (js : List Jo), vs = [.ref a, .ref b] ∧ LT H a (xs.map V.int) ∧ LT H b refs ∧ JsAt H refs js ∧ Rm xs.length 0 0 js ∧ xs.length ≤ 100 ∧
  ∀ p H', H p = none → Same H H' → H' p = some (.lst ((turnL f xs js).map V.int)) → Q (.ref p) H'
theorem use_foldsA {f : Int → Int → Int → Int × Int} {a b : Addr} {xs : List Int} {refs : List V} {js : List Jo} {H : Hp} {Q : VK} {E : XK} (h1 : LT H a (xs.map V.int)) (h2 : LT H b refs) (h3 : JsAt H refs js) (h4 : Rm xs.length 0 0 js) (h5 : xs.length ≤ 100)
    (q : ∀ p H', H p = none → Same H H' → H' p = some (.lst ((turnL f xs js).map V.int)) → Q (.ref p) H') : spFoldsA f ([.ref a, .ref b] ++ []) H Q E := ⟨a, b, xs, refs, js, rfl, h1, h2, h3, h4, h5, q⟩
theorem use_foldsAK {f : Int → Int → Int → Int × Int} {a b : Addr} {xs : List Int} {refs : List V} {js : List Jo} {H : Hp} {Q : VK} {E : XK} (h1 : LT H a (xs.map V.int)) (h2 : LT H b refs) (h3 : JsAt H refs js) (h4 : Rm xs.length 0 0 js) (h5 : xs.length ≤ 100)
    (q : ∀ p H', H p = none → Same H H' → H' p = some (.lst ((turnL f xs js).map V.int)) → Q (.ref p) H') : spFoldsA f (kg 0 2 [1, 0] [] [.ref b, .ref a]) H Q E := ⟨a, b, xs, refs, js, rfl, h1, h2, h3, h4, h5, q⟩
end Z
namespace Z
open PySem PySem.Spec PyProof.Rows L2
/-- how many binary digits -/
def nb (u : Nat) : Nat := if u = 0 then 1 else Nat.log2 u + 1
abbrev Tb := Int × Int
/-- a table in its limits, its total at most m -/
def TbOk (m : Int) (t : Tb) : Prop := 0 ≤ t.1 ∧ t.1 ≤ m ∧ 1 ≤ t.2 ∧ t.2 ≤ 15
theorem TbOk.mono {m n : Int} {t : Tb} (h : TbOk m t) (e : m ≤ n) : TbOk n t := ⟨h.1, Int.le_trans h.2.1 e, h.2.2⟩
end Z
namespace Z
open PySem PySem.Spec PyProof.Rows L2
open SX (S S_len S_cat S_inj)
section
open PySem.Builtin PySem.Builtin.Str PySem.Builtin.Int PySem.Builtin.Float
theorem eb : Str.ofString "b" = S [98] := by rfl
end
end Z
namespace Z
open PySem PySem.Spec PyProof.Rows L2
/-- the first item that is no integer -/
inductive IT (H : Hp) (xs : List V) : Option Nat → Prop where
  | bad {i : Nat} {v : V} (b : ∀ j, j < i → ∃ z, xs[j]? = some (.int z)) (e : xs[i]? = some v) (n : isI v = false) (t : ∀ x ∈ xs, TyV H x) : IT H xs (some i)
  | good {ns : List Int} (e : xs = ns.map V.int) : IT H xs none
theorem tyvS {H H' : Hp} {v : V} (s : Same H H') (h : TyV H v) : TyV H' v := by
  cases v with
  | ref a => exact h.elim (fun ⟨xs, e⟩ => .inl ⟨xs, s _ _ e⟩) fun ⟨xs, e⟩ => .inr ⟨xs, s _ _ e⟩
  | _ => exact h
theorem IT.same {H H' : Hp} {xs : List V} {o : Option Nat} (s : Same H H') (h : IT H xs o) : IT H' xs o := by
  cases h with
  | bad b e n t => exact .bad b e n fun x hx => tyvS s (t x hx)
  | good e => exact .good e
theorem IT.at {H : Hp} {xs : List V} {o : Option Nat} {i : Nat} {v : V} (h : IT H xs o) (e : xs[i]? = some v) (hi : ∀ k, o = some k → i ≤ k) : (o = some i ∧ isI v = false ∧ TyV H v) ∨ (∃ z, v = .int z) ∧ ∀ k, o = some k → i + 1 ≤ k := by
  cases h with
  | @bad k u b eu n t =>
    have hk := hi k rfl
    by_cases hik : i = k
    · subst hik
      rw [e] at eu
      cases eu
      exact .inl ⟨rfl, n, t v (List.mem_of_getElem? e)⟩
    · obtain ⟨z, hz⟩ := b i (by omega)
      rw [e] at hz
      cases hz
      exact .inr ⟨⟨z, rfl⟩, fun k' e' => by cases e'; omega⟩
  | @good ns eu =>
    subst eu
    rw [List.getElem?_map] at e
    cases g : ns[i]? with
    | none => rw [g] at e; cases e
    | some z => rw [g] at e; cases e; exact .inr ⟨⟨z, rfl⟩, fun k' e' => nomatch e'⟩
theorem IT.len {H : Hp} {xs : List V} {o : Option Nat} (h : IT H xs o) (hi : ∀ k, o = some k → xs.length ≤ k) : o = none := by
  cases h with
  | bad b e n t => exact absurd (hi _ rfl) (Nat.not_le.mpr (List.getElem?_eq_some_iff.mp e).1)
  | good e => rfl
/-- what a block check says of a value -/
inductive BR (H : Hp) : V → Option V → Prop where
  | flat {x : V} (h : scalarV x = true) : BR H x (some .non)
  | tup {a : Addr} {xs : List V} (h : H a = some (.tup xs)) : BR H (.ref a) (some .non)
  | size {a : Addr} {xs : List V} (h : H a = some (.lst xs)) (n : ¬ (1 ≤ xs.length ∧ xs.length ≤ 64)) (m : xs.length ≤ 1000) : BR H (.ref a) (some .non)
  | item {a : Addr} {xs : List V} {o : Option Nat} (h : H a = some (.lst xs)) (n1 : 1 ≤ xs.length) (n2 : xs.length ≤ 64) (t : IT H xs o) : BR H (.ref a) (o.map fun i => .int (i : Nat))
theorem BR.same {H H' : Hp} {x : V} {o : Option V} (s : Same H H') (h : BR H x o) : BR H' x o := by
  cases h with
  | flat h => exact .flat h
  | tup h => exact .tup (s _ _ h)
  | size h n m => exact .size (s _ _ h) n m
  | item h n1 n2 t => exact .item (s _ _ h) n1 n2 (t.same s)
theorem BR.ty {H : Hp} {x : V} {o : Option V} (h : BR H x o) : TyV H x := by
  cases h with
  | flat h => cases x <;> first | exact True.intro | exact Bool.noConfusion h
  | tup h => exact .inr ⟨_, h⟩
  | size h _ _ => exact .inl ⟨_, h⟩
  | item h _ _ _ => exact .inl ⟨_, h⟩
def scOk : V → Bool
  | .non => true
  | .bl _ => true
  | .int _ => true
  | .str s => PyData.strOk s
  | _ => false
def EV (l : List Addr) (H : Hp) (v : V) : Prop := scOk v = true ∨ ∃ a xs, v = .ref a ∧ a ∉ l ∧ (H a = some (.lst xs) ∨ H a = some (.tup xs)) ∧ ∀ x ∈ xs, scOk x = true
def KpLN (l : List Addr) (H H' : Hp) : Prop := ∀ a o, a ∉ l → H a = some o → (∀ ps, o ≠ .tbl ps) → H' a = some o
section
variable {l : List Addr} {p q : Addr} {H H' H1 H2 : Hp} {o : HO} {v : V} {K : PySem.W.Frag}
theorem nm_cons {a b : Addr} {m : List Addr} (h : a ≠ b) (k : a ∉ m) : a ∉ b :: m := fun z => (List.mem_cons.mp z).elim h k
theorem KpLN.refl : KpLN l H H := fun _ _ _ h _ => h
theorem KpLN.trans (a : KpLN l H H1) (b : KpLN l H1 H2) : KpLN l H H2 := fun c o n h t => b c o n (a c o n h t) t
theorem KpLN.ofL (k : KpL l H H') : KpLN l H H' := fun a o n h _ => k a o n h
theorem KpLN.of (s : Same H H') : KpLN l H H' := fun a o _ h _ => s a o h
theorem KpLN.ofK (m : p ∈ l) (k : Kp p H H') : KpLN l H H' := .ofL (KpL.ofK m k)
theorem KpLN.new (n : H q = none) : KpLN l H (upd H q o) := .of (same_new n)
theorem KpLN.at (m : q ∈ l) : KpLN l H (upd H q o) := .ofL (KpL.at m)
theorem EV.kp (k : KpLN l H H') (h : EV l H v) : EV l H' v := by
  rcases h with h | ⟨a, xs, e, n, h | h, s⟩
  · exact .inl h
  · exact .inr ⟨a, xs, e, n, .inl (k _ _ n h lst_ntbl), s⟩
  · exact .inr ⟨a, xs, e, n, .inr (k _ _ n h tup_ntbl), s⟩
theorem EV.set {xs : List V} {j : Nat} {S : Addr} {u : HO} (h : ∀ x ∈ xs, EV l H x) (hv : EV l H v) (m : S ∈ l) : ∀ x ∈ xs.set j v, EV l (upd H S u) x := fun x hx => by
  have k : KpLN l H (upd H S u) := .at m
  rcases List.mem_or_eq_of_mem_set hx with hx | rfl
  · exact (h x hx).kp k
  · exact hv.kp k
theorem EV.ty (h : EV l H v) : TyV H v := by
  rcases h with h | ⟨a, xs, rfl, _, h | h, _⟩
  · cases v <;> first | exact True.intro | exact Bool.noConfusion h
  · exact .inl ⟨xs, h⟩
  · exact .inr ⟨xs, h⟩
theorem EV.lst {a : Addr} {xs : List V} (n : a ∉ l) (h : H a = some (.lst xs)) (s : ∀ x ∈ xs, scOk x = true) : EV l H (.ref a) := .inr ⟨a, xs, rfl, n, .inl h, s⟩
theorem EV.tup {a : Addr} {xs : List V} (n : a ∉ l) (h : H a = some (.tup xs)) (s : ∀ x ∈ xs, scOk x = true) : EV l H (.ref a) := .inr ⟨a, xs, rfl, n, .inr h, s⟩
end
def GV (p : Addr) (H : Hp) (xs : List V) (x : V) : Prop := (∃ a, x = .ref a ∧ a ≠ p ∧ H a = some (.lst xs)) ∨ scalarV x = true ∨ ∃ a ys, x = .ref a ∧ a ≠ p ∧ H a = some (.tup ys)
section
variable {p S : Addr} {H H' H1 H2 H3 : Hp} {xs ys : List V} {x : V} {o : Option V} {T : List (Addr × Str)}
theorem GV.kp (k : KpLN [p] H H') (h : GV p H xs x) : GV p H' xs x := by
  rcases h with ⟨a, e, n, h⟩ | h | ⟨a, ys, e, n, h⟩
  · exact .inl ⟨a, e, n, k _ _ (nm_cons n List.not_mem_nil) h lst_ntbl⟩
  · exact .inr (.inl h)
  · exact .inr (.inr ⟨a, ys, e, n, k _ _ (nm_cons n List.not_mem_nil) h tup_ntbl⟩)
theorem tyvE (s : LamX.ExtN H H') (h : TyV H x) : TyV H' x := by
  cases x with
  | ref a => exact h.elim (fun ⟨xs, e⟩ => .inl ⟨xs, s _ _ e lst_ntbl⟩) fun ⟨xs, e⟩ => .inr ⟨xs, s _ _ e tup_ntbl⟩
  | _ => exact h
theorem BR.ext (s : LamX.ExtN H H') (h : BR H x o) : BR H' x o := by
  cases h with
  | flat h => exact .flat h
  | tup h => exact .tup (s _ _ h tup_ntbl)
  | size h n m => exact .size (s _ _ h lst_ntbl) n m
  | item h n1 n2 t =>
    refine .item (s _ _ h lst_ntbl) n1 n2 ?_
    cases t with
    | bad b e n t => exact .bad b e n fun x hx => tyvE s (t x hx)
    | good e => exact .good e
theorem KpLN.drop {l : List Addr} (k : KpLN (S :: l) H H') (n : H S = none) : KpLN l H H' := fun a o m h t => k a o (nm_cons (fun z => by rw [z, n] at h; cases h) m) h t
theorem extN_same (s : Same H H') : LamX.ExtN H H' := .of fun b o e => s b o e
end
end Z
namespace Z
open PySem PySem.Spec PyProof.Rows L2
def PV (l : List Addr) (H : Hp) : Nat → V → Prop
  | 0, v => scOk v = true
  | n + 1, v => scOk v = true ∨ ∃ a xs, v = .ref a ∧ a ∉ l ∧ LT H a xs ∧ ∀ x ∈ xs, PV l H n x
section
variable {l : List Addr} {p q S : Addr} {H H' : Hp} {v : V} {K : PySem.W.Frag}
theorem LT.kpln {a : Addr} {xs : List V} (k : KpLN l H H') (n : a ∉ l) (h : LT H a xs) : LT H' a xs := h.imp (fun e => k _ _ n e lst_ntbl) fun e => k _ _ n e tup_ntbl
theorem PV.kp (k : KpLN l H H') : ∀ {n : Nat} {v : V}, PV l H n v → PV l H' n v
  | 0, _, h => h
  | n + 1, v, h => by
    rcases h with h | ⟨a, xs, e, m, h, s⟩
    · exact .inl h
    · exact .inr ⟨a, xs, e, m, h.kpln k m, fun x hx => PV.kp k (s x hx)⟩
theorem PV.tup {n : Nat} {a : Addr} {xs : List V} (m : a ∉ l) (h : H a = some (.tup xs)) (s : ∀ x ∈ xs, PV l H n x) : PV l H (n + 1) (.ref a) := .inr ⟨a, xs, rfl, m, .inr h, s⟩
theorem PV.lst {n : Nat} {a : Addr} {xs : List V} (m : a ∉ l) (h : H a = some (.lst xs)) (s : ∀ x ∈ xs, PV l H n x) : PV l H (n + 1) (.ref a) := .inr ⟨a, xs, rfl, m, .inl h, s⟩
theorem PV.ty : ∀ {n : Nat} {v : V}, PV l H n v → TyV H v
  | 0, v, h => by cases v <;> first | exact True.intro | exact Bool.noConfusion h
  | n + 1, v, h => by
    rcases h with h | ⟨a, xs, rfl, m, h | h, s⟩
    · cases v <;> first | exact True.intro | exact Bool.noConfusion h
    · exact .inl ⟨xs, h⟩
    · exact .inr ⟨xs, h⟩
theorem PV.set {n : Nat} {xs : List V} {j : Nat} {u : HO} (h : ∀ x ∈ xs, PV l H n x) (hv : PV l H n v) (m : S ∈ l) : ∀ x ∈ xs.set j v, PV l (upd H S u) n x := fun x hx => by
  have k : KpLN l H (upd H S u) := .at m
  rcases List.mem_or_eq_of_mem_set hx with hx | rfl
  · exact (h x hx).kp k
  · exact hv.kp k
end
inductive SR (H : Hp) (n : Nat) : V → Option V → Prop where
  | flat {x : V} (h : scalarV x = true) : SR H n x (some .non)
  | seq {a : Addr} {xs : List V} {o : Option Nat} (h : LT H a xs) (e : xs.length = n) (m : n ≤ 1000) (t : IT H xs o) : SR H n (.ref a) (o.map fun i => .int (i : Nat))
inductive PJ (H : Hp) : V → Option (Int × Int × Int) → Prop where
  | flat {x : V} (h : scalarV x = true) : PJ H x none
  | lst {a : Addr} {xs : List V} (h : H a = some (.lst xs)) : PJ H (.ref a) none
  | tupn {a : Addr} {xs : List V} (h : H a = some (.tup xs)) (n : xs.length ≠ 2) : PJ H (.ref a) none
  | noi {a : Addr} {u v : V} (h : H a = some (.tup [u, v])) (t : TyV H u) (n : isI u = false) : PJ H (.ref a) none
  | noj {a : Addr} {i : Int} {v : V} (h : H a = some (.tup [.int i, v])) (t : JR H v false) : PJ H (.ref a) none
  | good {a b : Addr} {i w s : Int} (h : H a = some (.tup [.int i, .ref b])) (g : H b = some (.tup [.int w, .int s])) (t : jt (.int w) (.int s) = true) : PJ H (.ref a) (some (i, w, s))
inductive All2 {α β : Type} (R : α → β → Prop) : List α → List β → Prop where
  | nil : All2 R [] []
  | cons {a : α} {b : β} {as : List α} {bs : List β} (h : R a b) (t : All2 R as bs) : All2 R (a :: as) (b :: bs)
theorem All2.imp {α β : Type} {R S : α → β → Prop} (f : ∀ a b, R a b → S a b) {as : List α} {bs : List β} (h : All2 R as bs) : All2 S as bs := by
  induction h with
  | nil => exact .nil
  | cons h _ ih => exact .cons (f _ _ h) ih
theorem All2.get {α β : Type} {R : α → β → Prop} {as : List α} {bs : List β} (h : All2 R as bs) : ∀ (i : Nat) (a : α), as[i]? = some a → ∃ b r, R a b ∧ bs.drop i = b :: r ∧ bs.drop (i + 1) = r := by
  induction h with
  | nil => intro i a e; simp at e
  | @cons a b as bs h t ih =>
    intro i x e
    cases i with
    | zero => cases e; exact ⟨b, bs, h, rfl, rfl⟩
    | succ i => exact ih i x e
theorem All2.len {α β : Type} {R : α → β → Prop} {as : List α} {bs : List β} (h : All2 R as bs) : as.length = bs.length := by
  induction h with
  | nil => rfl
  | cons _ _ ih => exact congrArg (· + 1) ih
def rmB (n : Nat) (l b : Int) (i w : Int) : Bool := decide (l < i ∧ i < n ∧ l + b + w ≤ i ∧ i + w ≤ n)
/-- the first item that can not stand -/
def jb (n : Nat) : Nat → Int → Int → List (Option (Int × Int × Int)) → Option Nat
  | _, _, _, [] => none
  | k, _, _, none :: _ => some k
  | k, l, b, some (i, w, s) :: r => if rmB n l b i w then jb n (k + 1) i w r else some k
inductive JP (H : Hp) (n : Nat) : V → Option V → Prop where
  | flat {x : V} (h : scalarV x = true) : JP H n x (some .non)
  | seq {a : Addr} {xs : List V} {ps : List (Option (Int × Int × Int))} (h : LT H a xs) (m : xs.length ≤ 1000) (t : All2 (PJ H) xs ps) : JP H n (.ref a) ((jb n 0 0 0 ps).map fun i => .int (i : Nat))
section
variable {H H' : Hp} {n : Nat} {x : V} {o : Option V}
theorem jr_ext (s : LamX.ExtN H H') {b : Bool} (h : JR H x b) : JR H' x b := by
  cases h with
  | flat h => exact .flat h
  | lst h => exact .lst (s _ _ h lst_ntbl)
  | tupn h n => exact .tupn (s _ _ h tup_ntbl) n
  | tup2 h u v => exact .tup2 (s _ _ h tup_ntbl) (tyvE s u) (tyvE s v)
theorem pj_ext (s : LamX.ExtN H H') {j : Option (Int × Int × Int)} (h : PJ H x j) : PJ H' x j := by
  cases h with
  | flat h => exact .flat h
  | lst h => exact .lst (s _ _ h lst_ntbl)
  | tupn h n => exact .tupn (s _ _ h tup_ntbl) n
  | noi h t n => exact .noi (s _ _ h tup_ntbl) (tyvE s t) n
  | noj h t => exact .noj (s _ _ h tup_ntbl) (jr_ext s t)
  | good h g t => exact .good (s _ _ h tup_ntbl) (s _ _ g tup_ntbl) t
theorem lt_ext {a : Addr} {xs : List V} (s : LamX.ExtN H H') (h : LT H a xs) : LT H' a xs := h.imp (fun e => s _ _ e lst_ntbl) fun e => s _ _ e tup_ntbl
theorem it_ext {xs : List V} {o : Option Nat} (s : LamX.ExtN H H') (h : IT H xs o) : IT H' xs o := by
  cases h with
  | bad b e n t => exact .bad b e n fun x hx => tyvE s (t x hx)
  | good e => exact .good e
theorem SR.ext (s : LamX.ExtN H H') (h : SR H n x o) : SR H' n x o := by
  cases h with
  | flat h => exact .flat h
  | seq h e m t => exact .seq (lt_ext s h) e m (it_ext s t)
theorem JP.ext (s : LamX.ExtN H H') (h : JP H n x o) : JP H' n x o := by
  cases h with
  | flat h => exact .flat h
  | seq h m t => exact .seq (lt_ext s h) m (t.imp fun _ _ => pj_ext s)
theorem SR.same (s : Same H H') (h : SR H n x o) : SR H' n x o := h.ext (extN_same s)
theorem JP.same (s : Same H H') (h : JP H n x o) : JP H' n x o := h.ext (extN_same s)
end
def GQ (p : Addr) (H : Hp) (xs : List V) (x : V) : Prop := (∃ a, x = .ref a ∧ a ≠ p ∧ LT H a xs) ∨ scalarV x = true
section
variable {p : Addr} {H H' : Hp} {xs : List V} {x : V} {m : Nat}
theorem GQ.kp (k : KpLN [p] H H') (h : GQ p H xs x) : GQ p H' xs x := h.imp (fun ⟨a, e, n, h⟩ => ⟨a, e, n, h.kpln k (nm_cons n List.not_mem_nil)⟩) id
end
end Z
namespace Z
open PySem PySem.Spec PyProof.Rows L2
section
variable {σ : L2.St} {H : Hp} {n : L2.St → Hp → Prop} {r : VK} {b c : L2.St → Hp → Prop} {te : TE}
theorem rd_aug {i : Nat} {ti : TIp} {x : V} (e : σ[i]? = some (some x)) (h : te σ H fun y H1 => ti x y H1 fun z H2 => n (σ.set i (some z)) H2) : tAug i te ti ⟨n, r, b, c⟩ σ H := ⟨x, e, h⟩
theorem rd_ipI {f : Int → Int → Int} {i j : Int} {Q : VK} (h : Q (.int (f i j)) H) : ipI f (.int i) (.int j) H Q := ⟨i, j, rfl, rfl, h⟩
end
def spTakeB : Sp := fun vs H Q _ => ∃ (p : Addr) (m : Int), vs = [.ref p, .int m] ∧ Pool H p ∧ 0 < m ∧ m < 18446744073709551616 ∧ ∀ r H', 0 ≤ r → r < m → Pool H' p → Kp p H H' → Q (.int r) H'
theorem use_takeB {p : Addr} {m : Int} {H : Hp} {Q : VK} {E : XK} (h1 : Pool H p) (h2 : 0 < m) (h3 : m < 18446744073709551616) (q : ∀ r H', 0 ≤ r → r < m → Pool H' p → Kp p H H' → Q (.int r) H') : spTakeB ([.ref p, .int m] ++ []) H Q E := ⟨p, m, rfl, h1, h2, h3, q⟩
abbrev Sz := Int × Int
def SzAt (H : Hp) (v : V) (s : Sz) : Prop := ∃ a, v = .ref a ∧ H a = some (.tup [.int s.1, .int s.2])
def SzsAt (H : Hp) (vs : List V) (ss : List Sz) : Prop := All2 (SzAt H) vs ss
def SzOk (s : Sz) : Prop := 0 ≤ s.1 ∧ s.1 ≤ 1000000000 ∧ 1 ≤ s.2 ∧ s.2 ≤ 1000000000
def LKT (H H' : Hp) : Prop := ∀ b o, H b = some o → (∀ xs, o ≠ .lst xs) → H' b = some o
theorem SzsAt.lk {H H' : Hp} {vs : List V} {ss : List Sz} (s : LKT H H') (h : SzsAt H vs ss) : SzsAt H' vs ss := h.imp fun _ _ ⟨a, e, q⟩ => ⟨a, e, s _ _ q (fun _ z => nomatch z)⟩
theorem LKT.of {H H' : Hp} (s : Same H H') : LKT H H' := fun b o e _ => s b o e
theorem LKT.new {H : Hp} {q : Addr} {o : HO} (n : H q = none) : LKT H (upd H q o) := .of (same_new n)
theorem LKT.trans {H H1 H2 : Hp} (a : LKT H H1) (b : LKT H1 H2) : LKT H H2 := fun x o e n => b x o (a x o e n) n
theorem LKT.pool {H H' : Hp} {p : Addr} (h : Pool H p) (k : Kp p H H') : LKT H H' := fun b x e nl => k b x (fun z => by
  obtain ⟨x', y', e', _⟩ := h
  rw [z, e'] at e
  cases e
  exact nl _ rfl) e
theorem LKT.at {H : Hp} {q : Addr} {o : HO} {ys : List V} (n : H q = some (.lst ys)) : LKT H (upd H q o) := fun b x e nl => by
  rw [upd_ne (fun z => by rw [z, n] at e; cases e; exact nl _ rfl)]
  exact e
theorem SzsAt.same {H H' : Hp} {vs : List V} {ss : List Sz} (s : Same H H') (h : SzsAt H vs ss) : SzsAt H' vs ss := h.lk (.of s)
theorem All2.snoc' {α β : Type} {R : α → β → Prop} {as : List α} {bs : List β} {a : α} {b : β} (h : All2 R as bs) (k : R a b) : All2 R (as ++ [a]) (bs ++ [b]) := by
  induction h with
  | nil => exact .cons k .nil
  | cons h _ ih => exact .cons h ih
theorem All2.at_ {α β : Type} {R : α → β → Prop} {as : List α} {bs : List β} (h : All2 R as bs) : ∀ (i : Nat) (a : α), as[i]? = some a → ∃ b, bs[i]? = some b ∧ R a b ∧ bs.drop i = b :: bs.drop (i + 1) := by
  induction h with
  | nil => intro i a e; simp at e
  | @cons a b as bs h t ih =>
    intro i x e
    cases i with
    | zero => cases e; exact ⟨b, rfl, h, rfl⟩
    | succ i => exact ih i x e
def spIsSz : Sp := fun vs H Q _ => ∃ (a : Addr) (s : Sz), vs = [.ref a] ∧ H a = some (.tup [.int s.1, .int s.2]) ∧ SzOk s ∧ Q (.bl true) H
theorem use_issz {a : Addr} {s : Sz} {H : Hp} {Q : VK} {E : XK} (h : H a = some (.tup [.int s.1, .int s.2])) (ok : SzOk s) (q : Q (.bl true) H) : spIsSz ([.ref a] ++ []) H Q E := ⟨a, s, rfl, h, ok, q⟩
def spCkSz : Sp := fun vs H Q _ => ∃ (a : Addr) (us : List V) (ss : List Sz), vs = [.ref a] ∧ LT H a us ∧ SzsAt H us ss ∧ (∀ s ∈ ss, SzOk s) ∧ ∀ H', Same H H' → Q .non H'
theorem use_cksz {a : Addr} {us : List V} {ss : List Sz} {H : Hp} {Q : VK} {E : XK} (h1 : LT H a us) (h2 : SzsAt H us ss) (h3 : ∀ s ∈ ss, SzOk s) (q : ∀ H', Same H H' → Q .non H') : spCkSz ([.ref a] ++ []) H Q E := ⟨a, us, ss, rfl, h1, h2, h3, q⟩
def spSizes : Sp := fun vs H Q _ => ∃ (p : Addr) (r : Int), vs = [.ref p, .int r] ∧ Pool H p ∧ 0 ≤ r ∧ r ≤ 1000000000 ∧ ∀ D us ss H', H D = none → H' D = some (.lst us) → SzsAt H' us ss → (∀ s ∈ ss, SzOk s) → us.length ≤ 30 → Pool H' p → Kp p H H' → Q (.ref D) H'
theorem use_sizes {p : Addr} {r : Int} {H : Hp} {Q : VK} {E : XK} (h1 : Pool H p) (h4 : 0 ≤ r) (h5 : r ≤ 1000000000) (q : ∀ D us ss H', H D = none → H' D = some (.lst us) → SzsAt H' us ss → (∀ s ∈ ss, SzOk s) → us.length ≤ 30 → Pool H' p → Kp p H H' → Q (.ref D) H') : spSizes ([.ref p, .int r] ++ []) H Q E := ⟨p, r, rfl, h1, h4, h5, q⟩
end Z
namespace Z
open PySem PySem.Spec PyProof.Rows L2
abbrev PdR := List Int ⊕ (Int × Int)
def pos (x : Int) : Int := if x > 0 then x else 0
theorem pos_mx (x : Int) : (if 0 > x then 0 else x) = pos x := by unfold pos; split <;> split <;> omega
def pcat (us : List Int) : PdR → PdR
  | .inl vs => .inl (us ++ vs)
  | .inr p => .inr p
def uS (r st : Int) (s : Sz) (t : List Sz) (sent due : Int) : Int := if t.isEmpty then 0 else pos (due + r * s.2 - st - sent - s.1)
def pdS (r st : Int) : List Sz → Int → Int → Int → Int → PdR
  | [], _, _, _, _ => .inl []
  | s :: t, first, k, sent, due =>
    if sent + (s.1 + uS r st s t sent due) > due then .inr (first, k)
    else pcat [uS r st s t sent due] (pdS r st t (if uS r st s t sent due > 0 then k + 1 else first) (k + 1) (sent + (s.1 + uS r st s t sent due)) (due + r * s.2))
theorem pdS_cons (r st : Int) (s : Sz) (t : List Sz) (first k sent due : Int) : pdS r st (s :: t) first k sent due = if sent + (s.1 + uS r st s t sent due) > due then .inr (first, k)
    else pcat [uS r st s t sent due] (pdS r st t (if uS r st s t sent due > 0 then k + 1 else first) (k + 1) (sent + (s.1 + uS r st s t sent due)) (due + r * s.2)) := rfl
def pdF (r st : Int) (ss : List Sz) (d : Int) : PdR := pdS r st ss 0 0 0 d
theorem pcat_nil (x : PdR) : pcat [] x = x := by cases x <;> rfl
theorem pcat_snoc (us : List Int) (u : Int) (x : PdR) : pcat (us ++ [u]) x = pcat us (pcat [u] x) := by
  cases x with
  | inl vs => show Sum.inl _ = Sum.inl _; rw [List.append_assoc]
  | inr p => rfl
def PdAt (H : Hp) (v : V) : PdR → Prop
  | .inl us => ∃ D, v = .ref D ∧ H D = some (.lst (us.map V.int))
  | .inr p => ∃ D, v = .ref D ∧ H D = some (.tup [.int p.1, .int p.2])
theorem PdAt.same {H H' : Hp} {v : V} (s : Same H H') : ∀ {x : PdR}, PdAt H v x → PdAt H' v x
  | .inl _, ⟨D, e, h⟩ => ⟨D, e, s _ _ h⟩
  | .inr _, ⟨D, e, h⟩ => ⟨D, e, s _ _ h⟩
theorem PdAt.kp {p : Addr} {H H' : Hp} {v : V} (k : Kp p H H') (n : v ≠ .ref p) : ∀ {x : PdR}, PdAt H v x → PdAt H' v x
  | .inl _, ⟨D, e, h⟩ => ⟨D, e, k _ _ (fun z => n (by rw [e, z])) h⟩
  | .inr _, ⟨D, e, h⟩ => ⟨D, e, k _ _ (fun z => n (by rw [e, z])) h⟩
theorem pool_at {p T : Addr} {H : Hp} {o : HO} (n : T ≠ p) (h : Pool H p) : Pool (upd H T o) p := by
  obtain ⟨x', y', hpl', r'⟩ := h
  exact ⟨x', y', by rw [upd_ne n.symm]; exact hpl', r'⟩
def spPad : Sp := fun vs H Q _ => ∃ (a : Addr) (us : List V) (ss : List Sz) (r d st : Int), vs = [.ref a, .int r, .int d, .int st] ∧ LT H a us ∧ SzsAt H us ss ∧ (∀ s ∈ ss, SzOk s) ∧ ss.length ≤ 100 ∧ (0 ≤ r ∧ r ≤ 1000000000) ∧ (0 ≤ d ∧ d ≤ 1000000000) ∧ (0 ≤ st ∧ st ≤ 1000000000) ∧ ∀ v H', Same H H' → (∀ D, v = .ref D → H D = none) → PdAt H' v (pdF r st ss d) → Q v H'
theorem use_pad {a : Addr} {us : List V} {ss : List Sz} {r d st : Int} {H : Hp} {Q : VK} {E : XK} (h1 : LT H a us) (h2 : SzsAt H us ss) (h3 : ∀ s ∈ ss, SzOk s) (hl : ss.length ≤ 100) (h4 : 0 ≤ r ∧ r ≤ 1000000000) (h5 : 0 ≤ d ∧ d ≤ 1000000000) (h6 : 0 ≤ st ∧ st ≤ 1000000000) (q : ∀ v H', Same H H' → (∀ D, v = .ref D → H D = none) → PdAt H' v (pdF r st ss d) → Q v H') : spPad ([.ref a, .int r, .int d, .int st] ++ []) H Q E := ⟨a, us, ss, r, d, st, rfl, h1, h2, h3, hl, h4, h5, h6, q⟩
theorem uS_pos (r st : Int) (s : Sz) (t : List Sz) (sent due : Int) : pos (if t.isEmpty then 0 else due + r * s.2 - st - sent - s.1) = uS r st s t sent due := by
  unfold uS
  cases t.isEmpty <;> rfl
theorem at_end {xs : List V} {v : V} {k : Nat} (hl : xs.length = k + 1) (h : xs[k]? = some v) : atI xs (-1) = some v := by
  have e : ixN xs.length (-1) = some k := by
    rw [hl]
    unfold ixN
    rw [if_neg (by decide), if_pos (by omega)]
    exact congrArg some (by omega)
  unfold atI
  rw [e]
  exact h
theorem drop_more {α : Type} {l : List α} {i : Nat} (h : i + 1 < l.length) : (l.drop (i + 1)).isEmpty = false := by
  cases e : l.drop (i + 1) with
  | nil => have := congrArg List.length e; simp at this; omega
  | cons _ _ => rfl
theorem drop_last {α : Type} {l : List α} {i : Nat} (h : l.length ≤ i + 1) : (l.drop (i + 1)).isEmpty = true := by
  rw [List.drop_eq_nil_of_le h]
  rfl
end Z
namespace Z
open PySem PySem.Spec PyProof.Rows L2
def hoS (r st : Int) : Bool → List Sz → List Int → Int → Int → Bool
  | _, [], _, _, _ => true
  | _, _ :: _, [], _, _ => false
  | b, s :: t, w :: ws, a, v => if b = true ∧ v - a > st then false else if a + s.1 + w > v then false else hoS r st true t ws (a + s.1 + w) (v + r * s.2)
theorem hoS_cons (r st : Int) (b : Bool) (s : Sz) (t : List Sz) (w : Int) (ws : List Int) (a v : Int) : hoS r st b (s :: t) (w :: ws) a v = if b = true ∧ v - a > st then false else if a + s.1 + w > v then false else hoS r st true t ws (a + s.1 + w) (v + r * s.2) := rfl
def leS : List Int → List Int → Int → Int → Bool
  | u :: us, v :: vs, a, b => if a + u > b + v then false else leS us vs (a + u) (b + v)
  | _, _, _, _ => true
theorem leS_cons (u v : Int) (us vs : List Int) (a b : Int) : leS (u :: us) (v :: vs) a b = if a + u > b + v then false else leS us vs (a + u) (b + v) := rfl
theorem pos_nn (x : Int) : 0 ≤ pos x ∧ x ≤ pos x ∧ (pos x = 0 ∨ pos x = x) := by unfold pos; split <;> omega
theorem uS_nn (r st : Int) (s : Sz) (t : List Sz) (sent due : Int) : 0 ≤ uS r st s t sent due := by
  unfold uS
  split
  · exact Int.le_refl 0
  · exact (pos_nn _).1
theorem pcat_inl {u : Int} {x : PdR} {us : List Int} (h : pcat [u] x = .inl us) : ∃ vs, x = .inl vs ∧ us = u :: vs := by
  cases x with
  | inl vs => cases h; exact ⟨vs, rfl, rfl⟩
  | inr p => cases h
theorem pd_holds (r st : Int) : ∀ (ss : List Sz) (first k sent due : Int) (us : List Int) (b : Bool), pdS r st ss first k sent due = .inl us → (b = true → ss ≠ [] → due - sent ≤ st) → us.length = ss.length ∧ (∀ u ∈ us, 0 ≤ u) ∧ hoS r st b ss us sent due = true
  | [], _, _, _, _, us, _, h, _ => by
    cases h
    exact ⟨rfl, fun u hu => (List.not_mem_nil hu).elim, rfl⟩
  | s :: t, first, k, sent, due, us, b, h, hb => by
    rw [pdS_cons] at h
    by_cases c : sent + (s.1 + uS r st s t sent due) > due
    · rw [if_pos c] at h; cases h
    · rw [if_neg c] at h
      obtain ⟨vs, h2, rfl⟩ := pcat_inl h
      obtain ⟨i1, i2, i3⟩ := pd_holds r st t _ _ _ _ vs true h2 (fun _ ht => by
        have e : t.isEmpty = false := by cases t with | nil => exact (ht rfl).elim | cons _ _ => rfl
        unfold uS
        rw [e]
        have := (pos_nn (due + r * s.2 - st - sent - s.1)).2.1
        simp only [Bool.false_eq_true, if_false]
        omega)
      refine ⟨congrArg (· + 1) i1, fun u hu => ?_, ?_⟩
      · rcases List.mem_cons.mp hu with rfl | hu
        · exact uS_nn ..
        · exact i2 u hu
      · rw [hoS_cons, if_neg (fun z => by have := hb z.1 (by simp); omega), if_neg (by omega)]
        rw [show sent + s.1 + uS r st s t sent due = sent + (s.1 + uS r st s t sent due) by omega]
        exact i3
theorem hoS_next {r st : Int} {t : List Sz} {ws : List Int} {a v : Int} (h : hoS r st true t ws a v = true) (ht : t ≠ []) : v - a ≤ st := by
  cases t with
  | nil => exact (ht rfl).elim
  | cons s t =>
    cases ws with
    | nil => cases h
    | cons w ws =>
      rw [hoS_cons] at h
      by_cases c : true = true ∧ v - a > st
      · rw [if_pos c] at h; cases h
      · by_cases c2 : v - a > st
        · exact (c ⟨rfl, c2⟩).elim
        · omega
theorem pd_least (r st : Int) : ∀ (ss : List Sz) (first k sent sent2 due : Int) (vs : List Int) (b : Bool) (one two : Int), vs.length = ss.length → (∀ v ∈ vs, 0 ≤ v) → sent ≤ sent2 → one - two = sent - sent2 → hoS r st b ss vs sent2 due = true → ∃ us, pdS r st ss first k sent due = .inl us ∧ leS us vs one two = true
  | [], _, _, _, _, _, vs, _, _, _, hl, _, _, _, _ => ⟨[], rfl, by unfold leS; rfl⟩
  | s :: t, first, k, sent, sent2, due, [], _, _, _, hl, _, _, _, _ => by simp at hl
  | s :: t, first, k, sent, sent2, due, v :: vs, b, one, two, hl, hn, hle, ho, h => by
    rw [hoS_cons] at h
    by_cases c1 : b = true ∧ due - sent2 > st
    · rw [if_pos c1] at h; cases h
    rw [if_neg c1] at h
    by_cases c2 : sent2 + s.1 + v > due
    · rw [if_pos c2] at h; cases h
    rw [if_neg c2] at h
    have v0 := hn v List.mem_cons_self
    have hle2 : sent + (s.1 + uS r st s t sent due) ≤ sent2 + s.1 + v := by
      unfold uS
      by_cases e : t.isEmpty = true
      · rw [if_pos e]; omega
      · rw [if_neg e]
        have := hoS_next h (fun z => e (by rw [z]; rfl))
        rcases (pos_nn (due + r * s.2 - st - sent - s.1)).2.2 with z | z <;> rw [z] <;> omega
    obtain ⟨us, i1, i2⟩ := pd_least r st t (if uS r st s t sent due > 0 then k + 1 else first) (k + 1) (sent + (s.1 + uS r st s t sent due)) (sent2 + s.1 + v) (due + r * s.2) vs true (one + uS r st s t sent due) (two + v) (by simpa using hl) (fun z hz => hn z (List.mem_cons_of_mem _ hz)) hle2 (by omega) h
    refine ⟨uS r st s t sent due :: us, ?_, ?_⟩
    · rw [pdS_cons, if_neg (by omega), i1]
      rfl
    · rw [leS_cons, if_neg (by omega)]
      exact i2
theorem lc_mapV {K : PySem.W.Frag} {σ : L2.St} {Q : VK} {vs : List Nat} {k : Nat} {a D : Addr} {xs : List V} {H1 : Hp} {te : TE} (f : V → V) (hS : SqL K H1 a xs) (hn : xs.length ≤ 1000) (hw : ∀ v, wipe ((wipe σ vs).set k (some v)) vs = wipe σ vs) (hD : H1 D = none)
    (turn : ∀ z ∈ xs, ∀ (H : Hp) (Q' : VK), Same H1 H → Q' (f z) H → te ((wipe σ vs).set k (some z)) H Q')
    (q : ∀ H', Same H1 H' → H' D = some (.lst (xs.map f)) → Q (.ref D) H') : LcW (Itl K a) (gName k) tYes te vs Q σ H1 D := by
  refine lc_list (xs := xs) (Pv := fun j H => Same H1 H ∧ H D = some (.lst ((xs.map f).take j))) ⟨same_new hD, upd_same⟩ (fun j H _ hI => hI.1.seq hS) (fun j v H hv hI => ?_) (fun H hI => ?_)
  · obtain ⟨hs, hd⟩ := hI
    have hj := (List.getElem?_eq_some_iff.mp hv).1
    refine ⟨hw _, rd_yes ?_⟩
    refine turn v (List.mem_of_getElem? hv) H _ hs ⟨_, hd, small1000 (by rw [List.length_take, List.length_map]; omega), ?_, ?_⟩
    · exact fun b o e => by rw [upd_ne (ne_of_none e hD)]; exact hs _ _ e
    · have hz2 : (xs.map f)[j]? = some (f v) := by rw [List.getElem?_map, hv]; rfl
      rw [upd_same, List.take_add_one, hz2]
      rfl
  · obtain ⟨hs, hd⟩ := hI
    rw [List.take_of_length_le (by rw [List.length_map]; exact Nat.le_refl _)] at hd
    exact q H hs hd
theorem lc_noneV {K : PySem.W.Frag} {σ : L2.St} {Q : VK} {vs : List Nat} {k : Nat} {a D : Addr} {xs : List V} {H1 : Hp} {te : TE} {tt : TT} (hS : SqL K H1 a xs) (hw : ∀ v, wipe ((wipe σ vs).set k (some v)) vs = wipe σ vs) (hD : H1 D = none)
    (turn : ∀ z ∈ xs, ∀ (H : Hp) (q : Bool → Hp → Prop), Same H1 H → q false H → tt ((wipe σ vs).set k (some z)) H q)
    (q : ∀ H', Same H1 H' → H' D = some (.lst []) → Q (.ref D) H') : LcW (Itl K a) (gName k) tt te vs Q σ H1 D := by
  refine lc_list (xs := xs) (Pv := fun j H => Same H1 H ∧ H D = some (.lst [])) ⟨same_new hD, upd_same⟩ (fun j H _ hI => hI.1.seq hS) (fun j v H hv hI => ?_) (fun H hI => ?_)
  · obtain ⟨hs, hd⟩ := hI
    refine ⟨hw _, ?_⟩
    exact turn v (List.mem_of_getElem? hv) H _ hs ⟨hs, hd⟩
  · obtain ⟨hs, hd⟩ := hI
    exact q H hs hd
def spHolds : Sp := fun vs H Q _ => ∃ (a e : Addr) (us : List V) (ss : List Sz) (ws : List Int) (r d st : Int), vs = [.ref a, .ref e, .int r, .int d, .int st] ∧ H a = some (.lst us) ∧ SzsAt H us ss ∧ H e = some (.lst (ws.map V.int)) ∧ ws.length = ss.length ∧ (0 ≤ r ∧ r ≤ 1000000000) ∧ ∀ H', Same H H' → Q (.bl (hoS r st false ss ws 0 d)) H'
theorem use_holds {a e : Addr} {us : List V} {ss : List Sz} {ws : List Int} {r d st : Int} {H : Hp} {Q : VK} {E : XK} (h1 : H a = some (.lst us)) (h2 : SzsAt H us ss) (h3 : H e = some (.lst (ws.map V.int))) (hl : ws.length = ss.length) (h4 : 0 ≤ r ∧ r ≤ 1000000000) (q : ∀ H', Same H H' → Q (.bl (hoS r st false ss ws 0 d)) H') : spHolds ([.ref a, .ref e, .int r, .int d, .int st] ++ []) H Q E := ⟨a, e, us, ss, ws, r, d, st, rfl, h1, h2, h3, hl, h4, q⟩
def spUnits : Sp := fun vs H Q _ => ∃ (p a : Addr) (us : List V) (ss : List Sz) (r d st : Int), vs = [.ref p, .ref a, .int r, .int d, .int st] ∧ Pool H p ∧ H a = some (.lst us) ∧ SzsAt H us ss ∧ ss.length ≤ 100 ∧ (0 ≤ r ∧ r ≤ 1000000000) ∧ ∀ (E : Addr) (ws : List Int) (H' : Hp), H E = none → H' E = some (.lst (ws.map V.int)) → ws.length = ss.length → (∀ w ∈ ws, 0 ≤ w) → Pool H' p → Kp p H H' → Q (.ref E) H'
theorem use_units {p a : Addr} {us : List V} {ss : List Sz} {r d st : Int} {H : Hp} {Q : VK} {E : XK} (h0 : Pool H p) (h1 : H a = some (.lst us)) (h2 : SzsAt H us ss) (hl : ss.length ≤ 100) (h4 : 0 ≤ r ∧ r ≤ 1000000000) (q : ∀ (E : Addr) (ws : List Int) (H' : Hp), H E = none → H' E = some (.lst (ws.map V.int)) → ws.length = ss.length → (∀ w ∈ ws, 0 ≤ w) → Pool H' p → Kp p H H' → Q (.ref E) H') : spUnits ([.ref p, .ref a, .int r, .int d, .int st] ++ []) H Q E := ⟨p, a, us, ss, r, d, st, rfl, h0, h1, h2, hl, h4, q⟩
def spLeS : Sp := fun vs H Q _ => ∃ (a e g : Addr) (us : List V) (ws zs : List Int), vs = [.ref a, .ref e, .ref g] ∧ H a = some (.lst us) ∧ H e = some (.lst (ws.map V.int)) ∧ H g = some (.lst (zs.map V.int)) ∧ ws.length = us.length ∧ zs.length = us.length ∧ us.length ≤ 100 ∧ ∀ H', Same H H' → Q (.bl (leS ws zs 0 0)) H'
theorem use_leS {a e g : Addr} {us : List V} {ws zs : List Int} {H : Hp} {Q : VK} {E : XK} (h1 : H a = some (.lst us)) (h2 : H e = some (.lst (ws.map V.int))) (h3 : H g = some (.lst (zs.map V.int))) (l1 : ws.length = us.length) (l2 : zs.length = us.length) (l3 : us.length ≤ 100) (q : ∀ H', Same H H' → Q (.bl (leS ws zs 0 0)) H') : spLeS ([.ref a, .ref e, .ref g] ++ []) H Q E := ⟨a, e, g, us, ws, zs, rfl, h1, h2, h3, l1, l2, l3, q⟩
theorem at_dropI {ns : List Int} {j : Nat} {z : Int} (e : z = (j : Int)) (h : j < ns.length) : ∃ x, atI (ns.map V.int) z = some (.int x) ∧ ns.drop j = x :: ns.drop (j + 1) := by
  refine ⟨ns[j], ?_, ?_⟩
  · subst e
    exact atI_nat (by rw [List.getElem?_map, List.getElem?_eq_getElem h]; rfl)
  · exact (List.getElem_cons_drop (h := h)).symm
end Z
namespace Z
open PySem PySem.Spec PyProof.Rows L2
def topS (i : Nat) : Stmt := PySem.Challenge.pw_framejoins_k79_whole_padding_is_least.main.body.getD i (.Pass ⟨0, 0, 0, 0⟩)
local macro_rules | `(tactic| walk_at "hg") => `(tactic| first
  | assumption
  | (with_reducible exact upd_same)
  | ((with_reducible refine' look_new ?k1 ?k2); (case k1 => assumption); (case k2 => walk_at "hg"))
  | ((with_reducible refine' look_same ?k1 ?k2); (case k1 => assumption); (case k2 => walk_at "hg"))
  | ((with_reducible refine' look_kp ?k1 ?k2 ?k3); (case k1 => assumption); (case k2 => walk_at "ne"); (case k3 => walk_at "hg"))
  | ((with_reducible refine' look_upd ?k1 ?k2); (case k1 => assumption); (case k2 => walk_at "hg"))
  | fail)
local macro_rules | `(tactic| walk_at "ne") => `(tactic| first
  | assumption
  | ((with_reducible refine' Pool.ne' ?k1 ?k2); (case k1 => assumption); (case k2 => walk_at "pl"))
  | fail)
local macro_rules | `(tactic| walk_at "r1") => `(tactic| first
  | (with_reducible refine rd_seq ?_) | (with_reducible refine rd_asg ?_) | (with_reducible refine rd_gname ?_) | (with_reducible refine rd_ret ?_) | (with_reducible refine rd_ifs ?_)
  | ((with_reducible refine' rd_var ?k1 ?_); (case k1 => exact rfl))
  | ((with_reducible refine' rd_ixL ?k1 ?k2 ?_); (case k1 => walk_at "sq"); (case k2 => walk_at "at"))
  | ((with_reducible refine' rd_ixT ?k1 ?k2 ?_); (case k1 => walk_at "sqt"); (case k2 => walk_at "at"))
  | ((with_reducible refine' rd_setL ?k1 ?k2 ?_); (case k1 => walk_at "hg"); (case k2 => walk_at "ixn"))
  | ((with_reducible refine' rd_lenL ?k1 ?_); (case k1 => walk_at "sq"))
  | ((with_reducible refine' rd_listL ?k1 fun _ _ => ?_); (case k1 => walk_at "sq"))
  | ((with_reducible refine' rd_lenT ?k1 ?_); (case k1 => walk_at "sqt"))
  | ((with_reducible refine' rd_gtup ?k1 ?k2 ?_); (case k1 => walk_at "sqt"); (case k2 => exact rfl))
  | (with_reducible refine rd_gcons ?_) | (with_reducible refine rd_gnil ?_) | (with_reducible refine rd_forT ?_) | (with_reducible refine rd_forL ?_) | (with_reducible refine rd_for2 ?_)
  | ((with_reducible refine' rd_neT2 ?k1 ?k2 ?k3 ?k4 ?_); (case k1 => walk_at "sqt"); (case k2 => walk_at "sqt"); (case k3 => walk_at "f1"); (case k4 => walk_at "f2"))
  | ((with_reducible refine rd_n1 ?k1 ?k2 ?_); (case k1 => omega); (case k2 => omega))
  | ((with_reducible refine rd_n2 ?k1 ?_); (case k1 => exact ⟨by omega, by omega, by omega, by omega⟩))
  | (with_reducible refine rd_lcD fun _ _ => ?_)
  | ((with_reducible refine' lc_numbers ?k1 ?k2 ?k3 ?k4 ?k5 fun _ _ _ _ _ _ _ => ?_); (case k1 => exact fun _ => rfl); (case k2 => exact fun _ => rfl); (case k3 => walk_at "pl"); (case k4 => assumption); (case k5 => walk_at "sd"))
  | (with_reducible refine rd_for3 ?_) | (with_reducible refine rd_bm ?_)
  | ((with_reducible refine rd_n3 ?k1 ?_); (case k1 => walk_at "sd"))
  | ((with_reducible refine' rd_tyL ?k1 ?_); (case k1 => walk_at "hg"))
  | ((with_reducible refine' rd_catL ?k1 ?k2 ?k3 fun _ _ => ?_); (case k1 => walk_at "hg"); (case k2 => walk_at "hg"); (case k3 => walk_at "sd"))
  | ((with_reducible refine' rd_appI ?k1 ?k2 ?_); (case k1 => walk_at "hg"); (case k2 => walk_at "sd"))
  | ((with_reducible refine' use_once ?k1 ?k2 fun _ _ _ _ _ _ _ _ _ => ?_); (case k1 => walk_at "sq"); (case k2 => walk_at "sd"))
  | ((with_reducible refine' use_split ?k1 ?k2 ?k3 ?k4 ?k5 fun _ _ _ _ _ => ?_); (case k1 => walk_at "hg"); (case k2 => walk_at "sd"); (case k3 => walk_at "sd"); (case k4 => walk_at "sd"); (case k5 => walk_at "sd"))
  | ((with_reducible refine' use_splitK ?k1 ?k2 ?k3 ?k4 ?k5 fun _ _ _ _ _ => ?_); (case k1 => walk_at "hg"); (case k2 => walk_at "sd"); (case k3 => walk_at "sd"); (case k4 => walk_at "sd"); (case k5 => walk_at "sd"))
  | (with_reducible refine rd_sl ?_) | (with_reducible refine rd_part ?_) | (with_reducible refine rd_nopart ?_) | (with_reducible refine rd_oneI ?_)
  | (with_reducible refine rd_lcL ?_)
  | (with_reducible refine rd_forV ?_)
  | ((with_reducible refine rd_nV ?k1 ?k2 ?_); (case k1 => omega); (case k2 => omega))
  | ((with_reducible refine' use_join1 ?k1 ?k2 ?k3 ?k4 fun _ _ _ _ _ => ?_); (case k1 => walk_at "hg"); (case k2 => walk_at "hg"); (case k3 => walk_at "sd"); (case k4 => walk_at "sd"))
  | ((with_reducible refine' use_join ?k1 ?k2 ?k3 ?k4 ?k5 fun _ _ _ _ _ => ?_); (case k1 => walk_at "hg"); (case k2 => walk_at "sd"); (case k3 => walk_at "sd"); (case k4 => walk_at "sd"); (case k5 => walk_at "sd"))
  | ((with_reducible refine' use_joinK ?k1 ?k2 ?k3 ?k4 ?k5 fun _ _ _ _ _ => ?_); (case k1 => walk_at "hg"); (case k2 => walk_at "sd"); (case k3 => walk_at "sd"); (case k4 => walk_at "sd"); (case k5 => walk_at "sd"))
  | ((with_reducible refine' use_ints ?k1 ?k2 ?_); (case k1 => walk_at "hg"); (case k2 => walk_at "sd"))
  | (with_reducible refine rd_isN ?_) | (with_reducible refine rd_lc1 ?_) | (with_reducible refine rd_forE ?_) | (with_reducible refine rd_forZ ?_)
  | ((with_reducible refine' rd_neL ?k1 ?k2 ?_); (case k1 => walk_at "sq"); (case k2 => walk_at "sq"))
  | ((with_reducible refine' rd_eqL ?k1 ?k2 ?_); (case k1 => walk_at "sq"); (case k2 => walk_at "sq"))
  | ((with_reducible refine' rd_neN ?k1 ?k2 ?_); (case k1 => walk_at "sq"); (case k2 => walk_at "sq"))
  | (with_reducible refine rd_c ?_) | (with_reducible refine rd_op ?_) | (with_reducible refine rd_un ?_) | (with_reducible refine rd_i0 ?_)
  | ((with_reducible refine rd_i ?k1 ?_); (case k1 => walk_at "side"))
  | (with_reducible refine rd_u ?_)
  | (with_reducible refine rd_eq rfl ?_) | (with_reducible refine rd_ne rfl ?_) | (with_reducible refine rd_test ?_) | (with_reducible refine rd_b ?_) | (with_reducible refine rd_bl ?_)
  | (with_reducible refine rd_not ?_) | (with_reducible refine rd_and ?_) | (with_reducible refine rd_or ?_) | (with_reducible refine rd_andV ?_) | (with_reducible refine rd_orV ?_) | (with_reducible refine rd_notV ?_)
  | (with_reducible refine rd_if ?_) | (with_reducible refine rd_chain ?_) | (with_reducible refine rd_call ?_) | (with_reducible refine rd_callK ?_) | (with_reducible refine rd_cb ?_)
  | (with_reducible refine rd_cons ?_) | (with_reducible refine rd_nil ?_) | (with_reducible refine rd_next ?_) | (with_reducible refine rd_drop ?_) | (with_reducible refine rd_gsub ?_)
  | (with_reducible refine rd_int ?_) | (with_reducible refine rd_intb ?_) | (with_reducible refine rd_abs ?_) | (with_reducible refine rd_max ?_) | (with_reducible refine rd_min ?_)
  | (with_reducible refine rd_par ?_) | (with_reducible refine rd_par3 ?_) | (with_reducible refine rd_two ?_) | (with_reducible refine rd_three ?_)
  | (with_reducible refine rd_retn ?_) | (with_reducible refine rd_tup ?_) | (with_reducible refine rd_lst ?_) | (with_reducible refine rd_for1 ?_) | (with_reducible refine rd_one ?_)
  | ((with_reducible refine rd_all ?k1 fun _ _ => ?_); (case k1 => exact Nat.le_of_ble_eq_true rfl))
  | ((with_reducible refine use_take ?k1 ?k2 ?k3 fun _ _ _ _ _ _ => ?_); (case k1 => walk_at "pl"); (case k2 => walk_at "sd"); (case k3 => walk_at "sd"))
  | ((with_reducible refine use_number ?k1 fun _ _ _ _ _ => ?_); (case k1 => walk_at "pl"))
  | ((with_reducible refine' use_pool ?k1 ?k2 ?k3 ?k4 fun _ _ _ _ _ => ?_); (case k1 => walk_at "sq"); (case k2 => assumption); (case k3 => walk_at "sd"); (case k4 => walk_at "sd"))
  | ((with_reducible refine use_ckp ?k1 ?k2 ?_); (case k1 => walk_at "sd"); (case k2 => walk_at "sd"))
  | ((with_reducible refine use_pair ?k1 ?k2 fun _ _ => ?_); (case k1 => walk_at "sd"); (case k2 => walk_at "sd"))
  | ((with_reducible refine use_lfold ?k1 ?k2 fun _ _ _ _ => ?_); (case k1 => walk_at "sd"); (case k2 => walk_at "sd"))
  | ((with_reducible refine' use_ispair ?k1 ?_); (case k1 => walk_at "hg"))
  | ((with_reducible refine' use_items ?k1 fun _ _ => ?_); (case k1 => walk_at "sq"))
  | ((with_reducible refine' use_block ?k1 ?k2 ?k3 fun _ _ => ?_); (case k1 => walk_at "hg"); (case k2 => walk_at "sd"); (case k3 => walk_at "sd"))
  | ((with_reducible refine' use_mark ?k1 ?k2 fun _ _ => ?_); (case k1 => walk_at "hg"); (case k2 => walk_at "sd"))
  | (with_reducible refine use_code ?_)
  | ((with_reducible refine' use_same ?k1 fun _ _ => ?_); (case k1 => walk_at "smv"))
  | ((with_reducible refine use_quant ?k1 ?k2 ?_); (case k1 => walk_at "sd"); (case k2 => walk_at "sd"))
  | ((with_reducible refine use_quantK ?k1 ?k2 ?_); (case k1 => walk_at "sd"); (case k2 => walk_at "sd"))
  | (with_reducible refine use_isi_int ?_) | (with_reducible refine use_within_int ?_) | (with_reducible refine use_cki ?_)
  | ((with_reducible refine use_ckw ?k1 ?k2 ?_); (case k1 => walk_at "sd"); (case k2 => walk_at "sd"))
  | (with_reducible refine iteT ?_) | (with_reducible refine iteF ?_)
  | (with_reducible refine iteNT ?_) | (with_reducible refine iteNF ?_)
  | (walk_at "isi")
  | fail)
local macro_rules | `(tactic| walk_at "isi") => `(tactic| first
  | (with_reducible refine isi_int_int ?_)
  | (with_reducible refine isi_int_bool ?_)
  | (with_reducible refine isi_int_str ?_)
  | (with_reducible refine isi_int_list ?_)
  | (with_reducible refine isi_int_tuple ?_)
  | (with_reducible refine isi_bl_int ?_)
  | (with_reducible refine isi_bl_bool ?_)
  | (with_reducible refine isi_bl_str ?_)
  | (with_reducible refine isi_bl_list ?_)
  | (with_reducible refine isi_bl_tuple ?_)
  | (with_reducible refine isi_non_int ?_)
  | (with_reducible refine isi_non_bool ?_)
  | (with_reducible refine isi_non_str ?_)
  | (with_reducible refine isi_non_list ?_)
  | (with_reducible refine isi_non_tuple ?_)
  | (with_reducible refine isi_str_int ?_)
  | (with_reducible refine isi_str_bool ?_)
  | (with_reducible refine isi_str_str ?_)
  | (with_reducible refine isi_str_list ?_)
  | (with_reducible refine isi_str_tuple ?_)
  | ((with_reducible refine' isi_lst_int ?k1 ?_); (case k1 => walk_at "hg"))
  | ((with_reducible refine' isi_lst_bool ?k1 ?_); (case k1 => walk_at "hg"))
  | ((with_reducible refine' isi_lst_str ?k1 ?_); (case k1 => walk_at "hg"))
  | ((with_reducible refine' isi_lst_list ?k1 ?_); (case k1 => walk_at "hg"))
  | ((with_reducible refine' isi_lst_tuple ?k1 ?_); (case k1 => walk_at "hg"))
  | ((with_reducible refine' isi_tup_int ?k1 ?_); (case k1 => walk_at "hg"))
  | ((with_reducible refine' isi_tup_bool ?k1 ?_); (case k1 => walk_at "hg"))
  | ((with_reducible refine' isi_tup_str ?k1 ?_); (case k1 => walk_at "hg"))
  | ((with_reducible refine' isi_tup_list ?k1 ?_); (case k1 => walk_at "hg"))
  | ((with_reducible refine' isi_tup_tuple ?k1 ?_); (case k1 => walk_at "hg"))
  | fail)
local macro_rules | `(tactic| walk_at "side") => `(tactic| first
  | (show (0 : Int) < _; omega)
  | exact ⟨by omega, by omega⟩
  | exact .inl ⟨by omega, by omega⟩
  | exact .inr ⟨by omega, by omega⟩
  | exact .inr ⟨by decide, by decide⟩
  | exact ⟨by decide, by decide, by decide⟩
  | decide
  | fail)
local macro_rules | `(tactic| walk_at "rd") => `(tactic| (repeat walk_at "r1"))
local macro_rules | `(tactic| walk_at "sq") => `(tactic| first
  | assumption
  | ((with_reducible refine' SqL.of ?k1); (case k1 => walk_at "hg"))
  | ((with_reducible refine' sqL_new ?k1 ?k2); (case k1 => assumption); (case k2 => walk_at "sq"))
  | ((with_reducible refine' sqL_same ?k1 ?k2); (case k1 => assumption); (case k2 => walk_at "sq"))
  | fail)
local macro_rules | `(tactic| walk_at "sqt") => `(tactic| first
  | assumption
  | exact by_all (by assumption)
  | ((with_reducible refine' SqT.of ?k1); (case k1 => walk_at "hg"))
  | fail)
local macro_rules | `(tactic| walk_at "at") => `(tactic| first | assumption | exact atI_nat (j := 0) rfl | exact atI_nat (j := 1) rfl | exact atI_nat (j := 2) rfl | exact atI_nat (j := 3) rfl | fail)
local macro_rules | `(tactic| walk_at "ixn") => `(tactic| first | assumption | rfl | fail)
local macro_rules | `(tactic| walk_at "sd") => `(tactic| first | omega | decide +kernel | fail)
local macro_rules | `(tactic| walk_at "pl") => `(tactic| first
  | assumption
  | ((with_reducible refine' Pool.new' ?k1 ?k2); (case k1 => assumption); (case k2 => walk_at "pl"))
  | ((with_reducible refine' Pool.same' ?k1 ?k2); (case k1 => assumption); (case k2 => walk_at "pl"))
  | fail)
local macro_rules | `(tactic| walk_at "allm") => `(tactic| ((repeat (refine List.forall_mem_cons.mpr ⟨⟨_, rfl, by first | decide | omega, by first | decide | omega⟩, ?_⟩)); exact List.forall_mem_nil _))
local macro_rules | `(tactic| walk_at "kp") => `(tactic| first
  | assumption
  | exact Kp.refl
  | ((with_reducible refine' Kp.trans ?k1 (Kp.new ?k2)); (case k2 => assumption); walk_at "kp")
  | (refine' Kp.trans ?k1 ?k2; (case k2 => assumption); walk_at "kp")
  | (refine' Kp.trans ?k1 (Kp.of ?k2); (case k2 => assumption); walk_at "kp")
  | ((with_reducible refine' Kp.trans ?k1 Kp.at); walk_at "kp")
  | fail)
local macro_rules | `(tactic| walk_at "ct") => `(tactic| (refine' close_turn ?k1 ?k2 ?k3 ?k4; (case k1 => assumption); (case k2 => assumption); (case k3 => assumption); (case k4 => walk_at "kp")))
local macro_rules | `(tactic| walk_at "sm") => `(tactic| first
  | (with_reducible assumption)
  | (with_reducible exact Same.refl _)
  | ((with_reducible refine' Same.trans ?k1 (same_new ?k2)); (case k2 => assumption); walk_at "sm")
  | ((with_reducible refine' Same.trans ?k1 ?k2); (case k2 => (with_reducible assumption)); walk_at "sm")
  | fail)
local macro_rules | `(tactic| walk_at "f1") => `(tactic| first | rfl | exact congrArg Prod.fst (fold_unfold _ _ _) | exact congrArg Prod.fst (unfold_fold _ _ _) | fail)
local macro_rules | `(tactic| walk_at "f2") => `(tactic| first | rfl | exact congrArg Prod.snd (fold_unfold _ _ _) | exact congrArg Prod.snd (unfold_fold _ _ _) | fail)
local macro_rules | `(tactic| walk_at "smv") => `(tactic| first
  | (with_reducible assumption)
  | ((with_reducible refine sm_sc ?k1); (case k1 => exact rfl))
  | ((with_reducible refine' sm_ints ?k1 ?k2); (case k1 => walk_at "hg"); (case k2 => walk_at "hg"))
  | fail)
local macro_rules | `(tactic| walk_at "kp2") => `(tactic| first
  | exact Kp2.refl
  | exact Kp2.at
  | ((with_reducible refine' Kp2.trans ?k1 Kp2.at); walk_at "kp2")
  | ((with_reducible refine' Kp2.trans ?k1 (Kp2.new ?k2)); (case k2 => assumption); walk_at "kp2")
  | (refine' Kp2.trans ?k1 (Kp2.ofK ?k2); (case k2 => assumption); walk_at "kp2")
  | (refine' Kp2.trans ?k1 (Kp2.ofS ?k2); (case k2 => assumption); walk_at "kp2")
  | fail)
local macro_rules | `(tactic| walk_at "ty") => `(tactic| first
  | exact True.intro
  | ((refine' Or.inl ⟨_, ?k1⟩); (case k1 => walk_at "hg"))
  | ((refine' Or.inr ⟨_, ?k1⟩); (case k1 => walk_at "hg"))
  | fail)
local macro_rules | `(tactic| walk_at "jr") => `(tactic| first
  | exact ⟨_, JR.flat rfl⟩
  | ((refine' ⟨_, JR.tup2 ?k1 ?k2 ?k3⟩); (case k1 => walk_at "hg"); (case k2 => walk_at "ty"); (case k3 => walk_at "ty"))
  | ((refine' ⟨_, JR.tupn ?k1 ?k2⟩); (case k1 => walk_at "hg"); (case k2 => simp))
  | ((refine' ⟨_, JR.lst ?k1⟩); (case k1 => walk_at "hg"))
  | fail)
local macro_rules | `(tactic| walk_at "jr1") => `(tactic| ((refine' List.forall_mem_cons.mpr ⟨?k1, ?_⟩); (case k1 => walk_at "jr")))
local macro_rules | `(tactic| walk_at "alljr") => `(tactic| ((repeat walk_at "jr1"); exact List.forall_mem_nil _))
local macro_rules | `(tactic| walk_at "r1") => `(tactic| first
  | ((with_reducible refine' rd_raiseV ?k1 ?_); (case k1 => exact rfl))
  | (with_reducible refine rd_raiseC ?_)
  | ((with_reducible refine' rd_lam ?k1 fun _ _ _ => ?_); (case k1 => walk_at "tb"))
  | (with_reducible refine rd_told ?_)
  | (with_reducible refine rd_xf ?_)
  | fail)
local macro_rules | `(tactic| walk_at "tb") => `(tactic| first
  | assumption
  | ((with_reducible refine' Tabs.new ?k1 ?k2); (case k1 => assumption); (case k2 => walk_at "tb"))
  | ((with_reducible refine' Tabs.same ?k1 ?k2); (case k1 => assumption); (case k2 => walk_at "tb"))
  | ((with_reducible refine' Tabs.kp ?k0 ?k1 ?k2); (case k1 => assumption); (case k0 => walk_at "pl"); (case k2 => walk_at "tb"))
  | fail)
local macro_rules | `(tactic| walk_at "kpn") => `(tactic| first
  | assumption
  | exact KpN.refl
  | ((with_reducible refine' KpN.trans ?k1 (KpN.new ?k2)); (case k2 => assumption); walk_at "kpn")
  | ((with_reducible refine' KpN.trans ?k1 ?k2); (case k2 => assumption); walk_at "kpn")
  | ((with_reducible refine' KpN.trans ?k1 (KpN.ofK ?k2)); (case k2 => assumption); walk_at "kpn")
  | ((with_reducible refine' KpN.trans ?k1 (KpN.of ?k2)); (case k2 => assumption); walk_at "kpn")
  | ((with_reducible refine' KpN.trans ?k1 (KpN.ofN ?k2)); (case k2 => assumption); walk_at "kpn")
  | ((with_reducible refine' KpN.trans ?k1 KpN.at); walk_at "kpn")
  | fail)
local macro_rules | `(tactic| walk_at "hg") => `(tactic| first
  | ((with_reducible refine' look_extL ?k1 ?k2); (case k1 => assumption); (case k2 => walk_at "hg"))
  | ((with_reducible refine' look_extT ?k1 ?k2); (case k1 => assumption); (case k2 => walk_at "hg"))
  | fail)
local macro_rules | `(tactic| walk_at "als") => `(tactic| ((repeat (refine List.forall_mem_cons.mpr ⟨rfl, ?_⟩)); exact List.forall_mem_nil _))
local macro_rules | `(tactic| walk_at "dv1") => `(tactic| first
  | exact DV.sc rfl
  | ((refine' DV.lst ?n ?e ?s); (case n => walk_at "ne"); (case e => walk_at "hg"); (case s => walk_at "als"))
  | ((refine' DV.tup ?n ?e ?s); (case n => walk_at "ne"); (case e => walk_at "hg"); (case s => walk_at "als"))
  | fail)
local macro_rules | `(tactic| walk_at "dvm1") => `(tactic| ((refine' List.forall_mem_cons.mpr ⟨⟨?d, ?i⟩, ?_⟩); (case d => walk_at "dv1"); (case i => first | rfl | decide)))
local macro_rules | `(tactic| walk_at "dvm") => `(tactic| ((repeat walk_at "dvm1"); exact List.forall_mem_nil _))
local macro_rules | `(tactic| walk_at "r1") => `(tactic| first
  | ((with_reducible refine' rd_callL ?k1 ?_); (case k1 => exact rfl))
  | ((with_reducible refine' use_sound ?k1 fun _ _ => ?_); (case k1 => walk_at "hg"))
  | fail)
local macro_rules | `(tactic| walk_at "r1") => `(tactic| first
  | ((with_reducible refine' use_ljoints ?k1 ?k2 fun _ _ _ _ _ _ _ _ _ _ => ?_); (case k1 => walk_at "pl"); (case k2 => walk_at "sd"))
  | fail)
local macro_rules | `(tactic| walk_at "r1") => `(tactic| first
  | ((with_reducible refine' use_folds ?k1 ?k2 ?k3 ?k4 ?k5 fun _ _ _ _ _ => ?_); (case k1 => walk_at "hg"); (case k2 => walk_at "hg"); (case k3 => walk_at "js"); (case k4 => assumption); (case k5 => walk_at "sd"))
  | ((with_reducible refine' use_partner ?k1 ?k2 ?k3 ?_); (case k1 => walk_at "hg"); (case k2 => walk_at "js"); (case k3 => assumption))
  | fail)
local macro_rules | `(tactic| walk_at "js") => `(tactic| first
  | assumption
  | ((with_reducible refine' JsAt.new' ?k1 ?k2); (case k1 => assumption); (case k2 => walk_at "js"))
  | ((with_reducible refine' JsAt.same' ?k1 ?k2); (case k1 => assumption); (case k2 => walk_at "js"))
  | ((with_reducible refine' JsAt.at' ?k1 ?k2); (case k1 => walk_at "hg"); (case k2 => walk_at "js"))
  | fail)
local macro_rules | `(tactic| walk_at "kpl") => `(tactic| first
  | assumption
  | exact KpL.refl
  | ((with_reducible refine' KpL.trans ?k1 (KpL.new ?k2)); (case k2 => assumption); walk_at "kpl")
  | ((with_reducible refine' KpL.trans ?k1 ?k2); (case k2 => assumption); walk_at "kpl")
  | ((with_reducible refine' KpL.trans ?k1 (KpL.ofK ?k3 ?k2)); (case k2 => assumption); (case k3 => simp); walk_at "kpl")
  | ((with_reducible refine' KpL.trans ?k1 (KpL.ofS ?k2)); (case k2 => assumption); walk_at "kpl")
  | ((with_reducible refine' KpL.trans ?k1 (KpL.at ?k3)); (case k3 => simp); walk_at "kpl")
  | fail)
local macro_rules | `(tactic| walk_at "lt") => `(tactic| first
  | assumption
  | ((with_reducible refine' LT.new' ?k1 ?k2); (case k1 => assumption); (case k2 => walk_at "lt"))
  | ((with_reducible refine' LT.same' ?k1 ?k2); (case k1 => assumption); (case k2 => walk_at "lt"))
  | ((with_reducible refine' LT.l ?k1); (case k1 => walk_at "hg"))
  | ((with_reducible refine' LT.t ?k1); (case k1 => walk_at "hg"))
  | fail)
local macro_rules | `(tactic| walk_at "r1") => `(tactic| first
  | (with_reducible refine rd_forEA ?_) | (with_reducible refine rd_forS ?_)
  | ((with_reducible refine' use_soundA ?k1 fun _ _ => ?_); (case k1 => walk_at "lt"))
  | ((with_reducible refine' use_itemsA ?k1 fun _ _ => ?_); (case k1 => walk_at "lt"))
  | ((with_reducible refine' rd_lenA ?k1 ?_); (case k1 => walk_at "lt"))
  | ((with_reducible refine' rd_listA ?k1 fun _ _ => ?_); (case k1 => walk_at "lt"))
  | ((with_reducible refine' rd_tupL ?k1 fun _ _ => ?_); (case k1 => walk_at "sq"))
  | ((with_reducible refine' use_foldsA ?k1 ?k2 ?k3 ?k4 ?k5 fun _ _ _ _ _ => ?_); (case k1 => walk_at "lt"); (case k2 => walk_at "lt"); (case k3 => walk_at "js"); (case k4 => assumption); (case k5 => walk_at "sd"))
  | ((with_reducible refine' use_foldsAK ?k1 ?k2 ?k3 ?k4 ?k5 fun _ _ _ _ _ => ?_); (case k1 => walk_at "lt"); (case k2 => walk_at "lt"); (case k3 => walk_at "js"); (case k4 => assumption); (case k5 => walk_at "sd"))
  | fail)
local macro_rules | `(tactic| walk_at "r1") => `(tactic| first
  | ((with_reducible refine' rd_aug ?k1 ?_); (case k1 => exact rfl))
  | (with_reducible refine rd_ipI ?_)
  | ((with_reducible refine use_takeB ?k1 ?k2 ?k3 fun _ _ _ _ _ _ => ?_); (case k1 => walk_at "pl"); (case k2 => walk_at "sd"); (case k3 => walk_at "sd"))
  | fail)
local macro_rules | `(tactic| walk_at "side") => `(tactic| exact wide_div (b := 64) (by omega) (by omega) (by decide) (by decide))
abbrev s_is_integer : Stmt := topS 5
theorem sc_is_integer : FnScope ["value"] ["value"] (defScope s_is_integer) := ⟨rfl, rfl, rfl, by decide +kernel, rfl, by decide +kernel, by decide +kernel⟩
abbrev s_is_within : Stmt := topS 6
theorem sc_is_within : FnScope ["value", "low", "high"] ["value", "low", "high"] (defScope s_is_within) := ⟨rfl, rfl, rfl, by decide +kernel, rfl, by decide +kernel, by decide +kernel⟩
abbrev s_check_within : Stmt := topS 7
theorem sc_check_within : FnScope ["value", "low", "high"] ["value", "low", "high"] (defScope s_check_within) := ⟨rfl, rfl, rfl, by decide +kernel, rfl, by decide +kernel, by decide +kernel⟩
abbrev s_check_sizes : Stmt := topS 10
theorem sc_check_sizes : FnScope ["sizes", "index", "item"] ["sizes"] (defScope s_check_sizes) := ⟨rfl, rfl, rfl, by decide +kernel, rfl, by decide +kernel, by decide +kernel⟩
abbrev s_is_size : Stmt := topS 11
theorem sc_is_size : FnScope ["value"] ["value"] (defScope s_is_size) := ⟨rfl, rfl, rfl, by decide +kernel, rfl, by decide +kernel, by decide +kernel⟩
abbrev s_padding : Stmt := topS 12
theorem sc_padding : FnScope ["sizes", "rate", "delay", "store", "value", "units", "first", "sent", "due", "frame", "size", "length", "behind", "least"] ["sizes", "rate", "delay", "store"] (defScope s_padding) := ⟨rfl, rfl, rfl, by decide +kernel, rfl, by decide +kernel, by decide +kernel⟩
abbrev s_pool : Stmt := topS 14
theorem sc_pool : FnScope ["_law_script", "_law_k", "_law_cell", "_law_great", "_law_seed"] ["_law_script", "_law_k"] (defScope s_pool) := ⟨rfl, rfl, rfl, by decide +kernel, rfl, by decide +kernel, by decide +kernel⟩
abbrev s_take : Stmt := topS 15
theorem sc_take : FnScope ["_law_pool_here", "_law_many", "_law_found"] ["_law_pool_here", "_law_many"] (defScope s_take) := ⟨rfl, rfl, rfl, by decide +kernel, rfl, by decide +kernel, by decide +kernel⟩
abbrev s_sizes : Stmt := topS 16
theorem sc_sizes : FnScope ["_law_pool_here", "_law_rate", "_law_found", "_law_way", "_law_turn", "_law_many", "_law_size"] ["_law_pool_here", "_law_rate"] (defScope s_sizes) := ⟨rfl, rfl, rfl, by decide +kernel, rfl, by decide +kernel, by decide +kernel⟩
abbrev s_holds : Stmt := topS 17
theorem sc_holds : FnScope ["_law_sizes_here", "_law_units_here", "_law_rate", "_law_delay", "_law_store", "_law_total", "_law_arrived", "_law_at", "_law_item"] ["_law_sizes_here", "_law_units_here", "_law_rate", "_law_delay", "_law_store"] (defScope s_holds) := ⟨rfl, rfl, rfl, by decide +kernel, rfl, by decide +kernel, by decide +kernel⟩
abbrev s_units : Stmt := topS 18
theorem sc_units : FnScope ["_law_pool_here", "_law_sizes_here", "_law_rate", "_law_delay", "_law_store", "_law_found", "_law_total", "_law_arrived", "_law_item", "_law_more"] ["_law_pool_here", "_law_sizes_here", "_law_rate", "_law_delay", "_law_store"] (defScope s_units) := ⟨rfl, rfl, rfl, by decide +kernel, rfl, by decide +kernel, by decide +kernel⟩
abbrev s_least : Stmt := topS 19
theorem sc_least : FnScope ["_law_sizes_here", "_law_units_here", "_law_others", "_law_one", "_law_two", "_law_at"] ["_law_sizes_here", "_law_units_here", "_law_others"] (defScope s_least) := ⟨rfl, rfl, rfl, by decide +kernel, rfl, by decide +kernel, by decide +kernel⟩
abbrev s_law : Stmt := topS 20
theorem sc_law : FnScope ["_law_script", "_law_k", "_law_pool_here", "_law_speed", "_law_rows", "_law_wait", "_law_hold", "_law_found", "_law_tries", "_law_item", "_law_turn", "_law_one", "_law_units_here"] ["_law_script"] (defScope s_law) := ⟨rfl, rfl, rfl, by decide +kernel, rfl, by decide +kernel, by decide +kernel⟩
section
variable {P : Program} {w : World} {K : PySem.W.Frag} {mg : Str → Option Value} {base : Heap}
theorem ok_take {f : Addr} {fd : FuncData}     (D : Dn K mg "_law_take" s_take ["_law_pool_here", "_law_many"] f fd) (bi : Bi mg)     : FnOk P w K mg base CX0 1 f fd ["_law_pool_here", "_law_many"] spTakeB := by
  refine D.F.ok sc_take (fun vs H Q E h => ?_) (fun cdv A outer s H vs Q E hr h => ?_)
  · obtain ⟨p, m, rfl, _⟩ := h
    rfl
  · obtain ⟨p, m, rfl, ⟨x, y, hp, hx, hy0, hy1⟩, hm0, hm1, q⟩ := h
    refine ⟨_, (pss_cons (ps_if (pt_cmpR op_gt (pe_ix ix_list (pv 0) pe_int (fun _ _ => rfl)) pe_int (nomark _))
 (pss_cons (ps_set (i := 2) sc_take.nd rfl (Or.inl rfl) (pe_op op_mod (pe_callTy cInt (by rfl) bi.int_ (by decide +kernel) (pa_cons (pe_ix ix_list (pv 0) pe_int (fun _ _ => rfl)) pa_nil)) (pv 1)))
 (pss_cons (ps_asg (pe_op op_fdivW (pe_callTy cInt (by rfl) bi.int_ (by decide +kernel) (pa_cons (pe_ix ix_list (pv 0) pe_int (fun _ _ => rfl)) pa_nil)) (pv 1)) (pg_sub (pv 0) pe_int set_list))
 (pss_one (ps_ret (pv 2)))))
 pss_nil)
 (pss_cons (ps_asg (pe_op op_mod (pe_callTy cInt (by rfl) bi.int_ (by decide +kernel) (pa_cons (pe_op op_add (pe_op op_mul (pe_ix ix_list (pv 0) pe_int (fun _ _ => rfl)) pe_int) pe_int) pa_nil)) pe_int) (pg_sub (pv 0) pe_int set_list))
 (pss_one (ps_ret (pe_op op_mod (pe_op op_fdiv (pe_op op_mod (pe_callTy cInt (by rfl) bi.int_ (by decide +kernel) (pa_cons (pe_op op_mul (pe_ix ix_list (pv 0) pe_int (fun _ _ => rfl)) (pe_ix ix_list (pv 0) pe_int (fun _ _ => rfl))) pa_nil)) pe_int) pe_int) (pv 1)))))), ?_⟩
    refine rd_start (σ := [some (.ref p), some (.int m), none]) rfl ?_
    walk_at "rd"
    refine rd_iteD (fun c => ?_) (fun c => ?_)
    · walk_at "rd"
      exact q _ _ (Int.emod_nonneg _ (by omega)) (Int.emod_lt_of_pos _ hm0) ⟨x / m, y, upd_same, Int.ediv_nonneg hx (by omega), hy0, hy1⟩ Kp.at
    · have e0 := Int.emod_nonneg (y * 48271 + 11) (show (2147483647 : Int) ≠ 0 by decide)
      have e1 := Int.emod_lt_of_pos (y * 48271 + 11) (show (0 : Int) < 2147483647 by decide)
      walk_at "rd"
      exact q _ _ (Int.emod_nonneg _ (by omega)) (Int.emod_lt_of_pos _ hm0) ⟨x, (y * 48271 + 11) % 2147483647, upd_same, hx, e0, e1⟩ Kp.at
theorem ok_pool {f : Addr} {fd : FuncData}     (D : Dn K mg "_law_pool" s_pool ["_law_script", "_law_k"] f fd) (bi : Bi mg)     : FnOk P w K mg base CX0 1 f fd ["_law_script", "_law_k"] (spPool K) := by
  refine D.F.ok sc_pool (fun vs H Q E h => ?_) (fun cdv A outer s H vs Q E hr h => ?_)
  · obtain ⟨a, ns, k, rfl, _⟩ := h
    rfl
  · obtain ⟨a, ns, k, rfl, hS, hl, hk0, hk1, q⟩ := h
    refine ⟨_, (pss_cons (ps_set (i := 2) sc_pool.nd rfl (Or.inl rfl) pe_int)
 (pss_cons (ps_if (pt_cmpR op_lt (pv 1) (pe_callB cLen (by rfl) bi.len_ (by decide +kernel) (pa_cons (pv 0) pa_nil)) (nomark _))
 (pss_one (ps_set (i := 2) sc_pool.nd rfl (Or.inl rfl) (pe_callTy cInt (by rfl) bi.int_ (by decide +kernel) (pa_cons (pe_ix ix_list (pv 0) (pv 1) (fun _ _ => rfl)) pa_nil))))
 pss_nil)
 (pss_cons (ps_set (i := 3) sc_pool.nd rfl (Or.inl rfl) (pe_callB cAbs (by rfl) bi.abs_ (by decide +kernel) (pa_cons (pv 2) pa_nil)))
 (pss_cons (ps_set (i := 4) sc_pool.nd rfl (Or.inl rfl) (pe_op op_add (pe_op op_add (pe_op op_mod (pe_callTy cInt (by rfl) bi.int_ (by decide +kernel) (pa_cons (pv 2) pa_nil)) pe_int) (pe_op op_mul pe_int (pv 1))) pe_int))
 (pss_one (ps_ret (pe_lst (pa_cons (pe_op op_mul (pv 3) (pe_callTy cInt (by rfl) bi.int_ (by decide +kernel) (pa_cons (pe_cmpR op_ge (pv 3) (pe_op op_pow pe_int pe_int) (nomark _)) pa_nil))) (pa_cons (pe_op op_mod (pe_callTy cInt (by rfl) bi.int_ (by decide +kernel) (pa_cons (pe_op op_add (pe_op op_mul (pe_op op_mul (pv 4) (pv 4)) (pv 4)) (pe_op op_mul pe_int (pv 1))) pa_nil)) pe_int) pa_nil))))))))), ?_⟩
    refine rd_start (σ := [some (.ref a), some (.int k), none, none, none]) rfl ?_
    have hS' : SqL (cxOf CX0 P w K mg base ["_law_script", "_law_k", "_law_cell", "_law_great", "_law_seed"] "_law_pool" (defScope s_pool) f cdv A outer s H E).nox.K H a (ns.map V.int) := hS
    walk_at "rd"
    refine rd_iteD (fun c => ?_) (fun c => ?_)
    · rw [List.length_map] at c
      obtain ⟨j, rfl⟩ : ∃ j : Nat, k = (j : Int) := ⟨k.toNat, by omega⟩
      have hj : j < ns.length := by omega
      have hat : atI (ns.map V.int) (j : Int) = some (.int ns[j]) := atI_nat (by rw [List.getElem?_map, List.getElem?_eq_getElem hj]; rfl)
      have e0 := Int.emod_nonneg ns[j] (show (2147483629 : Int) ≠ 0 by decide)
      have e1 := Int.emod_lt_of_pos ns[j] (show (0 : Int) < 2147483629 by decide)
      walk_at "rd"
      rename_i p hp
      exact q _ _ hp (same_new hp) ⟨_, _, upd_same, great_nn _ _, Int.emod_nonneg _ (by decide), Int.emod_lt_of_pos _ (by decide)⟩
    · walk_at "rd"
      rename_i p hp
      exact q _ _ hp (same_new hp) ⟨_, _, upd_same, great_nn 0 _, Int.emod_nonneg _ (by decide), Int.emod_lt_of_pos _ (by decide)⟩
theorem ok_is_integer {f : Addr} {fd : FuncData}     (D : Dn K mg "is_integer" s_is_integer ["value"] f fd) (bi : Bi mg)     : FnOk P w K mg base CX0 1 f fd ["value"] spIsI := by
  refine D.F.ok sc_is_integer (fun vs H Q E h => ?_) (fun cdv A outer s H vs Q E hr h => ?_)
  · obtain ⟨x, rfl, _⟩ := h
    rfl
  · obtain ⟨x, rfl, t, q⟩ := h
    refine ⟨_, (pss_one (ps_ret (pe_and (pe_callB call_isi (by rfl) bi.isinstance_ (by decide +kernel) (pa_cons (pv 0) (pa_cons (pe_bltn (v := .ty "int") (by rfl) bi.int_ (by decide +kernel) rfl) pa_nil))) (pe_one (pe_not (pe_callB call_isi (by rfl) bi.isinstance_ (by decide +kernel) (pa_cons (pv 0) (pa_cons (pe_bltn (v := .ty "bool") (by rfl) bi.bool_ (by decide +kernel) rfl) pa_nil)))))))), ?_⟩
    refine rd_start (σ := [some x]) rfl ?_
    cases x with
    | non => walk_at "rd"; exact q
    | bl _ => walk_at "rd"; exact q
    | int _ => walk_at "rd"; exact q
    | str _ => walk_at "rd"; exact q
    | ref a =>
      rcases t with ⟨xs, t⟩ | ⟨xs, t⟩
      · walk_at "rd"; exact q
      · walk_at "rd"; exact q
    | byt _ => exact t.elim
    | flt _ => exact t.elim
    | ty _ => exact t.elim
theorem ok_is_within {f : Addr} {fd : FuncData} {f_is_integer : Addr} {fd_is_integer : FuncData}    (D : Dn K mg "is_within" s_is_within ["value", "low", "high"] f fd) (bi : Bi mg) (G_is_integer : FnOk P w K mg base CX0 1 f_is_integer fd_is_integer ["value"] spIsI) (D_is_integer : Dn K mg "is_integer" s_is_integer ["value"] f_is_integer fd_is_integer)    : FnOk P w K mg base CX0 2 f fd ["value", "low", "high"] spWithin := by
  refine D.F.ok sc_is_within (fun vs H Q E h => ?_) (fun cdv A outer s H vs Q E hr h => ?_)
  · obtain ⟨x, lo, hi, rfl, _⟩ := h
    rfl
  · obtain ⟨x, lo, hi, rfl, t, q⟩ := h
    refine ⟨_, (pss_one (ps_ret (pe_and (pe_call G_is_integer (hr.mono (by first | decide | exact Nat.le_refl _)) (by rfl) D_is_integer.g D_is_integer.F.kp D_is_integer.b .nil pass0 (pa_cons (pv 0) pa_nil)) (pe_one (pe_chain op_le op_le (pv 1) (pv 0) (pv 2)))))), ?_⟩
    refine rd_start (σ := [some x, some (.int lo), some (.int hi)]) rfl ?_
    walk_at "rd"
    refine use_isi t (rd_bl ?_)
    cases x with
    | int i =>
      refine if_yes (c := isI (V.int i)) rfl ?_
      walk_at "rd"
      refine rd_iteD (p := lo ≤ i) (fun c => ?_) (fun c => ?_)
      · walk_at "rd"
        have e : inI (.int i) lo hi = decide (i ≤ hi) := by simp [inI, c]
        rw [e] at q
        exact q
      · have e : inI (.int i) lo hi = false := by simp [inI, c]
        rw [e] at q
        exact q
    | non => exact iteF q
    | bl _ => exact iteF q
    | str _ => exact iteF q
    | ref _ => exact iteF q
    | byt _ => exact iteF q
    | flt _ => exact iteF q
    | ty _ => exact iteF q
theorem ok_check_within {f : Addr} {fd : FuncData} {f_is_within : Addr} {fd_is_within : FuncData}    (D : Dn K mg "check_within" s_check_within ["value", "low", "high"] f fd) (bi : Bi mg) (G_is_within : FnOk P w K mg base CX0 2 f_is_within fd_is_within ["value", "low", "high"] spWithin) (D_is_within : Dn K mg "is_within" s_is_within ["value", "low", "high"] f_is_within fd_is_within)    : FnOk P w K mg base CX0 3 f fd ["value", "low", "high"] spCkW := by
  refine D.F.ok sc_check_within (fun vs H Q E h => ?_) (fun cdv A outer s H vs Q E hr h => ?_)
  · obtain ⟨i, lo, hi, rfl, _⟩ := h
    rfl
  · obtain ⟨i, lo, hi, rfl, h1, h2, q⟩ := h
    refine ⟨_, (pss_one (ps_if (pt_not (pt_val (pe_call G_is_within (hr.mono (by first | decide | exact Nat.le_refl _)) (by rfl) D_is_within.g D_is_within.F.kp D_is_within.b .nil pass0 (pa_cons (pv 0) (pa_cons (pv 1) (pa_cons (pv 2) pa_nil))))))
 (pss_one ps_never)
 pss_nil)), ?_⟩
    refine rd_start (σ := [some (.int i), some (.int lo), some (.int hi)]) rfl ?_
    walk_at "rd"
    refine rd_iteN (p := lo ≤ i ∧ i ≤ hi) (fun c => (c ⟨h1, h2⟩).elim) (fun c => ?_)
    exact q
theorem ok_is_size {f : Addr} {fd : FuncData} {f_is_within : Addr} {fd_is_within : FuncData}    (D : Dn K mg "is_size" s_is_size ["value"] f fd) (bi : Bi mg) (G_is_within : FnOk P w K mg base CX0 2 f_is_within fd_is_within ["value", "low", "high"] spWithin) (D_is_within : Dn K mg "is_within" s_is_within ["value", "low", "high"] f_is_within fd_is_within)   (g_BUDGET_LIMIT : ∃ t, mg "BUDGET_LIMIT" = some (.int 1000000000 t)) : FnOk P w K mg base CX0 3 f fd ["value"] spIsSz := by
  refine D.F.ok sc_is_size (fun vs H Q E h => ?_) (fun cdv A outer s H vs Q E hr h => ?_)
  · obtain ⟨a, s, rfl, _⟩ := h
    rfl
  · obtain ⟨a, s, rfl, e1, ok, q⟩ := h
    obtain ⟨t64, g_BUDGET_LIMIT⟩ := g_BUDGET_LIMIT
    refine ⟨_, (pss_cons (ps_if (PW.pt (pw_or (pt_not (pt_val (pe_callB call_isi (by rfl) bi.isinstance_ (by decide +kernel) (pa_cons (pv 0) (pa_cons (pe_bltn (v := .ty "tuple") (by rfl) bi.tuple_ (by decide +kernel) rfl) pa_nil))))) (pw_or1 (pt_cmpR op_ne (pe_callB cLen (by rfl) bi.len_ (by decide +kernel) (pa_cons (pv 0) pa_nil)) pe_int (nomark _)))))
 (pss_one (ps_ret pe_bl))
 pss_nil)
 (pss_one (ps_ret (pe_and (pe_call G_is_within (hr.mono (by first | decide | exact Nat.le_refl _)) (by rfl) D_is_within.g D_is_within.F.kp D_is_within.b .nil pass0 (pa_cons (pe_ix ix_tup (pv 0) pe_int (fun _ _ => rfl)) (pa_cons pe_int (pa_cons (pe_glob (v := .int 1000000000) (by rfl) g_BUDGET_LIMIT ⟨_, rfl⟩) pa_nil)))) (pe_one (pe_call G_is_within (hr.mono (by first | decide | exact Nat.le_refl _)) (by rfl) D_is_within.g D_is_within.F.kp D_is_within.b .nil pass0 (pa_cons (pe_ix ix_tup (pv 0) pe_int (fun _ _ => rfl)) (pa_cons pe_int (pa_cons (pe_glob (v := .int 1000000000) (by rfl) g_BUDGET_LIMIT ⟨_, rfl⟩) pa_nil))))))))), ?_⟩
    refine rd_start (σ := [some (.ref a)]) rfl ?_
    obtain ⟨o1, o2, o3, o4⟩ := ok
    walk_at "rd"
    refine if_noN rfl ?_
    walk_at "rd"
    refine rd_iteD (fun c => ?_) (fun c => (c ⟨o1, o2⟩).elim)
    walk_at "rd"
    rw [decide_eq_true (⟨o3, o4⟩ : 1 ≤ s.2 ∧ s.2 ≤ 1000000000)]
    exact q
theorem ok_check_sizes {f : Addr} {fd : FuncData} {f_is_size : Addr} {fd_is_size : FuncData}    (D : Dn K mg "check_sizes" s_check_sizes ["sizes"] f fd) (bi : Bi mg) (G_is_size : FnOk P w K mg base CX0 3 f_is_size fd_is_size ["value"] spIsSz) (D_is_size : Dn K mg "is_size" s_is_size ["value"] f_is_size fd_is_size)    : FnOk P w K mg base CX0 4 f fd ["sizes"] spCkSz := by
  refine D.F.ok sc_check_sizes (fun vs H Q E h => ?_) (fun cdv A outer s H vs Q E hr h => ?_)
  · obtain ⟨a, us, ss, rfl, _⟩ := h
    rfl
  · obtain ⟨a, us, ss, rfl, hS, hz, ok, q⟩ := h
    refine ⟨_, (pss_cons (ps_if (pt_not (pt_val (pe_callB call_isiT (by rfl) bi.isinstance_ (by decide +kernel) (pa_cons (pv 0) (pa_cons (pe_tup (pa_cons (pe_bltn (v := .ty "list") (by rfl) bi.list_ (by decide +kernel) rfl) (pa_cons (pe_bltn (v := .ty "tuple") (by rfl) bi.tuple_ (by decide +kernel) rfl) pa_nil))) pa_nil)))))
 (pss_one ps_never)
 pss_nil)
 (pss_one (ps_for PassesOwn.never rfl (pi_enumA (by rfl) bi.enumerate_ (pa_cons (pv 0) pa_nil)) (pg_tup rfl (pgs_cons (pg_name (i := 1) sc_check_sizes.nd rfl (Or.inl rfl)) (pgs_cons (pg_name (i := 2) sc_check_sizes.nd rfl (Or.inl rfl)) pgs_nil)))
 (pss_one (ps_if (pt_not (pt_val (pe_call G_is_size (hr.mono (by first | decide | exact Nat.le_refl _)) (by rfl) D_is_size.g D_is_size.F.kp D_is_size.b .nil pass0 (pa_cons (pv 2) pa_nil))))
 (pss_one ps_never)
 pss_nil))))), ?_⟩
    refine rd_start (σ := [some (.ref a), none, none]) rfl ?_
    walk_at "rd"
    rename_i t ht
    refine isiT_lt (LT.new' ht hS) upd_same ?_
    walk_at "rd"
    have hs0 : Same H (upd H t (.tup [.ty "list", .ty "tuple"])) := same_new ht
    refine for_enumA (hS.same hs0) (fun i σ H' => ∃ x y, σ = [some (.ref a), x, y] ∧ Same (upd H t (.tup [.ty "list", .ty "tuple"])) H') ⟨none, none, rfl, Same.refl _⟩ (fun i σ H1 _ hI => ?_) (fun i v σ H1 T hv hI hT => ?_) (fun σ H1 hI => ?_)
    · obtain ⟨x, y, rfl, hs⟩ := hI
      exact hs _
    · obtain ⟨x, y, rfl, hs⟩ := hI
      obtain ⟨s, es, ⟨b, rfl, eb⟩, _⟩ := hz.at_ i v hv
      have eb' := look_new (o := .tup [.int (i : Nat), .ref b]) hT (hs _ _ (hs0 _ _ eb))
      walk_at "rd"
      refine use_issz eb' (ok _ (List.mem_of_getElem? es)) ?_
      walk_at "rd"
      exact ⟨_, _, rfl, hs.trans (same_new hT)⟩
    · obtain ⟨x, y, rfl, hs⟩ := hI
      walk_at "rd"
      exact q _ (hs0.trans hs)
theorem ok_padding {f : Addr} {fd : FuncData} {f_check_sizes : Addr} {fd_check_sizes : FuncData} {f_check_within : Addr} {fd_check_within : FuncData}    (D : Dn K mg "padding" s_padding ["sizes", "rate", "delay", "store"] f fd) (bi : Bi mg) (G_check_sizes : FnOk P w K mg base CX0 4 f_check_sizes fd_check_sizes ["sizes"] spCkSz) (D_check_sizes : Dn K mg "check_sizes" s_check_sizes ["sizes"] f_check_sizes fd_check_sizes) (G_check_within : FnOk P w K mg base CX0 3 f_check_within fd_check_within ["value", "low", "high"] spCkW) (D_check_within : Dn K mg "check_within" s_check_within ["value", "low", "high"] f_check_within fd_check_within)   (g_BUDGET_LIMIT : ∃ t, mg "BUDGET_LIMIT" = some (.int 1000000000 t)) : FnOk P w K mg base CX0 5 f fd ["sizes", "rate", "delay", "store"] spPad := by
  refine D.F.ok sc_padding (fun vs H Q E h => ?_) (fun cdv A outer s H vs Q E hr h => ?_)
  · obtain ⟨a, us, ss, r, d, st, rfl, _⟩ := h
    rfl
  · obtain ⟨a, us, ss, r, d, st, rfl, hS, hz, ok, hl, hrr, hd, hst, q⟩ := h
    obtain ⟨t64, g_BUDGET_LIMIT⟩ := g_BUDGET_LIMIT
    refine ⟨_, (pss_cons (ps_expr (pe_call G_check_sizes (hr.mono (by first | decide | exact Nat.le_refl _)) (by rfl) D_check_sizes.g D_check_sizes.F.kp D_check_sizes.b .nil pass0 (pa_cons (pv 0) pa_nil)))
 (pss_cons (ps_for PassesOwn.never rfl (pi_tup (pe_tup (pa_cons (pv 1) (pa_cons (pv 2) (pa_cons (pv 3) pa_nil))))) (pg_name (i := 4) sc_padding.nd rfl (Or.inl rfl))
 (pss_one (ps_expr (pe_call G_check_within (hr.mono (by first | decide | exact Nat.le_refl _)) (by rfl) D_check_within.g D_check_within.F.kp D_check_within.b .nil pass0 (pa_cons (pv 4) (pa_cons pe_int (pa_cons (pe_glob (v := .int 1000000000) (by rfl) g_BUDGET_LIMIT ⟨_, rfl⟩) pa_nil)))))))
 (pss_cons (ps_set (i := 5) sc_padding.nd rfl (Or.inl rfl) (pe_lst pa_nil))
 (pss_cons (ps_par3 (i := 6) (j := 7) (l := 8) rfl sc_padding.nd rfl rfl rfl (by decide) (by decide) (by decide) rfl rfl rfl (pa_cons pe_int (pa_cons pe_int (pa_cons (pv 2) pa_nil))) rfl)
 (pss_cons (ps_for PassesOwn.never rfl (pi_enumA (by rfl) bi.enumerate_ (pa_cons (pv 0) pa_nil)) (pg_tup rfl (pgs_cons (pg_name (i := 9) sc_padding.nd rfl (Or.inl rfl)) (pgs_cons (pg_tup rfl (pgs_cons (pg_name (i := 10) sc_padding.nd rfl (Or.inl rfl)) (pgs_cons (pg_name (i := 11) sc_padding.nd rfl (Or.inl rfl)) pgs_nil))) pgs_nil)))
 (pss_cons (ps_set (i := 12) sc_padding.nd rfl (Or.inl rfl) (pe_op op_add (pv 8) (pe_op op_mul (pv 1) (pv 11))))
 (C8.pss_cut (ps_set (i := 13) sc_padding.nd rfl (Or.inl rfl) (pe_ifExp (pt_cmpR op_lt (pv 9) (pe_op op_sub (pe_callB cLen (by rfl) bi.len_ (by decide +kernel) (pa_cons (pv 0) pa_nil)) pe_int) (nomark _)) (pe_op op_sub (pe_op op_sub (pe_op op_sub (pv 12) (pv 3)) (pv 7)) (pv 10)) pe_int))
 (pss_cons (ps_expr (pe_bm PySem.F.plainAttrs_list PySem.F.slot_list_append PySem.F.type_list_append mt_append (pv 5) (pa_cons (pe_callB (cMax rfl) (by rfl) bi.max_ (by decide +kernel) (pa_cons (pv 13) (pa_cons pe_int pa_nil))) pa_nil)))
 (pss_cons (ps_aug (i := 7) sc_padding.nd rfl (Or.inl rfl) (pe_op op_add (pv 10) (pe_ix ix_list (pv 5) (pe_un un_neg pe_int) (fun _ _ => rfl))) ip_add)
 (pss_cons (ps_if (pt_cmpR op_gt (pv 7) (pv 8) (nomark _))
 (pss_one (ps_ret (pe_tup (pa_cons (pv 6) (pa_cons (pv 9) pa_nil)))))
 pss_nil)
 (C8.pss_cut (ps_if (pt_cmpR op_gt (pe_ix ix_list (pv 5) (pe_un un_neg pe_int) (fun _ _ => rfl)) pe_int (nomark _))
 (pss_one (ps_set (i := 6) sc_padding.nd rfl (Or.inl rfl) (pe_op op_add (pv 9) pe_int)))
 pss_nil)
 (pss_one (ps_set (i := 8) sc_padding.nd rfl (Or.inl rfl) (pv 12))))))))))
 (pss_one (ps_ret (pv 5)))))))), ?_⟩
    refine rd_start (σ := [some (.ref a), some (.int r), some (.int d), some (.int st), none, none, none, none, none, none, none, none, none, none]) rfl ?_
    walk_at "rd"
    refine use_cksz hS hz ok fun H1 hs1 => ?_
    walk_at "rd"
    rename_i t2 ht2
    refine rd_lpT (SqT.of upd_same) ?_
    have hs2 : Same H (upd H1 t2 (.tup [.int r, .int d, .int st])) := hs1.trans (same_new ht2)
    refine for_tup (xs := [.int r, .int d, .int st]) (fun i σ H' => ∃ x, σ = [some (.ref a), some (.int r), some (.int d), some (.int st), x, none, none, none, none, none, none, none, none, none] ∧ H' = upd H1 t2 (.tup [.int r, .int d, .int st])) ⟨none, rfl, rfl⟩ (fun i σ H' _ hI => ?_) (fun i v σ H' hv hI => ?_) (fun σ H' hI => ?_)
    · obtain ⟨x, rfl, rfl⟩ := hI
      exact SqT.of upd_same
    · obtain ⟨x, rfl, rfl⟩ := hI
      obtain ⟨z, rfl, z0, z1⟩ : ∃ z, v = .int z ∧ 0 ≤ z ∧ z ≤ 1000000000 := by
        rcases i with _ | _ | _ | i
        · cases hv; exact ⟨_, rfl, hrr.1, hrr.2⟩
        · cases hv; exact ⟨_, rfl, hd.1, hd.2⟩
        · cases hv; exact ⟨_, rfl, hst.1, hst.2⟩
        · simp at hv
      walk_at "rd"
      exact ⟨_, rfl, rfl⟩
    · obtain ⟨x, rfl, rfl⟩ := hI
      generalize upd H1 t2 (.tup [.int r, .int d, .int st]) = H2 at hs2
      walk_at "rd"
      rename_i U hU
      have hs3 : Same H (upd H2 U (.lst [])) := hs2.trans (same_new hU)
      have hUn : H U = none := hs2.free hU
      have eU : (upd H2 U (.lst [])) U = some (.lst []) := upd_same
      refine for_enumA (hS.same hs3) (fun i σ H' => ∃ vs first sent due x y z u w w2, σ = [some (.ref a), some (.int r), some (.int d), some (.int st), x, some (.ref U), some (.int first), some (.int sent), some (.int due), y, z, u, w, w2] ∧ H' U = some (.lst (vs.map V.int)) ∧ vs.length = i ∧ Same H H' ∧ pcat vs (pdS r st (ss.drop i) first i sent due) = pdF r st ss d) ⟨[], _, _, _, _, _, _, _, _, _, rfl, eU, rfl, hs3, pcat_nil _⟩ (fun i σ H4 _ hI => ?_) (fun i v σ H4 T hv hI hT => ?_) (fun σ H4 hI => ?_)
      · obtain ⟨vs, first, sent, due, x, y, z, u, w, w2, rfl, e4, hvl, hs4, hpd⟩ := hI
        exact fun o e => by
          rcases hS with e' | e' <;> rw [hs3 _ _ e'] at e <;> cases e <;> exact hs4 _ _ e'
      · obtain ⟨vs, first, sent, due, x, y, z, u, w, w2, rfl, e4, hvl, hs4, hpd⟩ := hI
        obtain ⟨s1, es, ⟨b, rfl, eb⟩, hdr⟩ := hz.at_ i v hv
        obtain ⟨o1, o2, o3, o4⟩ := ok _ (List.mem_of_getElem? es)
        have ilt : i < ss.length := by
          rcases Nat.lt_or_ge i ss.length with h | h
          · exact h
          · rw [List.getElem?_eq_none h] at es; cases es
        have ul := hz.len
        have eb' := look_new (o := .tup [.int (i : Nat), .ref b]) hT (hs4 _ _ eb)
        have e4' := look_new (o := .tup [.int (i : Nat), .ref b]) hT e4
        have hs5 : Same H (upd H4 T (.tup [.int (i : Nat), .ref b])) := hs4.trans (same_new hT)
        have hS5 := hS.same hs5
        walk_at "rd"
        generalize upd H4 T (.tup [.int (i : Nat), .ref b]) = H5 at eb' e4' hs5 hS5 ⊢
        refine rd_cut (fun σ H' => H' = H5 ∧ ∃ le, σ = [some (.ref a), some (.int r), some (.int d), some (.int st), x, some (.ref U), some (.int first), some (.int sent), some (.int due), some (.int (i : Nat)), some (.int s1.1), some (.int s1.2), some (.int (due + r * s1.2)), some (.int le)] ∧ le = if (ss.drop (i + 1)).isEmpty then 0 else due + r * s1.2 - st - sent - s1.1) ?_ fun σ' H6 hM => ?_
        · walk_at "rd"
          refine rd_iteD (fun c => ?_) (fun c => ?_)
          · walk_at "rd"
            exact ⟨rfl, _, rfl, by rw [drop_more (by omega)]; rfl⟩
          · walk_at "rd"
            exact ⟨rfl, _, rfl, by rw [drop_last (by omega)]; rfl⟩
        obtain ⟨rfl, le, rfl, hle⟩ := hM
        walk_at "rd"
        rw [pos_mx, hle, uS_pos]
        generalize hu : uS r st s1 (ss.drop (i + 1)) sent due = u1
        have eA : (upd H6 U (.lst ((vs ++ [u1]).map V.int))) U = some (.lst ((vs ++ [u1]).map V.int)) := upd_same
        have at1 : atI ((vs ++ [u1]).map V.int) (-1) = some (.int u1) := at_end (k := i) (by simp [hvl]) (by rw [List.map_append, List.getElem?_append_right (by simp [hvl])]; simp [hvl])
        have hs6 : Same H (upd H6 U (.lst ((vs ++ [u1]).map V.int))) := fun b' o e => by
          rw [upd_ne (ne_of_none e hUn)]
          exact hs5 _ _ e
        generalize upd H6 U (.lst ((vs ++ [u1]).map V.int)) = H7 at eA hs6 ⊢
        refine rd_ixL (SqL.of eA) at1 ?_
        walk_at "rd"
        rw [hdr, pdS_cons, hu] at hpd
        refine rd_iteD (fun c => ?_) (fun c => ?_)
        · walk_at "rd"
          rename_i R hR
          rw [if_pos c] at hpd
          refine q _ _ (hs6.trans (same_new hR)) (fun _ z => by cases z; exact hs6.free hR) ?_
          rw [← hpd]
          exact ⟨R, rfl, upd_same⟩
        · rw [if_neg c, ← pcat_snoc] at hpd
          refine rd_cut (fun σ H' => H' = H7 ∧ ∃ le, σ = [some (.ref a), some (.int r), some (.int d), some (.int st), x, some (.ref U), some (.int (if u1 > 0 then (i : Int) + 1 else first)), some (.int (sent + (s1.1 + u1))), some (.int due), some (.int (i : Nat)), some (.int s1.1), some (.int s1.2), some (.int (due + r * s1.2)), some (.int le)]) ?_ fun σ' H8 hM => ?_
          · walk_at "rd"
            refine rd_iteD (fun c2 => ?_) (fun c2 => ?_)
            · walk_at "rd"
              exact ⟨rfl, _, by rw [if_pos c2]; rfl⟩
            · walk_at "rd"
              exact ⟨rfl, _, by rw [if_neg c2]; rfl⟩
          obtain ⟨rfl, le2, rfl⟩ := hM
          walk_at "rd"
          exact ⟨vs ++ [u1], _, _, _, _, _, _, _, _, _, rfl, eA, by simp [hvl], hs6, hpd⟩
      · obtain ⟨vs, first, sent, due, x, y, z, u, w, w2, rfl, e4, hvl, hs4, hpd⟩ := hI
        rw [hz.len, List.drop_length] at hpd
        walk_at "rd"
        refine q _ _ hs4 (fun _ z => by cases z; exact hUn) ?_
        rw [← hpd]
        exact ⟨U, rfl, by rw [List.append_nil]; exact e4⟩
theorem ok_sizes {f : Addr} {fd : FuncData} {f_take : Addr} {fd_take : FuncData}    (D : Dn K mg "_law_sizes" s_sizes ["_law_pool_here", "_law_rate"] f fd) (bi : Bi mg) (G_take : FnOk P w K mg base CX0 1 f_take fd_take ["_law_pool_here", "_law_many"] spTakeB) (D_take : Dn K mg "_law_take" s_take ["_law_pool_here", "_law_many"] f_take fd_take)    : FnOk P w K mg base CX0 2 f fd ["_law_pool_here", "_law_rate"] spSizes := by
  refine D.F.ok sc_sizes (fun vs H Q E h => ?_) (fun cdv A outer s H vs Q E hr h => ?_)
  · obtain ⟨p, r, rfl, _⟩ := h
    rfl
  · obtain ⟨p, r, rfl, hP, r0, r1, q⟩ := h
    refine ⟨_, (pss_cons (ps_par (i := 2) (j := 3) rfl sc_sizes.nd rfl rfl (by decide) rfl rfl (pa_cons (pe_lst pa_nil) (pa_cons (pe_call G_take (hr.mono (by first | decide | exact Nat.le_refl _)) (by rfl) D_take.g D_take.F.kp D_take.b .nil pass0 (pa_cons (pv 0) (pa_cons pe_int pa_nil))) pa_nil)) rfl)
 (pss_cons (ps_for PassesOwn.never rfl (pi_range1 (by rfl) bi.range_ (pa_cons (pe_ix ix_list (pe_lst (pa_cons pe_int (pa_cons pe_int (pa_cons pe_int (pa_cons pe_int (pa_cons pe_int (pa_cons pe_int pa_nil))))))) (pe_call G_take (hr.mono (by first | decide | exact Nat.le_refl _)) (by rfl) D_take.g D_take.F.kp D_take.b .nil pass0 (pa_cons (pv 0) (pa_cons pe_int pa_nil))) (fun _ _ => rfl)) pa_nil)) (pg_name (i := 4) sc_sizes.nd rfl (Or.inl rfl))
 (pss_cons (ps_set (i := 5) sc_sizes.nd rfl (Or.inl rfl) (pe_op op_add pe_int (pe_call G_take (hr.mono (by first | decide | exact Nat.le_refl _)) (by rfl) D_take.g D_take.F.kp D_take.b .nil pass0 (pa_cons (pv 0) (pa_cons pe_int pa_nil)))))
 (pss_cons (ps_set (i := 6) sc_sizes.nd rfl (Or.inl rfl) (pe_callB (cMax rfl) (by rfl) bi.max_ (by decide +kernel) (pa_cons pe_int (pa_cons (pe_op op_sub (pe_op op_add (pe_op op_mul (pv 1) (pv 5)) (pe_call G_take (hr.mono (by first | decide | exact Nat.le_refl _)) (by rfl) D_take.g D_take.F.kp D_take.b .nil pass0 (pa_cons (pv 0) (pa_cons pe_int pa_nil)))) pe_int) pa_nil))))
 (C8.pss_cut (ps_if (pt_cmpR op_eq (pv 3) pe_int (nomark _))
 (pss_one (ps_set (i := 6) sc_sizes.nd rfl (Or.inl rfl) (pe_ix ix_list (pe_lst (pa_cons pe_int (pa_cons (pv 6) (pa_cons (pe_call G_take (hr.mono (by first | decide | exact Nat.le_refl _)) (by rfl) D_take.g D_take.F.kp D_take.b .nil pass0 (pa_cons (pv 0) (pa_cons (pe_op op_add (pe_op op_mul (pe_op op_mul pe_int (pv 1)) (pv 5)) pe_int) pa_nil))) pa_nil)))) (pe_call G_take (hr.mono (by first | decide | exact Nat.le_refl _)) (by rfl) D_take.g D_take.F.kp D_take.b .nil pass0 (pa_cons (pv 0) (pa_cons pe_int pa_nil))) (fun _ _ => rfl))))
 pss_nil)
 (C8.pss_cut (ps_if (pt_cmpR op_eq (pv 3) pe_int (nomark _))
 (pss_one (ps_par (i := 6) (j := 5) rfl sc_sizes.nd rfl rfl (by decide) rfl rfl (pa_cons (pe_ix ix_list (pe_lst (pa_cons pe_int (pa_cons (pe_op op_pow pe_int pe_int) (pa_cons pe_int pa_nil)))) (pe_call G_take (hr.mono (by first | decide | exact Nat.le_refl _)) (by rfl) D_take.g D_take.F.kp D_take.b .nil pass0 (pa_cons (pv 0) (pa_cons pe_int pa_nil))) (fun _ _ => rfl)) (pa_cons (pe_ix ix_list (pe_lst (pa_cons pe_int (pa_cons (pe_op op_pow pe_int pe_int) (pa_cons pe_int pa_nil)))) (pe_call G_take (hr.mono (by first | decide | exact Nat.le_refl _)) (by rfl) D_take.g D_take.F.kp D_take.b .nil pass0 (pa_cons (pv 0) (pa_cons pe_int pa_nil))) (fun _ _ => rfl)) pa_nil)) rfl))
 pss_nil)
 (pss_one (ps_expr (pe_bm PySem.F.plainAttrs_list PySem.F.slot_list_append PySem.F.type_list_append mt_append (pv 2) (pa_cons (pe_tup (pa_cons (pe_callB (cMin rfl) (by rfl) bi.min_ (by decide +kernel) (pa_cons (pv 6) (pa_cons (pe_op op_pow pe_int pe_int) pa_nil))) (pa_cons (pv 5) pa_nil))) pa_nil)))))))))
 (pss_one (ps_ret (pv 2))))), ?_⟩
    refine rd_start (σ := [some (.ref p), some (.int r), none, none, none, none, none]) rfl ?_
    walk_at "rd"
    rename_i D hD way H1 hw0 hw1 hP1 hK1 pm hpm t6 H2 h60 h61 hP2 hK2
    have hDp : D ≠ p := hP.ne hD
    have hD1 : H1 D = some (.lst []) := hK1 _ _ hDp upd_same
    refine' rd_ixP (fun v => ∃ j : Int, v = .int j ∧ 0 ≤ j ∧ j ≤ 30) ?e ?h0 ?h1 ?hP fun v hv => ?_
    (case e => exact SqL.of (by walk_at "hg"))
    (case h0 => assumption)
    (case h1 => assumption)
    (case hP => walk_at "allm")
    obtain ⟨nn, rfl, hn0, hn1⟩ := hv
    walk_at "rd"
    have hD2 : H2 D = some (.lst []) := hK2 _ _ hDp (look_new hpm hD1)
    have hK02 : Kp p H H2 := (Kp.new hD).trans (hK1.trans ((Kp.new hpm).trans hK2))
    refine for_range (lo := 0) (n := nn.toNat) (fun i σ H' => ∃ us ss x4 x5 x6, σ = [some (.ref p), some (.int r), some (.ref D), some (.int way), x4, x5, x6] ∧ H' D = some (.lst us) ∧ SzsAt H' us ss ∧ (∀ s ∈ ss, SzOk s) ∧ us.length = i ∧ Pool H' p ∧ Kp p H H') ⟨[], [], none, none, none, rfl, hD2, .nil, fun s hs => (List.not_mem_nil hs).elim, rfl, hP2, hK02⟩ (fun i σ H3 hi hI => ?_) (fun σ H3 hI => ?_)
    · obtain ⟨us, ss, x4, x5, x6, rfl, hd, hz, ok, hl, hP3, hK3⟩ := hI
      walk_at "rd"
      rename_i t8 H4 h80 h81 hP4 hK4 t41 H5 h410 h411 hP5 hK5
      have hb0 : 0 ≤ r * (1 + t8) := Int.mul_nonneg r0 (by omega)
      have hb1 : r * (1 + t8) ≤ 1000000000 * 8 := Int.mul_le_mul r1 (by omega) (by omega) (by decide)
      have hb2 : 0 ≤ 3 * r * (1 + t8) := Int.mul_nonneg (by omega) (by omega)
      have hb3 : 3 * r * (1 + t8) ≤ 3000000000 * 8 := Int.mul_le_mul (by omega) (by omega) (by omega) (by decide)
      generalize hs1 : (if r * (1 + t8) + t41 - 20 > 0 then r * (1 + t8) + t41 - 20 else 0) = s1
      have hs10 : 0 ≤ s1 := by rw [← hs1]; split <;> omega
      have hz5 : SzsAt H5 us ss := (hz.lk (.pool hP3 hK4)).lk (.pool hP4 hK5)
      have hd5 : H5 D = some (.lst us) := hK5 _ _ hDp (hK4 _ _ hDp hd)
      have hK35 : Kp p H H5 := hK3.trans (hK4.trans hK5)
      refine rd_cut (fun σ H' => ∃ sz : Int, σ = [some (.ref p), some (.int r), some (.ref D), some (.int way), some (.int (0 + (i : Int))), some (.int (1 + t8)), some (.int sz)] ∧ 0 ≤ sz ∧ H' D = some (.lst us) ∧ SzsAt H' us ss ∧ Pool H' p ∧ Kp p H H') ?_ fun σ' H6 hM => ?_
      · walk_at "rd"
        refine rd_iteD (fun c => ?_) (fun c => ?_)
        · walk_at "rd"
          rename_i tb H6 hb60 hb61 hP6 hK6 pm2 hpm2 t3 H7 h30 h31 hP7 hK7
          refine' rd_ixP (fun v => ∃ j : Int, v = .int j ∧ 0 ≤ j ∧ True) ?e ?h0 ?h1 ?hP fun v hv => ?_
          (case e => exact SqL.of (by walk_at "hg"))
          (case h0 => assumption)
          (case h1 => assumption)
          (case hP => walk_at "allm")
          obtain ⟨sz, rfl, hz0, _⟩ := hv
          walk_at "rd"
          exact ⟨sz, rfl, hz0, hK7 _ _ hDp (look_new hpm2 (hK6 _ _ hDp hd5)), ((hz5.lk (.pool hP5 hK6)).lk (.new hpm2)).lk (.pool (hP6.new hpm2) hK7), hP7, hK35.trans (hK6.trans ((Kp.new hpm2).trans hK7))⟩
        · walk_at "rd"
          exact ⟨s1, rfl, hs10, hd5, hz5, hP5, hK35⟩
      obtain ⟨sz, rfl, hsz0, hd6, hz6, hP6, hK6⟩ := hM
      refine rd_cut (fun σ H' => ∃ sz mn : Int, σ = [some (.ref p), some (.int r), some (.ref D), some (.int way), some (.int (0 + (i : Int))), some (.int mn), some (.int sz)] ∧ 0 ≤ sz ∧ 1 ≤ mn ∧ mn ≤ 1000000000 ∧ H' D = some (.lst us) ∧ SzsAt H' us ss ∧ Pool H' p ∧ Kp p H H') ?_ fun σ' H7 hM => ?_
      · walk_at "rd"
        refine rd_iteD (fun c => ?_) (fun c => ?_)
        · walk_at "rd"
          rename_i pm3 hpm3 t3 H7 h30 h31 hP7 hK7
          refine' rd_ixP (fun v => ∃ j : Int, v = .int j ∧ 0 ≤ j ∧ True) ?e ?h0 ?h1 ?hP fun v hv => ?_
          (case e => exact SqL.of (by walk_at "hg"))
          (case h0 => assumption)
          (case h1 => assumption)
          (case hP => walk_at "allm")
          obtain ⟨sz2, rfl, hz20, _⟩ := hv
          walk_at "rd"
          rename_i pm4 hpm4 t4 H8 h40 h41 hP8 hK8
          refine' rd_ixP (fun v => ∃ j : Int, v = .int j ∧ 1 ≤ j ∧ j ≤ 1000000000) ?e ?h0 ?h1 ?hP fun v hv => ?_
          (case e => exact SqL.of (by walk_at "hg"))
          (case h0 => assumption)
          (case h1 => assumption)
          (case hP => walk_at "allm")
          obtain ⟨mn2, rfl, hm20, hm21⟩ := hv
          walk_at "rd"
          exact ⟨sz2, mn2, rfl, hz20, hm20, hm21, hK8 _ _ hDp (look_new hpm4 (hK7 _ _ hDp (look_new hpm3 hd6))), (((hz6.lk (.new hpm3)).lk (.pool (hP6.new hpm3) hK7)).lk (.new hpm4)).lk (.pool (hP7.new hpm4) hK8), hP8, hK6.trans ((Kp.new hpm3).trans (hK7.trans ((Kp.new hpm4).trans hK8)))⟩
        · walk_at "rd"
          exact ⟨sz, 1 + t8, rfl, hsz0, by omega, by omega, hd6, hz6, hP6, hK6⟩
      obtain ⟨sz, mn, rfl, hsz0, hm0, hm1, hd7, hz7, hP7, hK7⟩ := hM
      walk_at "rd"
      rename_i tp htp
      have e9 : (10 : Int) ^ Int.toNat 9 = 1000000000 := by decide
      rw [e9]
      generalize hs2 : (if 1000000000 < sz then 1000000000 else sz) = s2
      refine rd_appG (look_new htp hd7) (by omega) ?_
      walk_at "rd"
      have nD : tp ≠ D := (ne_of_none hd7 htp).symm
      refine ⟨us ++ [.ref tp], ss ++ [(s2, mn)], _, _, _, rfl, upd_same, ?_, ?_, ?_, ?_, ?_⟩
      · refine SzsAt.lk (.at (look_new htp hd7)) ?_
        exact (hz7.lk (.new htp)).snoc' ⟨tp, rfl, upd_same⟩
      · intro s hs
        rcases List.mem_append.mp hs with hs | hs
        · exact ok s hs
        · rw [List.mem_singleton.mp hs]
          refine ⟨?_, ?_, hm0, hm1⟩
          · show 0 ≤ s2
            rw [← hs2]
            split <;> omega
          · show s2 ≤ 1000000000
            rw [← hs2]
            split <;> omega
      · simp [hl]
      · obtain ⟨x', y', hpl', r'⟩ := hP7.new (o := .tup [.int s2, .int mn]) htp
        exact ⟨x', y', by rw [upd_ne hDp.symm]; exact hpl', r'⟩
      · intro b o nb e
        rw [upd_ne (ne_of_none e hD)]
        exact look_new htp (hK7 b o nb e)
    · obtain ⟨us, ss, x4, x5, x6, rfl, hd, hz, ok, hl, hP3, hK3⟩ := hI
      walk_at "rd"
      exact q D us ss _ hD hd hz ok (by omega) hP3 hK3
theorem ok_holds {f : Addr} {fd : FuncData}     (D : Dn K mg "_law_holds" s_holds ["_law_sizes_here", "_law_units_here", "_law_rate", "_law_delay", "_law_store"] f fd) (bi : Bi mg)     : FnOk P w K mg base CX0 1 f fd ["_law_sizes_here", "_law_units_here", "_law_rate", "_law_delay", "_law_store"] spHolds := by
  refine D.F.ok sc_holds (fun vs H Q E h => ?_) (fun cdv A outer s H vs Q E hr h => ?_)
  · obtain ⟨a, e, us, ss, ws, r, d, st, rfl, _⟩ := h
    rfl
  · obtain ⟨a, e, us, ss, ws, r, d, st, rfl, hS, hz, hE, hl, hrr, q⟩ := h
    refine ⟨_, (pss_cons (ps_par (i := 5) (j := 6) rfl sc_holds.nd rfl rfl (by decide) rfl rfl (pa_cons pe_int (pa_cons (pv 3) pa_nil)) rfl)
 (pss_cons (ps_for PassesOwn.never rfl (pi_enumA (by rfl) bi.enumerate_ (pa_cons (pv 0) pa_nil)) (pg_tup rfl (pgs_cons (pg_name (i := 7) sc_holds.nd rfl (Or.inl rfl)) (pgs_cons (pg_name (i := 8) sc_holds.nd rfl (Or.inl rfl)) pgs_nil)))
 (pss_cons (ps_if (PW.pt (pw_and (pt_cmpR op_gt (pv 7) pe_int (nomark _)) (pw_and1 (pt_cmpR op_gt (pe_op op_sub (pv 6) (pv 5)) (pv 4) (nomark _)))))
 (pss_one (ps_ret pe_bl))
 pss_nil)
 (pss_cons (ps_set (i := 5) sc_holds.nd rfl (Or.inl rfl) (pe_op op_add (pe_op op_add (pv 5) (pe_ix ix_tup (pv 8) pe_int (fun _ _ => rfl))) (pe_ix ix_list (pv 1) (pv 7) (fun _ _ => rfl))))
 (pss_cons (ps_if (pt_cmpR op_gt (pv 5) (pv 6) (nomark _))
 (pss_one (ps_ret pe_bl))
 pss_nil)
 (pss_one (ps_set (i := 6) sc_holds.nd rfl (Or.inl rfl) (pe_op op_add (pv 6) (pe_op op_mul (pv 2) (pe_ix ix_tup (pv 8) pe_int (fun _ _ => rfl))))))))))
 (pss_one (ps_ret pe_bl)))), ?_⟩
    refine rd_start (σ := [some (.ref a), some (.ref e), some (.int r), some (.int d), some (.int st), none, none, none, none]) rfl ?_
    walk_at "rd"
    refine for_enumA (.l hS) (fun i σ H' => ∃ tot arr x y, σ = [some (.ref a), some (.ref e), some (.int r), some (.int d), some (.int st), some (.int tot), some (.int arr), x, y] ∧ Same H H' ∧ hoS r st (decide (0 < i)) (ss.drop i) (ws.drop i) tot arr = hoS r st false ss ws 0 d) ⟨_, _, _, _, rfl, Same.refl _, rfl⟩ (fun i σ H4 _ hI => ?_) (fun i v σ H4 T hv hI hT => ?_) (fun σ H4 hI => ?_)
    · obtain ⟨tot, arr, x, y, rfl, hs4, hho⟩ := hI
      exact hs4 _
    · obtain ⟨tot, arr, x, y, rfl, hs4, hho⟩ := hI
      obtain ⟨s1, es, ⟨b, rfl, eb⟩, hdr⟩ := hz.at_ i v hv
      have ilt : i < ss.length := by
        rcases Nat.lt_or_ge i ss.length with h | h
        · exact h
        · rw [List.getElem?_eq_none h] at es; cases es
      obtain ⟨w1, at1, hdw⟩ := at_dropI (ns := ws) (j := i) (z := ((i : Nat) : Int)) rfl (by omega)
      have eb' := look_new (o := .tup [.int (i : Nat), .ref b]) hT (hs4 _ _ eb)
      have eE := look_new (o := .tup [.int (i : Nat), .ref b]) hT (hs4 _ _ hE)
      have hs5 : Same H (upd H4 T (.tup [.int (i : Nat), .ref b])) := hs4.trans (same_new hT)
      rw [hdr, hdw, hoS_cons] at hho
      walk_at "rd"
      generalize upd H4 T (.tup [.int (i : Nat), .ref b]) = H5 at eb' eE hs5 ⊢
      refine rd_iteD (fun c => ?_) (fun c => ?_)
      · walk_at "rd"
        refine rd_iteD (fun c2 => ?_) (fun c2 => ?_)
        · rw [if_pos ⟨decide_eq_true (by omega), c2⟩] at hho
          walk_at "rd"
          rw [hho]
          exact q _ hs5
        · rw [if_neg (fun z => c2 z.2)] at hho
          walk_at "rd"
          refine rd_iteD (fun c3 => ?_) (fun c3 => ?_)
          · rw [if_pos c3] at hho
            walk_at "rd"
            rw [hho]
            exact q _ hs5
          · rw [if_neg c3] at hho
            walk_at "rd"
            exact ⟨_, _, _, _, rfl, hs5, hho⟩
      · rw [if_neg (fun z => c (by have := of_decide_eq_true z.1; omega))] at hho
        walk_at "rd"
        refine rd_iteD (fun c3 => ?_) (fun c3 => ?_)
        · rw [if_pos c3] at hho
          walk_at "rd"
          rw [hho]
          exact q _ hs5
        · rw [if_neg c3] at hho
          walk_at "rd"
          exact ⟨_, _, _, _, rfl, hs5, hho⟩
    · obtain ⟨tot, arr, x, y, rfl, hs4, hho⟩ := hI
      rw [hz.len, List.drop_length] at hho
      walk_at "rd"
      rw [show true = hoS r st false ss ws 0 d from by rw [← hho]; rfl]
      exact q _ hs4
theorem ok_units {f : Addr} {fd : FuncData} {f_take : Addr} {fd_take : FuncData}    (D : Dn K mg "_law_units" s_units ["_law_pool_here", "_law_sizes_here", "_law_rate", "_law_delay", "_law_store"] f fd) (bi : Bi mg) (G_take : FnOk P w K mg base CX0 1 f_take fd_take ["_law_pool_here", "_law_many"] spTakeB) (D_take : Dn K mg "_law_take" s_take ["_law_pool_here", "_law_many"] f_take fd_take)    : FnOk P w K mg base CX0 2 f fd ["_law_pool_here", "_law_sizes_here", "_law_rate", "_law_delay", "_law_store"] spUnits := by
  refine D.F.ok sc_units (fun vs H Q E h => ?_) (fun cdv A outer s H vs Q E hr h => ?_)
  · obtain ⟨p, a, us, ss, r, d, st, rfl, _⟩ := h
    rfl
  · obtain ⟨p, a, us, ss, r, d, st, rfl, hP, hS, hz, hl, hrr, q⟩ := h
    refine ⟨_, (pss_cons (ps_par3 (i := 5) (j := 6) (l := 7) rfl sc_units.nd rfl rfl rfl (by decide) (by decide) (by decide) rfl rfl rfl (pa_cons (pe_lst pa_nil) (pa_cons pe_int (pa_cons (pv 3) pa_nil))) rfl)
 (pss_cons (ps_for PassesOwn.never rfl (pi_list (pv 1)) (pg_name (i := 8) sc_units.nd rfl (Or.inl rfl))
 (pss_cons (ps_par (i := 6) (j := 7) rfl sc_units.nd rfl rfl (by decide) rfl rfl (pa_cons (pe_op op_add (pv 6) (pe_ix ix_tup (pv 8) pe_int (fun _ _ => rfl))) (pa_cons (pe_op op_add (pv 7) (pe_op op_mul (pv 2) (pe_ix ix_tup (pv 8) pe_int (fun _ _ => rfl)))) pa_nil)) rfl)
 (pss_cons (ps_set (i := 9) sc_units.nd rfl (Or.inl rfl) (pe_op op_add (pe_callB (cMax rfl) (by rfl) bi.max_ (by decide +kernel) (pa_cons pe_int (pa_cons (pe_op op_sub (pe_op op_sub (pv 7) (pv 4)) (pv 6)) pa_nil))) (pe_ix ix_list (pe_lst (pa_cons pe_int (pa_cons pe_int (pa_cons (pe_call G_take (hr.mono (by first | decide | exact Nat.le_refl _)) (by rfl) D_take.g D_take.F.kp D_take.b .nil pass0 (pa_cons (pv 0) (pa_cons pe_int pa_nil))) pa_nil)))) (pe_call G_take (hr.mono (by first | decide | exact Nat.le_refl _)) (by rfl) D_take.g D_take.F.kp D_take.b .nil pass0 (pa_cons (pv 0) (pa_cons pe_int pa_nil))) (fun _ _ => rfl))))
 (pss_cons (ps_expr (pe_bm PySem.F.plainAttrs_list PySem.F.slot_list_append PySem.F.type_list_append mt_append (pv 5) (pa_cons (pv 9) pa_nil)))
 (pss_one (ps_set (i := 6) sc_units.nd rfl (Or.inl rfl) (pe_op op_add (pv 6) (pv 9))))))))
 (pss_one (ps_ret (pv 5))))), ?_⟩
    refine rd_start (σ := [some (.ref p), some (.ref a), some (.int r), some (.int d), some (.int st), none, none, none, none, none]) rfl ?_
    walk_at "rd"
    rename_i U hU
    have hUp : U ≠ p := hP.ne hU
    have hap : a ≠ p := by
      obtain ⟨x', y', e', _⟩ := hP
      exact fun z => by
        rw [z, e'] at hS
        cases hS
        cases hz with
        | cons h _ => obtain ⟨_, z, _⟩ := h; cases z
    have haU : a ≠ U := ne_of_none hS hU
    refine rd_lpL (SqL.of (look_new hU hS)) ?_
    refine for_list (xs := us) (fun i σ H' => ∃ ws tot arr x y, σ = [some (.ref p), some (.ref a), some (.int r), some (.int d), some (.int st), some (.ref U), some (.int tot), some (.int arr), x, y] ∧ H' U = some (.lst (ws.map V.int)) ∧ ws.length = i ∧ (∀ w ∈ ws, 0 ≤ w) ∧ Pool H' p ∧ Kp p H H' ∧ SzsAt H' us ss) ⟨[], 0, d, none, none, rfl, upd_same, rfl, fun w hw => (List.not_mem_nil hw).elim, hP.new hU, Kp.new hU, hz.lk (.new hU)⟩ (fun i σ H1 _ hI => ?_) (fun i v σ H1 hv hI => ?_) (fun σ H1 hI => ?_)
    · obtain ⟨ws, tot, arr, x, y, rfl, e1, hwl, hw, hP1, hK1, hz1⟩ := hI
      exact SqL.of (hK1 _ _ hap hS)
    · obtain ⟨ws, tot, arr, x, y, rfl, e1, hwl, hw, hP1, hK1, hz1⟩ := hI
      obtain ⟨s1, es, ⟨b, rfl, eb⟩, hdr⟩ := hz1.at_ i v hv
      have ilt : i < ss.length := by
        rcases Nat.lt_or_ge i ss.length with h | h
        · exact h
        · rw [List.getElem?_eq_none h] at es; cases es
      walk_at "rd"
      rename_i t2 H2 h20 h21 hP2 hK2 pm3 hpm3 t4 H4 h40 h41 hP4 hK4
      refine' rd_ixP (fun v => ∃ j : Int, v = .int j ∧ 0 ≤ j ∧ True) ?e ?h0 ?h1 ?hP fun v hv => ?_
      (case e => exact SqL.of (by walk_at "hg"))
      (case h0 => assumption)
      (case h1 => assumption)
      (case hP => walk_at "allm")
      obtain ⟨j, rfl, hj0, _⟩ := hv
      have e4 := hK4 _ _ hUp (look_new hpm3 (hK2 _ _ hUp e1))
      have hz4 := ((hz1.lk (.pool hP1 hK2)).lk (.new hpm3)).lk (.pool (hP2.new hpm3) hK4)
      walk_at "rd"
      generalize hmo : (if arr + r * s1.2 - st - (tot + s1.1) > 0 then arr + r * s1.2 - st - (tot + s1.1) else 0) + j = mo
      have mo0 : 0 ≤ mo := by rw [← hmo]; split <;> omega
      have hPU : ∀ o, Pool (upd H4 U o) p := fun o => by
        obtain ⟨x', y', hpl', r'⟩ := hP4
        exact ⟨x', y', by rw [upd_ne hUp.symm]; exact hpl', r'⟩

      refine ⟨ws ++ [mo], _, _, _, _, rfl, upd_same, by simp [hwl], fun w hw' => ?_, hPU _, fun b' o nb e => ?_, hz4.lk (.at e4)⟩
      · rcases List.mem_append.mp hw' with h | h
        · exact hw w h
        · rw [List.mem_singleton.mp h]; exact mo0
      · rw [upd_ne (ne_of_none e hU)]
        exact hK4 _ _ nb (look_new hpm3 (hK2 _ _ nb (hK1 _ _ nb e)))
    · obtain ⟨ws, tot, arr, x, y, rfl, e1, hwl, hw, hP1, hK1, hz1⟩ := hI
      walk_at "rd"
      exact q U ws _ hU e1 (hwl.trans hz.len) hw hP1 hK1
theorem ok_least {f : Addr} {fd : FuncData}     (D : Dn K mg "_law_least" s_least ["_law_sizes_here", "_law_units_here", "_law_others"] f fd) (bi : Bi mg)     : FnOk P w K mg base CX0 1 f fd ["_law_sizes_here", "_law_units_here", "_law_others"] spLeS := by
  refine D.F.ok sc_least (fun vs H Q E h => ?_) (fun cdv A outer s H vs Q E hr h => ?_)
  · obtain ⟨a, e, g, us, ws, zs, rfl, _⟩ := h
    rfl
  · obtain ⟨a, e, g, us, ws, zs, rfl, hS, hE, hG, l1, l2, l3, q⟩ := h
    refine ⟨_, (pss_cons (ps_asg (pe_tup (pa_cons pe_int (pa_cons pe_int pa_nil))) (pg_tup rfl (pgs_cons (pg_name (i := 3) sc_least.nd rfl (Or.inl rfl)) (pgs_cons (pg_name (i := 4) sc_least.nd rfl (Or.inl rfl)) pgs_nil))))
 (pss_cons (ps_for PassesOwn.never rfl (pi_range1 (by rfl) bi.range_ (pa_cons (pe_callB cLen (by rfl) bi.len_ (by decide +kernel) (pa_cons (pv 0) pa_nil)) pa_nil)) (pg_name (i := 5) sc_least.nd rfl (Or.inl rfl))
 (pss_cons (ps_par (i := 3) (j := 4) rfl sc_least.nd rfl rfl (by decide) rfl rfl (pa_cons (pe_op op_add (pv 3) (pe_ix ix_list (pv 1) (pv 5) (fun _ _ => rfl))) (pa_cons (pe_op op_add (pv 4) (pe_ix ix_list (pv 2) (pv 5) (fun _ _ => rfl))) pa_nil)) rfl)
 (pss_one (ps_if (pt_cmpR op_gt (pv 3) (pv 4) (nomark _))
 (pss_one (ps_ret pe_bl))
 pss_nil))))
 (pss_one (ps_ret pe_bl)))), ?_⟩
    refine rd_start (σ := [some (.ref a), some (.ref e), some (.ref g), none, none, none]) rfl ?_
    walk_at "rd"
    rename_i t ht
    have hE1 := look_new (o := .tup [.int 0, .int 0]) ht hE
    have hG1 := look_new (o := .tup [.int 0, .int 0]) ht hG
    have hs1 : Same H (upd H t (.tup [.int 0, .int 0])) := same_new ht
    generalize upd H t (.tup [.int 0, .int 0]) = H1 at hE1 hG1 hs1 ⊢
    refine for_range (lo := 0) (n := ((us.length : Nat) : Int).toNat) (fun i σ H' => H' = H1 ∧ ∃ x y z, σ = [some (.ref a), some (.ref e), some (.ref g), some (.int x), some (.int y), z] ∧ leS (ws.drop i) (zs.drop i) x y = leS ws zs 0 0) ⟨rfl, 0, 0, none, rfl, rfl⟩ (fun i σ H2 hi hI => ?_) (fun σ H2 hI => ?_)
    · obtain ⟨rfl, x, y, z, rfl, hle⟩ := hI
      obtain ⟨w1, at1, d1⟩ := at_dropI (ns := ws) (j := i) (z := 0 + ((i : Nat) : Int)) (by omega) (by omega)
      obtain ⟨z1, at2, d2⟩ := at_dropI (ns := zs) (j := i) (z := 0 + ((i : Nat) : Int)) (by omega) (by omega)
      rw [d1, d2, leS_cons] at hle
      walk_at "rd"
      refine rd_iteD (fun c => ?_) (fun c => ?_)
      · rw [if_pos c] at hle
        walk_at "rd"
        rw [hle]
        exact q _ hs1
      · rw [if_neg c] at hle
        walk_at "rd"
        exact ⟨rfl, _, _, _, rfl, hle⟩
    · obtain ⟨rfl, x, y, z, rfl, hle⟩ := hI
      rw [List.drop_eq_nil_of_le (by omega), List.drop_eq_nil_of_le (by omega)] at hle
      walk_at "rd"
      rw [show true = leS ws zs 0 0 from by rw [← hle]; simp [leS]]
      exact q _ hs1
theorem ok_law {f : Addr} {fd : FuncData} {f_pool : Addr} {fd_pool : FuncData} {f_take : Addr} {fd_take : FuncData} {f_sizes : Addr} {fd_sizes : FuncData} {f_padding : Addr} {fd_padding : FuncData} {f_holds : Addr} {fd_holds : FuncData} {f_units : Addr} {fd_units : FuncData} {f_least : Addr} {fd_least : FuncData}    (D : Dn K mg "law" s_law ["_law_script"] f fd) (bi : Bi mg) (G_pool : FnOk P w K mg base CX0 1 f_pool fd_pool ["_law_script", "_law_k"] (spPool K)) (D_pool : Dn K mg "_law_pool" s_pool ["_law_script", "_law_k"] f_pool fd_pool) (G_take : FnOk P w K mg base CX0 1 f_take fd_take ["_law_pool_here", "_law_many"] spTakeB) (D_take : Dn K mg "_law_take" s_take ["_law_pool_here", "_law_many"] f_take fd_take) (G_sizes : FnOk P w K mg base CX0 2 f_sizes fd_sizes ["_law_pool_here", "_law_rate"] spSizes) (D_sizes : Dn K mg "_law_sizes" s_sizes ["_law_pool_here", "_law_rate"] f_sizes fd_sizes) (G_padding : FnOk P w K mg base CX0 5 f_padding fd_padding ["sizes", "rate", "delay", "store"] spPad) (D_padding : Dn K mg "padding" s_padding ["sizes", "rate", "delay", "store"] f_padding fd_padding) (G_holds : FnOk P w K mg base CX0 1 f_holds fd_holds ["_law_sizes_here", "_law_units_here", "_law_rate", "_law_delay", "_law_store"] spHolds) (D_holds : Dn K mg "_law_holds" s_holds ["_law_sizes_here", "_law_units_here", "_law_rate", "_law_delay", "_law_store"] f_holds fd_holds) (G_units : FnOk P w K mg base CX0 2 f_units fd_units ["_law_pool_here", "_law_sizes_here", "_law_rate", "_law_delay", "_law_store"] spUnits) (D_units : Dn K mg "_law_units" s_units ["_law_pool_here", "_law_sizes_here", "_law_rate", "_law_delay", "_law_store"] f_units fd_units) (G_least : FnOk P w K mg base CX0 1 f_least fd_least ["_law_sizes_here", "_law_units_here", "_law_others"] spLeS) (D_least : Dn K mg "_law_least" s_least ["_law_sizes_here", "_law_units_here", "_law_others"] f_least fd_least)    : FnOk P w K mg base CX0 6 f fd ["_law_script"] (spLaw K) := by
  refine D.F.ok sc_law (fun vs H Q E h => ?_) (fun cdv A outer s H vs Q E hr h => ?_)
  · obtain ⟨a, ns, rfl, _⟩ := h
    rfl
  · obtain ⟨a, ns, rfl, hS, hl, q⟩ := h
    refine ⟨_, (pss_cons (ps_for PassesOwn.never rfl (pi_range1 (by rfl) bi.range_ (pa_cons (pe_callB (cMax rfl) (by rfl) bi.max_ (by decide +kernel) (pa_cons pe_int (pa_cons (pe_callB (cMin rfl) (by rfl) bi.min_ (by decide +kernel) (pa_cons (pe_callB cLen (by rfl) bi.len_ (by decide +kernel) (pa_cons (pv 0) pa_nil)) (pa_cons pe_int pa_nil))) pa_nil))) pa_nil)) (pg_name (i := 1) sc_law.nd rfl (Or.inl rfl))
 (pss_cons (ps_set (i := 2) sc_law.nd rfl (Or.inl rfl) (pe_call G_pool (hr.mono (by first | decide | exact Nat.le_refl _)) (by rfl) D_pool.g D_pool.F.kp D_pool.b .nil pass0 (pa_cons (pv 0) (pa_cons (pv 1) pa_nil))))
 (pss_cons (ps_set (i := 3) sc_law.nd rfl (Or.inl rfl) (pe_ix ix_list (pe_lst (pa_cons pe_int (pa_cons pe_int (pa_cons (pe_call G_take (hr.mono (by first | decide | exact Nat.le_refl _)) (by rfl) D_take.g D_take.F.kp D_take.b .nil pass0 (pa_cons (pv 2) (pa_cons pe_int pa_nil))) (pa_cons (pe_op op_pow pe_int pe_int) pa_nil))))) (pe_call G_take (hr.mono (by first | decide | exact Nat.le_refl _)) (by rfl) D_take.g D_take.F.kp D_take.b .nil pass0 (pa_cons (pv 2) (pa_cons pe_int pa_nil))) (fun _ _ => rfl)))
 (pss_cons (ps_set (i := 4) sc_law.nd rfl (Or.inl rfl) (pe_call G_sizes (hr.mono (by first | decide | exact Nat.le_refl _)) (by rfl) D_sizes.g D_sizes.F.kp D_sizes.b .nil pass0 (pa_cons (pv 2) (pa_cons (pv 3) pa_nil))))
 (pss_cons (ps_par (i := 5) (j := 6) rfl sc_law.nd rfl rfl (by decide) rfl rfl (pa_cons (pe_call G_take (hr.mono (by first | decide | exact Nat.le_refl _)) (by rfl) D_take.g D_take.F.kp D_take.b .nil pass0 (pa_cons (pv 2) (pa_cons pe_int pa_nil))) (pa_cons (pe_ix ix_list (pe_lst (pa_cons (pe_call G_take (hr.mono (by first | decide | exact Nat.le_refl _)) (by rfl) D_take.g D_take.F.kp D_take.b .nil pass0 (pa_cons (pv 2) (pa_cons pe_int pa_nil))) (pa_cons (pe_op op_pow pe_int pe_int) pa_nil))) (pe_callTy cInt (by rfl) bi.int_ (by decide +kernel) (pa_cons (pe_cmpR op_eq (pe_call G_take (hr.mono (by first | decide | exact Nat.le_refl _)) (by rfl) D_take.g D_take.F.kp D_take.b .nil pass0 (pa_cons (pv 2) (pa_cons pe_int pa_nil))) pe_int (nomark _)) pa_nil)) (fun _ _ => rfl)) pa_nil)) rfl)
 (pss_cons (ps_set (i := 7) sc_law.nd rfl (Or.inl rfl) (pe_call G_padding (hr.mono (by first | decide | exact Nat.le_refl _)) (by rfl) D_padding.g D_padding.F.kp D_padding.b .nil pass0 (pa_cons (pe_callTy cList (by rfl) bi.list_ (by decide +kernel) (pa_cons (pv 4) pa_nil)) (pa_cons (pv 3) (pa_cons (pv 5) (pa_cons (pv 6) pa_nil))))))
 (pss_cons (ps_set (i := 8) sc_law.nd rfl (Or.inl rfl) (pe_lst (pa_cons (pe_lc (own := [("_law_item", 9)]) (g := gName 9) (tt := tYes) rfl sc_law.nd (pi_list (pv 4)) (blkOk_by (N := ["_law_script", "_law_k", "_law_pool_here", "_law_speed", "_law_rows", "_law_wait", "_law_hold", "_law_found", "_law_tries", "_law_item", "_law_turn", "_law_one", "_law_units_here"]) (sc := defScope s_law) (by decide +kernel)) (fun _ _ _ _ _ => pg_name (i := 9) sc_law.nd rfl (Or.inl rfl)) (fun _ _ _ _ _ => pts_nil) (fun _ _ _ _ _ => pe_int)) pa_nil)))
 (pss_cons (ps_for PassesOwn.never rfl (pi_range1 (by rfl) bi.range_ (pa_cons pe_int pa_nil)) (pg_name (i := 10) sc_law.nd rfl (Or.inl rfl))
 (pss_one (ps_expr (pe_bm PySem.F.plainAttrs_list PySem.F.slot_list_append PySem.F.type_list_append mt_append (pv 8) (pa_cons (pe_call G_units (hr.mono (by first | decide | exact Nat.le_refl _)) (by rfl) D_units.g D_units.F.kp D_units.b .nil pass0 (pa_cons (pv 2) (pa_cons (pv 4) (pa_cons (pv 3) (pa_cons (pv 5) (pa_cons (pv 6) pa_nil)))))) pa_nil)))))
 (C8.pss_cut (ps_if (pt_val (pe_callB call_isi (by rfl) bi.isinstance_ (by decide +kernel) (pa_cons (pv 7) (pa_cons (pe_bltn (v := .ty "list") (by rfl) bi.list_ (by decide +kernel) rfl) pa_nil))))
 (pss_cons (ps_if (PW.pt (pw_or (pt_cmpR op_ne (pe_callB cLen (by rfl) bi.len_ (by decide +kernel) (pa_cons (pv 7) pa_nil)) (pe_callB cLen (by rfl) bi.len_ (by decide +kernel) (pa_cons (pv 4) pa_nil)) (nomark _)) (pw_or1 (pt_cmpR (op_neD hr.units) (pe_lc (own := [("_law_one", 11)]) (g := gName 11) (tt := _) rfl sc_law.nd (pi_list (pv 7)) (blkOk_by (N := ["_law_script", "_law_k", "_law_pool_here", "_law_speed", "_law_rows", "_law_wait", "_law_hold", "_law_found", "_law_tries", "_law_item", "_law_turn", "_law_one", "_law_units_here"]) (sc := defScope s_law) (by decide +kernel)) (fun _ _ _ _ _ => pg_name (i := 11) sc_law.nd rfl (Or.inl rfl)) (fun _ _ _ _ _ => (pts_one (PW.pt (pw_or (pt_not (pt_val (pe_callB (show CallR _ (.builtin "isinstance") (rIsi K) from call_isi) (by rfl) bi.isinstance_ (by decide +kernel) (pa_cons (pv 11) (pa_cons (pe_bltn (v := .ty "int") (by rfl) bi.int_ (by decide +kernel) rfl) pa_nil))))) (pw_or1 (pt_cmpR op_lt (pv 11) pe_int (nomark _))))))) (fun _ _ _ _ _ => (pv 11))) (pe_lst pa_nil) (nomark _)))))
 (pss_one (ps_ret pe_bl))
 pss_nil)
 (pss_one (ps_if (pt_not (pt_val (pe_call G_holds (hr.mono (by first | decide | exact Nat.le_refl _)) (by rfl) D_holds.g D_holds.F.kp D_holds.b .nil pass0 (pa_cons (pv 4) (pa_cons (pv 7) (pa_cons (pv 3) (pa_cons (pv 5) (pa_cons (pv 6) pa_nil))))))))
 (pss_one (ps_ret pe_bl))
 pss_nil)))
 pss_nil)
 (pss_one (ps_for PassesOwn.never rfl (pi_list (pv 8)) (pg_name (i := 12) sc_law.nd rfl (Or.inl rfl))
 (pss_one (ps_if (pt_val (pe_call G_holds (hr.mono (by first | decide | exact Nat.le_refl _)) (by rfl) D_holds.g D_holds.F.kp D_holds.b .nil pass0 (pa_cons (pv 4) (pa_cons (pv 12) (pa_cons (pv 3) (pa_cons (pv 5) (pa_cons (pv 6) pa_nil)))))))
 (pss_one (ps_if (PW.pt (pw_or (pt_not (pt_val (pe_callB call_isi (by rfl) bi.isinstance_ (by decide +kernel) (pa_cons (pv 7) (pa_cons (pe_bltn (v := .ty "list") (by rfl) bi.list_ (by decide +kernel) rfl) pa_nil))))) (pw_or1 (pt_not (pt_val (pe_call G_least (hr.mono (by first | decide | exact Nat.le_refl _)) (by rfl) D_least.g D_least.F.kp D_least.b .nil pass0 (pa_cons (pv 4) (pa_cons (pv 7) (pa_cons (pv 12) pa_nil)))))))))
 (pss_one (ps_ret pe_bl))
 pss_nil))
 pss_nil)))))))))))))
 (pss_one (ps_ret pe_bl))), ?_⟩
    refine rd_start (σ := [some (.ref a), none, none, none, none, none, none, none, none, none, none, none, none]) rfl ?_
    walk_at "rd"
    have hn := mm_nat (ns.map V.int).length 24 (by decide)
    refine for_range (lo := 0) (n := _) (fun i σ H' => ∃ x1 x2 x3 x4 x5 x6 x7 x8 x9 x10 x11 x12, σ = [some (.ref a), x1, x2, x3, x4, x5, x6, x7, x8, x9, x10, x11, x12] ∧ Same H H') ⟨_, _, _, _, _, _, _, _, _, _, _, _, rfl, by walk_at "sm"⟩ (fun i σ H1 hi hI => ?_) (fun σ H1 hI => ?_)
    · obtain ⟨x1, x2, x3, x4, x5, x6, x7, x8, x9, x10, x11, x12, rfl, hs⟩ := hI
      have hi' : i < 24 := Nat.lt_of_lt_of_le hi hn
      have hS1 : SqL K H1 a (ns.map V.int) := hs.seq hS
      walk_at "rd"
      rename_i p H2 hp0 hs2 hP2 t3 H3 h30 h31 hP3 hK3 pm hpm t4 H4 h40 h41 hP4 hK4
      refine' rd_ixP (fun v => ∃ j : Int, v = .int j ∧ 0 ≤ j ∧ j ≤ 1000000000) ?e ?h0 ?h1 ?hP fun v hv => ?_
      (case e => exact SqL.of (by walk_at "hg"))
      (case h0 => assumption)
      (case h1 => assumption)
      (case hP => walk_at "allm")
      obtain ⟨r, rfl, hr0, hr1⟩ := hv
      walk_at "rd"
      refine use_sizes hP4 hr0 hr1 fun D us ss H5 hD eD hz ok hl hP5 hK5 => ?_
      walk_at "rd"
      rename_i t5 H6 h50 h51 hP6 hK6 t6 H7 h60 h61 hP7 hK7 pm8 hpm8 t8 H8 h80 h81 hP8 hK8
      refine' rd_ixP (fun v => ∃ j : Int, v = .int j ∧ 0 ≤ j ∧ j ≤ 1000000000) ?e ?h0 ?h1 ?hP fun v hv => ?_
      (case e => exact SqL.of (by walk_at "hg"))
      (case h0 => split <;> omega)
      (case h1 => show _ < (2 : Int); split <;> omega)
      (case hP => walk_at "allm")
      obtain ⟨st, rfl, hst0, hst1⟩ := hv
      have hDp : D ≠ p := hP4.ne hD
      have hd8 : H8 D = some (.lst us) := hK8 _ _ hDp (look_new hpm8 (hK7 _ _ hDp (hK6 _ _ hDp eD)))
      have hz8 : SzsAt H8 us ss := hz.lk (((LKT.pool hP5 hK6).trans (LKT.pool hP6 hK7)).trans ((LKT.new hpm8).trans (LKT.pool (hP7.new hpm8) hK8)))
      have hK28 : Kp p H2 H8 := (hK3.trans ((Kp.new hpm).trans (hK4.trans hK5))).trans (hK6.trans (hK7.trans ((Kp.new hpm8).trans hK8)))
      have ssl := hz.len
      have ssl2 : ss.length ≤ 100 := by omega
      walk_at "rd"
      rename_i G9 hG9
      refine use_pad (.l upd_same) (hz8.lk (.new hG9)) ok ssl2 ⟨hr0, hr1⟩ ⟨h50, by omega⟩ ⟨hst0, hst1⟩ fun fv H10 hs10 nfv hfv => ?_
      have nfp : fv ≠ .ref p := fun z => by
        have e := nfv p z
        obtain ⟨x', y', e', _⟩ := hP8.new (o := .lst us) hG9
        rw [e'] at e
        cases e
      have s810 : Same H8 H10 := (same_new hG9).trans hs10
      have hd10 := s810 _ _ hd8
      have hz10 := hz8.same s810
      have hP10 := hP8.same s810
      have hK10 : Kp p H2 H10 := hK28.trans (.of s810)
      walk_at "rd"
      refine rd_lcP (SqL.of hd10) fun D0 hD0 => ?_
      refine lc_mapV (fun _ => .int 0) (SqL.of hd10) (by omega) (fun _ => rfl) hD0 (fun z hz H Q' s hq => by walk_at "rd"; exact hq) fun H11 hs11 e11 => ?_
      walk_at "rd"
      rename_i T hT
      have e0 : us.map (fun _ => V.int 0) = (ss.map fun _ => (0 : Int)).map V.int := by
        rw [List.map_map]
        have : ∀ (us : List V) (ss : List Sz), us.length = ss.length → us.map (fun _ => V.int 0) = ss.map (V.int ∘ fun _ => (0 : Int)) := by
          intro us
          induction us with
          | nil => intro ss h; cases ss with | nil => rfl | cons _ _ => simp at h
          | cons u us ih => intro ss h; cases ss with | nil => simp at h | cons s ss => exact congrArg (V.int 0 :: ·) (ih ss (by simpa using h))
        exact this us ss ssl
      rw [e0] at e11
      have hK12 : Kp p H2 (upd H11 T (.lst [.ref D0])) := hK10.trans ((Kp.of hs11).trans (Kp.new hT))
      have hP11 := hP10.same hs11
      have hTp : T ≠ p := hP11.ne hT
      have s1012 : Same H10 (upd H11 T (.lst [.ref D0])) := hs11.trans (same_new hT)
      have hD0p : D0 ≠ p := hP10.ne hD0
      have hD0T : D0 ≠ T := ne_of_none e11 hT
      have hDT : D ≠ T := ne_of_none (hs11 _ _ hd10) hT
      have fT2 : H10 T = none := hs11.free hT
      have nfT : fv ≠ .ref T := by
        intro z
        rw [z] at hfv
        cases hx : pdF r st ss t5 with
        | inl vs => rw [hx] at hfv; obtain ⟨D1, e1, h1⟩ := hfv; cases e1; rw [fT2] at h1; cases h1
        | inr vs => rw [hx] at hfv; obtain ⟨D1, e1, h1⟩ := hfv; cases e1; rw [fT2] at h1; cases h1
      refine for_range (lo := 0) (n := 3) (fun j σ H' => ∃ x y zs, σ = [some (.ref a), some (.int (0 + (i : Int))), some (.ref p), some (.int r), some (.ref D), some (.int t5), some (.int st), some fv, some (.ref T), x, y, x11, x12] ∧ H' T = some (.lst zs) ∧ zs.length ≤ 10 * (j + 1) ∧ (∀ v ∈ zs, ∃ (E : Addr) (ws : List Int), v = .ref E ∧ E ≠ p ∧ E ≠ T ∧ H' E = some (.lst (ws.map V.int)) ∧ ws.length = ss.length ∧ ∀ w ∈ ws, 0 ≤ w) ∧ Pool H' p ∧ Kp p H2 H' ∧ H' D = some (.lst us) ∧ SzsAt H' us ss ∧ PdAt H' fv (pdF r st ss t5)) ⟨_, _, [.ref D0], rfl, upd_same, by simp, fun v hv => ⟨D0, _, List.mem_singleton.mp hv, hD0p, hD0T, look_new hT e11, by simp, fun w hw => by obtain ⟨_, _, rfl⟩ := List.mem_map.mp hw; exact Int.le_refl 0⟩, hP11.new hT, hK12, s1012 _ _ hd10, hz10.same s1012, hfv.same s1012⟩ (fun j σ H12 hj hI => ?_) (fun σ H12 hI => ?_)
      · obtain ⟨x, y, zs, rfl, eT, hzl, hzs, hP12, hK12, hd12, hz12, hfv12⟩ := hI
        walk_at "rd"
        refine use_units hP12 hd12 hz12 ssl2 ⟨hr0, hr1⟩ fun E ws H13 hE eE hwl hwn hP13 hK13 => ?_
        have eT13 := hK13 _ _ hTp eT
        have hET : E ≠ T := fun z => by rw [z, eT] at hE; cases hE
        walk_at "rd"
        refine rd_appG eT13 (by omega) ?_
        walk_at "rd"
        have hu : ∀ {o}, H13 T = some o → True := fun _ => trivial
        have kT : Kp T H13 (upd H13 T (.lst (zs ++ [.ref E]))) := Kp.at
        refine ⟨_, _, zs ++ [.ref E], rfl, upd_same, by simp; omega, fun v hv => ?_, pool_at hTp hP13, fun b o nb e => ?_, kT _ _ hDT (hK13 _ _ hDp hd12), (hz12.lk (.pool hP12 hK13)).lk (.at eT13), ?_⟩
        · rcases List.mem_append.mp hv with hv | hv
          · obtain ⟨E1, ws1, q1, q2, q3, q4, q5, q6⟩ := hzs v hv
            exact ⟨E1, ws1, q1, q2, q3, kT _ _ q3 (hK13 _ _ q2 q4), q5, q6⟩
          · exact ⟨E, ws, List.mem_singleton.mp hv, hP12.ne hE, hET, kT _ _ hET eE, hwl, hwn⟩
        · have hTn : H2 T = none := by
            rcases hh : H2 T with _ | o2
            · rfl
            · exact absurd (hK10 _ _ hTp hh) (by rw [fT2]; exact fun z => nomatch z)
          rw [upd_ne (ne_of_none e hTn)]
          exact hK13 _ _ nb (hK12 b o nb e)
        · exact (hfv12.kp hK13 nfp).kp kT nfT
      · obtain ⟨x, y, zs, rfl, eT, hzl, hzs, hP12, hK12, hd12, hz12, hfv12⟩ := hI
        refine rd_cut (fun σ' H' => σ' = [some (.ref a), some (.int (0 + (i : Int))), some (.ref p), some (.int r), some (.ref D), some (.int t5), some (.int st), some fv, some (.ref T), x, y, x11, x12] ∧ Same H12 H') ?_ fun σ' H14 hM => ?_
        · cases hpd : pdF r st ss t5 with
          | inr pr =>
            rw [hpd] at hfv12
            obtain ⟨F, rfl, eF⟩ := hfv12
            walk_at "rd"
            exact ⟨rfl, .refl _⟩
          | inl ws =>
            rw [hpd] at hfv12
            obtain ⟨F, rfl, eF⟩ := hfv12
            obtain ⟨pl, pn, ph⟩ := pd_holds r st ss 0 0 0 t5 ws false hpd (fun z => by cases z)
            walk_at "rd"
            refine if_noN (congrArg V.int (by simp; omega)) ?_
            walk_at "rd"
            refine rd_lcP (SqL.of eF) fun D1 hD1 => ?_
            refine lc_noneV (SqL.of eF) (fun _ => rfl) hD1 (fun z hz H Q' s hq => ?_) fun H13 hs13 e13 => ?_
            · obtain ⟨w, hw, rfl⟩ := List.mem_map.mp hz
              walk_at "rd"
              rw [decide_eq_false (by have := pn w hw; omega)]
              exact hq
            walk_at "rd"
            rename_i N hN
            have s14 : Same H12 (upd H13 N (.lst [])) := hs13.trans (same_new hN)
            refine rd_neN (ns := []) (SqL.of (look_new hN e13)) (SqL.of upd_same) ?_
            generalize upd H13 N (.lst []) = H14 at s14
            walk_at "rd"
            refine if_noN rfl ?_
            walk_at "rd"
            refine use_holds (s14 _ _ hd12) (hz12.same s14) (s14 _ _ eF) pl ⟨hr0, hr1⟩ fun H15 hs15 => ?_
            rw [ph]
            walk_at "rd"
            exact ⟨rfl, s14.trans hs15⟩
        obtain ⟨rfl, hs14⟩ := hM
        walk_at "rd"
        refine rd_lpL (SqL.of (hs14 _ _ eT)) ?_
        refine for_list (xs := zs) (fun j σ H' => ∃ z, σ = [some (.ref a), some (.int (0 + (i : Int))), some (.ref p), some (.int r), some (.ref D), some (.int t5), some (.int st), some fv, some (.ref T), x, y, x11, z] ∧ Same H12 H') ⟨_, rfl, hs14⟩ (fun j σ H1 _ hI => ?_) (fun j v σ H15 hv hI => ?_) (fun σ H15 hI => ?_)
        · obtain ⟨z, rfl, hs15⟩ := hI
          exact SqL.of (hs15 _ _ eT)
        · obtain ⟨z, rfl, hs15⟩ := hI
          obtain ⟨E, ws, rfl, _, _, eE, wl, wn⟩ := hzs v (List.mem_of_getElem? hv)
          walk_at "rd"
          refine use_holds (hs15 _ _ hd12) (hz12.same hs15) (hs15 _ _ eE) wl ⟨hr0, hr1⟩ fun H16 hs16 => ?_
          have hs1216 := hs15.trans hs16
          cases hho : hoS r st false ss ws 0 t5 with
          | false =>
            walk_at "rd"
            exact ⟨_, rfl, hs1216⟩
          | true =>
            obtain ⟨vs, hvs, hle⟩ := pd_least r st ss 0 0 0 0 t5 ws false 0 0 wl wn (Int.le_refl 0) rfl hho
            rw [show pdF r st ss t5 = .inl vs from hvs] at hfv12
            obtain ⟨F, rfl, eF⟩ := hfv12
            obtain ⟨pl, _, _⟩ := pd_holds r st ss 0 0 0 t5 vs false hvs (fun z => by cases z)
            have eF16 := hs1216 _ _ eF
            walk_at "rd"
            refine use_leS (hs1216 _ _ hd12) eF16 (hs1216 _ _ eE) (by omega) (by omega) (by omega) fun H17 hs17 => ?_
            rw [hle]
            walk_at "rd"
            exact ⟨_, rfl, hs1216.trans hs17⟩
        · obtain ⟨z, rfl, hs15⟩ := hI
          walk_at "rd"
          exact ⟨_, _, _, _, _, _, _, _, _, _, _, _, rfl, close_turn hs hp0 hs2 (hK12.trans (.of hs15))⟩
    · obtain ⟨x1, x2, x3, x4, x5, x6, x7, x8, x9, x10, x11, x12, rfl, hs⟩ := hI
      walk_at "rd"
      exact q _
end
theorem all_mk {l : PySem.W.OpenLaw} {w : World} {K : PySem.W.Frag} {h : Heap} {mg : Str → Option Value} {fa : Addr} (X : K.In h) (G : h.Ns mainGlobals mg) (hfa : mg "law" = some (.ref fa))
    {f_is_integer : Addr} {od_is_integer an_is_integer : Option Addr} {sl_is_integer : Array (Option Value)} {oc_is_integer kV_is_integer dc_is_integer pm_is_integer cd_is_integer ct_is_integer : Value}
    {f_is_within : Addr} {od_is_within an_is_within : Option Addr} {sl_is_within : Array (Option Value)} {oc_is_within kV_is_within dc_is_within pm_is_within cd_is_within ct_is_within : Value}
    {f_check_within : Addr} {od_check_within an_check_within : Option Addr} {sl_check_within : Array (Option Value)} {oc_check_within kV_check_within dc_check_within pm_check_within cd_check_within ct_check_within : Value}
    {f_check_sizes : Addr} {od_check_sizes an_check_sizes : Option Addr} {sl_check_sizes : Array (Option Value)} {oc_check_sizes kV_check_sizes dc_check_sizes pm_check_sizes cd_check_sizes ct_check_sizes : Value}
    {f_is_size : Addr} {od_is_size an_is_size : Option Addr} {sl_is_size : Array (Option Value)} {oc_is_size kV_is_size dc_is_size pm_is_size cd_is_size ct_is_size : Value}
    {f_padding : Addr} {od_padding an_padding : Option Addr} {sl_padding : Array (Option Value)} {oc_padding kV_padding dc_padding pm_padding cd_padding ct_padding : Value}
    {f_pool : Addr} {od_pool an_pool : Option Addr} {sl_pool : Array (Option Value)} {oc_pool kV_pool dc_pool pm_pool cd_pool ct_pool : Value}
    {f_take : Addr} {od_take an_take : Option Addr} {sl_take : Array (Option Value)} {oc_take kV_take dc_take pm_take cd_take ct_take : Value}
    {f_sizes : Addr} {od_sizes an_sizes : Option Addr} {sl_sizes : Array (Option Value)} {oc_sizes kV_sizes dc_sizes pm_sizes cd_sizes ct_sizes : Value}
    {f_holds : Addr} {od_holds an_holds : Option Addr} {sl_holds : Array (Option Value)} {oc_holds kV_holds dc_holds pm_holds cd_holds ct_holds : Value}
    {f_units : Addr} {od_units an_units : Option Addr} {sl_units : Array (Option Value)} {oc_units kV_units dc_units pm_units cd_units ct_units : Value}
    {f_least : Addr} {od_least an_least : Option Addr} {sl_least : Array (Option Value)} {oc_least kV_least dc_least pm_least cd_least ct_least : Value}
    {f_law : Addr} {od_law an_law : Option Addr} {sl_law : Array (Option Value)} {oc_law kV_law dc_law pm_law cd_law ct_law : Value}
    {t_BUDGET_LIMIT : Tok}
    (a_is_integer : PySem.W.nsIn K mainGlobals "is_integer" = some (some (.ref f_is_integer))) (l_is_integer : K.lookup f_is_integer = some ⟨oc_is_integer, od_is_integer, .func (PySem.W.fnOf "is_integer" "is_integer" (defArgs s_is_integer) (defBody s_is_integer) (defScope s_is_integer) .none kV_is_integer dc_is_integer pm_is_integer an_is_integer cd_is_integer ct_is_integer), sl_is_integer⟩) (c_is_integer : PySem.W.codeIn K cd_is_integer "is_integer" = true) (k_is_integer : PySem.W.keepIn K (.ref f_is_integer) = true)
    (a_is_within : PySem.W.nsIn K mainGlobals "is_within" = some (some (.ref f_is_within))) (l_is_within : K.lookup f_is_within = some ⟨oc_is_within, od_is_within, .func (PySem.W.fnOf "is_within" "is_within" (defArgs s_is_within) (defBody s_is_within) (defScope s_is_within) .none kV_is_within dc_is_within pm_is_within an_is_within cd_is_within ct_is_within), sl_is_within⟩) (c_is_within : PySem.W.codeIn K cd_is_within "is_within" = true) (k_is_within : PySem.W.keepIn K (.ref f_is_within) = true)
    (a_check_within : PySem.W.nsIn K mainGlobals "check_within" = some (some (.ref f_check_within))) (l_check_within : K.lookup f_check_within = some ⟨oc_check_within, od_check_within, .func (PySem.W.fnOf "check_within" "check_within" (defArgs s_check_within) (defBody s_check_within) (defScope s_check_within) .none kV_check_within dc_check_within pm_check_within an_check_within cd_check_within ct_check_within), sl_check_within⟩) (c_check_within : PySem.W.codeIn K cd_check_within "check_within" = true) (k_check_within : PySem.W.keepIn K (.ref f_check_within) = true)
    (a_check_sizes : PySem.W.nsIn K mainGlobals "check_sizes" = some (some (.ref f_check_sizes))) (l_check_sizes : K.lookup f_check_sizes = some ⟨oc_check_sizes, od_check_sizes, .func (PySem.W.fnOf "check_sizes" "check_sizes" (defArgs s_check_sizes) (defBody s_check_sizes) (defScope s_check_sizes) .none kV_check_sizes dc_check_sizes pm_check_sizes an_check_sizes cd_check_sizes ct_check_sizes), sl_check_sizes⟩) (c_check_sizes : PySem.W.codeIn K cd_check_sizes "check_sizes" = true) (k_check_sizes : PySem.W.keepIn K (.ref f_check_sizes) = true)
    (a_is_size : PySem.W.nsIn K mainGlobals "is_size" = some (some (.ref f_is_size))) (l_is_size : K.lookup f_is_size = some ⟨oc_is_size, od_is_size, .func (PySem.W.fnOf "is_size" "is_size" (defArgs s_is_size) (defBody s_is_size) (defScope s_is_size) .none kV_is_size dc_is_size pm_is_size an_is_size cd_is_size ct_is_size), sl_is_size⟩) (c_is_size : PySem.W.codeIn K cd_is_size "is_size" = true) (k_is_size : PySem.W.keepIn K (.ref f_is_size) = true)
    (a_padding : PySem.W.nsIn K mainGlobals "padding" = some (some (.ref f_padding))) (l_padding : K.lookup f_padding = some ⟨oc_padding, od_padding, .func (PySem.W.fnOf "padding" "padding" (defArgs s_padding) (defBody s_padding) (defScope s_padding) .none kV_padding dc_padding pm_padding an_padding cd_padding ct_padding), sl_padding⟩) (c_padding : PySem.W.codeIn K cd_padding "padding" = true) (k_padding : PySem.W.keepIn K (.ref f_padding) = true)
    (a_pool : PySem.W.nsIn K mainGlobals "_law_pool" = some (some (.ref f_pool))) (l_pool : K.lookup f_pool = some ⟨oc_pool, od_pool, .func (PySem.W.fnOf "_law_pool" "_law_pool" (defArgs s_pool) (defBody s_pool) (defScope s_pool) .none kV_pool dc_pool pm_pool an_pool cd_pool ct_pool), sl_pool⟩) (c_pool : PySem.W.codeIn K cd_pool "_law_pool" = true) (k_pool : PySem.W.keepIn K (.ref f_pool) = true)
    (a_take : PySem.W.nsIn K mainGlobals "_law_take" = some (some (.ref f_take))) (l_take : K.lookup f_take = some ⟨oc_take, od_take, .func (PySem.W.fnOf "_law_take" "_law_take" (defArgs s_take) (defBody s_take) (defScope s_take) .none kV_take dc_take pm_take an_take cd_take ct_take), sl_take⟩) (c_take : PySem.W.codeIn K cd_take "_law_take" = true) (k_take : PySem.W.keepIn K (.ref f_take) = true)
    (a_sizes : PySem.W.nsIn K mainGlobals "_law_sizes" = some (some (.ref f_sizes))) (l_sizes : K.lookup f_sizes = some ⟨oc_sizes, od_sizes, .func (PySem.W.fnOf "_law_sizes" "_law_sizes" (defArgs s_sizes) (defBody s_sizes) (defScope s_sizes) .none kV_sizes dc_sizes pm_sizes an_sizes cd_sizes ct_sizes), sl_sizes⟩) (c_sizes : PySem.W.codeIn K cd_sizes "_law_sizes" = true) (k_sizes : PySem.W.keepIn K (.ref f_sizes) = true)
    (a_holds : PySem.W.nsIn K mainGlobals "_law_holds" = some (some (.ref f_holds))) (l_holds : K.lookup f_holds = some ⟨oc_holds, od_holds, .func (PySem.W.fnOf "_law_holds" "_law_holds" (defArgs s_holds) (defBody s_holds) (defScope s_holds) .none kV_holds dc_holds pm_holds an_holds cd_holds ct_holds), sl_holds⟩) (c_holds : PySem.W.codeIn K cd_holds "_law_holds" = true) (k_holds : PySem.W.keepIn K (.ref f_holds) = true)
    (a_units : PySem.W.nsIn K mainGlobals "_law_units" = some (some (.ref f_units))) (l_units : K.lookup f_units = some ⟨oc_units, od_units, .func (PySem.W.fnOf "_law_units" "_law_units" (defArgs s_units) (defBody s_units) (defScope s_units) .none kV_units dc_units pm_units an_units cd_units ct_units), sl_units⟩) (c_units : PySem.W.codeIn K cd_units "_law_units" = true) (k_units : PySem.W.keepIn K (.ref f_units) = true)
    (a_least : PySem.W.nsIn K mainGlobals "_law_least" = some (some (.ref f_least))) (l_least : K.lookup f_least = some ⟨oc_least, od_least, .func (PySem.W.fnOf "_law_least" "_law_least" (defArgs s_least) (defBody s_least) (defScope s_least) .none kV_least dc_least pm_least an_least cd_least ct_least), sl_least⟩) (c_least : PySem.W.codeIn K cd_least "_law_least" = true) (k_least : PySem.W.keepIn K (.ref f_least) = true)
    (a_law : PySem.W.nsIn K mainGlobals "law" = some (some (.ref f_law))) (l_law : K.lookup f_law = some ⟨oc_law, od_law, .func (PySem.W.fnOf "law" "law" (defArgs s_law) (defBody s_law) (defScope s_law) .none kV_law dc_law pm_law an_law cd_law ct_law), sl_law⟩) (c_law : PySem.W.codeIn K cd_law "law" = true) (k_law : PySem.W.keepIn K (.ref f_law) = true)
    (a_BUDGET_LIMIT : PySem.W.nsIn K mainGlobals "BUDGET_LIMIT" = some (some (.int 1000000000 t_BUDGET_LIMIT)))
    (z_int : PySem.W.nsIn K mainGlobals "int" = some none)
    (z_bool : PySem.W.nsIn K mainGlobals "bool" = some none)
    (z_str : PySem.W.nsIn K mainGlobals "str" = some none)
    (z_list : PySem.W.nsIn K mainGlobals "list" = some none)
    (z_tuple : PySem.W.nsIn K mainGlobals "tuple" = some none)
    (z_len : PySem.W.nsIn K mainGlobals "len" = some none)
    (z_abs : PySem.W.nsIn K mainGlobals "abs" = some none)
    (z_max : PySem.W.nsIn K mainGlobals "max" = some none)
    (z_min : PySem.W.nsIn K mainGlobals "min" = some none)
    (z_range : PySem.W.nsIn K mainGlobals "range" = some none)
    (z_zip : PySem.W.nsIn K mainGlobals "zip" = some none)
    (z_isinstance : PySem.W.nsIn K mainGlobals "isinstance" = some none)
    (z_enumerate : PySem.W.nsIn K mainGlobals "enumerate" = some none)
    (z_reversed : PySem.W.nsIn K mainGlobals "reversed" = some none)
    : ∃ fd : FuncData, (∀ (s : Shared) (v : Value), BindsTo s fd ⟨[v], []⟩ [("_law_script", v)]) ∧ ∀ base : Heap, K.In base → base.Ns mainGlobals mg → FnOk l.prog w K mg base CX0 6 fa fd ["_law_script"] (spLaw K) := by
  have e := hfa.symm.trans (PySem.W.mg_of X G a_law)
  cases e
  have bi : Bi mg := ⟨PySem.W.mg_none_of X G z_int, PySem.W.mg_none_of X G z_bool, PySem.W.mg_none_of X G z_str, PySem.W.mg_none_of X G z_list, PySem.W.mg_none_of X G z_tuple, PySem.W.mg_none_of X G z_len, PySem.W.mg_none_of X G z_abs, PySem.W.mg_none_of X G z_max, PySem.W.mg_none_of X G z_min, PySem.W.mg_none_of X G z_range, PySem.W.mg_none_of X G z_zip, PySem.W.mg_none_of X G z_isinstance, PySem.W.mg_none_of X G z_enumerate, PySem.W.mg_none_of X G z_reversed⟩
  have F_is_integer := fun_mk (st := s_is_integer) l_is_integer c_is_integer k_is_integer
  have D_is_integer : Dn K mg "is_integer" s_is_integer ["value"] _ _ := ⟨F_is_integer, PySem.W.mg_of X G a_is_integer, F_is_integer.binds (ps := ["value"]) fun _ _ _ _ _ _ us hl => match us, hl with | [_], _ => rfl⟩
  have F_is_within := fun_mk (st := s_is_within) l_is_within c_is_within k_is_within
  have D_is_within : Dn K mg "is_within" s_is_within ["value", "low", "high"] _ _ := ⟨F_is_within, PySem.W.mg_of X G a_is_within, F_is_within.binds (ps := ["value", "low", "high"]) fun _ _ _ _ _ _ us hl => match us, hl with | [_, _, _], _ => rfl⟩
  have F_check_within := fun_mk (st := s_check_within) l_check_within c_check_within k_check_within
  have D_check_within : Dn K mg "check_within" s_check_within ["value", "low", "high"] _ _ := ⟨F_check_within, PySem.W.mg_of X G a_check_within, F_check_within.binds (ps := ["value", "low", "high"]) fun _ _ _ _ _ _ us hl => match us, hl with | [_, _, _], _ => rfl⟩
  have F_check_sizes := fun_mk (st := s_check_sizes) l_check_sizes c_check_sizes k_check_sizes
  have D_check_sizes : Dn K mg "check_sizes" s_check_sizes ["sizes"] _ _ := ⟨F_check_sizes, PySem.W.mg_of X G a_check_sizes, F_check_sizes.binds (ps := ["sizes"]) fun _ _ _ _ _ _ us hl => match us, hl with | [_], _ => rfl⟩
  have F_is_size := fun_mk (st := s_is_size) l_is_size c_is_size k_is_size
  have D_is_size : Dn K mg "is_size" s_is_size ["value"] _ _ := ⟨F_is_size, PySem.W.mg_of X G a_is_size, F_is_size.binds (ps := ["value"]) fun _ _ _ _ _ _ us hl => match us, hl with | [_], _ => rfl⟩
  have F_padding := fun_mk (st := s_padding) l_padding c_padding k_padding
  have D_padding : Dn K mg "padding" s_padding ["sizes", "rate", "delay", "store"] _ _ := ⟨F_padding, PySem.W.mg_of X G a_padding, F_padding.binds (ps := ["sizes", "rate", "delay", "store"]) fun _ _ _ _ _ _ us hl => match us, hl with | [_, _, _, _], _ => rfl⟩
  have F_pool := fun_mk (st := s_pool) l_pool c_pool k_pool
  have D_pool : Dn K mg "_law_pool" s_pool ["_law_script", "_law_k"] _ _ := ⟨F_pool, PySem.W.mg_of X G a_pool, F_pool.binds (ps := ["_law_script", "_law_k"]) fun _ _ _ _ _ _ us hl => match us, hl with | [_, _], _ => rfl⟩
  have F_take := fun_mk (st := s_take) l_take c_take k_take
  have D_take : Dn K mg "_law_take" s_take ["_law_pool_here", "_law_many"] _ _ := ⟨F_take, PySem.W.mg_of X G a_take, F_take.binds (ps := ["_law_pool_here", "_law_many"]) fun _ _ _ _ _ _ us hl => match us, hl with | [_, _], _ => rfl⟩
  have F_sizes := fun_mk (st := s_sizes) l_sizes c_sizes k_sizes
  have D_sizes : Dn K mg "_law_sizes" s_sizes ["_law_pool_here", "_law_rate"] _ _ := ⟨F_sizes, PySem.W.mg_of X G a_sizes, F_sizes.binds (ps := ["_law_pool_here", "_law_rate"]) fun _ _ _ _ _ _ us hl => match us, hl with | [_, _], _ => rfl⟩
  have F_holds := fun_mk (st := s_holds) l_holds c_holds k_holds
  have D_holds : Dn K mg "_law_holds" s_holds ["_law_sizes_here", "_law_units_here", "_law_rate", "_law_delay", "_law_store"] _ _ := ⟨F_holds, PySem.W.mg_of X G a_holds, F_holds.binds (ps := ["_law_sizes_here", "_law_units_here", "_law_rate", "_law_delay", "_law_store"]) fun _ _ _ _ _ _ us hl => match us, hl with | [_, _, _, _, _], _ => rfl⟩
  have F_units := fun_mk (st := s_units) l_units c_units k_units
  have D_units : Dn K mg "_law_units" s_units ["_law_pool_here", "_law_sizes_here", "_law_rate", "_law_delay", "_law_store"] _ _ := ⟨F_units, PySem.W.mg_of X G a_units, F_units.binds (ps := ["_law_pool_here", "_law_sizes_here", "_law_rate", "_law_delay", "_law_store"]) fun _ _ _ _ _ _ us hl => match us, hl with | [_, _, _, _, _], _ => rfl⟩
  have F_least := fun_mk (st := s_least) l_least c_least k_least
  have D_least : Dn K mg "_law_least" s_least ["_law_sizes_here", "_law_units_here", "_law_others"] _ _ := ⟨F_least, PySem.W.mg_of X G a_least, F_least.binds (ps := ["_law_sizes_here", "_law_units_here", "_law_others"]) fun _ _ _ _ _ _ us hl => match us, hl with | [_, _, _], _ => rfl⟩
  have F_law := fun_mk (st := s_law) l_law c_law k_law
  have D_law : Dn K mg "law" s_law ["_law_script"] _ _ := ⟨F_law, PySem.W.mg_of X G a_law, F_law.binds (ps := ["_law_script"]) fun _ _ _ _ _ _ us hl => match us, hl with | [_], _ => rfl⟩
  refine ⟨PySem.W.fnOf "law" "law" (defArgs s_law) (defBody s_law) (defScope s_law) .none kV_law dc_law pm_law an_law cd_law ct_law, fun s v => .of_eq rfl, fun base _ _ => ?_⟩
  have G_take := ok_take (P := l.prog) (w := w) (base := base) D_take bi    
  have G_pool := ok_pool (P := l.prog) (w := w) (base := base) D_pool bi    
  have G_is_integer := ok_is_integer (P := l.prog) (w := w) (base := base) D_is_integer bi    
  have G_is_within := ok_is_within (P := l.prog) (w := w) (base := base) D_is_within bi G_is_integer D_is_integer   
  have G_check_within := ok_check_within (P := l.prog) (w := w) (base := base) D_check_within bi G_is_within D_is_within   
  have G_is_size := ok_is_size (P := l.prog) (w := w) (base := base) D_is_size bi G_is_within D_is_within   ⟨_, PySem.W.mg_of X G a_BUDGET_LIMIT⟩
  have G_check_sizes := ok_check_sizes (P := l.prog) (w := w) (base := base) D_check_sizes bi G_is_size D_is_size   
  have G_padding := ok_padding (P := l.prog) (w := w) (base := base) D_padding bi G_check_sizes D_check_sizes G_check_within D_check_within   ⟨_, PySem.W.mg_of X G a_BUDGET_LIMIT⟩
  have G_sizes := ok_sizes (P := l.prog) (w := w) (base := base) D_sizes bi G_take D_take   
  have G_holds := ok_holds (P := l.prog) (w := w) (base := base) D_holds bi    
  have G_units := ok_units (P := l.prog) (w := w) (base := base) D_units bi G_take D_take   
  have G_least := ok_least (P := l.prog) (w := w) (base := base) D_least bi    
  exact ok_law D_law bi G_pool D_pool G_take D_take G_sizes D_sizes G_padding D_padding G_holds D_holds G_units D_units G_least D_least
end Z
open PySem PySem.W PyProof.Rows
set_option maxHeartbeats 0 in
theorem PySem.Challenge.cw_framejoins_k79_whole_padding_is_least_holds : PySem.Challenge.rw_framejoins_k79_whole_padding_is_least.Holds := by
  w_on; refine headTop ?_
  k_fill
  refine L2.walk_of (l := PySem.Challenge.rw_framejoins_k79_whole_padding_is_least) (n := 63) (k := 6) (x := "_law_script") (CX := fun _ => L2.CX0) (sp := fun w => Z.spLaw _) rfl (by decide) rfl ⟨rfl, by decide, by decide⟩ (fun w h Y => PySem.W.kIn_of Y) ?F (fun _ _ a ns hl _ hS => ⟨a, ns, rfl, hS, hl, fun _ => rfl⟩) (fun _ _ _ _ _ h => h)
  case F =>
    intro w mg fa h KX G hmg
    refine' Z.all_mk KX G hmg ?a_is_integer ?l_is_integer ?c_is_integer ?k_is_integer ?a_is_within ?l_is_within ?c_is_within ?k_is_within ?a_check_within ?l_check_within ?c_check_within ?k_check_within ?a_check_sizes ?l_check_sizes ?c_check_sizes ?k_check_sizes ?a_is_size ?l_is_size ?c_is_size ?k_is_size ?a_padding ?l_padding ?c_padding ?k_padding ?a_pool ?l_pool ?c_pool ?k_pool ?a_take ?l_take ?c_take ?k_take ?a_sizes ?l_sizes ?c_sizes ?k_sizes ?a_holds ?l_holds ?c_holds ?k_holds ?a_units ?l_units ?c_units ?k_units ?a_least ?l_least ?c_least ?k_least ?a_law ?l_law ?c_law ?k_law ?a_BUDGET_LIMIT ?z_int ?z_bool ?z_str ?z_list ?z_tuple ?z_len ?z_abs ?z_max ?z_min ?z_range ?z_zip ?z_isinstance ?z_enumerate ?z_reversed
    (case a_is_integer => k_is); (case l_is_integer => k_is); (case c_is_integer => k_is); (case k_is_integer => k_is); (case a_is_within => k_is); (case l_is_within => k_is); (case c_is_within => k_is); (case k_is_within => k_is); (case a_check_within => k_is); (case l_check_within => k_is); (case c_check_within => k_is); (case k_check_within => k_is); (case a_check_sizes => k_is); (case l_check_sizes => k_is); (case c_check_sizes => k_is); (case k_check_sizes => k_is); (case a_is_size => k_is); (case l_is_size => k_is); (case c_is_size => k_is); (case k_is_size => k_is); (case a_padding => k_is); (case l_padding => k_is); (case c_padding => k_is); (case k_padding => k_is); (case a_pool => k_is); (case l_pool => k_is); (case c_pool => k_is); (case k_pool => k_is); (case a_take => k_is); (case l_take => k_is); (case c_take => k_is); (case k_take => k_is); (case a_sizes => k_is); (case l_sizes => k_is); (case c_sizes => k_is); (case k_sizes => k_is); (case a_holds => k_is); (case l_holds => k_is); (case c_holds => k_is); (case k_holds => k_is); (case a_units => k_is); (case l_units => k_is); (case c_units => k_is); (case k_units => k_is); (case a_least => k_is); (case l_least => k_is); (case c_least => k_is); (case k_least => k_is); (case a_law => k_is); (case l_law => k_is); (case c_law => k_is); (case k_law => k_is); (case a_BUDGET_LIMIT => k_is); (case z_int => k_is); (case z_bool => k_is); (case z_str => k_is); (case z_list => k_is); (case z_tuple => k_is); (case z_len => k_is); (case z_abs => k_is); (case z_max => k_is); (case z_min => k_is); (case z_range => k_is); (case z_zip => k_is); (case z_isinstance => k_is); (case z_enumerate => k_is); (case z_reversed => k_is)
