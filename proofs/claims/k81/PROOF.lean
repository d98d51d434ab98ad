import PyProof.Rows.All
import Wide.All
import OpenK.AllK
import Wide.FinOn
import HandS.ForExc
import HandS.ForMost
import HandS.IsInst
import HandS.Style
import HandS.Zip
import HandS.RevRange
import HandS.Lambda
import HandS.TryOnly
import HandS.TryMany
import HandS.ExcOwn
import HandS.ExcInit
import HandS.ExcField
import HandS.ExcIs
import HandS.EndTab
import HandS.CallLocal
import KE.KExcIs
import KE.KNestM
import KE.IntBitsLaws
import HandS.WideBits
import KE.GoesEnum
import KE.GoesMore
import HandS.Codes
import HandS.Conv
import HandS.IntHex
import PyProof.FString3
import PyProof.StrOps2
import KE.IntText
import HandS.StrMore
import HandS.FStr
import HandS.Wide
import PySem.Challenge.RW_framejoins_k81_budgets_refused
set_option Elab.async false
set_option linter.all false
set_option maxRecDepth 100000
set_option maxHeartbeats 4000000
section
open PySem PySem.W PyProof.Rows
set_option maxHeartbeats 0 in
open_top headTop for PySem.Challenge.rw_framejoins_k81_budgets_refused
end
namespace Z
open PySem PySem.Spec PyProof.Rows L2
def rLen (K : PySem.W.Frag) : List V → Hp → VK → Prop := fun xs H Q => ∃ x n, xs = [x] ∧ LenV K x H n ∧ Q (.int n) H
def rAbs : List V → Hp → VK → Prop := fun xs H Q => ∃ i, xs = [.int i] ∧ Q (.int (if i < 0 then -i else i)) H
def rMax2 : List V → Hp → VK → Prop := fun xs H Q => ∃ i j, xs = [.int i, .int j] ∧ Q (.int (if j > i then j else i)) H
def rMin2 : List V → Hp → VK → Prop := fun xs H Q => ∃ i j, xs = [.int i, .int j] ∧ Q (.int (if j < i then j else i)) H
def rToInt : List V → Hp → VK → Prop := fun xs H Q => (∃ i, xs = [.int i] ∧ Q (.int i) H) ∨ ∃ k, xs = [.bl k] ∧ Q (.int (if k then 1 else 0)) H
def rToList (K : PySem.W.Frag) : List V → Hp → VK → Prop := fun xs H Q => ∃ p ys, xs = [.ref p] ∧ (SqL K H p ys ∨ SqT K H p ys) ∧ ∀ l, H l = none → Q (.ref l) (upd H l (.lst ys))
section
variable {X : Cx}
theorem cLen : CallR X (.builtin "len") (rLen X.K) := call_len
theorem cAbs : CallR X (.builtin "abs") rAbs := call_abs
theorem cMax (hc : X.calm = true) : CallR X (.builtin "max") rMax2 := call_max2 hc
theorem cMin (hc : X.calm = true) : CallR X (.builtin "min") rMin2 := call_min2 hc
theorem cInt : CallR X (.type "int") rToInt := call_int1
end
/-- the values by position and by keyword, put in the parameters' order -/
def kg {α : Type} (m n : Nat) (idx : List Nat) (us ws : List α) : List α := if us.length = m ∧ ws.length = n then idx.filterMap (fun i => (us ++ ws)[i]?) else []
theorem len2 {α : Type} : ∀ {l : List α}, l.length = 2 → ∃ a b, l = [a, b]
  | [a, b], _ => ⟨a, b, rfl⟩
theorem len3 {α : Type} : ∀ {l : List α}, l.length = 3 → ∃ a b c, l = [a, b, c]
  | [a, b, c], _ => ⟨a, b, c, rfl⟩
section
variable {X : Cx} {K : PySem.W.Frag} {σ : L2.St} {H : Hp} {Q : VK} {n : L2.St → Hp → Prop} {r : VK} {b c : L2.St → Hp → Prop} {ta tb tc te : TE} {tA tB1 : TT} {t u : TS} {v : V}
theorem rd_seq (h : t ⟨u ⟨n, r, b, c⟩, r, b, c⟩ σ H) : tSeq t u ⟨n, r, b, c⟩ σ H := h
theorem rd_start {D : Ends} {σ σ' : L2.St} (e : σ' = σ) (h : t D σ H) : t D σ' H := e ▸ h
theorem rd_next (h : n σ H) : tNext ⟨n, r, b, c⟩ σ H := h
theorem rd_asg {g : TG} (h : te σ H fun x H1 => g x σ H1 n) : tAsg te g ⟨n, r, b, c⟩ σ H := h
theorem rd_gname {i : Nat} {Q : L2.St → Hp → Prop} (h : Q (σ.set i (some v)) H) : gName i v σ H Q := h
theorem rd_gsub {to ti : TE} {s : TSet} {Q : L2.St → Hp → Prop} (h : to σ H fun o H1 => ti σ H1 fun i H2 => s o i v H2 fun H3 => Q σ H3) : gSub to ti s v σ H Q := h
theorem rd_ret (h : te σ H r) : tRet te ⟨n, r, b, c⟩ σ H := h
theorem rd_retn (h : r .non H) : tRetN ⟨n, r, b, c⟩ σ H := h
theorem rd_ifs (h : tA σ H fun d H1 => if d = true then t ⟨n, r, b, c⟩ σ H1 else u ⟨n, r, b, c⟩ σ H1) : tIfS tA t u ⟨n, r, b, c⟩ σ H := h
theorem rd_drop (h : te σ H fun _ H1 => n σ H1) : tDrop te ⟨n, r, b, c⟩ σ H := h
theorem rd_par {i j : Nat} {ts : TA} (h : ts σ H fun vs H1 => ∃ v w, vs = [v, w] ∧ n ((σ.set i (some v)).set j (some w)) H1) : tPar i j ts ⟨n, r, b, c⟩ σ H := h
theorem rd_par3 {i j l : Nat} {ts : TA} (h : ts σ H fun vs H1 => ∃ u v w, vs = [u, v, w] ∧ n (((σ.set i (some u)).set j (some v)).set l (some w)) H1) : tPar3 i j l ts ⟨n, r, b, c⟩ σ H := h
theorem rd_two {v w : V} {P : V → V → Prop} (h : P v w) : ∃ a b, [v, w] = [a, b] ∧ P a b := ⟨v, w, rfl, h⟩
theorem rd_three {u v w : V} {P : V → V → V → Prop} (h : P u v w) : ∃ a b c, [u, v, w] = [a, b, c] ∧ P a b c := ⟨u, v, w, rfl, h⟩
theorem rd_var {i : Nat} (e : σ[i]? = some (some v)) (h : Q v H) : tVar i σ H Q := ⟨v, e, h⟩
theorem rd_c (h : Q v H) : tC v σ H Q := h
theorem rd_op {o : R2} (h : ta σ H fun x H1 => tb σ H1 fun y H2 => o x y H2 Q) : tOp o ta tb σ H Q := h
theorem rd_un {o : V → Hp → VK → Prop} (h : ta σ H fun x H1 => o x H1 Q) : tUn o ta σ H Q := h
theorem rd_i0 {g : Int → Int → V} {i j : Int} (h : Q (g i j) H) : rI0 g (.int i) (.int j) H Q := ⟨i, j, rfl, rfl, h⟩
theorem rd_i {C : Int → Int → Prop} {g : Int → Int → V} {i j : Int} (hC : C i j) (h : Q (g i j) H) : rI C g (.int i) (.int j) H Q := ⟨i, j, rfl, rfl, hC, h⟩
theorem rd_u {g : Int → V} {i : Int} (h : Q (g i) H) : rU g (.int i) H Q := ⟨i, rfl, h⟩
theorem rd_eq {x y : V} (e : scal x y = true) (h : Q (.bl (decide (x = y))) H) : rEq x y H Q := ⟨e, h⟩
theorem rd_ne {x y : V} (e : scal x y = true) (h : Q (.bl (!decide (x = y))) H) : rNe x y H Q := ⟨e, h⟩
theorem rd_test {q : Bool → Hp → Prop} (h : te σ H fun x H' => ∃ k, x = .bl k ∧ q k H') : tTest te σ H q := h
theorem rd_b {q : Bool → Hp → Prop} (h : te σ H fun x H' => ∃ k, x = .bl k ∧ q k H') : tB te σ H q := h
theorem rd_bl {k : Bool} {P : Bool → Prop} (h : P k) : ∃ d, V.bl k = .bl d ∧ P d := ⟨k, rfl, h⟩
theorem rd_not {q : Bool → Hp → Prop} (h : tA σ H fun d H1 => q (!d) H1) : tNot tA σ H q := h
theorem rd_and {q : Bool → Hp → Prop} (h : tA σ H fun d H1 => if d = true then tB1 σ H1 q else q false H1) : tAnd tA tB1 σ H q := h
theorem rd_or {q : Bool → Hp → Prop} (h : tA σ H fun d H1 => if d = true then q true H1 else tB1 σ H1 q) : tOr tA tB1 σ H q := h
theorem rd_andV (h : ta σ H fun x H1 => ∃ c, x = .bl c ∧ if c = true then tb σ H1 Q else Q (.bl false) H1) : tAndV ta tb σ H Q := h
theorem rd_orV (h : ta σ H fun x H1 => ∃ c, x = .bl c ∧ if c = true then Q (.bl true) H1 else tb σ H1 Q) : tOrV ta tb σ H Q := h
theorem rd_notV (h : ta σ H fun x H1 => ∃ c, x = .bl c ∧ Q (.bl (!c)) H1) : tNotV ta σ H Q := h
theorem rd_if (h : tA σ H fun d H1 => if d = true then ta σ H1 Q else tb σ H1 Q) : tIf tA ta tb σ H Q := h
theorem rd_chain {o o' : R2} (h : ta σ H fun x H1 => tb σ H1 fun y H2 => o x y H2 fun z H3 => ∃ k, z = .bl k ∧ if k = true then tc σ H3 fun w' H4 => o' y w' H4 Q else Q (.bl false) H3) : tChain o o' ta tb tc σ H Q := h
theorem rd_call {sp : Sp} {dvs : List V} {E : XK} {ts : TA} (h : ts σ H fun vs H1 => sp (vs ++ dvs) H1 Q E) : tCall sp dvs E ts σ H Q := h
theorem rd_callK {sp : Sp} {gV : List V → List V → List V} {E : XK} {ts tk : TA} (h : ts σ H fun vs H1 => tk σ H1 fun zs H2 => sp (gV vs zs) H2 Q E) : tCallK sp gV E ts tk σ H Q := h
theorem rd_cb {rr : List V → Hp → VK → Prop} {ts : TA} (h : ts σ H fun vs H1 => rr vs H1 Q) : tCB rr ts σ H Q := h
theorem rd_cons {tr : TA} {q : List V → Hp → Prop} (h : te σ H fun x H1 => tr σ H1 fun xs H2 => q (x :: xs) H2) : tCons te tr σ H q := h
theorem rd_nil {q : List V → Hp → Prop} (h : q [] H) : tNil σ H q := h
theorem rd_tup {ts : TA} (h : ts σ H fun xs H1 => xs.length ≤ sizeLine ∧ ∀ p, H1 p = none → Q (.ref p) (upd H1 p (.tup xs))) : tTup ts σ H Q := h
theorem rd_lst {ts : TA} (h : ts σ H fun xs H1 => xs.length ≤ sizeLine ∧ ∀ p, H1 p = none → Q (.ref p) (upd H1 p (.lst xs))) : tLst ts σ H Q := h
theorem rd_int {i : Int} (h : Q (.int i) H) : rToInt [.int i] H Q := .inl ⟨i, rfl, h⟩
theorem rd_intb {k : Bool} (h : Q (.int (if k then 1 else 0)) H) : rToInt [.bl k] H Q := .inr ⟨k, rfl, h⟩
theorem rd_abs {i : Int} (h : Q (.int (if i < 0 then -i else i)) H) : rAbs [.int i] H Q := ⟨i, rfl, h⟩
theorem rd_max {i j : Int} (h : Q (.int (if j > i then j else i)) H) : rMax2 [.int i, .int j] H Q := ⟨i, j, rfl, h⟩
theorem rd_min {i j : Int} (h : Q (.int (if j < i then j else i)) H) : rMin2 [.int i, .int j] H Q := ⟨i, j, rfl, h⟩
theorem rd_lenL {p : Addr} {xs : List V} (e : SqL K H p xs) (h : Q (.int xs.length) H) : rLen K [.ref p] H Q := ⟨.ref p, xs.length, rfl, .inl ⟨xs, e, rfl⟩, h⟩
theorem rd_lenT {p : Addr} {xs : List V} (e : SqT K H p xs) (h : Q (.int xs.length) H) : rLen K [.ref p] H Q := ⟨.ref p, xs.length, rfl, .inr ⟨xs, e, rfl⟩, h⟩
theorem rd_ixL {p : Addr} {xs : List V} {i : Int} {v : V} (e : SqL K H p xs) (a : atI xs i = some v) (h : Q v H) : rIxL K (.ref p) (.int i) H Q := ⟨p, xs, i, v, rfl, rfl, e, a, h⟩
theorem rd_ixT {p : Addr} {xs : List V} {i : Int} {v : V} (e : SqT K H p xs) (a : atI xs i = some v) (h : Q v H) : rIxT K (.ref p) (.int i) H Q := ⟨p, xs, i, v, rfl, rfl, e, a, h⟩
theorem rd_setL {p : Addr} {xs : List V} {i : Int} {j : Nat} {v : V} {q : Hp → Prop} (e : H p = some (.lst xs)) (a : ixN xs.length i = some j) (h : q (upd H p (.lst (xs.set j v)))) : rSetL (.ref p) (.int i) v H q := ⟨p, xs, i, j, rfl, rfl, e, a, h⟩
theorem rd_listL {p : Addr} {xs : List V} (e : SqL K H p xs) (h : ∀ l, H l = none → Q (.ref l) (upd H l (.lst xs))) : rToList K [.ref p] H Q := ⟨p, xs, rfl, .inl e, h⟩
theorem rd_iteD {p : Prop} [Decidable p] {A B : Prop} (h1 : p → A) (h2 : ¬ p → B) : if decide p = true then A else B := by
  by_cases h : p
  · rw [if_pos (decide_eq_true h)]; exact h1 h
  · rw [decide_eq_false h, if_neg Bool.false_ne_true]; exact h2 h
theorem iteNT {A B : Prop} (h : B) : if (!true) = true then A else B := iteF h
theorem iteNF {A B : Prop} (h : A) : if (!false) = true then A else B := iteT h
theorem rd_isi {x c : V} {t' u' : Value} {d : Bool} (k : ClsV c u') (ty : TyX K H x t') (e : PySem.W.kitOne K t' u' = some d) (h : Q (.bl d) H) : rIsi K [x, c] H Q := ⟨x, c, t', u', d, rfl, k, ty, e, h⟩
theorem isi_int_int {i : Int} (h : Q (.bl true) H) : rIsi K [.int i, .ty "int"] H Q := rd_isi (.ty "int") (.base (.int i)) (kit_ty (by decide +kernel)) h
theorem isi_int_bool {i : Int} (h : Q (.bl false) H) : rIsi K [.int i, .ty "bool"] H Q := rd_isi (.ty "bool") (.base (.int i)) (kit_ty (by decide +kernel)) h
theorem isi_int_str {i : Int} (h : Q (.bl false) H) : rIsi K [.int i, .ty "str"] H Q := rd_isi (.ty "str") (.base (.int i)) (kit_ty (by decide +kernel)) h
theorem isi_int_list {i : Int} (h : Q (.bl false) H) : rIsi K [.int i, .ty "list"] H Q := rd_isi (.ty "list") (.base (.int i)) (kit_ty (by decide +kernel)) h
theorem isi_int_tuple {i : Int} (h : Q (.bl false) H) : rIsi K [.int i, .ty "tuple"] H Q := rd_isi (.ty "tuple") (.base (.int i)) (kit_ty (by decide +kernel)) h
theorem isi_bl_int {i : Bool} (h : Q (.bl true) H) : rIsi K [.bl i, .ty "int"] H Q := rd_isi (.ty "int") (.base (.bl i)) (kit_ty (by decide +kernel)) h
theorem isi_bl_bool {i : Bool} (h : Q (.bl true) H) : rIsi K [.bl i, .ty "bool"] H Q := rd_isi (.ty "bool") (.base (.bl i)) (kit_ty (by decide +kernel)) h
theorem isi_bl_str {i : Bool} (h : Q (.bl false) H) : rIsi K [.bl i, .ty "str"] H Q := rd_isi (.ty "str") (.base (.bl i)) (kit_ty (by decide +kernel)) h
theorem isi_bl_list {i : Bool} (h : Q (.bl false) H) : rIsi K [.bl i, .ty "list"] H Q := rd_isi (.ty "list") (.base (.bl i)) (kit_ty (by decide +kernel)) h
theorem isi_bl_tuple {i : Bool} (h : Q (.bl false) H) : rIsi K [.bl i, .ty "tuple"] H Q := rd_isi (.ty "tuple") (.base (.bl i)) (kit_ty (by decide +kernel)) h
theorem isi_non_int  (h : Q (.bl false) H) : rIsi K [.non, .ty "int"] H Q := rd_isi (.ty "int") (.base .non) (kit_ty (by decide +kernel)) h
theorem isi_non_bool  (h : Q (.bl false) H) : rIsi K [.non, .ty "bool"] H Q := rd_isi (.ty "bool") (.base .non) (kit_ty (by decide +kernel)) h
theorem isi_non_str  (h : Q (.bl false) H) : rIsi K [.non, .ty "str"] H Q := rd_isi (.ty "str") (.base .non) (kit_ty (by decide +kernel)) h
theorem isi_non_list  (h : Q (.bl false) H) : rIsi K [.non, .ty "list"] H Q := rd_isi (.ty "list") (.base .non) (kit_ty (by decide +kernel)) h
theorem isi_non_tuple  (h : Q (.bl false) H) : rIsi K [.non, .ty "tuple"] H Q := rd_isi (.ty "tuple") (.base .non) (kit_ty (by decide +kernel)) h
theorem isi_str_int {z : Str} (h : Q (.bl false) H) : rIsi K [.str z, .ty "int"] H Q := rd_isi (.ty "int") (.base (.str z)) (kit_ty (by decide +kernel)) h
theorem isi_str_bool {z : Str} (h : Q (.bl false) H) : rIsi K [.str z, .ty "bool"] H Q := rd_isi (.ty "bool") (.base (.str z)) (kit_ty (by decide +kernel)) h
theorem isi_str_str {z : Str} (h : Q (.bl true) H) : rIsi K [.str z, .ty "str"] H Q := rd_isi (.ty "str") (.base (.str z)) (kit_ty (by decide +kernel)) h
theorem isi_str_list {z : Str} (h : Q (.bl false) H) : rIsi K [.str z, .ty "list"] H Q := rd_isi (.ty "list") (.base (.str z)) (kit_ty (by decide +kernel)) h
theorem isi_str_tuple {z : Str} (h : Q (.bl false) H) : rIsi K [.str z, .ty "tuple"] H Q := rd_isi (.ty "tuple") (.base (.str z)) (kit_ty (by decide +kernel)) h
theorem isi_lst_int {p : Addr} {xs : List V} (hp : H p = some (.lst xs)) (h : Q (.bl false) H) : rIsi K [.ref p, .ty "int"] H Q := rd_isi (.ty "int") (.base (.lst hp)) (kit_ty (by decide +kernel)) h
theorem isi_lst_bool {p : Addr} {xs : List V} (hp : H p = some (.lst xs)) (h : Q (.bl false) H) : rIsi K [.ref p, .ty "bool"] H Q := rd_isi (.ty "bool") (.base (.lst hp)) (kit_ty (by decide +kernel)) h
theorem isi_lst_str {p : Addr} {xs : List V} (hp : H p = some (.lst xs)) (h : Q (.bl false) H) : rIsi K [.ref p, .ty "str"] H Q := rd_isi (.ty "str") (.base (.lst hp)) (kit_ty (by decide +kernel)) h
theorem isi_lst_list {p : Addr} {xs : List V} (hp : H p = some (.lst xs)) (h : Q (.bl true) H) : rIsi K [.ref p, .ty "list"] H Q := rd_isi (.ty "list") (.base (.lst hp)) (kit_ty (by decide +kernel)) h
theorem isi_lst_tuple {p : Addr} {xs : List V} (hp : H p = some (.lst xs)) (h : Q (.bl false) H) : rIsi K [.ref p, .ty "tuple"] H Q := rd_isi (.ty "tuple") (.base (.lst hp)) (kit_ty (by decide +kernel)) h
theorem isi_tup_int {p : Addr} {xs : List V} (hp : H p = some (.tup xs)) (h : Q (.bl false) H) : rIsi K [.ref p, .ty "int"] H Q := rd_isi (.ty "int") (.base (.tup hp)) (kit_ty (by decide +kernel)) h
theorem isi_tup_bool {p : Addr} {xs : List V} (hp : H p = some (.tup xs)) (h : Q (.bl false) H) : rIsi K [.ref p, .ty "bool"] H Q := rd_isi (.ty "bool") (.base (.tup hp)) (kit_ty (by decide +kernel)) h
theorem isi_tup_str {p : Addr} {xs : List V} (hp : H p = some (.tup xs)) (h : Q (.bl false) H) : rIsi K [.ref p, .ty "str"] H Q := rd_isi (.ty "str") (.base (.tup hp)) (kit_ty (by decide +kernel)) h
theorem isi_tup_list {p : Addr} {xs : List V} (hp : H p = some (.tup xs)) (h : Q (.bl false) H) : rIsi K [.ref p, .ty "list"] H Q := rd_isi (.ty "list") (.base (.tup hp)) (kit_ty (by decide +kernel)) h
theorem isi_tup_tuple {p : Addr} {xs : List V} (hp : H p = some (.tup xs)) (h : Q (.bl true) H) : rIsi K [.ref p, .ty "tuple"] H Q := rd_isi (.ty "tuple") (.base (.tup hp)) (kit_ty (by decide +kernel)) h
theorem rd_for1 {ts : TA} {g : TG} {tb' : TS} {D : Ends} (h : ts σ H fun vs H1 => ∃ j : Int, vs = [.int j] ∧ -(2 ^ 62) ≤ j ∧ j < 2 ^ 62 ∧ (∃ W : Nat → Nat → L2.St → Hp → Prop, (∃ m, W 0 m σ H1) ∧ ∀ i m σ H, W i m σ H →
      ((Itr 0 j.toNat).stop i H ∧ D.nx σ H) ∨ ((Itr 0 j.toNat).go i H ∧ ∃ N : L2.St → Hp → Prop, (∀ σ' H', N σ' H' → ∃ m', m' < m ∧ W (i + 1) m' σ' H') ∧ ∀ x H', (Itr 0 j.toNat).yld i H x H' → g x σ H' fun σ2 H2 => tb' { D with nx := N, ct := N, bk := D.nx } σ2 H2))) : tFor (iRng1 ts) g tb' D σ H := h
theorem rd_all {n m : Nat} {P : Addr → Prop} (h1 : n ≤ m) (h : ∀ p, H p = none → P p) : n ≤ m ∧ ∀ p, H p = none → P p := ⟨h1, h⟩
theorem rd_ixP {p : Addr} {xs : List V} {i : Int} (Pm : V → Prop) (e : SqL K H p xs) (h0 : 0 ≤ i) (h1 : i < xs.length) (hP : ∀ v ∈ xs, Pm v) (h : ∀ v, Pm v → Q v H) : rIxL K (.ref p) (.int i) H Q := by
  obtain ⟨j, rfl⟩ : ∃ j : Nat, i = (j : Int) := ⟨i.toNat, by omega⟩
  have hj : j < xs.length := by omega
  have g : xs[j]? = some xs[j] := List.getElem?_eq_getElem hj
  exact ⟨p, xs, (j : Int), xs[j], rfl, rfl, e, atI_nat g, h _ (hP _ (List.getElem_mem hj))⟩
theorem rd_gtup {a : Addr} {xs : List V} {k : Nat} {ts : TGs} {q : L2.St → Hp → Prop} (e : SqT K H a xs) (l : xs.length = k) (h : ts xs σ H q) : gTup K k ts (.ref a) σ H q := ⟨a, xs, rfl, e, l, h⟩
theorem rd_gcons {g : TG} {ts : TGs} {v : V} {vs : List V} {q : L2.St → Hp → Prop} (h : g v σ H fun σ' H' => ts vs σ' H' q) : gCons g ts (v :: vs) σ H q := ⟨v, vs, rfl, h⟩
theorem rd_gnil {q : L2.St → Hp → Prop} (h : q σ H) : gNil [] σ H q := ⟨rfl, h⟩
def LpW (J : It) (g : TG) (tb : TS) (D : Ends) (σ : L2.St) (H1 : Hp) : Prop := ∃ W : Nat → Nat → L2.St → Hp → Prop, (∃ m, W 0 m σ H1) ∧ ∀ i m σ H, W i m σ H →
      (J.stop i H ∧ D.nx σ H) ∨ (J.go i H ∧ ∃ N : L2.St → Hp → Prop, (∀ σ' H', N σ' H' → ∃ m', m' < m ∧ W (i + 1) m' σ' H') ∧ ∀ x H', J.yld i H x H' → g x σ H' fun σ2 H2 => tb { D with nx := N, ct := N, bk := D.nx } σ2 H2)
theorem rd_forT {g : TG} {tb' : TS} {D : Ends} (h : te σ H fun x H1 => ∃ a, x = .ref a ∧ (∃ xs, SqT K H1 a xs) ∧ LpW (Itt K a) g tb' D σ H1) : tFor (iTup K te) g tb' D σ H := h
theorem rd_forL {g : TG} {tb' : TS} {D : Ends} (h : te σ H fun x H1 => ∃ a, x = .ref a ∧ (∃ xs, SqL K H1 a xs) ∧ LpW (Itl K a) g tb' D σ H1) : tFor (iList K te) g tb' D σ H := h
theorem rd_lpT {a : Addr} {xs : List V} {g : TG} {tb' : TS} {D : Ends} (e : SqT K H a xs) (h : LpW (Itt K a) g tb' D σ H) : ∃ b, V.ref a = .ref b ∧ (∃ xs, SqT K H b xs) ∧ LpW (Itt K b) g tb' D σ H := ⟨a, rfl, ⟨xs, e⟩, h⟩
theorem rd_lpL {a : Addr} {xs : List V} {g : TG} {tb' : TS} {D : Ends} (e : SqL K H a xs) (h : LpW (Itl K a) g tb' D σ H) : ∃ b, V.ref a = .ref b ∧ (∃ xs, SqL K H b xs) ∧ LpW (Itl K b) g tb' D σ H := ⟨a, rfl, ⟨xs, e⟩, h⟩
theorem rd_for2 {ts : TA} {g : TG} {tb' : TS} {D : Ends} (h : ts σ H fun vs H1 => ∃ i j : Int, vs = [.int i, .int j] ∧ (-(2 ^ 62) ≤ i ∧ i < 2 ^ 62 ∧ -(2 ^ 62) ≤ j ∧ j < 2 ^ 62) ∧ LpW (Itr i (j - i).toNat) g tb' D σ H1) : tFor (iRng2 ts) g tb' D σ H := h
theorem rd_n2 {i j : Int} {A : Int → Int → Prop} (h1 : -(2 ^ 62) ≤ i ∧ i < 2 ^ 62 ∧ -(2 ^ 62) ≤ j ∧ j < 2 ^ 62) (h : A i j) : ∃ k l : Int, [V.int i, V.int j] = [V.int k, V.int l] ∧ (-(2 ^ 62) ≤ k ∧ k < 2 ^ 62 ∧ -(2 ^ 62) ≤ l ∧ l < 2 ^ 62) ∧ A k l := ⟨i, j, rfl, h1, h⟩
theorem dp_ints : ∀ ns : List Int, DpAll K H (ns.map V.int) (ns.map PyData.int)
  | [] => .nil
  | n :: r => .cons (.int n) (dp_ints r)
theorem rd_neT2 {p q : Addr} {a b c d : Int} (hp : SqT K H p [.int a, .int b]) (hq : SqT K H q [.int c, .int d]) (e1 : a = c) (e2 : b = d) (h : Q (.bl false) H) : rNeD K (.ref p) (.ref q) H Q := by
  subst e1 e2
  exact ⟨_, _, .tup hp (dp_ints [a, b]), .tup hq (dp_ints [a, b]), rfl, rfl, by
    have e : PyData.eqv (.tuple ([a, b].map PyData.int)) (.tuple ([a, b].map PyData.int)) = true := by simp [PyData.eqv, PyData.eqvAll]
    rw [e]
    exact h⟩
def rIsN : R2 := fun x y H Q => y = .non ∧ Q (.bl (decide (x = .non))) H
theorem cIsN {X : Cx} : OpR X (compareOp .Is) rIsN := op_isN
theorem rd_isN {x : V} (h : Q (.bl (decide (x = .non))) H) : rIsN x .non H Q := ⟨rfl, h⟩
theorem rd_one {v : V} {P : V → Prop} (h : P v) : ∃ a, [v] = [a] ∧ P a := ⟨v, rfl, h⟩
theorem rd_n1 {j : Int} {A : Int → Prop} (h1 : -(2 ^ 62) ≤ j) (h2 : j < 2 ^ 62) (h : A j) : ∃ k : Int, [V.int j] = [V.int k] ∧ -(2 ^ 62) ≤ k ∧ k < 2 ^ 62 ∧ A k := ⟨j, rfl, h1, h2, h⟩
end
theorem look_same {H H' : Hp} {a : Addr} {u : HO} (s : Same H H') (h : H a = some u) : H' a = some u := s a u h
theorem look_new {H : Hp} {p a : Addr} {o u : HO} (hp : H p = none) (h : H a = some u) : upd H p o a = some u := by rw [upd_ne (ne_of_none h hp)]; exact h
/-- all but the object at p stay -/
def Kp (p : Addr) (H H' : Hp) : Prop := ∀ a o, a ≠ p → H a = some o → H' a = some o
theorem Kp.refl {p : Addr} {H : Hp} : Kp p H H := fun _ _ _ h => h
theorem Kp.trans {p : Addr} {H H1 H2 : Hp} (a : Kp p H H1) (b : Kp p H1 H2) : Kp p H H2 := fun c o n h => b c o n (a c o n h)
theorem Kp.of {p : Addr} {H H' : Hp} (s : Same H H') : Kp p H H' := fun a o _ h => s a o h
theorem same_new {H : Hp} {p : Addr} {o : HO} (h : H p = none) : Same H (upd H p o) := fun b x e => look_new h e
theorem Kp.new {p q : Addr} {H : Hp} {o : HO} (h : H q = none) : Kp p H (upd H q o) := .of (same_new h)
theorem Kp.at {p : Addr} {H : Hp} {o : HO} : Kp p H (upd H p o) := fun a x n h => by rw [upd_ne n]; exact h
theorem same_kp {p : Addr} {H0 H H' : Hp} (s : Same H0 H) (n : H0 p = none) (k : Kp p H H') : Same H0 H' := fun a o h => k a o (ne_of_none h n) (s a o h)
theorem sqL_new {K : PySem.W.Frag} {p a : Addr} {H : Hp} {o : HO} {xs : List V} (n : H p = none) (h : SqL K H a xs) : SqL K (upd H p o) a xs := (same_new n).seq h
theorem sqL_same {K : PySem.W.Frag} {a : Addr} {H H' : Hp} {xs : List V} (s : Same H H') (h : SqL K H a xs) : SqL K H' a xs := s.seq h
theorem by_all {K : PySem.W.Frag} {a : Addr} {xs : List V} {H : Hp} (h : ∀ H, SqT K H a xs) : SqT K H a xs := h H
def Pool (H : Hp) (p : Addr) : Prop := ∃ x y : Int, H p = some (.lst [.int x, .int y]) ∧ 0 ≤ x ∧ 0 ≤ y ∧ y < 2147483647
theorem look_kp {p a : Addr} {H H' : Hp} {u : HO} (k : Kp p H H') (n : a ≠ p) (h : H a = some u) : H' a = some u := k a u n h
theorem Pool.ne {H : Hp} {p a : Addr} (h : Pool H p) (n : H a = none) : a ≠ p := by
  obtain ⟨x, y, e, _⟩ := h
  exact (ne_of_none e n).symm
theorem Pool.ne' {H : Hp} {p a : Addr} (n : H a = none) (h : Pool H p) : a ≠ p := h.ne n
theorem Pool.new {H : Hp} {p q : Addr} {o : HO} (h : Pool H p) (n : H q = none) : Pool (upd H q o) p := by
  obtain ⟨x, y, e, r⟩ := h
  exact ⟨x, y, look_new n e, r⟩
theorem Pool.same {H H' : Hp} {p : Addr} (h : Pool H p) (s : Same H H') : Pool H' p := by
  obtain ⟨x, y, e, r⟩ := h
  exact ⟨x, y, s _ _ e, r⟩
theorem Pool.same' {H H' : Hp} {p : Addr} (s : Same H H') (h : Pool H p) : Pool H' p := h.same s
theorem Pool.new' {H : Hp} {p q : Addr} {o : HO} (n : H q = none) (h : Pool H p) : Pool (upd H q o) p := h.new n
def spTake : Sp := fun vs H Q _ => ∃ (p : Addr) (m : Int), vs = [.ref p, .int m] ∧ Pool H p ∧ 0 < m ∧ m < 1073741824 ∧ ∀ r H', 0 ≤ r → r < m → Pool H' p → Kp p H H' → Q (.int r) H'
theorem use_take {p : Addr} {m : Int} {H : Hp} {Q : VK} {E : XK} (h1 : Pool H p) (h2 : 0 < m) (h3 : m < 1073741824) (q : ∀ r H', 0 ≤ r → r < m → Pool H' p → Kp p H H' → Q (.int r) H') : spTake ([.ref p, .int m] ++ []) H Q E := ⟨p, m, rfl, h1, h2, h3, q⟩
def spPool (K : PySem.W.Frag) : Sp := fun vs H Q _ => ∃ (a : Addr) (ns : List Int) (k : Int), vs = [.ref a, .int k] ∧ SqL K H a (ns.map V.int) ∧ ns.length ≤ 63 ∧ 0 ≤ k ∧ k < 64 ∧ ∀ p H', H p = none → Same H H' → Pool H' p → Q (.ref p) H'
theorem use_pool {K : PySem.W.Frag} {a : Addr} {ns : List Int} {k : Int} {H : Hp} {Q : VK} {E : XK} (h1 : SqL K H a (ns.map V.int)) (h2 : ns.length ≤ 63) (h3 : 0 ≤ k) (h4 : k < 64) (q : ∀ p H', H p = none → Same H H' → Pool H' p → Q (.ref p) H') : spPool K ([.ref a, .int k] ++ []) H Q E := ⟨a, ns, k, rfl, h1, h2, h3, h4, q⟩
def spNumber : Sp := fun vs H Q _ => ∃ (p : Addr), vs = [.ref p] ∧ Pool H p ∧ ∀ r H', r.natAbs < 10 ^ 55 → Pool H' p → Kp p H H' → Q (.int r) H'
theorem great_nn (z : Int) (b : Bool) : 0 ≤ (if z < 0 then -z else z) * (if b = true then (1 : Int) else 0) := Int.mul_nonneg (by split <;> omega) (by split <;> decide)
theorem use_number {p : Addr} {H : Hp} {Q : VK} {E : XK} (h1 : Pool H p) (q : ∀ r H', r.natAbs < 10 ^ 55 → Pool H' p → Kp p H H' → Q (.int r) H') : spNumber ([.ref p] ++ []) H Q E := ⟨p, rfl, h1, q⟩
def isI : V → Bool
  | .int _ => true
  | _ => false
def TyV (H : Hp) : V → Prop
  | .non => True
  | .bl _ => True
  | .int _ => True
  | .str _ => True
  | .ref a => (∃ xs, H a = some (.lst xs)) ∨ ∃ xs, H a = some (.tup xs)
  | _ => False
def spIsI : Sp := fun vs H Q _ => ∃ x, vs = [x] ∧ TyV H x ∧ Q (.bl (isI x)) H
theorem use_isi {x : V} {H : Hp} {Q : VK} {E : XK} (t : TyV H x) (q : Q (.bl (isI x)) H) : spIsI ([x] ++ []) H Q E := ⟨x, rfl, t, q⟩
theorem use_isi_int {i : Int} {H : Hp} {Q : VK} {E : XK} (q : Q (.bl true) H) : spIsI ([.int i] ++ []) H Q E := ⟨_, rfl, trivial, q⟩
def inI (x : V) (lo hi : Int) : Bool := match x with
  | .int i => decide (lo ≤ i ∧ i ≤ hi)
  | _ => false
def spWithin : Sp := fun vs H Q _ => ∃ x lo hi, vs = [x, .int lo, .int hi] ∧ TyV H x ∧ Q (.bl (inI x lo hi)) H
theorem use_within {x : V} {lo hi : Int} {H : Hp} {Q : VK} {E : XK} (t : TyV H x) (q : Q (.bl (inI x lo hi)) H) : spWithin ([x, .int lo, .int hi] ++ []) H Q E := ⟨x, lo, hi, rfl, t, q⟩
theorem use_within_int {i lo hi : Int} {H : Hp} {Q : VK} {E : XK} (q : Q (.bl (decide (lo ≤ i ∧ i ≤ hi))) H) : spWithin ([.int i, .int lo, .int hi] ++ []) H Q E := ⟨_, lo, hi, rfl, trivial, q⟩
def spCkI : Sp := fun vs H Q _ => ∃ i, vs = [.int i] ∧ Q .non H
theorem use_cki {i : Int} {H : Hp} {Q : VK} {E : XK} (q : Q .non H) : spCkI ([.int i] ++ []) H Q E := ⟨_, rfl, q⟩
def spCkW : Sp := fun vs H Q _ => ∃ i lo hi, vs = [.int i, .int lo, .int hi] ∧ lo ≤ i ∧ i ≤ hi ∧ Q .non H
theorem use_ckw {i lo hi : Int} {H : Hp} {Q : VK} {E : XK} (h1 : lo ≤ i) (h2 : i ≤ hi) (q : Q .non H) : spCkW ([.int i, .int lo, .int hi] ++ []) H Q E := ⟨_, _, _, rfl, h1, h2, q⟩
def spQuant : Sp := fun vs H Q _ => ∃ v s, vs = [.int v, .int s] ∧ 1 ≤ s ∧ s ≤ 64 ∧ Q (.int ((2 * v + s) / (2 * s))) H
theorem use_quant {v s : Int} {H : Hp} {Q : VK} {E : XK} (h1 : 1 ≤ s) (h2 : s ≤ 64) (q : Q (.int ((2 * v + s) / (2 * s))) H) : spQuant ([.int v, .int s] ++ []) H Q E := ⟨v, s, rfl, h1, h2, q⟩
theorem use_quantK {v s : Int} {H : Hp} {Q : VK} {E : XK} (h1 : 1 ≤ s) (h2 : s ≤ 64) (q : Q (.int ((2 * v + s) / (2 * s))) H) : spQuant (kg 0 2 [1, 0] [] [.int s, .int v]) H Q E := ⟨v, s, rfl, h1, h2, q⟩
def cC (s : Int) : Int := if s = 0 then -1 else if s = 1 then -2 else if s = 2 then 1 else 2
def cD (s : Int) : Int := if s = 0 then 2 else if s = 1 then 3 else if s = 2 then -2 else -3
def foldP (s a b : Int) : Int × Int :=
  (a + (cC s * b + 2) / 4 + (cC s * (b + (cD s * (a + (cC s * b + 2) / 4) + 2) / 4) + 2) / 4, b + (cD s * (a + (cC s * b + 2) / 4) + 2) / 4)
def unfoldP (s a b : Int) : Int × Int :=
  (a - (cC s * b + 2) / 4 - (cC s * (b - (cD s * (a - (cC s * b + 2) / 4) + 2) / 4) + 2) / 4, b - (cD s * (a - (cC s * b + 2) / 4) + 2) / 4)
theorem unfold_fold (s a b : Int) : unfoldP s (foldP s a b).1 (foldP s a b).2 = (a, b) := by
  unfold unfoldP foldP
  dsimp only
  rw [Int.add_sub_cancel, Int.add_sub_cancel, Int.add_sub_cancel]
theorem fold_unfold (s a b : Int) : foldP s (unfoldP s a b).1 (unfoldP s a b).2 = (a, b) := by
  unfold unfoldP foldP
  dsimp only
  rw [Int.sub_add_cancel, Int.sub_add_cancel, Int.sub_add_cancel]
def spPair (f : Int → Int → Int → Int × Int) : Sp := fun vs H Q _ => ∃ s a b, vs = [.int s, .int a, .int b] ∧ 0 ≤ s ∧ s < 4 ∧ ∀ p, H p = none → Q (.ref p) (upd H p (.tup [.int (f s a b).1, .int (f s a b).2]))
theorem use_pair {f : Int → Int → Int → Int × Int} {s a b : Int} {H : Hp} {Q : VK} {E : XK} (h1 : 0 ≤ s) (h2 : s < 4) (q : ∀ p, H p = none → Q (.ref p) (upd H p (.tup [.int (f s a b).1, .int (f s a b).2]))) : spPair f ([.int s, .int a, .int b] ++ []) H Q E := ⟨s, a, b, rfl, h1, h2, q⟩
def spCkP : Sp := fun vs H Q _ => ∃ s a b, vs = [.int s, .int a, .int b] ∧ 0 ≤ s ∧ s < 4 ∧ Q .non H
theorem use_ckp {s a b : Int} {H : Hp} {Q : VK} {E : XK} (h1 : 0 ≤ s) (h2 : s < 4) (q : Q .non H) : spCkP ([.int s, .int a, .int b] ++ []) H Q E := ⟨s, a, b, rfl, h1, h2, q⟩
def spLFold : Sp := fun vs H Q _ => ∃ s a b, vs = [.int s, .int a, .int b] ∧ 0 ≤ s ∧ s < 4 ∧ ∀ p H', Same H H' → H' p = some (.tup [.int (foldP s a b).1, .int (foldP s a b).2]) → Q (.ref p) H'
theorem use_lfold {s a b : Int} {H : Hp} {Q : VK} {E : XK} (h1 : 0 ≤ s) (h2 : s < 4) (q : ∀ p H', Same H H' → H' p = some (.tup [.int (foldP s a b).1, .int (foldP s a b).2]) → Q (.ref p) H') : spLFold ([.int s, .int a, .int b] ++ []) H Q E := ⟨s, a, b, rfl, h1, h2, q⟩
def spIsPair : Sp := fun vs H Q _ => ∃ p x y, vs = [.ref p] ∧ H p = some (.tup [.int x, .int y]) ∧ Q (.bl true) H
theorem use_ispair {p : Addr} {x y : Int} {H : Hp} {Q : VK} {E : XK} (h : H p = some (.tup [.int x, .int y])) (q : Q (.bl true) H) : spIsPair ([.ref p] ++ []) H Q E := ⟨p, x, y, rfl, h, q⟩
theorem look_upd {H : Hp} {p a : Addr} {o u : HO} (n : a ≠ p) (h : H a = some u) : upd H p o a = some u := by rw [upd_ne n]; exact h
def Kp2 (p q : Addr) (H H' : Hp) : Prop := ∀ a o, a ≠ p → a ≠ q → H a = some o → H' a = some o
theorem Kp2.refl {p q : Addr} {H : Hp} : Kp2 p q H H := fun _ _ _ _ h => h
theorem Kp2.trans {p q : Addr} {H H1 H2 : Hp} (a : Kp2 p q H H1) (b : Kp2 p q H1 H2) : Kp2 p q H H2 := fun c o n m h => b c o n m (a c o n m h)
theorem Kp2.ofK {p q : Addr} {H H' : Hp} (k : Kp p H H') : Kp2 p q H H' := fun a o n _ h => k a o n h
theorem Kp2.ofS {p q : Addr} {H H' : Hp} (k : Same H H') : Kp2 p q H H' := fun a o _ _ h => k a o h
theorem Kp2.new {p q r : Addr} {H : Hp} {o : HO} (h : H r = none) : Kp2 p q H (upd H r o) := .ofS (same_new h)
theorem Kp2.at {p q : Addr} {H : Hp} {o : HO} : Kp2 p q H (upd H q o) := fun a x _ n h => by rw [upd_ne n]; exact h
theorem close_turn {p : Addr} {H H1 H2 H3 : Hp} (s : Same H H1) (n : H1 p = none) (s2 : Same H1 H2) (k : Kp p H2 H3) : Same H H3 := same_kp (s.trans s2) (s.free n) k
theorem mm_nat (n c : Nat) (hc : 1 ≤ c) : (if (if (c : Int) < (n : Int) then (c : Int) else (n : Int)) > 1 then (if (c : Int) < (n : Int) then (c : Int) else (n : Int)) else 1).toNat ≤ c := by
  split
  · split <;> omega
  · split <;> omega
theorem if_no {c : Bool} {A B : Prop} (h : c = false) (q : B) : if c = true then A else B := by rw [h]; exact iteF q
theorem if_yes {c : Bool} {A B : Prop} (h : c = true) (q : A) : if c = true then A else B := by rw [h]; exact iteT q
theorem if_noD {p : Prop} [Decidable p] {A B : Prop} (h : ¬ p) (q : B) : if decide p = true then A else B := if_no (decide_eq_false h) q
theorem if_yesD {p : Prop} [Decidable p] {A B : Prop} (h : p) (q : A) : if decide p = true then A else B := if_yes (decide_eq_true h) q
theorem if_noN {p : Prop} [Decidable p] {A B : Prop} (h : p) (q : B) : if (!decide p) = true then A else B := if_no (by rw [decide_eq_true h]; rfl) q
theorem if_yesN {p : Prop} [Decidable p] {A B : Prop} (h : ¬ p) (q : A) : if (!decide p) = true then A else B := if_yes (by rw [decide_eq_false h]; rfl) q
theorem canLay_ints : ∀ ns : List Int, PyData.canLayAll0 (ns.map PyData.int) = true
  | [] => rfl
  | n :: r => by
    show (PyData.canLay0 (.int n) && PyData.canLayAll0 (r.map PyData.int)) = true
    rw [canLay_ints r]
    rfl
theorem depth_ints : ∀ ns : List Int, PyData.depthAll (ns.map PyData.int) = 0
  | [] => rfl
  | n :: r => by
    show max (PyData.depth (.int n)) (PyData.depthAll (r.map PyData.int)) = 0
    rw [depth_ints r]
    rfl
theorem shaped_ints (ns : List Int) : SeqAt.shaped (.list (ns.map PyData.int)) = true := by
  show (PyData.canLayAll0 (ns.map PyData.int) && decide (PyData.depthAll (ns.map PyData.int) + 1 ≤ 64)) = true
  rw [canLay_ints, depth_ints]
  rfl
theorem eqv_ints : ∀ ns ms : List Int, PyData.eqvAll (ns.map PyData.int) (ms.map PyData.int) = decide (ns = ms)
  | [], [] => by simp [PyData.eqvAll]
  | [], m :: r => by simp [PyData.eqvAll]
  | n :: r, [] => by simp [PyData.eqvAll]
  | n :: r, m :: t => by
    show (PyData.eqv (.int n) (.int m) && PyData.eqvAll (r.map PyData.int) (t.map PyData.int)) = decide (n :: r = m :: t)
    rw [eqv_ints r t]
    show ((n == m) && decide (r = t)) = decide (n :: r = m :: t)
    by_cases h : n = m
    · subst h
      simp
    · have e : (n == m) = false := by simpa using h
      rw [e, Bool.false_and]
      exact (decide_eq_false fun z => h (List.cons.inj z).1).symm
section
variable {K : PySem.W.Frag} {H : Hp} {Q : VK} {p q : Addr} {ns ms : List Int}
theorem rd_neL (hp : SqL K H p (ns.map V.int)) (hq : SqL K H q (ms.map V.int)) (h : Q (.bl (!decide (ns = ms))) H) : rNeD K (.ref p) (.ref q) H Q :=
  ⟨_, _, .lst hp (dp_ints ns), .lst hq (dp_ints ms), shaped_ints ns, shaped_ints ms, by
    rw [show PyData.eqv (.list (ns.map PyData.int)) (.list (ms.map PyData.int)) = decide (ns = ms) by rw [← eqv_ints]; simp only [PyData.eqv]]
    exact h⟩
theorem rd_eqL (hp : SqL K H p (ns.map V.int)) (hq : SqL K H q (ms.map V.int)) (h : Q (.bl (decide (ns = ms))) H) : rEqD K (.ref p) (.ref q) H Q :=
  ⟨_, _, .lst hp (dp_ints ns), .lst hq (dp_ints ms), shaped_ints ns, shaped_ints ms, by
    rw [show PyData.eqv (.list (ns.map PyData.int)) (.list (ms.map PyData.int)) = decide (ns = ms) by rw [← eqv_ints]; simp only [PyData.eqv]]
    exact h⟩
theorem rd_neN (hp : SqL K H p (ns.map V.int)) (hq : SqL K H q []) (h : Q (.bl (!decide (ns = []))) H) : rNeD K (.ref p) (.ref q) H Q := rd_neL (ms := []) hp hq h
end
section
variable {K : PySem.W.Frag} {σ : L2.St} {H : Hp} {Q : VK} {g : TG} {tb : TS} {D : Ends}
theorem rd_forE {ts : TA} (h : ts σ H fun vs H1 => ∃ a xs, vs = [.ref a] ∧ SqL K H1 a xs ∧ LpW (Ite K a) g tb D σ H1) : tFor (iEnum K ts) g tb D σ H := h
theorem for_enum {a : Addr} {xs : List V} (Pv : Nat → L2.St → Hp → Prop) (h0 : Pv 0 σ H) (hl : ∀ i σ H, i ≤ xs.length → Pv i σ H → SqL K H a xs)
    (hs : ∀ i x σ H T, xs[i]? = some x → Pv i σ H → H T = none → g (.ref T) σ (upd H T (.tup [.int (i : Nat), x])) fun σ2 H2 => tb { D with nx := Pv (i + 1), ct := Pv (i + 1), bk := D.nx } σ2 H2) (hd : ∀ σ H, Pv xs.length σ H → D.nx σ H) : LpW (Ite K a) g tb D σ H := by
  refine ⟨fun i m σ H => m = xs.length - i ∧ i ≤ xs.length ∧ Pv i σ H, ⟨xs.length, by simp, Nat.zero_le _, h0⟩, ?_⟩
  rintro i m σ H ⟨rfl, hi, p⟩
  have q := hl i σ H hi p
  by_cases hlt : i < xs.length
  · refine .inr ⟨⟨xs, xs[i], q, by simp [hlt]⟩, Pv (i + 1), fun σ' H' p' => ⟨xs.length - (i + 1), by omega, rfl, hlt, p'⟩, fun x H' y => ?_⟩
    obtain ⟨T, x1, rfl, nT, rfl, y⟩ := y
    exact hs i x1 σ H T (y xs q) p nT
  · have e : i = xs.length := by omega
    subst e
    exact .inl ⟨⟨xs, q, Nat.le_refl _⟩, hd σ H p⟩
theorem rd_forZ {ts : TA} (h : ts σ H fun vs H1 => ∃ a b xs ys, vs = [.ref a, .ref b] ∧ ((SqL K H1 a xs ∧ SqL K H1 b ys ∧ LpW (Itz K a b) g tb D σ H1) ∨ (SqT K H1 a xs ∧ SqT K H1 b ys ∧ LpW (RZ.ItzT K a b) g tb D σ H1))) : tFor (RZ.iZipA K ts) g tb D σ H := h
theorem for_zip {a b : Addr} {xs ys : List V} (hln : xs.length = ys.length) (Pv : Nat → L2.St → Hp → Prop) (h0 : Pv 0 σ H) (hl : ∀ i σ H, i ≤ xs.length → Pv i σ H → SqL K H a xs ∧ SqL K H b ys)
    (hs : ∀ i x y σ H T, xs[i]? = some x → ys[i]? = some y → Pv i σ H → H T = none → g (.ref T) σ (upd H T (.tup [x, y])) fun σ2 H2 => tb { D with nx := Pv (i + 1), ct := Pv (i + 1), bk := D.nx } σ2 H2) (hd : ∀ σ H, Pv xs.length σ H → D.nx σ H) : LpW (Itz K a b) g tb D σ H := by
  refine ⟨fun i m σ H => m = xs.length - i ∧ i ≤ xs.length ∧ Pv i σ H, ⟨xs.length, by simp, Nat.zero_le _, h0⟩, ?_⟩
  rintro i m σ H ⟨rfl, hi, p⟩
  obtain ⟨q1, q2⟩ := hl i σ H hi p
  by_cases hlt : i < xs.length
  · have hlt2 : i < ys.length := by omega
    refine .inr ⟨⟨xs, ys, xs[i], ys[i], q1, q2, by simp [hlt], by simp [hlt2]⟩, Pv (i + 1), fun σ' H' p' => ⟨xs.length - (i + 1), by omega, rfl, hlt, p'⟩, fun x H' y => ?_⟩
    obtain ⟨T, x1, y1, rfl, nT, rfl, f1, f2⟩ := y
    exact hs i x1 y1 σ H T (f1 xs q1) (f2 ys q2) p nT
  · have e : i = xs.length := by omega
    subst e
    exact .inl ⟨⟨xs, ys, q1, q2, .inl (Nat.le_refl _)⟩, hd σ H p⟩
theorem for_zipT {a b : Addr} {xs ys : List V} (hln : xs.length = ys.length) (Pv : Nat → L2.St → Hp → Prop) (h0 : Pv 0 σ H) (hl : ∀ i σ H, i ≤ xs.length → Pv i σ H → SqT K H a xs ∧ SqT K H b ys)
    (hs : ∀ i x y σ H T, xs[i]? = some x → ys[i]? = some y → Pv i σ H → H T = none → g (.ref T) σ (upd H T (.tup [x, y])) fun σ2 H2 => tb { D with nx := Pv (i + 1), ct := Pv (i + 1), bk := D.nx } σ2 H2) (hd : ∀ σ H, Pv xs.length σ H → D.nx σ H) : LpW (RZ.ItzT K a b) g tb D σ H := by
  refine ⟨fun i m σ H => m = xs.length - i ∧ i ≤ xs.length ∧ Pv i σ H, ⟨xs.length, by simp, Nat.zero_le _, h0⟩, ?_⟩
  rintro i m σ H ⟨rfl, hi, p⟩
  obtain ⟨q1, q2⟩ := hl i σ H hi p
  by_cases hlt : i < xs.length
  · have hlt2 : i < ys.length := by omega
    refine .inr ⟨⟨xs, ys, xs[i], ys[i], q1, q2, by simp [hlt], by simp [hlt2]⟩, Pv (i + 1), fun σ' H' p' => ⟨xs.length - (i + 1), by omega, rfl, hlt, p'⟩, fun x H' y => ?_⟩
    obtain ⟨T, x1, y1, rfl, nT, rfl, f1, f2⟩ := y
    exact hs i x1 y1 σ H T (f1 xs q1) (f2 ys q2) p nT
  · have e : i = xs.length := by omega
    subst e
    exact .inl ⟨⟨xs, ys, q1, q2, .inl (Nat.le_refl _)⟩, hd σ H p⟩
def LcW (J : It) (g : TG) (tt : TT) (te : TE) (vs : List Nat) (Q : VK) (σ : L2.St) (H1 : Hp) (D : Addr) : Prop := ∃ W : Nat → Nat → Hp → Prop, (∃ m, W 0 m (upd H1 D (.lst []))) ∧ ∀ i m H, W i m H →
  (J.stop i H ∧ Q (.ref D) H) ∨ (J.go i H ∧ ∃ Nx : Hp → Prop, (∀ H', Nx H' → ∃ m', m' < m ∧ W (i + 1) m' H') ∧ ∀ x H', J.yld i H x H' → g x (wipe σ vs) H' fun σ2 H2 => wipe σ2 vs = wipe σ vs ∧ tt σ2 H2 fun b H3 =>
    if b = true then te σ2 H3 fun y H4 => ∃ acc, H4 D = some (.lst acc) ∧ acc.length < sizeLine ∧ Nx (upd H4 D (.lst (acc ++ [y]))) else Nx H3)
theorem rd_lc1 {ts : TA} {tt : TT} {te : TE} {vs : List Nat} (h : ts σ H fun us H1 => ∃ j : Int, us = [.int j] ∧ -(2 ^ 62) ≤ j ∧ j < 2 ^ 62 ∧ ∀ D, H1 D = none → LcW (Itr 0 j.toNat) g tt te vs Q σ H1 D) : tLc (iRng1 ts) g tt te vs σ H Q := h
theorem rd_yes {σ : L2.St} {H : Hp} {A B : Hp → Prop} (h : A H) : tYes σ H fun b H3 => if b = true then A H3 else B H3 := by
  show if true = true then A H else B H
  rw [if_pos rfl]
  exact h
theorem kp_app {p D : Addr} {H1 H H' : Hp} {o : HO} (hD : H1 D = none) (k : Kp p H1 H) (k2 : Kp p H H') : Kp p H1 (upd H' D o) := fun a x n e => by
  rw [upd_ne (ne_of_none e hD)]
  exact k2 a x n (k a x n e)
theorem rd_lcD {J : It} {tt : TT} {te : TE} {vs : List Nat} (h : ∀ D, H D = none → LcW J g tt te vs Q σ H D) : ∀ D, H D = none → LcW J g tt te vs Q σ H D := h
theorem lc_numbers {vs : List Nat} {i k : Nat} {p D : Addr} {n : Nat} {H1 : Hp} (hσ : ∀ v, ((wipe σ vs).set k (some v))[i]? = some (some (.ref p))) (hw : ∀ v, wipe ((wipe σ vs).set k (some v)) vs = wipe σ vs) (hP : Pool H1 p) (hD : H1 D = none) (hn : n ≤ 1000)
    (q : ∀ (ns : List Int) H', ns.length = n → (∀ z ∈ ns, z.natAbs < 10 ^ 55) → Pool H' p → Kp p H1 H' → H' D = some (.lst (ns.map V.int)) → Q (.ref D) H') :
    LcW (Itr 0 n) (gName k) tYes (tCall spNumber [] E0 (tCons (tVar i) tNil)) vs Q σ H1 D := by
  have hDp : D ≠ p := hP.ne hD
  refine lc_range (Pv := fun j H => ∃ ns : List Int, ns.length = j ∧ (∀ z ∈ ns, z.natAbs < 10 ^ 55) ∧ Pool H p ∧ Kp p H1 H ∧ H D = some (.lst (ns.map V.int))) ⟨[], rfl, List.forall_mem_nil _, hP.new hD, Kp.new hD, upd_same⟩ (fun j H hj hI => ?_) (fun H hI => ?_)
  · obtain ⟨ns, hl, hb, hP', hK, hd⟩ := hI
    refine ⟨hw _, rd_yes ?_⟩
    refine rd_call (rd_cons (rd_var (hσ _) (rd_nil (use_number hP' fun r H' hr hP2 hK2 => ?_))))
    refine ⟨_, hK2 _ _ hDp hd, ?_, ns ++ [r], ?_, ?_, ?_, kp_app hD hK hK2, ?_⟩
    · rw [List.length_map]
      exact small1000 (by omega)
    · rw [List.length_append, hl]
      rfl
    · intro z hz
      rcases List.mem_append.mp hz with hz | hz
      · exact hb z hz
      · rw [List.mem_singleton.mp hz]
        exact hr
    · obtain ⟨x, y, e, r⟩ := hP2
      exact ⟨x, y, by rw [upd_ne hDp.symm]; exact e, r⟩
    · rw [upd_same, List.map_append]
      rfl
  · obtain ⟨ns, hl, hb, hP', hK, hd⟩ := hI
    exact q ns H hl hb hP' hK hd
end
def scalarV : V → Bool
  | .non => true
  | .bl _ => true
  | .int _ => true
  | .str _ => true
  | _ => false
def LstV (K : PySem.W.Frag) (H : Hp) (a : Addr) (xs : List V) : Prop := SqL K H a xs ∧ TyX K H (.ref a) (.type "list")
def TupV (K : PySem.W.Frag) (H : Hp) (a : Addr) (xs : List V) : Prop := SqT K H a xs ∧ TyX K H (.ref a) (.type "tuple")
def SmV (K : PySem.W.Frag) (H : Hp) : Nat → V → V → Prop
  | 0, x, y => x = y ∧ scalarV x = true
  | n + 1, x, y => (x = y ∧ scalarV x = true) ∨ (∃ a b xs ys, x = .ref a ∧ y = .ref b ∧ LstV K H a xs ∧ LstV K H b ys ∧ xs.length = ys.length ∧ ∀ (i : Nat) x y, xs[i]? = some x → ys[i]? = some y → SmV K H n x y) ∨
      ∃ a b xs ys, x = .ref a ∧ y = .ref b ∧ TupV K H a xs ∧ TupV K H b ys ∧ xs.length = ys.length ∧ ∀ (i : Nat) x y, xs[i]? = some x → ys[i]? = some y → SmV K H n x y
theorem LstV.of {K : PySem.W.Frag} {H : Hp} {a : Addr} {xs : List V} (h : H a = some (.lst xs)) : LstV K H a xs := ⟨SqL.of h, .base (.lst h)⟩
theorem TupV.of {K : PySem.W.Frag} {H : Hp} {a : Addr} {xs : List V} (h : H a = some (.tup xs)) : TupV K H a xs := ⟨SqT.of h, .base (.tup h)⟩
section
variable {K : PySem.W.Frag} {H H' : Hp}
theorem tyo_same {x : V} {t : Value} (s : Same H H') (h : TyOf K H x t) : TyOf K H' x t := by
  cases h with
  | non => exact .non
  | bl x => exact .bl x
  | int i => exact .int i
  | str x => exact .str x
  | flt x => exact .flt x
  | lst e => exact .lst (s _ _ e)
  | frz e => exact .frz (s _ _ e)
  | tup e => exact .tup (s _ _ e)
  | dK e => exact .dK (s _ _ e)
  | dT e => exact .dT (s _ _ e)
  | ins e cl ha hn htk hm => exact .ins (s _ _ e) cl ha hn htk hm
theorem tyx_same {x : V} {t : Value} (s : Same H H') (h : TyX K H x t) : TyX K H' x t := by
  cases h with
  | base b => exact .base (tyo_same s b)
  | byt b => exact .byt b
  | set e => exact .set (s _ _ e)
  | kList e c => exact .kList e c
  | kTuple e c => exact .kTuple e c
  | kDict e c => exact .kDict e c
  | fTuple e => exact .fTuple (s _ _ e)
  | fDict e => exact .fDict (s _ _ e)
theorem LstV.same {a : Addr} {xs : List V} (s : Same H H') (h : LstV K H a xs) : LstV K H' a xs := ⟨s.seq h.1, tyx_same s h.2⟩
theorem same_seqT {a : Addr} {xs : List V} (s : Same H H') (h : SqT K H a xs) : SqT K H' a xs := by
  rcases h with (h | ⟨o, h⟩) | h
  · exact .inl (.inl (s _ _ h))
  · exact .inl (.inr ⟨o, s _ _ h⟩)
  · exact .inr h
theorem TupV.same {a : Addr} {xs : List V} (s : Same H H') (h : TupV K H a xs) : TupV K H' a xs := ⟨same_seqT s h.1, tyx_same s h.2⟩
theorem SmV.same (s : Same H H') : ∀ (n : Nat) {x y : V}, SmV K H n x y → SmV K H' n x y
  | 0, _, _, h => h
  | n + 1, x, y, h => by
    rcases h with h | ⟨a, b, xs, ys, e1, e2, h1, h2, l, h⟩ | ⟨a, b, xs, ys, e1, e2, h1, h2, l, h⟩
    · exact .inl h
    · exact .inr (.inl ⟨a, b, xs, ys, e1, e2, h1.same s, h2.same s, l, fun i x y a b => SmV.same s n (h i x y a b)⟩)
    · exact .inr (.inr ⟨a, b, xs, ys, e1, e2, h1.same s, h2.same s, l, fun i x y a b => SmV.same s n (h i x y a b)⟩)
theorem isi_ty {Q : VK} {x : V} {t n : String} {d : Bool} (h : TyX K H x (.type t)) (e : kitB t n = some d) (q : Q (.bl d) H) : rIsi K [x, .ty n] H Q := rd_isi (.ty n) h (kit_ty e) q
theorem sm_ints {p q : Addr} {ns : List Int} (hp : H p = some (.lst (ns.map V.int))) (hq : H q = some (.lst (ns.map V.int))) : SmV K H 1 (.ref p) (.ref q) :=
  .inr (.inl ⟨p, q, _, _, rfl, rfl, .of hp, .of hq, rfl, fun i x y e1 e2 => by
    rw [e1] at e2
    have e := Option.some.inj e2
    subst e
    rw [List.getElem?_map] at e1
    cases g : ns[i]? with
    | none => rw [g] at e1; cases e1
    | some z => rw [g] at e1; cases e1; exact ⟨rfl, rfl⟩⟩)
end
theorem sm_sc {K : PySem.W.Frag} {H : Hp} {x : V} (h : scalarV x = true) : ∀ {n : Nat}, SmV K H n x x
  | 0 => ⟨rfl, h⟩
  | _ + 1 => .inl ⟨rfl, h⟩
def spSame (K : PySem.W.Frag) (n : Nat) : Sp := fun vs H Q _ => ∃ x y, vs = [x, y] ∧ SmV K H n x y ∧ ∀ H', Same H H' → Q (.bl true) H'
theorem use_same {K : PySem.W.Frag} {n : Nat} {x y : V} {H : Hp} {Q : VK} {E : XK} (h : SmV K H n x y) (q : ∀ H', Same H H' → Q (.bl true) H') : spSame K n ([x, y] ++ []) H Q E := ⟨x, y, rfl, h, q⟩
def spItems (K : PySem.W.Frag) : Sp := fun vs H Q _ => ∃ (a : Addr) (ns : List Int), vs = [.ref a] ∧ SqL K H a (ns.map V.int) ∧ ∀ H', Same H H' → Q .non H'
theorem use_items {K : PySem.W.Frag} {a : Addr} {ns : List Int} {H : Hp} {Q : VK} {E : XK} (h : SqL K H a (ns.map V.int)) (q : ∀ H', Same H H' → Q .non H') : spItems K ([.ref a] ++ []) H Q E := ⟨a, ns, rfl, h, q⟩
def spBlock : Sp := fun vs H Q _ => ∃ (a : Addr) (ns : List Int) (least : Int), vs = [.ref a, .int least] ∧ H a = some (.lst (ns.map V.int)) ∧ least ≤ ns.length ∧ ns.length ≤ 64 ∧ ∀ H', Same H H' → Q .non H'
theorem use_block {a : Addr} {ns : List Int} {least : Int} {H : Hp} {Q : VK} {E : XK} (h : H a = some (.lst (ns.map V.int))) (h1 : least ≤ ns.length) (h2 : ns.length ≤ 64) (q : ∀ H', Same H H' → Q .non H') : spBlock ([.ref a, .int least] ++ []) H Q E := ⟨a, ns, least, rfl, h, h1, h2, q⟩
def codeU (n : Int) : Int := if n ≥ 0 then 2 * n else -2 * n - 1
def spCode : Sp := fun vs H Q _ => ∃ n, vs = [.int n] ∧ Q (.int (codeU n)) H
theorem use_code {n : Int} {H : Hp} {Q : VK} {E : XK} (q : Q (.int (codeU n)) H) : spCode ([.int n] ++ []) H Q E := ⟨n, rfl, q⟩
def markF (ns : List Int) : Int := ns.foldl (fun m n => (m * 31 + codeU n) % 9973) 1
def spMark : Sp := fun vs H Q _ => ∃ (a : Addr) (ns : List Int), vs = [.ref a] ∧ H a = some (.lst (ns.map V.int)) ∧ ns.length ≤ 64 ∧ ∀ H', Same H H' → Q (.int (markF ns)) H'
theorem use_mark {a : Addr} {ns : List Int} {H : Hp} {Q : VK} {E : XK} (h : H a = some (.lst (ns.map V.int))) (h2 : ns.length ≤ 64) (q : ∀ H', Same H H' → Q (.int (markF ns)) H') : spMark ([.ref a] ++ []) H Q E := ⟨a, ns, rfl, h, h2, q⟩
def jx (u v : V) : Bool := match u, v with
  | .int w, .int t => decide (0 < w) || decide (t = 0)
  | _, _ => false
def jt (u v : V) : Bool := inI u 0 8 && (inI v 0 3 && jx u v)
inductive JR (H : Hp) : V → Bool → Prop where
  | flat {x : V} (h : scalarV x = true) : JR H x false
  | lst {a : Addr} {xs : List V} (h : H a = some (.lst xs)) : JR H (.ref a) false
  | tupn {a : Addr} {xs : List V} (h : H a = some (.tup xs)) (n : xs.length ≠ 2) : JR H (.ref a) false
  | tup2 {a : Addr} {u v : V} (h : H a = some (.tup [u, v])) (hu : TyV H u) (hv : TyV H v) : JR H (.ref a) (jt u v)
theorem inI_isI {x : V} {lo hi : Int} (h : inI x lo hi = true) : isI x = true := by
  cases x <;> first | rfl | exact Bool.noConfusion h
theorem isI_yes {x : V} (h : isI x = true) : ∃ i, x = .int i := by
  cases x <;> first | exact ⟨_, rfl⟩ | exact Bool.noConfusion h
def spS : List Int → List Int
  | a :: b :: r => ((a + b) / 2) :: spS r
  | r => r
def spD : List Int → List Int
  | a :: b :: r => (a - b) :: spD r
  | _ => []
/-- behind i levels: the sums, and the differences -/
def lvS (ns : List Int) : Nat → List Int
  | 0 => ns
  | i + 1 => spS (lvS ns i)
def lvR (ns : List Int) : Nat → List Int
  | 0 => []
  | i + 1 => spD (lvS ns i) ++ lvR ns i
def splitL (ns : List Int) (i : Nat) : List Int := lvS ns i ++ lvR ns i
theorem rg2 (n : Nat) (h : n ≤ 64) : RgC 0 ((n : Int) - 1) 2 (n / 2) := by
  have hs : Builtin.Range.rangeSize 0 ((n : Int) - 1) 2 = ((n / 2 : Nat) : Int) := by
    unfold Builtin.Range.rangeSize
    rw [if_pos (by decide)]
    split <;> omega
  refine ⟨by decide, by decide, ?_, hs⟩
  unfold Builtin.Range.small
  rw [hs]
  simp only [Builtin.Range.rangeFitsLong, Bool.and_eq_true, Bool.or_eq_true, decide_eq_true_eq, beq_iff_eq, show ((2 : Int) > 0) by decide, if_true]
  omega
section
variable {K : PySem.W.Frag} {σ : L2.St} {H : Hp} {Q : VK} {g : TG} {tb : TS} {D : Ends}
theorem rd_for3 {ts : TA} (h : ts σ H fun vs H1 => ∃ (i j c : Int) (n : Nat), vs = [.int i, .int j, .int c] ∧ RgC i j c n ∧ LpW (Itc i c n) g tb D σ H1) : tFor (iRng3 ts) g tb D σ H := h
theorem rd_n3 {n : Nat} {A : Int → Int → Int → Nat → Prop} (h : n ≤ 64) (q : A 0 ((n : Int) - 1) 2 (n / 2)) : ∃ (i j c : Int) (k : Nat), [V.int 0, V.int ((n : Int) - 1), V.int 2] = [.int i, .int j, .int c] ∧ RgC i j c k ∧ A i j c k := ⟨_, _, _, _, rfl, rg2 n h, q⟩
theorem rd_catL {a b : Addr} {xs ys : List Int} (h1 : H a = some (.lst (xs.map V.int))) (h2 : H b = some (.lst (ys.map V.int))) (n : xs.length + ys.length ≤ 1000) (q : ∀ p, H p = none → Q (.ref p) (upd H p (.lst ((xs ++ ys).map V.int)))) : rCat (.ref a) (.ref b) H Q :=
  ⟨a, b, _, _, rfl, rfl, h1, h2, by rw [List.length_map, List.length_map]; exact Nat.le_of_lt (small1000 n), fun p hp => by rw [← List.map_append]; exact q p hp⟩
theorem rd_appI {a : Addr} {xs : List Int} {z : Int} (h : H a = some (.lst (xs.map V.int))) (n : xs.length ≤ 1000) (q : Q .non (upd H a (.lst ((xs ++ [z]).map V.int)))) : rAppend (.ref a) [.int z] H Q :=
  ⟨a, _, _, rfl, rfl, h, by rw [List.length_map]; exact small1000 n, by rw [List.map_append] at q; exact q⟩
theorem rd_sl {te : TE} {tl th : TO} {r : V → Option Int → Option Int → Hp → VK → Prop} (h : te σ H fun x H1 => tl σ H1 fun l H2 => th σ H2 fun u H3 => r x l u H3 Q) : L2.tSl r te tl th σ H Q := h
theorem rd_part {te : TE} {q : Option Int → Hp → Prop} (h : te σ H fun x H1 => ∃ i, x = .int i ∧ q (some i) H1) : tPart te σ H q := h
theorem rd_nopart {q : Option Int → Hp → Prop} (h : q none H) : tNoPart σ H q := h
theorem rd_oneI {i : Int} {P : Int → Prop} (h : P i) : ∃ j, V.int i = .int j ∧ P j := ⟨i, rfl, h⟩
theorem rd_bm {m : V → List V → Hp → VK → Prop} {to : TE} {ts : TA} (h : to σ H fun x H1 => tyV K "list" x H1 ∧ ts σ H1 fun xs H2 => m x xs H2 Q) : tBM K "list" m to ts σ H Q := h
theorem rd_tyL {a : Addr} {xs : List V} {P : Prop} (h : H a = some (.lst xs)) (q : P) : tyV K "list" (.ref a) H ∧ P := ⟨.inl ⟨rfl, _, .inl (.inl h)⟩, q⟩
end
def spOnce (K : PySem.W.Frag) : Sp := fun vs H Q _ => ∃ (a : Addr) (ns : List Int), vs = [.ref a] ∧ SqL K H a (ns.map V.int) ∧ ns.length ≤ 64 ∧ ∀ p s d H', Same H H' → H' p = some (.tup [.ref s, .ref d]) → H' s = some (.lst ((spS ns).map V.int)) → H' d = some (.lst ((spD ns).map V.int)) → H s = none → Q (.ref p) H'
theorem use_once {K : PySem.W.Frag} {a : Addr} {ns : List Int} {H : Hp} {Q : VK} {E : XK} (h : SqL K H a (ns.map V.int)) (n : ns.length ≤ 64) (q : ∀ p s d H', Same H H' → H' p = some (.tup [.ref s, .ref d]) → H' s = some (.lst ((spS ns).map V.int)) → H' d = some (.lst ((spD ns).map V.int)) → H s = none → Q (.ref p) H') : spOnce K ([.ref a] ++ []) H Q E := ⟨a, ns, rfl, h, n, q⟩
def spSplit : Sp := fun vs H Q _ => ∃ (a : Addr) (ns : List Int) (k : Int), vs = [.ref a, .int k] ∧ H a = some (.lst (ns.map V.int)) ∧ 1 ≤ ns.length ∧ ns.length ≤ 64 ∧ 0 ≤ k ∧ k ≤ 5 ∧ ∀ p H', H p = none → Same H H' → H' p = some (.lst ((splitL ns k.toNat).map V.int)) → Q (.ref p) H'
theorem use_split {a : Addr} {ns : List Int} {k : Int} {H : Hp} {Q : VK} {E : XK} (h : H a = some (.lst (ns.map V.int))) (h1 : 1 ≤ ns.length) (h2 : ns.length ≤ 64) (h3 : 0 ≤ k) (h4 : k ≤ 5) (q : ∀ p H', H p = none → Same H H' → H' p = some (.lst ((splitL ns k.toNat).map V.int)) → Q (.ref p) H') : spSplit ([.ref a, .int k] ++ []) H Q E := ⟨a, ns, k, rfl, h, h1, h2, h3, h4, q⟩
theorem use_splitK {a : Addr} {ns : List Int} {k : Int} {H : Hp} {Q : VK} {E : XK} (h : H a = some (.lst (ns.map V.int))) (h1 : 1 ≤ ns.length) (h2 : ns.length ≤ 64) (h3 : 0 ≤ k) (h4 : k ≤ 5) (q : ∀ p H', H p = none → Same H H' → H' p = some (.lst ((splitL ns k.toNat).map V.int)) → Q (.ref p) H') : spSplit (kg 0 2 [1, 0] [] [.int k, .ref a]) H Q E := ⟨a, ns, k, rfl, h, h1, h2, h3, h4, q⟩
def jn : List Int → List Int → List Int
  | s :: S, d :: D => (s - d / 2 + d) :: (s - d / 2) :: jn S D
  | S, _ => S
/-- how many are coarse -/
def cc (n : Nat) : Nat → Nat
  | 0 => n
  | i + 1 => (cc n i + 1) / 2
/-- the values when j of m levels are joined -/
def wv (ns : List Int) (m : Nat) : Nat → List Int
  | 0 => ns.take (cc ns.length m)
  | j + 1 => jn (wv ns m j) ((ns.drop (cc ns.length (m - j))).take (cc ns.length (m - (j + 1)) - cc ns.length (m - j)))
def joinL (ns : List Int) (m : Nat) : List Int := wv ns m m
section
variable {K : PySem.W.Frag} {σ : L2.St} {H : Hp} {Q : VK} {g : TG} {tb : TS} {D : Ends}
theorem rd_forV {te : TE} (h : te σ H fun x H1 => ∃ n, x = .int n ∧ (-(2 ^ 62) ≤ (0 : Int) ∧ (0 : Int) < 2 ^ 62 ∧ -(2 ^ 62) ≤ n ∧ n < 2 ^ 62 ∧ LpW (Itc (0 + (((n - 0).toNat : Nat) : Int) - 1) (-1) (n - 0).toNat) g tb D σ H1)) : tFor (iRevR (tRg1 te)) g tb D σ H := h
theorem rd_nV {n : Int} {P : Prop} (h1 : -(2 ^ 62) ≤ n) (h2 : n < 2 ^ 62) (q : P) : -(2 ^ 62) ≤ (0 : Int) ∧ (0 : Int) < 2 ^ 62 ∧ -(2 ^ 62) ≤ n ∧ n < 2 ^ 62 ∧ P := ⟨by decide, by decide, h1, h2, q⟩
end
def spJoin1 : Sp := fun vs H Q _ => ∃ (s d : Addr) (S D : List Int), vs = [.ref s, .ref d] ∧ H s = some (.lst (S.map V.int)) ∧ H d = some (.lst (D.map V.int)) ∧ D.length ≤ S.length ∧ S.length ≤ 64 ∧ ∀ p H', Same H H' → H p = none → H' p = some (.lst ((jn S D).map V.int)) → Q (.ref p) H'
theorem use_join1 {s d : Addr} {S D : List Int} {H : Hp} {Q : VK} {E : XK} (h1 : H s = some (.lst (S.map V.int))) (h2 : H d = some (.lst (D.map V.int))) (h3 : D.length ≤ S.length) (h4 : S.length ≤ 64) (q : ∀ p H', Same H H' → H p = none → H' p = some (.lst ((jn S D).map V.int)) → Q (.ref p) H') : spJoin1 ([.ref s, .ref d] ++ []) H Q E := ⟨s, d, S, D, rfl, h1, h2, h3, h4, q⟩
def spJoin : Sp := fun vs H Q _ => ∃ (a : Addr) (ns : List Int) (k : Int), vs = [.ref a, .int k] ∧ H a = some (.lst (ns.map V.int)) ∧ 1 ≤ ns.length ∧ ns.length ≤ 64 ∧ 0 ≤ k ∧ k ≤ 5 ∧ ∀ p H', H p = none → Same H H' → H' p = some (.lst ((joinL ns k.toNat).map V.int)) → Q (.ref p) H'
theorem use_join {a : Addr} {ns : List Int} {k : Int} {H : Hp} {Q : VK} {E : XK} (h : H a = some (.lst (ns.map V.int))) (h1 : 1 ≤ ns.length) (h2 : ns.length ≤ 64) (h3 : 0 ≤ k) (h4 : k ≤ 5) (q : ∀ p H', H p = none → Same H H' → H' p = some (.lst ((joinL ns k.toNat).map V.int)) → Q (.ref p) H') : spJoin ([.ref a, .int k] ++ []) H Q E := ⟨a, ns, k, rfl, h, h1, h2, h3, h4, q⟩
theorem use_joinK {a : Addr} {ns : List Int} {k : Int} {H : Hp} {Q : VK} {E : XK} (h : H a = some (.lst (ns.map V.int))) (h1 : 1 ≤ ns.length) (h2 : ns.length ≤ 64) (h3 : 0 ≤ k) (h4 : k ≤ 5) (q : ∀ p H', H p = none → Same H H' → H' p = some (.lst ((joinL ns k.toNat).map V.int)) → Q (.ref p) H') : spJoin (kg 0 2 [1, 0] [] [.int k, .ref a]) H Q E := ⟨a, ns, k, rfl, h, h1, h2, h3, h4, q⟩
def spInts : Sp := fun vs H Q _ => ∃ (a : Addr) (ns : List Int) (n : Int), vs = [.ref a, .int n] ∧ H a = some (.lst (ns.map V.int)) ∧ (ns.length : Int) = n ∧ Q (.bl true) H
theorem use_ints {a : Addr} {ns : List Int} {n : Int} {H : Hp} {Q : VK} {E : XK} (h : H a = some (.lst (ns.map V.int))) (h1 : (ns.length : Int) = n) (q : Q (.bl true) H) : spInts ([.ref a, .int n] ++ []) H Q E := ⟨a, ns, n, rfl, h, h1, q⟩
section
variable {K : PySem.W.Frag} {σ : L2.St} {H : Hp} {Q : VK} {g : TG}
theorem rd_lcL {ti te : TE} {tt : TT} {vs : List Nat} (h : ti σ H fun x H1 => ∃ a, x = .ref a ∧ (∃ xs, SqL K H1 a xs) ∧ ∀ D, H1 D = none → LcW (Itl K a) g tt te vs Q σ H1 D) : tLc (iList K ti) g tt te vs σ H Q := h
end
structure Dn (K : PySem.W.Frag) (mg : Str → Option Value) (x : Str) (st : Stmt) (ps : List Str) (f : Addr) (fd : FuncData) : Prop where
  F : Fun K x x st f fd
  g : mg x = some (.ref f)
  b : Binds K fd ps []
structure Bi (mg : Str → Option Value) : Prop where
  int_ : mg "int" = none
  bool_ : mg "bool" = none
  str_ : mg "str" = none
  list_ : mg "list" = none
  tuple_ : mg "tuple" = none
  len_ : mg "len" = none
  abs_ : mg "abs" = none
  max_ : mg "max" = none
  min_ : mg "min" = none
  range_ : mg "range" = none
  zip_ : mg "zip" = none
  isinstance_ : mg "isinstance" = none
  enumerate_ : mg "enumerate" = none
  reversed_ : mg "reversed" = none
end Z
namespace Z
open PySem PySem.Spec PyProof.Rows L2
def rIsX (K : PySem.W.Frag) (C a : Addr) (cls : Value) (d : Option Addr) : List V → Hp → VK → Prop := fun xs H Q =>
  ∃ (c : V) (cv : Value) (b : Bool) (dd : Addr) (fs : List (Str × V)), xs = [.ref a, c] ∧ cls = .ref C ∧ d = some dd ∧ H dd = some (.xd fs) ∧ (∀ u, RelV c u → u = cv) ∧ PySem.W.kitOne K (.ref C) cv = some b ∧ Q (.bl b) H
theorem call_isX {X : Cx} {a D : Addr} {oe : Obj} {cls : Value} {d : Option Addr} {pn : List (Addr × Obj)} (T : ExcC X.K D) (hz : Zc cls d oe) (hf : ∃ vs, oe.data = .fields vs) :
    CallR (X.suite a ((a, oe) :: pn)) (.builtin "isinstance") (rIsX X.K D a cls d) := by
  intro pins s σ H xs us Q I r h
  obtain ⟨c, cv, b, dd, fs, e1, e2, e3, e4, hcv, hk, q⟩ := h
  subst e1 e2 e3
  match r with
  | .cons (b := u1) ra (.cons (b := u2) rc .nil) =>
    obtain rfl : u1 = Value.ref a := ra
    obtain rfl := hcv _ rc
    have hp := (I.pin (a, oe) (List.mem_append_left _ List.mem_cons_self)).1
    obtain ⟨fv, hfv⟩ := hf
    have ho : ObjOk X.prog X.w H s.heap dd (.xd fs) := I.hok dd _ e4
    obtain ⟨mA, hns, _⟩ := ho
    obtain ⟨od, hod, _⟩ := lookIn_ns hns
    have J : PySem.W.InstAt s.heap a oe D (some od) := ⟨hp, hz.1, by simp [PySem.W.notCls, hfv], by rw [hz.2]; exact hod⟩
    have hc : (PySem.W.clsIn X.K D).isSome = true := by
      have h5 := T.hd
      unfold PySem.W.hasDictIn at h5
      cases e : PySem.W.clsIn X.K D with
      | none => rw [e] at h5; exact Bool.noConfusion h5
      | some cd => rfl
    exact PySem.W.kia_one (PySem.W.kitx_exc hc T.hg T.hk T.hs T.ha T.hn T.ht T.hm) I.kIn J hk (fun z => nomatch z) fun tk => ⟨.bl b, H, I.kept (t' := tk) fun _ _ z => z, rfl, q⟩
theorem mk_heap {H : Hp} {a d : Addr} {o1 o2 o3 o4 : HO} (ha : H a = none) (hd : d ≠ a) : upd (del (upd (upd (upd H a o1) d o2) a o3) a) d o4 = upd H d o4 := by
  funext b
  by_cases h1 : b = d
  · subst h1; rw [upd_same, upd_same]
  · rw [upd_ne h1, upd_ne h1]
    by_cases h2 : b = a
    · subst h2; rw [del_same, ha]
    · rw [del_ne h2, upd_ne h2, upd_ne h1, upd_ne h2]
/-- an own error class C, its name x, its one field f, its __init__ at fI -/
structure EC (K : PySem.W.Frag) (mg : Str → Option Value) (x f : Str) (C fI : Addr) : Prop where
  o : OexC K C
  xf : XfC K C
  ec : ExcC K C
  g : mg x = some (.ref C)
  noF : PySem.W.findIn K (.ref C) f = some none
  te : PySem.W.exmOne K (.ref C) (.ref C) = some true
  iC : PySem.W.findIn K (.ref C) "__init__" = some (some (.ref fI))
  tI : PySem.W.typeIn K (.ref fI) = some (.type "function")
def spInit (K : PySem.W.Frag) (C : Addr) (f : Str) : Sp := fun vs H Q _ => ∃ (a : Addr) (v : V), vs = [.ref a, v] ∧ H a = some (exo a C none) ∧ ∀ dx, H dx = none → dx ≠ a → Q .non (upd (upd H dx (exd dx [(f, v)])) a (exo a C (some dx)))
/-- the reading of raise C(e) -/
def tRaiseX (K : PySem.W.Frag) (C : Addr) (f : Str) (W : WX) (ta : TA) : TS := fun _ σ H => tMkO C (spInit K C f) [] ta σ H fun cls d H' => W cls d σ H'
section
variable {X : Cx} {C fI : Addr} {x f : Str} {fd : FuncData} {W : WX} {e : Expr} {ta : TA} {p pos pos2 : Pos} {k : Nat} {ps : List Str}
theorem ps_raiseX (T : EC X.K X.mg x f C fI) (F : FnOk X.prog X.w X.K X.mg X.base CX0 k fI fd ps (spInit X.K C f)) (hb : Binds X.K fd ps []) (hc : X.calm = true) (hr : Room (k + 1) X.A) (tk : Takes X W) (ha : PA X [e] ta) (hg : Gl X x := by rfl)
    (hdb : (x == ("__debug__" : Str)) = false := by decide) (he : starEach (e :: []) X.env = (false, eval e X.env) :: starEach [] X.env := by rfl) (hpl : (backTo pos (starEach [] X.env)).any (·.1) = false := by rfl) :
    PS X (.Raise (some (.Call (.Name x p) [e] [] pos)) none pos2) (tRaiseX X.K C f W ta) :=
  ps_raise hc tk (pmk_oex T.o T.iC T.tI F hr hb .nil (fun _ _ _ _ _ _ _ z => z.elim) hg T.g ha hdb he hpl)
end
section
variable {K : PySem.W.Frag} {σ : L2.St} {H : Hp} {C : Addr} {f : Str} {W : WX} {ta : TA} {D : Ends}
theorem rd_raiseX (h : ta σ H fun vs H1 => ∃ v, vs = [v] ∧ ∀ d, H1 d = none → W (.ref C) (some d) σ (upd H1 d (.xd [(f, v)]))) (hm : ∀ {q q' : List V → Hp → Prop}, (∀ vs H, q vs H → q' vs H) → ta σ H q → ta σ H q') : tRaiseX K C f W ta D σ H := by
  refine hm (fun vs H1 h => ?_) h
  obtain ⟨v, rfl, h⟩ := h
  refine ⟨by simp, fun a ha => ⟨a, v, rfl, upd_same, fun dx hdx hne => ⟨rfl, dx, [(f, v)], upd_same, ?_, ?_, ?_⟩⟩⟩
  · rw [upd_ne hne, upd_same]
  · rw [upd_ne hne] at hdx
    exact hdx
  · rw [mk_heap ha hne]
    rw [upd_ne hne] at hdx
    exact h dx hdx
theorem rd_raise1 {te : TE} (h : te σ H fun v H1 => ∀ d, H1 d = none → W (.ref C) (some d) σ (upd H1 d (.xd [(f, v)]))) (hm : ∀ {q q' : V → Hp → Prop}, (∀ v H, q v H → q' v H) → te σ H q → te σ H q') : tRaiseX K C f W (tCons te tNil) D σ H :=
  rd_raiseX (hm (fun v H1 z => ⟨v, rfl, z⟩) h) fun {q q'} hq hh => hm (fun v H1 z => hq _ _ z) hh
theorem rd_raiseV {i : Nat} {v : V} (e : σ[i]? = some (some v)) (h : ∀ d, H d = none → W (.ref C) (some d) σ (upd H d (.xd [(f, v)]))) : tRaiseX K C f W (tCons (tVar i) tNil) D σ H :=
  rd_raise1 ⟨v, e, h⟩ fun hq ⟨v, e, z⟩ => ⟨v, e, hq _ _ z⟩
theorem rd_raiseC {v : V} (h : ∀ d, H d = none → W (.ref C) (some d) σ (upd H d (.xd [(f, v)]))) : tRaiseX K C f W (tCons (tC v) tNil) D σ H := rd_raise1 (te := tC v) h fun hq z => hq _ _ z
end
def spLawT (K : PySem.W.Frag) (T : List (Addr × Str)) : Sp := fun vs H Q _ => ∃ (a : Addr) (ns : List Int), vs = [.ref a] ∧ SqL K H a (ns.map V.int) ∧ ns.length ≤ 63 ∧ LamX.Tabs T H ∧ ∀ H', Q (.bl true) H'
/-- how an error leaves: of the class C, the field f holding v -/
def Err (C : Addr) (f : Str) (v : V) (H : Hp) (E : XK) : Prop := ∀ d H', Same H H' → H d = none → H' d = some (.xd [(f, v)]) → E (.ref C) (some d) H'
theorem Err.now {C : Addr} {f : Str} {v : V} {H : Hp} {E : XK} (h : Err C f v H E) : ∀ d, H d = none → E (.ref C) (some d) (upd H d (.xd [(f, v)])) := fun d n => h d _ (same_new n) n upd_same
theorem Err.same {C : Addr} {f : Str} {v : V} {H H' : Hp} {E : XK} (s : Same H H') (h : Err C f v H E) : Err C f v H' E := fun d H2 s2 n e => h d H2 (s.trans s2) (s.free n) e
/-- an own error class with its own __init__, ready to be made -/
def ErrK (P : Program) (w : World) (K : PySem.W.Frag) (mg : Str → Option Value) (base : Heap) (x f : Str) (C : Addr) : Prop :=
  ∃ (fI : Addr) (fd : FuncData), EC K mg x f C fI ∧ FnOk P w K mg base CX0 1 fI fd ["self", f] (spInit K C f) ∧ Binds K fd ["self", f] []
section
variable {P : Program} {w : World} {K : PySem.W.Frag} {mg : Str → Option Value} {base : Heap} {x f : Str} {C : Addr}
theorem ErrK.g (T : ErrK P w K mg base x f C) : mg x = some (.ref C) := let ⟨_, _, t, _⟩ := T; t.g
theorem ErrK.xf (T : ErrK P w K mg base x f C) : XfC K C := let ⟨_, _, t, _⟩ := T; t.xf
theorem ErrK.ec (T : ErrK P w K mg base x f C) : ExcC K C := let ⟨_, _, t, _⟩ := T; t.ec
theorem ErrK.noF (T : ErrK P w K mg base x f C) : PySem.W.findIn K (.ref C) f = some none := let ⟨_, _, t, _⟩ := T; t.noF
theorem ErrK.te (T : ErrK P w K mg base x f C) : PySem.W.exmOne K (.ref C) (.ref C) = some true := let ⟨_, _, t, _⟩ := T; t.te
end
section
variable {X : Cx} {C : Addr} {x f : Str} {W : WX} {e : Expr} {ta : TA} {p pos pos2 : Pos}
theorem ps_raiseE (T : ErrK X.prog X.w X.K X.mg X.base x f C) (hc : X.calm = true) (hr : Room 2 X.A) (tk : Takes X W) (ha : PA X [e] ta) (hg : Gl X x := by rfl)
    (hdb : (x == ("__debug__" : Str)) = false := by decide) (he : starEach (e :: []) X.env = (false, eval e X.env) :: starEach [] X.env := by rfl) (hpl : (backTo pos (starEach [] X.env)).any (·.1) = false := by rfl) :
    PS X (.Raise (some (.Call (.Name x p) [e] [] pos)) none pos2) (tRaiseX X.K C f W ta) := by
  obtain ⟨fI, fd, t, F, b⟩ := T
  exact ps_raiseX t F b hc hr tk ha hg hdb he hpl
end
def spCkWX (C : Addr) : Sp := fun vs H Q E => ∃ x lo hi, vs = [x, .int lo, .int hi] ∧ TyV H x ∧ (inI x lo hi = false → Err C "value" x H E) ∧ (inI x lo hi = true → Q .non H)
theorem use_ckwx {C : Addr} {x : V} {lo hi : Int} {H : Hp} {Q : VK} {E : XK} (t : TyV H x) (h1 : inI x lo hi = false → Err C "value" x H E) (h2 : inI x lo hi = true → Q .non H) : spCkWX C ([x, .int lo, .int hi] ++ []) H Q E := ⟨x, lo, hi, rfl, t, h1, h2⟩
theorem inI_yes {x : V} {lo hi : Int} (h : inI x lo hi = true) : ∃ i, x = .int i ∧ lo ≤ i ∧ i ≤ hi := by
  cases x with
  | int i => exact ⟨i, rfl, of_decide_eq_true h⟩
  | _ => exact Bool.noConfusion h
open LamX
def KpN (p : Addr) (H H' : Hp) : Prop := ∀ b o, b ≠ p → H b = some o → (∀ ps, o ≠ .tbl ps) → H' b = some o
section
variable {p q : Addr} {H H' H1 H2 : Hp} {o u : HO}
theorem KpN.refl : KpN p H H := fun _ _ _ h _ => h
theorem KpN.trans (a : KpN p H H1) (b : KpN p H1 H2) : KpN p H H2 := fun c o n h t => b c o n (a c o n h t) t
theorem KpN.ofK (k : Kp p H H') : KpN p H H' := fun a o n h _ => k a o n h
theorem KpN.of (s : Same H H') : KpN p H H' := fun a o _ h _ => s a o h
theorem KpN.ofN (s : ExtN H H') : KpN p H H' := fun a o _ h t => s a o h t
theorem KpN.new (h : H q = none) : KpN p H (upd H q o) := .of (same_new h)
theorem KpN.at : KpN p H (upd H p o) := .ofK Kp.at
theorem close_turnN {H3 : Hp} (s : ExtN H H1) (n : H1 p = none) (s2 : Same H1 H2) (k : KpN p H2 H3) : ExtN H H3 := fun a o h t =>
  k a o (fun e => by rw [e] at h; have z := s _ _ h t; rw [n] at z; cases z) (s2 _ _ (s _ _ h t)) t
theorem lst_ntbl {xs : List V} : ∀ ps, HO.lst xs ≠ .tbl ps := fun _ z => nomatch z
theorem tup_ntbl {xs : List V} : ∀ ps, HO.tup xs ≠ .tbl ps := fun _ z => nomatch z
theorem look_extL {a : Addr} {xs : List V} (s : ExtN H H') (h : H a = some (.lst xs)) : H' a = some (.lst xs) := s _ _ h lst_ntbl
theorem look_extT {a : Addr} {xs : List V} (s : ExtN H H') (h : H a = some (.tup xs)) : H' a = some (.tup xs) := s _ _ h tup_ntbl
theorem extN_seq {K : PySem.W.Frag} {a : Addr} {xs : List V} (s : ExtN H H') (h : SqL K H a xs) : SqL K H' a xs := by
  rcases h with (h | ⟨o, h⟩) | h
  · exact .inl (.inl (s _ _ h lst_ntbl))
  · exact .inl (.inr ⟨o, s _ _ h (fun _ z => nomatch z)⟩)
  · exact .inr h
theorem Pool.ext (s : ExtN H H') (h : Pool H p) : Pool H' p := by
  obtain ⟨x, y, e, r⟩ := h
  exact ⟨x, y, s _ _ e lst_ntbl, r⟩
theorem Tabs.same {T : List (Addr × Str)} (s : Same H H') (t : Tabs T H) : Tabs T H' := t.ext fun b o h => s b o h
theorem Tabs.new {T : List (Addr × Str)} (n : H q = none) (t : Tabs T H) : Tabs T (upd H q o) := t.ext fun b o h => same_new n b o h
theorem codeO_lst {c : Addr} {q : Str} {xs : List V} : CodeO c q ≠ .lst xs := fun z => by
  unfold CodeO at z
  cases z
theorem Tabs.kp {T : List (Addr × Str)} (hp : Pool H p) (k : Kp p H H') (t : Tabs T H) : Tabs T H' := fun e he => by
  obtain ⟨x, y, hl, _⟩ := hp
  obtain ⟨ps, h1, h2, h3⟩ := t e he
  refine ⟨ps, k _ _ (fun z => by rw [z, hl] at h1; cases h1) h1, h2, fun pos cv hc => ?_⟩
  obtain ⟨c, e1, e2⟩ := h3 pos cv hc
  exact ⟨c, e1, k _ _ (fun z => by rw [z, hl] at e2; exact codeO_lst (Option.some.inj e2).symm) e2⟩
end
def DV (p : Addr) (H : Hp) (v : V) : Prop := scalarV v = true ∨ ∃ a xs, v = .ref a ∧ a ≠ p ∧ (H a = some (.lst xs) ∨ H a = some (.tup xs)) ∧ ∀ x ∈ xs, scalarV x = true
section
variable {p : Addr} {H H' : Hp} {v : V} {K : PySem.W.Frag}
theorem DV.ty (h : DV p H v) : TyV H v := by
  rcases h with h | ⟨a, xs, rfl, _, h | h, _⟩
  · cases v <;> first | exact True.intro | exact Bool.noConfusion h
  · exact .inl ⟨xs, h⟩
  · exact .inr ⟨xs, h⟩
theorem DV.sm (h : DV p H v) : SmV K H 1 v v := by
  rcases h with h | ⟨a, xs, rfl, _, h | h, s⟩
  · exact .inl ⟨rfl, h⟩
  · exact .inr (.inl ⟨a, a, xs, xs, rfl, rfl, .of h, .of h, rfl, fun i x y e1 e2 => by
      rw [e1] at e2
      exact ⟨Option.some.inj e2, s x (List.mem_of_getElem? e1)⟩⟩)
  · exact .inr (.inr ⟨a, a, xs, xs, rfl, rfl, .of h, .of h, rfl, fun i x y e1 e2 => by
      rw [e1] at e2
      exact ⟨Option.some.inj e2, s x (List.mem_of_getElem? e1)⟩⟩)
theorem DV.sc (h : scalarV v = true) : DV p H v := .inl h
theorem DV.lst {a : Addr} {xs : List V} (n : a ≠ p) (h : H a = some (.lst xs)) (s : ∀ x ∈ xs, scalarV x = true) : DV p H (.ref a) := .inr ⟨a, xs, rfl, n, .inl h, s⟩
theorem DV.tup {a : Addr} {xs : List V} (n : a ≠ p) (h : H a = some (.tup xs)) (s : ∀ x ∈ xs, scalarV x = true) : DV p H (.ref a) := .inr ⟨a, xs, rfl, n, .inr h, s⟩
end
/-- two lists of the same things, the last one a drawn value -/
theorem sm_last {K : PySem.W.Frag} {H : Hp} {a b : Addr} {xs : List V} {v : V} (ha : H a = some (.lst (xs ++ [v]))) (hb : H b = some (.lst (xs ++ [v]))) (hx : ∀ x ∈ xs, scalarV x = true) (hv : SmV K H 1 v v) : SmV K H 2 (.ref a) (.ref b) :=
  .inr (.inl ⟨a, b, _, _, rfl, rfl, .of ha, .of hb, rfl, fun i x y e1 e2 => by
    rw [e1] at e2
    have e := Option.some.inj e2
    subst e
    rcases List.mem_append.mp (List.mem_of_getElem? e1) with h | h
    · exact .inl ⟨rfl, hx x h⟩
    · rw [List.mem_singleton.mp h]; exact hv⟩)
def tAct (N : List Str) (f c' : Addr) (q : Str) (tl : XK → Hp → VK → Prop) (W : WX) : TE := fun σ H Q => ∃ Ech : XK, (∀ cls d σ' H', Ech cls d H' → σ'.length = N.length → W cls d σ' H') ∧ σ[0]? = some (some (.ref f)) ∧ H c' = some (CodeO c' q) ∧ tl Ech H Q
theorem takes_len {X : Cx} {W : WX} (t : Takes X W) : Takes X fun cls d σ H => σ.length = X.N.length → W cls d σ H := fun u s' x => by
  obtain ⟨a, B, sI, pins, σ, H, cls, d, e, I, nb, up, sky, na, os, ag, w⟩ := x
  exact t u s' ⟨a, B, sI, pins, σ, H, cls, d, e, I, nb, up, sky, na, os, ag, w I.len⟩
theorem pe_act1 {Y : Cx} {f c' : Addr} {q a : Str} {tl : XK → Hp → VK → Prop}
    (act : ∀ (W : WX) (pn : List (Addr × Obj)) (xe : Value → Shared → Prop) (E : XK) (p1 p2 : Pos), Takes (Y.tr pn xe) W → (∀ cls d σ' H', E cls d H' → W cls d σ' H') →
      PE (Y.tr pn xe) (.Call (.Name a p1) [] [] p2) (fun σZ HZ Q => σZ[0]? = some (some (.ref f)) ∧ HZ c' = some (CodeO c' q) ∧ tl E HZ Q))
    (W : WX) (pn : List (Addr × Obj)) (xe : Value → Shared → Prop) (tk : Takes (Y.tr pn xe) W) {p1 p2 : Pos} : PE (Y.tr pn xe) (.Call (.Name a p1) [] [] p2) (tAct Y.N f c' q tl W) :=
  ⟨fun pins s σ H Q I h => by
    obtain ⟨Ech, hW, h1, h2, h3⟩ := h
    exact (act _ pn xe Ech p1 p2 (takes_len tk) hW).run pins s σ H Q I ⟨h1, h2, h3⟩⟩
/-- what the error that told caught becomes: a list of flags and of its field -/
def ErL (C : Addr) (f : Str) (L : V → List V) (Q : VK) : XK := fun cls d H' => cls = .ref C ∧ ∃ dd v, d = some dd ∧ H' dd = some (.xd [(f, v)]) ∧ ∀ p H'', Same H' H'' → H' p = none → H'' p = some (.lst (L v)) → Q (.ref p) H''
/-- try: a() / except C as e: return [.., e.f] / return None -/
def TTnone (C : Addr) (f : Str) (L : V → List V) : (XK → Hp → VK → Prop) → Hp → VK → Prop := fun tl H Q => tl (ErL C f L Q) H (fun _ H' => Q .non H')
theorem Err.erL {C : Addr} {f : Str} {L : V → List V} {v : V} {H : Hp} {Q : VK} (h : ∀ p H', Same H H' → H p = none → H' p = some (.lst (L v)) → Q (.ref p) H') : Err C f v H (ErL C f L Q) := fun d H' s n e => ⟨rfl, d, v, rfl, e, fun p H'' s2 n2 e2 => h p H'' (s.trans s2) (by
  cases g : H p with
  | none => rfl
  | some u => rw [s _ _ g] at n2; cases n2) e2⟩
section
variable {K : PySem.W.Frag}
theorem kit_ref {C J : Addr} {b : Bool} (s : PySem.W.subIn K (.ref C) (.ref J) = some b) (n : C ≠ J) (i : PySem.W.isClsIn K J = true) (t : PySem.W.typeIn K (.ref J) = some (.type "type")) : PySem.W.kitOne K (.ref C) (.ref J) = some b := by
  unfold PySem.W.kitOne
  rw [if_neg (by simpa using n)]
  have i' : (PySem.W.clsIn K J).isSome = true := i
  show (if ((PySem.W.clsIn K J).isSome && PySem.W.typeIn K (.ref J) == some (.type "type")) = true then PySem.W.subIn K (.ref C) (.ref J) else none) = some b
  rw [i', t]
  exact s
end
/-- the facts of an own error class, gathered -/
theorem ec_mk {K : PySem.W.Frag} {mg : Str → Option Value} {x f : Str} {C fI N : Addr} {nm q : Str} {bs bm : List Value} {sn : List Str} {sub : List Value} {ab : Bool} {col : Option Bool} {dd : Option Addr} {m0 m1 m2 m3 m5 : Option Value}
    (g : mg x = some (.ref C)) (l : K.lookup C = some (PySem.excClassObj nm q C N bs bm true sn sub ab col dd m0 m1 m2 m3 m5 "ValueError.__new__")) (hb : PySem.HandSPX.refsVE bm = true)
    (sa : PySem.W.findIn K (.ref C) "__setattr__" = some (some (.builtin "object.__setattr__"))) (ga : PySem.W.findIn K (.ref C) "__getattribute__" = some (some (.builtin "BaseException.__getattribute__")))
    (gg : PySem.W.findIn K (.ref C) "__getattr__" = some none) (nf : PySem.W.findIn K (.ref C) f = some none) (ic : PySem.W.findIn K (.ref C) "__init__" = some (some (.ref fI))) (ti : PySem.W.typeIn K (.ref fI) = some (.type "function"))
    (ca : PySem.W.findIn K (.ref C) "__class__" = some (some (.builtin "object.__class__"))) (cn : PySem.W.specialIn K (.builtin "object.__class__") "__get__" = some (some (.builtin "getset_descriptor.__get__")))
    (ct : PySem.W.takesIn K (.builtin "object.__class__") = some true) (cm : PySem.W.mroIn K C (.type "object") = some true) (kp : PySem.W.keepIn K (.ref C) = true) (sb : PySem.W.subIn K (.ref C) (.type "BaseException") = some true)
    (tc : PySem.W.typeIn K (.ref C) = some (.type "type")) (hd : PySem.W.hasDictIn K C = true) (ss : PySem.W.subIn K (.ref C) (.ref C) = some true) : EC K mg x f C fI :=
  { o := ⟨⟨nm, q, N, bs, bm, sn, sub, ab, col, dd, m0, m1, m2, m3, m5, l, hb⟩, sa, sb, tc, kp⟩, xf := ⟨ga, gg, sb, hd⟩, ec := ⟨ga, gg, sb, hd, ca, cn, ct, cm⟩, g := g, noF := nf, te := PySem.W.exm_ref sb hd tc ss, iC := ic, tI := ti }
theorem okC {P : Program} {w : World} {K : PySem.W.Frag} {mg : Str → Option Value} {base : Heap} {x qual : Str} {st : Stmt} {f c : Addr} {N ps : List Str} {k : Nat} {sp : Sp} {oc : Value} {od an : Option Addr} {osl : Array (Option Value)} {kV doc pm ct : Value}
    (l : K.lookup f = some ⟨oc, od, .func (PySem.W.fnOf x qual (defArgs st) (defBody st) (defScope st) .none kV doc pm an (.ref c) ct), osl⟩) (hc : PySem.W.codeIn K (.ref c) qual = true) (S : FnScope N ps (defScope st)) (len : ∀ vs H Q E, sp vs H Q E → vs.length = ps.length)
    (hbody : ∀ (A : Around) (outer : List Env) (s : Shared) (H : Hp) (vs : List V) (Q : VK) (E : XK), Room k (A.deeper (envOfC qual (defScope st) s.heap.objs.size f (.ref c))) → sp vs H Q E →
      ∃ t, PSs (cxOf CX0 P w K mg base N qual (defScope st) f (.ref c) A outer s H E).nox (defBody st) t ∧ t { nx := fun _ H' => Q .non H', rt := Q } (L2.start N vs) H) :
    FnOk P w K mg base CX0 (k + 1) f (PySem.W.fnOf x qual (defArgs st) (defBody st) (defScope st) .none kV doc pm an (.ref c) ct) ps sp :=
  fn_of l hc S len fun A outer s H vs Q E hr h => by
    obtain ⟨t, h1, h2⟩ := hbody A outer s H vs Q E hr h
    exact ⟨t, h1.nox, h2⟩
theorem walk_ofTop {l : PySem.W.OpenLaw} {n k : Nat} {q : Program} {loose : List Str} {XP : (Str → Option Value) → Heap → Prop} {YP : World → Heap → Prop} {d : DefRec} {K : Params → PySem.W.Frag} {x : Str}
    (hn : l.most = some n) (hn2 : n ≤ sizeLine) (hdf : d.params.defaults = []) (hr : Room k callerA) (hY : ∀ (w : World) (h : Heap), YP w h → (K w.params).In h)
    (F : ∀ (w : World) (s0 : Shared) (mg mb : Str → Option Value) (fa : Addr) (h : Heap), PySem.W.Ground q loose [] XP w s0 mg mb h → (K w.params).In h → h.Ns mainGlobals mg → mg d.name = some (.ref fa) → LawAtS l w (K w.params) CX0 k n x mg fa h) :
    PySem.W.WalkO q loose XP YP l.row.toRowW d [] (fun f vs => PySem.call f vs) := by
  refine Att.attach_callB hn hdf fun w s0 s1 mg mb fa o pm cd doc a vs ns G Y ho hd hcd hmg hobj hints hlen hbits hg => ?_
  have KX := hY w _ Y
  obtain ⟨fd, cs, sp, hT, nT, C, hb, hsp, hF⟩ := F w s0 mg mb fa _ G KX G.T.g hmg
  exact law_callTs KX G.T.g G.T.b G.T.builtins G.T.nolimit hg hT nT C G.T.bmain hobj hints (Nat.le_trans hlen hn2) hr hF hb (fun H hH hS => hsp H a ns hlen hbits hH hS) fun H e s' z => z.elim
section
variable {X : Cx} {K : PySem.W.Frag} {σ : L2.St} {H : Hp} {Q : VK} {D : Ends} {n : L2.St → Hp → Prop} {r : VK} {b c : L2.St → Hp → Prop}
theorem rd_isX {C a dd : Addr} {cls : Value} {d : Option Addr} {c' : V} {cv : Value} {bb : Bool} {fs : List (Str × V)} (e1 : cls = .ref C) (e2 : d = some dd) (e3 : H dd = some (.xd fs)) (e4 : ∀ u, RelV c' u → u = cv) (k : PySem.W.kitOne K (.ref C) cv = some bb) (h : Q (.bl bb) H) : rIsX K C a cls d [.ref a, c'] H Q := ⟨c', cv, bb, dd, fs, rfl, e1, e2, e3, e4, k, h⟩
theorem rd_xf {C a : Addr} {cls : Value} {d : Option Addr} {f : Str} {te : TE} (h : te σ H fun x H1 => x = .ref a ∧ cls = .ref C ∧ ∃ (dd : Addr) (fs : List (Str × V)) (v : V), d = some dd ∧ H1 dd = some (.xd fs) ∧ fs.lookup f = some v ∧ Q v H1) : tXf a cls d C f te σ H Q := h
theorem rd_lam {T : List (Addr × Str)} {TT : (XK → Hp → VK → Prop) → Hp → VK → Prop} {t : XK → TE} (h1 : Tabs T H) (h2 : ∀ H1, ExtN H H1 → Tabs T H1 → TT (fun E H' Q' => t E σ H' Q') H1 Q) : tLam T TT t σ H Q := ⟨h1, h2⟩
theorem rd_told {C : Addr} {f : Str} {L : V → List V} {tl : XK → Hp → VK → Prop} (h : tl (ErL C f L Q) H (fun _ H' => Q .non H')) : TTnone C f L tl H Q := h
theorem rd_catG {a b : Addr} {xs ys : List V} (h1 : H a = some (.lst xs)) (h2 : H b = some (.lst ys)) (n : xs.length + ys.length ≤ 1000) (q : ∀ p, H p = none → Q (.ref p) (upd H p (.lst (xs ++ ys)))) : rCat (.ref a) (.ref b) H Q :=
  ⟨a, b, _, _, rfl, rfl, h1, h2, Nat.le_of_lt (small1000 n), fun p hp => q p hp⟩
end
end Z
namespace Z
open PySem PySem.Spec PyProof.Rows L2
def geZ : V → Bool
  | .int i => decide (0 ≤ i)
  | _ => false
def tt (u v : V) : Bool := isI u && (geZ u && inI v 1 15)
inductive TR (H : Hp) : V → Bool → Prop where
  | flat {x : V} (h : scalarV x = true) : TR H x false
  | lst {a : Addr} {xs : List V} (h : H a = some (.lst xs)) : TR H (.ref a) false
  | tupn {a : Addr} {xs : List V} (h : H a = some (.tup xs)) (n : xs.length ≠ 2) : TR H (.ref a) false
  | tup2 {a : Addr} {u v : V} (h : H a = some (.tup [u, v])) (hu : TyV H u) (hv : TyV H v) : TR H (.ref a) (tt u v)
inductive TSR (H : Hp) : V → Bool → Prop where
  | flat {x : V} (h : scalarV x = true) : TSR H x false
  | lst {a : Addr} {xs : List V} (h : H a = some (.lst xs)) : TSR H (.ref a) false
  | tupn {a : Addr} {xs : List V} (h : H a = some (.tup xs)) (n : xs.length ≠ 2) : TSR H (.ref a) false
  | tup2 {a : Addr} {u v : V} {b1 b2 : Bool} (h : H a = some (.tup [u, v])) (hu : TR H u b1) (hv : TR H v b2) : TSR H (.ref a) (b1 && b2)
/-- drawn rows: drawn values, their numbers not too long -/
def smallV : V → Prop
  | .int i => i.natAbs < 10 ^ 58
  | _ => True
def RV (p : Addr) (H : Hp) (v : V) : Prop := scalarV v = true ∨ ∃ a xs, v = .ref a ∧ a ≠ p ∧ (H a = some (.lst xs) ∨ H a = some (.tup xs)) ∧ (∀ x ∈ xs, scalarV x = true) ∧ ∀ x ∈ xs, smallV x
section
variable {p : Addr} {H H' : Hp} {v : V}
theorem RV.lst {a : Addr} {xs : List V} (n : a ≠ p) (h : H a = some (.lst xs)) (s : ∀ x ∈ xs, scalarV x = true) (t : ∀ x ∈ xs, smallV x) : RV p H (.ref a) := .inr ⟨a, xs, rfl, n, .inl h, s, t⟩
theorem RV.tup {a : Addr} {xs : List V} (n : a ≠ p) (h : H a = some (.tup xs)) (s : ∀ x ∈ xs, scalarV x = true) (t : ∀ x ∈ xs, smallV x) : RV p H (.ref a) := .inr ⟨a, xs, rfl, n, .inr h, s, t⟩
theorem flat_ty {x : V} (h : scalarV x = true) : TyV H x := by cases x <;> first | exact True.intro | exact Bool.noConfusion h
/-- what a drawn row is as a table: no table, or two numbers in their limits -/
theorem RV.tr (h : RV p H v) : ∃ b, TR H v b ∧ (b = true → ∃ a t c, v = .ref a ∧ H a = some (.tup [.int t, .int c]) ∧ 0 ≤ t ∧ t < 10 ^ 60 ∧ 1 ≤ c ∧ c ≤ 15) := by
  rcases h with h | ⟨a, xs, rfl, n, h | h, s, t⟩
  · exact ⟨false, .flat h, fun z => Bool.noConfusion z⟩
  · exact ⟨false, .lst h, fun z => Bool.noConfusion z⟩
  · by_cases hl : xs.length = 2
    · obtain ⟨u, w, rfl⟩ := len2 hl
      have su := s u (by simp)
      have sw := s w (by simp)
      refine ⟨_, .tup2 h (flat_ty su) (flat_ty sw), fun z => ?_⟩
      unfold tt at z
      simp only [Bool.and_eq_true] at z
      obtain ⟨z1, z2, z3⟩ := z
      obtain ⟨i, rfl⟩ := isI_yes z1
      obtain ⟨j, rfl, j1, j2⟩ := inI_yes z3
      have hi : i.natAbs < 10 ^ 58 := t (.int i) (by simp)
      have h0 : 0 ≤ i := of_decide_eq_true z2
      exact ⟨a, i, j, rfl, h, h0, by omega, j1, j2⟩
    · exact ⟨false, .tupn h hl, fun z => Bool.noConfusion z⟩
theorem RV.ne {a : Addr} (h : RV p H (.ref a)) : a ≠ p := by
  rcases h with h | ⟨b, xs, e, n, _⟩
  · exact Bool.noConfusion h
  · cases e
    exact n
end
end Z
namespace Z
open PySem PySem.Spec PyProof.Rows L2
/-- joints: place, width, shape -/
abbrev Jo := Nat × Nat × Nat
/-- the steps of a folding: shape, left, right -/
def prs1 (j : Jo) (i : Nat) : List (Nat × Nat × Nat) := (List.range i).map fun i => (j.2.2, j.1 - 1 - i, j.1 + i)
def prs (js : List Jo) : List (Nat × Nat × Nat) := js.flatMap fun j => prs1 j j.2.1
def stp (f : Int → Int → Int → Int × Int) (xs : List Int) (t : Nat × Nat × Nat) : List Int := (xs.set t.2.1 (f t.1 (xs.getD t.2.1 0) (xs.getD t.2.2 0)).1).set t.2.2 (f t.1 (xs.getD t.2.1 0) (xs.getD t.2.2 0)).2
def turnL (f : Int → Int → Int → Int × Int) (xs : List Int) (js : List Jo) : List Int := (prs js).foldl (stp f) xs
/-- the joints have room: behind the place b of a joint of the width wb, in a list of n values -/
def Rm (n : Nat) : Nat → Nat → List Jo → Prop
  | _, _, [] => True
  | b, wb, j :: r => b < j.1 ∧ j.1 < n ∧ b + wb + j.2.1 ≤ j.1 ∧ j.1 + j.2.1 ≤ n ∧ j.2.1 ≤ 8 ∧ j.2.2 ≤ 3 ∧ (j.2.1 = 0 → j.2.2 = 0) ∧ Rm n j.1 j.2.1 r
/-- the place that is folded with a place -/
def prt : List Jo → Nat → Option Nat
  | [], _ => none
  | j :: r, k => if j.1 ≤ k + j.2.1 ∧ k < j.1 + j.2.1 then some (2 * j.1 - 1 - k) else prt r k
def JsAt (H : Hp) (vs : List V) (js : List Jo) : Prop := vs.length = js.length ∧ ∀ (i : Nat) (v : V), vs[i]? = some v → ∃ (j : Jo) (a q : Addr), js[i]? = some j ∧ v = .ref a ∧ H a = some (.tup [.int (j.1 : Nat), .ref q]) ∧ H q = some (.tup [.int (j.2.1 : Nat), .int (j.2.2 : Nat)])
theorem JsAt.kp {p : Addr} {H H' : Hp} {vs : List V} {js : List Jo} (k : Kp p H H') (hp : ∃ xs, H p = some (.lst xs)) (h : JsAt H vs js) : JsAt H' vs js := ⟨h.1, fun i v e => by
  obtain ⟨j, a, q, e1, e2, e3, e4⟩ := h.2 i v e
  obtain ⟨xs, hp⟩ := hp
  exact ⟨j, a, q, e1, e2, k _ _ (fun z => by rw [z, hp] at e3; cases e3) e3, k _ _ (fun z => by rw [z, hp] at e4; cases e4) e4⟩⟩
theorem JsAt.same {H H' : Hp} {vs : List V} {js : List Jo} (k : Same H H') (h : JsAt H vs js) : JsAt H' vs js := ⟨h.1, fun i v e => by
  obtain ⟨j, a, q, e1, e2, e3, e4⟩ := h.2 i v e
  exact ⟨j, a, q, e1, e2, k _ _ e3, k _ _ e4⟩⟩
def spSound : Sp := fun vs H Q _ => ∃ (a : Addr) (ns : List Int), vs = [.ref a] ∧ H a = some (.lst (ns.map V.int)) ∧ ∀ H', Same H H' → Q .non H'
theorem use_sound {a : Addr} {ns : List Int} {H : Hp} {Q : VK} {E : XK} (h : H a = some (.lst (ns.map V.int))) (q : ∀ H', Same H H' → Q .non H') : spSound ([.ref a] ++ []) H Q E := ⟨a, ns, rfl, h, q⟩
def spFolds (f : Int → Int → Int → Int × Int) : Sp := fun vs H Q _ => ∃ (a b : Addr) (xs : List Int) (refs : List V) (js : List Jo), vs = [.ref a, .ref b] ∧ H a = some (.lst (xs.map V.int)) ∧ H b = some (.lst refs) ∧ JsAt H refs js ∧ Rm xs.length 0 0 js ∧ xs.length ≤ 100 ∧
  ∀ p H', H p = none → Same H H' → H' p = some (.lst ((turnL f xs js).map V.int)) → Q (.ref p) H'
theorem use_folds {f : Int → Int → Int → Int × Int} {a b : Addr} {xs : List Int} {refs : List V} {js : List Jo} {H : Hp} {Q : VK} {E : XK} (h1 : H a = some (.lst (xs.map V.int))) (h2 : H b = some (.lst refs)) (h3 : JsAt H refs js) (h4 : Rm xs.length 0 0 js) (h5 : xs.length ≤ 100)
    (q : ∀ p H', H p = none → Same H H' → H' p = some (.lst ((turnL f xs js).map V.int)) → Q (.ref p) H') : spFolds f ([.ref a, .ref b] ++ []) H Q E := ⟨a, b, xs, refs, js, rfl, h1, h2, h3, h4, h5, q⟩
theorem rd_callL {σ : L2.St} {H : Hp} {Q : VK} {i : Nat} {f : Addr} {sp : Sp} {dvs : List V} {E : XK} {t : TA} (e : σ[i]? = some (some (.ref f))) (h : t σ H fun vs H1 => sp (vs ++ dvs) H1 Q E) : tCallL i f sp dvs E t σ H Q := ⟨e, h⟩
section
variable {K : PySem.W.Frag} {H : Hp} {Q : VK}
theorem isiT_lst {a t : Addr} {xs : List V} (h : H a = some (.lst xs)) (ht : H t = some (.tup [.ty "list", .ty "tuple"])) (q : Q (.bl true) H) : rIsiT K [.ref a, .ref t] H Q :=
  ⟨.ref a, t, _, .type "list", [.type "list", .type "tuple"], true, rfl, ht, .cons (.ty "list") (.cons (.ty "tuple") .nil), .base (.lst h), rfl, q⟩
end
theorem rd_appG {a : Addr} {xs : List V} {v : V} {H : Hp} {Q : VK} (h : H a = some (.lst xs)) (n : xs.length ≤ 1000) (q : Q .non (upd H a (.lst (xs ++ [v])))) : rAppend (.ref a) [v] H Q := ⟨a, _, _, rfl, rfl, h, small1000 n, q⟩
def spLJoints : Sp := fun vs H Q _ => ∃ (p : Addr) (n : Nat), vs = [.ref p, .int (n : Nat)] ∧ Pool H p ∧ n ≤ 100 ∧ ∀ D H' refs js, H D = none → H' D = some (.lst refs) → JsAt H' refs js → Rm n 0 0 js → Pool H' p → Kp p H H' → Q (.ref D) H'
theorem use_ljoints {p : Addr} {n : Nat} {H : Hp} {Q : VK} {E : XK} (h : Pool H p) (hn : n ≤ 100) (q : ∀ D H' refs js, H D = none → H' D = some (.lst refs) → JsAt H' refs js → Rm n 0 0 js → Pool H' p → Kp p H H' → Q (.ref D) H') : spLJoints ([.ref p, .int (n : Nat)] ++ []) H Q E := ⟨p, n, rfl, h, hn, q⟩
def optV : Option Nat → V
  | some m => .int (m : Nat)
  | none => .non
def spPartner : Sp := fun vs H Q _ => ∃ (b : Addr) (refs : List V) (js : List Jo) (n k : Nat), vs = [.ref b, .int (k : Nat)] ∧ H b = some (.lst refs) ∧ JsAt H refs js ∧ Rm n 0 0 js ∧ Q (optV (prt js k)) H
theorem use_partner {b : Addr} {refs : List V} {js : List Jo} {n k : Nat} {H : Hp} {Q : VK} {E : XK} (h1 : H b = some (.lst refs)) (h2 : JsAt H refs js) (h3 : Rm n 0 0 js) (q : Q (optV (prt js k)) H) : spPartner ([.ref b, .int (k : Nat)] ++ []) H Q E := ⟨b, refs, js, n, k, rfl, h1, h2, h3, q⟩
theorem JsAt.new' {q : Addr} {H : Hp} {o : HO} {vs : List V} {js : List Jo} (n : H q = none) (h : JsAt H vs js) : JsAt (upd H q o) vs js := h.same (same_new n)
theorem JsAt.same' {H H' : Hp} {vs : List V} {js : List Jo} (s : Same H H') (h : JsAt H vs js) : JsAt H' vs js := h.same s
theorem JsAt.at' {q : Addr} {xs : List V} {H : Hp} {o : HO} {vs : List V} {js : List Jo} (n : H q = some (.lst xs)) (h : JsAt H vs js) : JsAt (upd H q o) vs js := h.kp Kp.at ⟨_, n⟩
def KpL (l : List Addr) (H H' : Hp) : Prop := ∀ a o, a ∉ l → H a = some o → H' a = some o
section
variable {l : List Addr} {p q : Addr} {H H' H1 H2 : Hp} {o : HO}
theorem KpL.refl : KpL l H H := fun _ _ _ h => h
theorem KpL.trans (a : KpL l H H1) (b : KpL l H1 H2) : KpL l H H2 := fun c o n h => b c o n (a c o n h)
theorem KpL.ofS (s : Same H H') : KpL l H H' := fun a o _ h => s a o h
theorem KpL.ofK (m : p ∈ l) (k : Kp p H H') : KpL l H H' := fun a o n h => k a o (fun z => n (by rw [z]; exact m)) h
theorem KpL.new (n : H q = none) : KpL l H (upd H q o) := .ofS (same_new n)
theorem KpL.at (m : q ∈ l) : KpL l H (upd H q o) := fun a x n h => by
  have ne : a ≠ q := fun z => n (by rw [z]; exact m)
  rw [upd_ne ne]
  exact h
theorem KpL.mono {m : List Addr} (h : ∀ a ∈ l, a ∈ m) (k : KpL l H H') : KpL m H H' := fun a o n e => k a o (fun z => n (h a z)) e
theorem KpL.free (k : KpL l H H') (n : H' q = none) (m : q ∉ l) : H q = none := by
  cases e : H q with
  | none => rfl
  | some o => rw [k _ _ m e] at n; cases n
end
end Z
namespace Z
open PySem PySem.Spec PyProof.Rows L2
section
open Sem (wp)
open Builtin
set_option maxHeartbeats 1000000 in
theorem meets_enum1 {v : Value} {o : Obj} {HH : Heap → Prop} (BB : Begins v o HH) :
    Meets (Builtin.«enumerate.__new__» ⟨[.type "enumerate", v], []⟩) (fun _ R s => HH s.heap ∧
      R (.ok (.ret (.ref (s.heap.push o).objs.size))) { s with heap := (s.heap.push o).push { cls := .type "enumerate", data := .fields #[.none, .bool false, .ref s.heap.objs.size, rawInt 0, .none, .none] } }) :=
  .of_wp fun prog w A R s h => by
    obtain ⟨hp, g, d, tk, os⟩ := s; obtain ⟨h1, h⟩ := h
    have hsub := sub_enumerate
    have step : ∀ {A2 : Around} {E2 : Value → Shared → Prop} {Q2 : Value → Shared → Prop}, Q2 (.ref hp.objs.size) ⟨hp.push o, g, d, tk, os⟩ → wpAny (model prog w) A2 (pyIter v) Q2 E2 ⟨hp, g, d, tk, os⟩ :=
      fun z => BB.iter prog w _ _ ⟨hp, g, d, tk, os⟩ _ h1 z
    wp_walk using step
    refine wpAny_stack_any fun st => wpAny_pure ?_
    split
    · rename_i c _ _ _ _ _
      cases (c == Value.type "enumerate") <;> (wp_walk using step) <;> exact ⟨_, rfl, h⟩
    · wp_walk using step
      exact ⟨_, rfl, h⟩
theorem call_enum1 {prog : Program} {w : World} {A : Around} {E : Value → Shared → Prop} {s : Shared} {v : Value} {o : Obj} {HH : Heap → Prop} {Q : Value → Shared → Prop} (BB : Begins v o HH) (h1 : HH s.heap)
    (k : ∀ h2, IsEnum h2 (s.heap.objs.size + 1) s.heap.objs.size 0 .none → h2.get? s.heap.objs.size = some o → h2.objs.size = s.heap.objs.size + 2 →
      (∀ b u, s.heap.get? b = some u → h2.get? b = some u) → Q (.ref (s.heap.objs.size + 1)) { s with heap := h2 }) :
    wpAny (model prog w) A (call (.type "enumerate") [v]) Q E s := by
  refine callType_new F.called_enumerate (by decide) (F.typeCall_enumerate_1 _) (F.newCall_enumerate_1 _) (fun z => F.args_object_init_2 z _) F.entry_enumerate_new (meets_enum1 BB) ⟨h1, ?_⟩
  have z1 : (s.heap.push o).objs.size = s.heap.objs.size + 1 := Heap.size_push ..
  show _ ∧ _
  rw [z1]
  have e1 : IsEnum ((s.heap.push o).push { cls := .type "enumerate", data := .fields #[.none, .bool false, .ref s.heap.objs.size, rawInt 0, .none, .none] }) (s.heap.objs.size + 1) s.heap.objs.size 0 .none := by
    have z2 := Heap.get?_push_size (s.heap.push o) (o := { cls := .type "enumerate", data := .fields #[.none, .bool false, .ref s.heap.objs.size, rawInt 0, .none, .none] }) rfl
    rw [z1] at z2
    exact z2
  exact ⟨⟨_, e1, rfl⟩, k _ e1 (Heap.get?_push_of_some _ (Heap.get?_push_size _ BB.free)) (by rw [Heap.size_push, z1]) fun b u x => Heap.get?_push_of_some _ (Heap.get?_push_of_some _ x)⟩
end
/-- the tuple at a, each item in a new pair -/
def IteT (K : PySem.W.Frag) (a : Addr) : It :=
  ⟨fun i H => ∃ (xs : List V) (x : V), SqT K H a xs ∧ xs[i]? = some x, fun i H v H' => ∃ T x, v = .ref T ∧ H T = none ∧ H' = upd H T (.tup [.int (i : Nat), x]) ∧ ∀ xs, SqT K H a xs → xs[i]? = some x, fun i H => ∃ xs : List V, SqT K H a xs ∧ xs.length = i⟩
theorem turn_enumT {P : Program} {w : World} {K : PySem.W.Frag} {elts : List Expr} {kk : Nat} {tpos : Pos} (a e it : Addr) (hae : e ≠ a) (hai : a ≠ it) :
    Turn P w K (.Tuple elts kk tpos) (IteT K a) [e, it] e (fun i h => (∃ old, IsEnum h e it ((i : Nat) : Int) old) ∧ h.IsTupleIter it a i ∧ e ≠ it) where
  mem := List.mem_cons_self ..
  obj := fun i h st b hb => by
    obtain ⟨⟨old, h1⟩, ⟨o, h2, _, h3⟩, _⟩ := st
    rcases (show b = e ∨ b = it by simpa using hb) with z | z
    · rw [z]; exact ⟨_, h1, fun v q => nomatch q⟩
    · rw [z]; exact ⟨o, h2, fun v q => by rw [h3] at q; cases q⟩
  keep := fun i h h' st k => let ⟨⟨old, h1⟩, h2, n⟩ := st; ⟨⟨old, k e (List.mem_cons_self ..) _ h1⟩, h2.at fun o q => k it (by simp) o q, n⟩
  item := by
    intro X hP hw hK hc i pins s σ H E I hf st hg
    subst hP hw hK
    obtain ⟨⟨old, h1⟩, hit, hne⟩ := st
    obtain ⟨xs, x, hq, hx⟩ := hg
    obtain ⟨its, rv, p, hz⟩ := I.tuple hq
    obtain ⟨u, hu, ru⟩ := rv.get hx
    have hel : e < s.heap.objs.size := Heap.lt_size h1
    have hil : it < s.heap.objs.size := by obtain ⟨_, q, _⟩ := hit; exact Heap.lt_size q
    have hlt : i < its.toArray.size := by
      have z := (List.getElem?_eq_some_iff.mp hu).1
      simpa using z
    refine wpAny_pyNext_enum_itemD (Draws.tuple (A := X.A.in1) (I.ok.hd hc) it a hai its.toArray) h1 ⟨hit, p⟩ hlt hne (by simp; exact ⟨hne, hae⟩) fun u2 h2 tk hP ho hs2 hT hsz hk => ?_
    obtain rfl : u = u2 := by
      have z : its.toArray[i]? = some u := by simpa using hu
      rw [z] at hP
      exact Option.some.inj hP
    refine ⟨_, rfl, wpAny_letOwnedTupleGo_enum (s := { s with heap := h2, toks := tk + 1 }) ho fun h3 he3 sb => ?_⟩
    have hT2 : h3.get? s.heap.objs.size = some { cls := .type "tuple", data := .seq #[.int i tk, u] } := (sb.2 _ (Nat.ne_of_gt hel)).trans hT
    have new : ObjOk X.prog X.w (upd H s.heap.objs.size (.tup [.int (i : Nat), x])) h3 s.heap.objs.size (.tup [.int (i : Nat), x]) :=
      ⟨by show 2 ≤ sizeLine; decide, [.int i tk, u], .cons ⟨_, rfl⟩ (.cons ru .nil), ⟨_, hT2, rfl, _, rfl⟩⟩
    have I1 : Inv X pins σ (upd H s.heap.objs.size (.tup [.int (i : Nat), x])) { s with heap := h3, toks := tk + 1 } :=
      I.turnedNew (ch := [e, it]) (fun b ob hb q => (sb.2 b (fun z => hb (by simp [z]))).trans (hk b ob (fun z => hb (by simp [z])) (fun z => hb (by simp [z])) q)) hf (Nat.le_refl _) new
    refine ⟨.ref s.heap.objs.size, _, I1, rfl, ⟨_, x, rfl, I.hok.fresh (Nat.le_refl _), rfl, fun ys hy => by rw [I.tuple_inj hy hq]; exact hx⟩, ⟨⟨u, ?_⟩, hs2.1.at fun o q => (sb.2 it (Ne.symm hne)).trans q, hne⟩, fun b hb => ?_⟩
    · rw [show ((i + 1 : Nat) : Int) = (i : Int) + 1 by omega]
      exact he3
    · have hb' : b < s.heap.objs.size := by
        rcases (show b = e ∨ b = it by simpa using hb) with z | z
        · rw [z]; exact hel
        · rw [z]; exact hil
      rw [upd_ne (Nat.ne_of_lt hb')]
      exact (hf b hb).1
  done := by
    intro X hP hw hK hc i pins s σ H E I hf st hg
    subst hP hw hK
    obtain ⟨⟨old, h1⟩, hit, hne⟩ := st
    obtain ⟨xs, hq, hx⟩ := hg
    obtain ⟨its, rv, p, hz⟩ := I.tuple hq
    obtain ⟨f0, f1, f2, f3, f4, f5⟩ := hf it (by simp)
    have hl := rv.length
    have hi : i = its.toArray.size := by simp; omega
    subst hi
    exact wpAny_pyNext_enum_endD (Draws.tuple (A := X.A.in1) (I.ok.hd hc) it a hai its.toArray) h1 ⟨hit, p⟩ fun h2 eb => ⟨rfl, I.turned (t' := s.toks) (fun b o hb q => eb b o hb q) f0 f1 f3 f4 f5⟩
  self := fun A i s Q E st h => let ⟨⟨_, h1⟩, _⟩ := st; wpAny_pyIter_enum h1 h
def iEnumA (K : PySem.W.Frag) (ta : TA) : TI := fun σ H R => ta σ H fun vs H1 => ∃ a xs, vs = [.ref a] ∧ ((SqL K H1 a xs ∧ R (Ite K a) H1) ∨ (SqT K H1 a xs ∧ R (IteT K a) H1))
theorem pi_enumA {X : Cx} {e : Expr} {ta : TA} {p pos tpos : Pos} {elts : List Expr} {kk : Nat} (hg : Gl X "enumerate") (hm : X.mg "enumerate" = none) (ha : PA X [e] ta) (hs : starEach [e] X.env = [(false, eval e X.env)] := by rfl) :
    PI X (.Tuple elts kk tpos) (.Call (.Name "enumerate" p) [e] [] pos) (iEnumA X.K ta) := by
  constructor
  intro pins s σ H R I h
  refine Call_ (ld_blt I hg hm boot_enumerate (PyProof.Rows.callWith_type1 (thn (ha.run pos pins s σ H _ I h) fun us s1 ⟨vs, H1, I1, r1, q1⟩ => ?_) hs rfl))
  obtain ⟨a, xs, ex, q1⟩ := q1
  subst ex
  cases r1 with
  | cons r rr =>
    cases rr
    cases r
    have fr : ∀ b ∈ [s1.heap.objs.size + 1, s1.heap.objs.size], FpOk X pins H1 b := fun b hb => by
      have hle : s1.heap.objs.size ≤ b := by
        rcases (show b = s1.heap.objs.size + 1 ∨ b = s1.heap.objs.size by simpa using hb) with z | z
        · rw [z]; exact Nat.le_add_right _ _
        · rw [z]; exact Nat.le_refl _
      exact I1.fpOk hle (I1.hok.fresh hle)
    rcases q1 with ⟨hq, q⟩ | ⟨hq, q⟩
    · obtain ⟨its, rv, p', hz⟩ := I1.list hq
      refine call_enumerate_list p'.isList fun h2 he hit hsz hk => wpAny_pyIter_enum he ?_
      have I2 : Inv X pins σ H1 { s1 with heap := h2 } := I1.kept (t' := s1.toks) hk
      exact ⟨s1.heap.objs.size + 1, [s1.heap.objs.size + 1, s1.heap.objs.size], _, _, H1, rfl, I2, turn_enum a (s1.heap.objs.size + 1) s1.heap.objs.size, ⟨⟨.none, he⟩, hit, Nat.succ_ne_self _⟩, fr, q⟩
    · obtain ⟨its, rv, p', hz⟩ := I1.tuple hq
      have hal : a < s1.heap.objs.size := by
        obtain ⟨_, z, _⟩ := id p'
        exact Heap.lt_size z
      refine call_enum1 (begins_tuple a its.toArray) (show s1.heap.IsTuple a its.toArray from p') fun h2 he hit hsz hk => wpAny_pyIter_enum he ?_
      have I2 : Inv X pins σ H1 { s1 with heap := h2 } := I1.kept (t' := s1.toks) hk
      exact ⟨s1.heap.objs.size + 1, [s1.heap.objs.size + 1, s1.heap.objs.size], _, _, H1, rfl, I2, turn_enumT a (s1.heap.objs.size + 1) s1.heap.objs.size (Nat.ne_of_gt (Nat.lt_succ_of_lt hal)) (Nat.ne_of_lt hal), ⟨⟨.none, he⟩, ⟨_, hit, rfl, rfl⟩, Nat.succ_ne_self _⟩, fr, q⟩
def iSeq (K : PySem.W.Frag) (tl : TE) : TI := fun σ H R => tl σ H fun x H1 => ∃ a xs, x = .ref a ∧ ((SqL K H1 a xs ∧ R (Itl K a) H1) ∨ (SqT K H1 a xs ∧ R (Itt K a) H1))
theorem pi_seq {X : Cx} {tg l : Expr} {tl : TE} (hl : PE X l tl) : PI X tg l (iSeq X.K tl) := by
  constructor
  intro pins s σ H R I h
  refine thn (hl.run pins s σ H _ I h) fun v s1 ⟨x, H1, I1, r1, q1⟩ => ?_
  obtain ⟨a, xs, ex, q1⟩ := q1
  subst ex
  cases r1
  have fr : ∀ b ∈ [s1.heap.objs.size], FpOk X pins H1 b := fun b hb => by
    rw [List.mem_singleton.mp hb]
    exact I1.fpOk (Nat.le_refl _) (I1.hok.fresh (Nat.le_refl _))
  rcases q1 with ⟨hq, q⟩ | ⟨hq, q⟩
  · obtain ⟨its, rv, p, hz⟩ := I1.list hq
    refine wpAny_pyIter_list p.isList ?_
    exact ⟨s1.heap.objs.size, [s1.heap.objs.size], _, _, H1, rfl, I1.kept (t' := s1.toks) fun b o e => Heap.get?_push_of_some _ e, turn_list a _, ⟨_, Heap.get?_push_size _ rfl, rfl, rfl⟩, fr, q⟩
  · obtain ⟨its, rv, p, hz⟩ := I1.tuple hq
    refine wpAny_pyIter_tuple (show s1.heap.IsTuple a its.toArray from p) ?_
    exact ⟨s1.heap.objs.size, [s1.heap.objs.size], _, _, H1, rfl, I1.kept (t' := s1.toks) fun b o e => Heap.get?_push_of_some _ e, turn_tuple a _, ⟨_, Heap.get?_push_size _ rfl, rfl, rfl⟩, fr, q⟩
def LT (H : Hp) (a : Addr) (xs : List V) : Prop := H a = some (.lst xs) ∨ H a = some (.tup xs)
section
variable {K : PySem.W.Frag} {σ : L2.St} {H H' : Hp} {Q : VK} {g : TG} {tb : TS} {D : Ends} {a : Addr} {xs : List V}
theorem LT.same (s : Same H H') (h : LT H a xs) : LT H' a xs := h.imp (s _ _) (s _ _)
theorem LT.same' (s : Same H H') (h : LT H a xs) : LT H' a xs := h.same s
theorem LT.new' {q : Addr} {o : HO} (n : H q = none) (h : LT H a xs) : LT (upd H q o) a xs := h.same (same_new n)
theorem LT.l (h : H a = some (.lst xs)) : LT H a xs := .inl h
theorem LT.t (h : H a = some (.tup xs)) : LT H a xs := .inr h
theorem LT.upd_ne {q : Addr} {o : HO} (n : a ≠ q) (h : LT H a xs) : LT (upd H q o) a xs := h.imp (look_upd n) (look_upd n)
theorem LT.ne {q : Addr} (h : LT H a xs) (n : H q = none) : a ≠ q := by
  rcases h with h | h
  · exact ne_of_none h n
  · exact ne_of_none h n
theorem rd_lenA (h : LT H a xs) (q : Q (.int xs.length) H) : rLen K [.ref a] H Q := by
  rcases h with h | h
  · exact rd_lenL (SqL.of h) q
  · exact rd_lenT (SqT.of h) q
theorem rd_listA (h : LT H a xs) (q : ∀ l, H l = none → Q (.ref l) (upd H l (.lst xs))) : rToList K [.ref a] H Q := by
  rcases h with h | h
  · exact ⟨a, xs, rfl, .inl (SqL.of h), q⟩
  · exact ⟨a, xs, rfl, .inr (SqT.of h), q⟩
theorem isiT_lt {t : Addr} (h : LT H a xs) (ht : H t = some (.tup [.ty "list", .ty "tuple"])) (q : Q (.bl true) H) : rIsiT K [.ref a, .ref t] H Q := by
  rcases h with h | h
  · exact isiT_lst h ht q
  · exact ⟨.ref a, t, _, .type "tuple", [.type "list", .type "tuple"], true, rfl, ht, .cons (.ty "list") (.cons (.ty "tuple") .nil), .base (.tup h), rfl, q⟩
theorem rd_forEA {ts : TA} (h : ts σ H fun vs H1 => ∃ a xs, vs = [.ref a] ∧ ((SqL K H1 a xs ∧ LpW (Ite K a) g tb D σ H1) ∨ (SqT K H1 a xs ∧ LpW (IteT K a) g tb D σ H1))) : tFor (iEnumA K ts) g tb D σ H := h
theorem rd_forS {te : TE} (h : te σ H fun x H1 => ∃ a xs, x = .ref a ∧ ((SqL K H1 a xs ∧ LpW (Itl K a) g tb D σ H1) ∨ (SqT K H1 a xs ∧ LpW (Itt K a) g tb D σ H1))) : tFor (iSeq K te) g tb D σ H := h
theorem for_enumT (Pv : Nat → L2.St → Hp → Prop) (h0 : Pv 0 σ H) (hl : ∀ i σ H, i ≤ xs.length → Pv i σ H → SqT K H a xs)
    (hs : ∀ i x σ H T, xs[i]? = some x → Pv i σ H → H T = none → g (.ref T) σ (upd H T (.tup [.int (i : Nat), x])) fun σ2 H2 => tb { D with nx := Pv (i + 1), ct := Pv (i + 1), bk := D.nx } σ2 H2) (hd : ∀ σ H, Pv xs.length σ H → D.nx σ H) : LpW (IteT K a) g tb D σ H := by
  refine ⟨fun i m σ H => m = xs.length - i ∧ i ≤ xs.length ∧ Pv i σ H, ⟨xs.length, by simp, Nat.zero_le _, h0⟩, ?_⟩
  rintro i m σ H ⟨rfl, hi, p⟩
  have q := hl i σ H hi p
  by_cases hlt : i < xs.length
  · refine .inr ⟨⟨xs, xs[i], q, by simp [hlt]⟩, Pv (i + 1), fun σ' H' p' => ⟨xs.length - (i + 1), by omega, rfl, hlt, p'⟩, fun x H' y => ?_⟩
    obtain ⟨T, x1, rfl, nT, rfl, y⟩ := y
    exact hs i x1 σ H T (y xs q) p nT
  · have e : i = xs.length := by omega
    subst e
    exact .inl ⟨⟨xs, q, rfl⟩, hd σ H p⟩
/-- a loop over enumerate(xs), xs a list or a tuple -/
theorem for_enumA (h : LT H a xs) (Pv : Nat → L2.St → Hp → Prop) (h0 : Pv 0 σ H) (hl : ∀ i σ H', i ≤ xs.length → Pv i σ H' → ∀ o, H a = some o → H' a = some o)
    (hs : ∀ i x σ H T, xs[i]? = some x → Pv i σ H → H T = none → g (.ref T) σ (upd H T (.tup [.int (i : Nat), x])) fun σ2 H2 => tb { D with nx := Pv (i + 1), ct := Pv (i + 1), bk := D.nx } σ2 H2) (hd : ∀ σ H, Pv xs.length σ H → D.nx σ H) :
    ∃ b ys, [V.ref a] = [.ref b] ∧ ((SqL K H b ys ∧ LpW (Ite K b) g tb D σ H) ∨ (SqT K H b ys ∧ LpW (IteT K b) g tb D σ H)) := by
  rcases h with h | h
  · exact ⟨a, xs, rfl, .inl ⟨SqL.of h, for_enum (xs := xs) Pv h0 (fun i σ H' hi p => SqL.of (hl i σ H' hi p _ h)) hs hd⟩⟩
  · exact ⟨a, xs, rfl, .inr ⟨SqT.of h, for_enumT (xs := xs) Pv h0 (fun i σ H' hi p => SqT.of (hl i σ H' hi p _ h)) hs hd⟩⟩
/-- a loop over xs, a list or a tuple that stands still -/
theorem for_seqA (h : LT H a xs) (Pv : Nat → L2.St → Hp → Prop) (h0 : Pv 0 σ H) (hl : ∀ i σ H', i ≤ xs.length → Pv i σ H' → ∀ o, H a = some o → H' a = some o)
    (hs : ∀ i x σ H, xs[i]? = some x → Pv i σ H → g x σ H fun σ2 H2 => tb { D with nx := Pv (i + 1), ct := Pv (i + 1), bk := D.nx } σ2 H2) (hd : ∀ σ H, Pv xs.length σ H → D.nx σ H) :
    ∃ b ys, V.ref a = .ref b ∧ ((SqL K H b ys ∧ LpW (Itl K b) g tb D σ H) ∨ (SqT K H b ys ∧ LpW (Itt K b) g tb D σ H)) := by
  rcases h with h | h
  · exact ⟨a, xs, rfl, .inl ⟨SqL.of h, for_list (xs := xs) Pv h0 (fun i σ H' hi p => SqL.of (hl i σ H' hi p _ h)) hs hd⟩⟩
  · exact ⟨a, xs, rfl, .inr ⟨SqT.of h, for_tup (xs := xs) Pv h0 (fun i σ H' hi p => SqT.of (hl i σ H' hi p _ h)) hs hd⟩⟩
theorem rd_cut {t u : TS} (M : L2.St → Hp → Prop) (h1 : t { D with nx := M } σ H) (h2 : ∀ σ' H', M σ' H' → u D σ' H') : C8.tCut t u D σ H := ⟨M, h1, h2⟩
end
theorem JsAt.tail {H : Hp} {v : V} {vs : List V} {j : Jo} {js : List Jo} (h : JsAt H (v :: vs) (j :: js)) : JsAt H vs js := ⟨Nat.succ.inj h.1, fun i w e => h.2 (i + 1) w e⟩
def rToTup (K : PySem.W.Frag) : List V → Hp → VK → Prop := fun xs H Q => ∃ p ys, xs = [.ref p] ∧ ((SqL K H p ys ∧ ∀ l, H l = none → Q (.ref l) (upd H l (.tup ys))) ∨ (SqT K H p ys ∧ Q (.ref p) H))
theorem cTuple {X : Cx} : CallR X (.type "tuple") (rToTup X.K) := call_tuple_of
theorem rd_tupL {K : PySem.W.Frag} {H : Hp} {Q : VK} {p : Addr} {xs : List V} (h : SqL K H p xs) (q : ∀ l, H l = none → Q (.ref l) (upd H l (.tup xs))) : rToTup K [.ref p] H Q := ⟨p, xs, rfl, .inl ⟨h, q⟩⟩
def spItemsA : Sp := fun vs H Q _ => ∃ (a : Addr) (ns : List Int), vs = [.ref a] ∧ LT H a (ns.map V.int) ∧ ∀ H', Same H H' → Q .non H'
theorem use_itemsA {a : Addr} {ns : List Int} {H : Hp} {Q : VK} {E : XK} (h : LT H a (ns.map V.int)) (q : ∀ H', Same H H' → Q .non H') : spItemsA ([.ref a] ++ []) H Q E := ⟨a, ns, rfl, h, q⟩
def spSoundA : Sp := spItemsA
theorem use_soundA {a : Addr} {ns : List Int} {H : Hp} {Q : VK} {E : XK} (h : LT H a (ns.map V.int)) (q : ∀ H', Same H H' → Q .non H') : spSoundA ([.ref a] ++ []) H Q E := ⟨a, ns, rfl, h, q⟩
def spFoldsA (f : Int → Int → Int → Int × Int) : Sp := fun vs H Q _ => ∃ (a b : Addr) (xs : List Int) (refs : List V) (js : List Jo), vs = [.ref a, .ref b] ∧ LT H a (xs.map V.int) ∧ LT H b refs ∧ JsAt H refs js ∧ Rm xs.length 0 0 js ∧ xs.length ≤ 100 ∧
  ∀ p H', H p = none → Same H H' → H' p = some (.lst ((turnL f xs js).map V.int)) → Q (.ref p) H'
theorem use_foldsA {f : Int → Int → Int → Int × Int} {a b : Addr} {xs : List Int} {refs : List V} {js : List Jo} {H : Hp} {Q : VK} {E : XK} (h1 : LT H a (xs.map V.int)) (h2 : LT H b refs) (h3 : JsAt H refs js) (h4 : Rm xs.length 0 0 js) (h5 : xs.length ≤ 100)
    (q : ∀ p H', H p = none → Same H H' → H' p = some (.lst ((turnL f xs js).map V.int)) → Q (.ref p) H') : spFoldsA f ([.ref a, .ref b] ++ []) H Q E := ⟨a, b, xs, refs, js, rfl, h1, h2, h3, h4, h5, q⟩
theorem use_foldsAK {f : Int → Int → Int → Int × Int} {a b : Addr} {xs : List Int} {refs : List V} {js : List Jo} {H : Hp} {Q : VK} {E : XK} (h1 : LT H a (xs.map V.int)) (h2 : LT H b refs) (h3 : JsAt H refs js) (h4 : Rm xs.length 0 0 js) (h5 : xs.length ≤ 100)
    (q : ∀ p H', H p = none → Same H H' → H' p = some (.lst ((turnL f xs js).map V.int)) → Q (.ref p) H') : spFoldsA f (kg 0 2 [1, 0] [] [.ref b, .ref a]) H Q E := ⟨a, b, xs, refs, js, rfl, h1, h2, h3, h4, h5, q⟩
end Z
namespace Z
open PySem PySem.Spec PyProof.Rows L2
/-- the last k binary digits of u, as signs -/
def lowB (u : Nat) : Nat → List Nat
  | 0 => []
  | k + 1 => lowB (u / 2) k ++ [48 + u % 2]
theorem lowB_length (u : Nat) : ∀ k, (lowB u k).length = k
  | 0 => rfl
  | k + 1 => by
    show (lowB (u / 2) k ++ [48 + u % 2]).length = k + 1
    rw [List.length_append, lowB_length (u / 2) k]
    rfl
/-- how many binary digits -/
def nb (u : Nat) : Nat := if u = 0 then 1 else Nat.log2 u + 1
/-- the binary digits, as Python writes them -/
def binB (u : Nat) : List Nat := lowB u (nb u)
theorem binB_length (u : Nat) : (binB u).length = nb u := lowB_length _ _
abbrev Tb := Int × Int
/-- a table in its limits, its total at most m -/
def TbOk (m : Int) (t : Tb) : Prop := 0 ≤ t.1 ∧ t.1 ≤ m ∧ 1 ≤ t.2 ∧ t.2 ≤ 15
theorem TbOk.mono {m n : Int} {t : Tb} (h : TbOk m t) (e : m ≤ n) : TbOk n t := ⟨h.1, Int.le_trans h.2.1 e, h.2.2⟩
end Z
namespace Z
open PySem PySem.Spec PyProof.Rows L2
open SX (S S_len S_cat S_inj)
section
open PySem.Builtin PySem.Builtin.Str PySem.Builtin.Int PySem.Builtin.Float
theorem eb : Str.ofString "b" = S [98] := by rfl
end
end Z
namespace Z
open PySem PySem.Spec PyProof.Rows L2
open SX (S S_len S_cat S_inj)
def rAddT : R2 := fun x y H Q => ∃ a b : List Nat, x = .str (S a) ∧ y = .str (S b) ∧ a.length + b.length ≤ 16777216 ∧ Q (.str (S (a ++ b))) H
/-- a text, so many times -/
def repL (l : List Nat) (n : Nat) : List Nat := (List.replicate n l).flatten
theorem repL_one (c n : Nat) : repL [c] n = List.replicate n c := by
  induction n with
  | zero => rfl
  | succ n ih =>
    unfold repL at ih ⊢
    rw [List.replicate_succ, List.flatten_cons, ih]
    rfl
def rMulT : R2 := fun x y H Q => ∃ (a : List Nat) (k : Int), x = .str (S a) ∧ y = .int k ∧ -1000000 ≤ k ∧ k ≤ 1000000 ∧ a.length * k.toNat ≤ 1000000 ∧ Q (.str (S (repL a k.toNat))) H
theorem e_empty : Str.ofString "" = S [] := by rfl
theorem e_0 : Str.ofString "0" = S [48] := by rfl
theorem e_1 : Str.ofString "1" = S [49] := by rfl
theorem e_01 : Str.ofString "01" = S [48, 49] := by rfl
section
variable {X : Cx}
def tFmtB (te ts : TE) : TE := fun σ H Q => te σ H fun x H1 => ts σ H1 fun y H2 => ∃ n : Nat, x = .int (n : Int) ∧ y = .str (S [98]) ∧ nb n ≤ 16777216 ∧ Q (.str (S (binB n))) H2
end
theorem joinL_flat : ∀ ys : List (List Nat), TL.joinL [] ys = ys.flatten
  | [] => rfl
  | [p] => (List.append_nil p).symm
  | p :: q :: r => by
    show p ++ ([] ++ TL.joinL [] (q :: r)) = p ++ (q :: r).flatten
    rw [joinL_flat (q :: r)]
    rfl
def rJoin (K : PySem.W.Frag) : V → List V → Hp → VK → Prop := fun x xs H Q => ∃ a p, ∃ ys : List Str, x = .str a ∧ xs = [.ref p] ∧ (SqL K H p (ys.map V.str) ∨ SqT K H p (ys.map V.str)) ∧
    (ys.map (·.length)).sum + ys.length * a.length ≤ 16777216 ∧ Q (.str (Txt.join a ys)) H
section
variable {K : PySem.W.Frag} {σ : L2.St} {H : Hp} {Q : VK}
theorem rd_addT {a b : List Nat} {x y : Str} (e1 : x = S a) (e2 : y = S b) (hl : a.length + b.length ≤ 16777216) (h : Q (.str (S (a ++ b))) H) : rAddT (.str x) (.str y) H Q := ⟨a, b, congrArg V.str e1, congrArg V.str e2, hl, h⟩
theorem rd_mulT {c : Nat} {x : Str} {k : Nat} (e1 : x = S [c]) (hl : k ≤ 1000000) (h : Q (.str (S (List.replicate k c))) H) : rMulT (.str x) (.int (k : Int)) H Q :=
  ⟨[c], (k : Int), congrArg V.str e1, rfl, by omega, by omega, by rw [Int.toNat_natCast]; show 1 * k ≤ _; omega, by rw [Int.toNat_natCast, repL_one]; exact h⟩
theorem rd_lenS {l : List Nat} (hl : l.length ≤ 16777216) (h : Q (.int (l.length : Nat)) H) : rLen K [.str (S l)] H Q := ⟨.str (S l), l.length, rfl, ⟨by rw [S_len]; exact hl, (S_len l).symm⟩, h⟩
theorem rd_slSF {l : List Nat} {k : Nat} (hl : l.length ≤ 16777216) (h : Q (.str (S (l.drop k))) H) : C8.rSlX (.str (S l)) (some (k : Int)) none H Q := ⟨S l, rfl, by rw [S_len]; exact hl, by rw [SX.slice_from (by omega), Int.toNat_natCast]; exact h⟩
theorem rd_slST {l : List Nat} {k : Nat} (hl : l.length ≤ 16777216) (h : Q (.str (S (l.take k))) H) : C8.rSlX (.str (S l)) none (some (k : Int)) H Q := ⟨S l, rfl, by rw [S_len]; exact hl, by rw [SX.slice_to (by omega), Int.toNat_natCast]; exact h⟩
theorem rd_joinS {p : Addr} {ls : List (List Nat)} {x : Str} (e : x = S []) (hp : SqL K H p (ls.map fun l => V.str (S l))) (hl : ls.flatten.length ≤ 16777216) (h : Q (.str (S ls.flatten)) H) : rJoin K (.str x) [.ref p] H Q := by
  refine ⟨S [], p, ls.map S, congrArg V.str e, rfl, .inl ?_, ?_, ?_⟩
  · rw [List.map_map]
    exact hp
  · rw [SX.lens]
    show _ + _ * 0 ≤ _
    rw [Nat.mul_zero, Nat.add_zero, ← List.length_flatten]
    exact hl
  · rw [SX.join_S, joinL_flat]
    exact h
theorem rd_fmtb {te ts : TE} (h : te σ H fun x H1 => ts σ H1 fun y H2 => ∃ n : Nat, x = .int (n : Int) ∧ y = .str (S [98]) ∧ nb n ≤ 16777216 ∧ Q (.str (S (binB n))) H2) : tFmtB te ts σ H Q := h
theorem rd_fmtn {n : Nat} {x : Str} {P : Nat → Prop} (e : x = S [98]) (hl : nb n ≤ 16777216) (h : P n) : ∃ m : Nat, V.int (n : Int) = .int (m : Int) ∧ V.str x = .str (S [98]) ∧ nb m ≤ 16777216 ∧ P m := ⟨n, rfl, congrArg V.str e, hl, h⟩
theorem rd_ixS {l : List Nat} {x : Str} {i c : Nat} (e : x = S l) (hl : l.length ≤ 16777216) (a : l[i]? = some c) (h : Q (.str (S [c])) H) : rIxS (.str x) (.int (i : Int)) H Q := ⟨S l, (i : Int), c, congrArg V.str e, rfl, by rw [S_len]; exact hl, atI_nat a, h⟩
theorem rd_bmS {m : V → List V → Hp → VK → Prop} {to : TE} {ts : TA} (h : to σ H fun x H1 => tyV K "str" x H1 ∧ ts σ H1 fun xs H2 => m x xs H2 Q) : tBM K "str" m to ts σ H Q := h
theorem rd_tyS {x : Str} {P : Prop} (q : P) : tyV K "str" (.str x) H ∧ P := ⟨rfl, q⟩
end
end Z
namespace Z
open PySem PySem.Spec PyProof.Rows L2
open SX (S S_len S_cat S_inj)
def LK (H H' : Hp) : Prop := ∀ b o, H b = some o → (∀ xs, o ≠ .lst xs) → H' b = some o
section
variable {K : PySem.W.Frag} {H H' H1 : Hp} {a q : Addr} {xs : List V} {o : HO}
theorem LK.refl : LK H H := fun _ _ h _ => h
theorem LK.trans (h : LK H H') (k : LK H' H1) : LK H H1 := fun b o e n => k b o (h b o e n) n
theorem LK.of (s : Same H H') : LK H H' := fun b o e _ => s b o e
theorem LK.new (n : H q = none) : LK H (upd H q o) := .of (same_new n)
theorem LK.at {ys : List V} (n : H q = some (.lst ys)) : LK H (upd H q o) := fun b x e nl => by
  have nb : b ≠ q := fun z => by
    rw [z, n] at e
    exact nl ys (Option.some.inj e).symm
  rw [upd_ne nb]
  exact e
theorem LK.seqT (s : LK H H') (h : SqT K H a xs) : SqT K H' a xs := by
  rcases h with (h | ⟨o, h⟩) | h
  · exact .inl (.inl (s _ _ h fun _ z => nomatch z))
  · exact .inl (.inr ⟨o, s _ _ h fun _ z => nomatch z⟩)
  · exact .inr h
theorem LK.tyo {t : Value} (ht : t = .type "tuple") (s : LK H H') (h : TyOf K H (.ref a) t) : TyOf K H' (.ref a) t := by
  cases h with
  | lst e => exact absurd ht (by decide)
  | frz e => exact .frz (s _ _ e fun _ z => nomatch z)
  | tup e => exact .tup (s _ _ e fun _ z => nomatch z)
  | dK e => exact .dK (s _ _ e fun _ z => nomatch z)
  | dT e => exact .dT (s _ _ e fun _ z => nomatch z)
  | ins e cl ha hn htk hm => exact .ins (s _ _ e fun _ z => nomatch z) cl ha hn htk hm
theorem LK.tyx (s : LK H H') (h : TyX K H (.ref a) (.type "tuple")) : TyX K H' (.ref a) (.type "tuple") := by
  generalize ht : (Value.type "tuple") = t at h ⊢
  cases h with
  | base b => exact .base (s.tyo ht.symm b)
  | set e => exact .set (s _ _ e fun _ z => nomatch z)
  | kList e c => exact .kList e c
  | kTuple e c => exact .kTuple e c
  | kDict e c => exact .kDict e c
  | fTuple e => exact .fTuple (s _ _ e fun _ z => nomatch z)
  | fDict e => exact .fDict (s _ _ e fun _ z => nomatch z)
theorem TupV.lk (s : LK H H') (h : TupV K H a xs) : TupV K H' a xs := ⟨s.seqT h.1, s.tyx h.2⟩
end
def TbV (K : PySem.W.Frag) (H : Hp) (r : Addr) (t : Tb) : Prop := TupV K H r [.int t.1, .int t.2]
def TbsV (K : PySem.W.Frag) (H : Hp) (a : Addr) (T : Tb × Tb) : Prop := ∃ r0 r1, TupV K H a [.ref r0, .ref r1] ∧ TbV K H r0 T.1 ∧ TbV K H r1 T.2
section
variable {K : PySem.W.Frag} {H H' : Hp} {a p : Addr} {t : Tb} {T : Tb × Tb}
theorem TbV.lk (s : LK H H') (h : TbV K H a t) : TbV K H' a t := TupV.lk s h
theorem TbsV.lk (s : LK H H') (h : TbsV K H a T) : TbsV K H' a T := let ⟨r0, r1, h0, h1, h2⟩ := h; ⟨r0, r1, h0.lk s, h1.lk s, h2.lk s⟩
theorem TbV.of (h : H a = some (.tup [.int t.1, .int t.2])) : TbV K H a t := TupV.of h
def spStart (K : PySem.W.Frag) : Sp := fun vs H Q _ => ∃ p, vs = [.ref p] ∧ Pool H p ∧ ∀ a T H', H a = none → TbsV K H' a T → TbOk (10 ^ 56) T.1 → TbOk (10 ^ 56) T.2 → Pool H' p → Kp p H H' → Q (.ref a) H'
end
theorem use_start {K : PySem.W.Frag} {p : Addr} {H : Hp} {Q : VK} {E : XK} (h : Pool H p) (q : ∀ a T H', H a = none → TbsV K H' a T → TbOk (10 ^ 56) T.1 → TbOk (10 ^ 56) T.2 → Pool H' p → Kp p H H' → Q (.ref a) H') : spStart K ([.ref p] ++ []) H Q E := ⟨p, rfl, h, q⟩
theorem shr_nat (u k : Nat) : ((u : Int) / 2 ^ ((k : Int)).toNat) = ((u / 2 ^ k : Nat) : Int) := by
  rw [Int.toNat_natCast]
  norm_cast
theorem rd_shr {u k : Nat} {H : Hp} {Q : VK} (h : Q (.int ((u / 2 ^ k : Nat) : Int)) H) : rI (fun _ j => 0 ≤ j) (fun i j => V.int (i / 2 ^ j.toNat)) (.int (u : Int)) (.int (k : Int)) H Q := ⟨(u : Int), (k : Int), rfl, rfl, by omega, by show Q (V.int ((u : Int) / 2 ^ ((k : Int)).toNat)) H; rw [shr_nat]; exact h⟩
theorem rd_bit {m : Nat} {H : Hp} {Q : VK} (h : Q (.str (S [48 + m % 2])) H) : rIxS (.str (Str.ofString "01")) (.int ((m : Int) % 2)) H Q := by
  rcases (show m % 2 = 0 ∨ m % 2 = 1 by omega) with e | e
  · rw [e] at h
    have e2 : (m : Int) % 2 = ((0 : Nat) : Int) := by omega
    rw [e2]
    exact rd_ixS e_01 (by decide) rfl h
  · rw [e] at h
    have e2 : (m : Int) % 2 = ((1 : Nat) : Int) := by omega
    rw [e2]
    exact rd_ixS e_01 (by decide) rfl h
end Z
namespace Z
open PySem PySem.Spec PyProof.Rows L2
open SX (S S_len S_cat S_inj)
section
open PySem.NumText PySem.Calls Hx
def IsB (c : Nat) : Prop := c = 48 ∨ c = 49
end
end Z
namespace Z
open PySem PySem.Spec PyProof.Rows L2
/-- the ends of a suite whose name goes behind it -/
def goEnds (i : Nat) (D : Ends) : Ends := ⟨fun σ H => D.nx (σ.set i none) H, D.rt, fun σ H => D.bk (σ.set i none) H, fun σ H => D.ct (σ.set i none) H⟩
def wNamed (K : PySem.W.Frag) (Wo : WX) (D : Ends) : List (Value × Nat × (Addr → Value → Option Addr → TS)) → WX
  | [] => Wo
  | e :: r => fun k d σ H => ∃ b, PySem.W.exmOne K k e.1 = some b ∧ (b = true → ∀ a, H a = none → e.2.2 a k d (goEnds e.2.1 D) (σ.set e.2.1 (some (.ref a))) H) ∧ (b = false → wNamed K Wo D r k d σ H)
inductive NamedOk (X : Cx) : List ExceptHandler → List (Value × Nat × (Addr → Value → Option Addr → TS)) → Prop
  | nil : NamedOk X [] []
  | cons {x n : Str} {c : Value} {i : Nat} {ts : Addr → Value → Option Addr → TS} {b : Stmt} {bs : List Stmt} {p q : Pos} {r : List ExceptHandler} {l : List (Value × Nat × (Addr → Value → Option Addr → TS))}
      (hi : X.N[i]? = some n) (hn : X.env.kindOf n = some .local) (hc : Names X x c) (su : ∀ (a : Addr) (oe : Obj) (k : Value) (d : Option Addr) (pn : List (Addr × Obj)), Zc k d oe → (∃ vs, oe.data = .fields vs) → PSs (X.suite a ((a, oe) :: pn)) (b :: bs) (ts a k d))
      (m : NamedOk X r l) : NamedOk X (.ExceptHandler (some (.Name x p)) (some n) (b :: bs) q :: r) ((c, i, ts) :: l)
theorem ps_try_named {X : Cx} {body : List Stmt} {h0 : ExceptHandler} {hds : List ExceptHandler} {l : List (Value × Nat × (Addr → Value → Option Addr → TS))} {pos : Pos} {tb : WX → TS} {Wo : WX}
    (e1 : X.stack = X.env :: X.outer) (e2 : X.env.frame = some X.env.locals) (nd : X.N.Nodup) (tk : Takes X Wo)
    (hb : ∀ (W : WX) (pn : List (Addr × Obj)) (xe : Value → Shared → Prop), Takes (X.tr pn xe) W → PassesOwn (model X.prog X.w) X.A X.env xe → PSs (X.tr pn xe) body (tb W))
    (hh : NamedOk X (h0 :: hds) l) : PS X (.Try body (h0 :: hds) [] [] pos) (fun D σ H => tb (wNamed X.K Wo D l) D σ H) := by
  constructor
  intro pins s σ H D I h
  have ok := I.ok
  have fr : X.A.frames = some (X.env :: X.outer) := ok.frames.trans (congrArg some e1)
  apply wpAny_Try_except
  have run := (hb (wNamed X.K Wo D l) (X.pn ++ pins) (fun e z => wpAny (model X.prog X.w) X.A (noteFrame e X.env) (fun _ z => wpAny (model X.prog X.w) X.A (setFlight e none) (fun _ z => wpAny (model X.prog X.w) X.A (handleBy e X.env (h0 :: hds)) (SP X pins D) X.xe z) X.xe z) X.xe z)
    ?caught PassesOwn.looking).run [] s σ H D (I.toTry _) h
  case caught =>
    rintro u z ⟨a, B, sI, pn2, τ, G, k, d, rfl, J0, nb, up, sky, na, os, ag, w⟩
    have J : Inv X pins τ G sI := J0.ofTry ok
    have sk : Sky B (X.env :: X.outer) a (Zc k d) X.env.locals z.heap := e1 ▸ sky
    show wpAny _ X.A (noteFrame (.ref a) X.env) _ _ _
    refine Sky.land Zc.steady fr e2 sk fun g3 f3 u3 => ?_
    have J3 : Inv X pins τ G { z with heap := g3 } := J.landed nb f3.1 (up.trans u3) os ag
    obtain ⟨o3, vs3, q1, q2, q3⟩ := f3.there
    have off : a ∉ frs (X.env :: X.outer) := fun hm => by
      obtain ⟨_, o', z1, z2⟩ := f3.2.2.1.mem hm
      have z3 := Option.some.inj (q1.symm.trans z1)
      subst z3
      exact z2 _ q3
    have offL : a ≠ X.env.locals := fun y => off (List.mem_filterMap.mpr ⟨_, .head _, by rw [e2, y]⟩)
    have offF : a ∉ X.fs := fun hm => let ⟨e, y1, y2⟩ := List.mem_filterMap.mp hm; off (List.mem_filterMap.mpr ⟨e, .tail _ y1, y2⟩)
    have S3 := J3.suite q1 q3 na offL offF
    suffices go : ∀ {hs2 : List ExceptHandler} {l2 : List (Value × Nat × (Addr → Value → Option Addr → TS))}, NamedOk X hs2 l2 → wNamed X.K Wo D l2 k d τ G → wpAny (model X.prog X.w) X.A (handleBy (.ref a) X.env hs2) (SP X pins D) X.xe { z with heap := g3 } from go hh w
    intro hs2 l2 hk
    induction hk with
    | nil =>
      intro w
      apply wpAny_handleBy_nil
      obtain ⟨_, _, _, oe, vs, T, oT, tS, y1, y2, y3, y4, y5⟩ := id f3
      unfold PySem.passOn
      refine wpAny_bind (wpAny_field y1 y3 y4 ?_)
      rw [if_neg (by simp : ¬ ((Value.ref T == Value.none) = true))]
      have last : wpAny (model X.prog X.w) X.A (setFlight (.ref a) X.env.frame) (fun _ y => wpAny (model X.prog X.w) X.A (throw (.ref a) : Sem Flow) (SP X pins D) X.xe y) X.xe { z with heap := g3 } :=
        e2 ▸ HandSPX.setFlight_upZ f3 fun g4 f4 u4 => wpAny_throw (tk _ _ ⟨a, B, sI, pins, τ, G, k, d, rfl, J, nb, (up.trans u3).trans u4, .inr (.inr (e1 ▸ f4)), na, os, ag, w⟩)
      first
        | exact wpAny_bind last
        | exact wpAny_bind (wpAny_pure (wpAny_bind last))
    | @cons x n c i ts b bs p q r l3 hi hn hc su m ih =>
      rintro ⟨t, t1, t2, t3⟩
      refine wpAny_handleBy_cons (codeAny_handlers_test ?_) (fun q => nomatch q)
      have look : PySem.W.Looks (model X.prog X.w) g3 (typeOf (.ref a)) k := fun A Q E s y v => wpAny_typeOf_ref (y _ _ q1) (q2.1.symm ▸ v)
      have name : ∀ {Q E : Value → Shared → Prop}, Q c { z with heap := g3 } → wpAny (model X.prog X.w) (X.A.mark (some (.ref a))) (eval (.Name x p) X.env) Q E { z with heap := g3 } := by
        intro Q E v
        obtain ⟨y1, y2, y3⟩ := hc
        cases y3 with
        | inl y3 => exact ld_glob (X := X.suite a ((a, o3) :: (X.pn ++ pins))) S3 y1 y3 v y2
        | inr y3 => exact ld_blt (X := X.suite a ((a, o3) :: (X.pn ++ pins))) S3 y1 y3.1 y3.2.1 v y3.2.2 y2
      refine name ((PySem.W.exm_one (M := model X.prog X.w) J3.kIn look t1).here ?_)
      cases t with
      | false => exact ih (t3 rfl)
      | true =>
        apply codeAny_handlers_suite_as
        refine HandSPX.lands_againZ f3 fun g4 f4 u4 => ?_
        have J4 : Inv X pins τ G { z with heap := g4 } := J.landed nb f4.1 ((up.trans u3).trans u4) os ag
        obtain ⟨o4, vs4, r1, r2, r3⟩ := f4.there
        refine store_ok (X := X.suite a ((a, o4) :: (X.pn ++ pins))) (v := .ref a) (J4.suite r1 r3 na offL offF) nd hi (.inl hn) rfl (fun s5 S5 => ?_) (.inr hn)
        refine wpAny_mono ((su a o4 k d _ r2 ⟨_, r3⟩).run [] s5 _ G _ S5 (t2 rfl a na)) (fun f s6 hp => ?_) (fun _ _ v => v.elim)
        have close : ∀ {τ' : L2.St} {G' : Hp} {Q : Shared → Prop}, Inv (X.suite a ((a, o4) :: (X.pn ++ pins))) [] τ' G' s6 → (∀ y, Inv X pins (τ'.set i none) G' y → Q y) →
            wpAny (model X.prog X.w) X.A (do bindName X.env n .none; unbindBehindTheSuite X.env n q) (fun _ y => Q y) X.xe s6 := fun S6 hq => gone_ok (S6.unsuite ok) nd hi hn hq
        cases f with
        | ret v =>
          obtain ⟨v', τ', G', S6, y1, y2⟩ := hp
          exact close S6 fun y Jy => ⟨v', _, G', Jy, y1, y2⟩
        | next => exact let ⟨τ', G', S6, y⟩ := hp; close S6 fun _ Jy => ⟨_, G', Jy, y⟩
        | brk => exact let ⟨τ', G', S6, y⟩ := hp; close S6 fun _ Jy => ⟨_, G', Jy, y⟩
        | cont => exact let ⟨τ', G', S6, y⟩ := hp; close S6 fun _ Jy => ⟨_, G', Jy, y⟩
  refine wpAny_mono run (fun f y hp => ?_) (fun _ _ v => v)
  cases f with
  | next => exact let ⟨τ', G', J, v⟩ := hp; wpAny_execs_nil ⟨τ', G', J.ofTry ok, v⟩
  | brk => exact let ⟨τ', G', J, v⟩ := hp; ⟨τ', G', J.ofTry ok, v⟩
  | cont => exact let ⟨τ', G', J, v⟩ := hp; ⟨τ', G', J.ofTry ok, v⟩
  | ret u => exact let ⟨v, τ', G', J, r, y⟩ := hp; ⟨v, τ', G', J.ofTry ok, r, y⟩
end Z
namespace Z
open PySem PySem.Spec PyProof.Rows L2
/-- told: what the errors of a call become, and what its end becomes -/
def ErM (L : List (Addr × Str × (V → List V))) (Q : VK) : XK := fun cls d H' => ∃ e ∈ L, ErL e.1 e.2.1 e.2.2 Q cls d H'
def TTm (L : List (Addr × Str × (V → List V))) (Fin : V → Hp → VK → Prop) : (XK → Hp → VK → Prop) → Hp → VK → Prop := fun tl H Q => ∀ Qn : VK, (∀ v H', Fin v H' Q → Qn v H') → tl (ErM L Q) H Qn
theorem rd_toldM {L : List (Addr × Str × (V → List V))} {Fin : V → Hp → VK → Prop} {tl : XK → Hp → VK → Prop} {H : Hp} {Q : VK} (h : ∀ Qn : VK, (∀ v H', Fin v H' Q → Qn v H') → tl (ErM L Q) H Qn) : TTm L Fin tl H Q := h
theorem Err.erM {L : List (Addr × Str × (V → List V))} {C : Addr} {f : Str} {g : V → List V} (m : (C, f, g) ∈ L) {v : V} {H : Hp} {Q : VK} (h : ∀ p H', Same H H' → H p = none → H' p = some (.lst (g v)) → Q (.ref p) H') : Err C f v H (ErM L Q) :=
  fun d H' s n x => ⟨_, m, Err.erL h d H' s n x⟩
def mk2 (t : Str) : V → List V := fun v => [.str t, v]
/-- the first item that is no integer -/
inductive IT (H : Hp) (xs : List V) : Option Nat → Prop where
  | bad {i : Nat} {v : V} (b : ∀ j, j < i → ∃ z, xs[j]? = some (.int z)) (e : xs[i]? = some v) (n : isI v = false) (t : ∀ x ∈ xs, TyV H x) : IT H xs (some i)
  | good {ns : List Int} (e : xs = ns.map V.int) : IT H xs none
theorem tyvS {H H' : Hp} {v : V} (s : Same H H') (h : TyV H v) : TyV H' v := by
  cases v with
  | ref a => exact h.elim (fun ⟨xs, e⟩ => .inl ⟨xs, s _ _ e⟩) fun ⟨xs, e⟩ => .inr ⟨xs, s _ _ e⟩
  | _ => exact h
theorem IT.same {H H' : Hp} {xs : List V} {o : Option Nat} (s : Same H H') (h : IT H xs o) : IT H' xs o := by
  cases h with
  | bad b e n t => exact .bad b e n fun x hx => tyvS s (t x hx)
  | good e => exact .good e
theorem IT.at {H : Hp} {xs : List V} {o : Option Nat} {i : Nat} {v : V} (h : IT H xs o) (e : xs[i]? = some v) (hi : ∀ k, o = some k → i ≤ k) : (o = some i ∧ isI v = false ∧ TyV H v) ∨ (∃ z, v = .int z) ∧ ∀ k, o = some k → i + 1 ≤ k := by
  cases h with
  | @bad k u b eu n t =>
    have hk := hi k rfl
    by_cases hik : i = k
    · subst hik
      rw [e] at eu
      cases eu
      exact .inl ⟨rfl, n, t v (List.mem_of_getElem? e)⟩
    · obtain ⟨z, hz⟩ := b i (by omega)
      rw [e] at hz
      cases hz
      exact .inr ⟨⟨z, rfl⟩, fun k' e' => by cases e'; omega⟩
  | @good ns eu =>
    subst eu
    rw [List.getElem?_map] at e
    cases g : ns[i]? with
    | none => rw [g] at e; cases e
    | some z => rw [g] at e; cases e; exact .inr ⟨⟨z, rfl⟩, fun k' e' => nomatch e'⟩
theorem IT.len {H : Hp} {xs : List V} {o : Option Nat} (h : IT H xs o) (hi : ∀ k, o = some k → xs.length ≤ k) : o = none := by
  cases h with
  | bad b e n t => exact absurd (hi _ rfl) (Nat.not_le.mpr (List.getElem?_eq_some_iff.mp e).1)
  | good e => rfl
/-- what a block check says of a value -/
inductive BR (H : Hp) : V → Option V → Prop where
  | flat {x : V} (h : scalarV x = true) : BR H x (some .non)
  | tup {a : Addr} {xs : List V} (h : H a = some (.tup xs)) : BR H (.ref a) (some .non)
  | size {a : Addr} {xs : List V} (h : H a = some (.lst xs)) (n : ¬ (1 ≤ xs.length ∧ xs.length ≤ 64)) (m : xs.length ≤ 1000) : BR H (.ref a) (some .non)
  | item {a : Addr} {xs : List V} {o : Option Nat} (h : H a = some (.lst xs)) (n1 : 1 ≤ xs.length) (n2 : xs.length ≤ 64) (t : IT H xs o) : BR H (.ref a) (o.map fun i => .int (i : Nat))
theorem BR.same {H H' : Hp} {x : V} {o : Option V} (s : Same H H') (h : BR H x o) : BR H' x o := by
  cases h with
  | flat h => exact .flat h
  | tup h => exact .tup (s _ _ h)
  | size h n m => exact .size (s _ _ h) n m
  | item h n1 n2 t => exact .item (s _ _ h) n1 n2 (t.same s)
theorem BR.fine {H : Hp} {x : V} (h : BR H x none) : ∃ (a : Addr) (ns : List Int), x = .ref a ∧ H a = some (.lst (ns.map V.int)) ∧ 1 ≤ ns.length ∧ ns.length ≤ 64 := by
  obtain ⟨o, ho, h⟩ : ∃ o : Option V, o = none ∧ BR H x o := ⟨_, rfl, h⟩
  cases h with
  | flat _ => cases ho
  | tup _ => cases ho
  | size _ _ _ => cases ho
  | @item a xs o h n1 n2 t =>
    cases t with
    | bad _ _ _ _ => cases ho
    | @good ns e =>
      subst e
      rw [List.length_map] at n1 n2
      exact ⟨a, ns, rfl, h, n1, n2⟩
theorem BR.ty {H : Hp} {x : V} {o : Option V} (h : BR H x o) : TyV H x := by
  cases h with
  | flat h => cases x <;> first | exact True.intro | exact Bool.noConfusion h
  | tup h => exact .inr ⟨_, h⟩
  | size h _ _ => exact .inl ⟨_, h⟩
  | item h _ _ _ => exact .inl ⟨_, h⟩
def scOk : V → Bool
  | .non => true
  | .bl _ => true
  | .int _ => true
  | .str s => PyData.strOk s
  | _ => false
theorem scOk.sc {v : V} (h : scOk v = true) : scalarV v = true := by cases v <;> first | rfl | exact Bool.noConfusion h
def EV (l : List Addr) (H : Hp) (v : V) : Prop := scOk v = true ∨ ∃ a xs, v = .ref a ∧ a ∉ l ∧ (H a = some (.lst xs) ∨ H a = some (.tup xs)) ∧ ∀ x ∈ xs, scOk x = true
def KpLN (l : List Addr) (H H' : Hp) : Prop := ∀ a o, a ∉ l → H a = some o → (∀ ps, o ≠ .tbl ps) → H' a = some o
section
variable {l : List Addr} {p q : Addr} {H H' H1 H2 : Hp} {o : HO} {v : V} {K : PySem.W.Frag}
theorem nm_cons {a b : Addr} {m : List Addr} (h : a ≠ b) (k : a ∉ m) : a ∉ b :: m := fun z => (List.mem_cons.mp z).elim h k
theorem ne_new {a b : Addr} {u : HO} (h : H a = none) (k : H b = some u) : a ≠ b := fun z => by rw [z, k] at h; cases h
theorem KpLN.refl : KpLN l H H := fun _ _ _ h _ => h
theorem KpLN.trans (a : KpLN l H H1) (b : KpLN l H1 H2) : KpLN l H H2 := fun c o n h t => b c o n (a c o n h t) t
theorem KpLN.ofL (k : KpL l H H') : KpLN l H H' := fun a o n h _ => k a o n h
theorem KpLN.of (s : Same H H') : KpLN l H H' := fun a o _ h _ => s a o h
theorem KpLN.ofN (s : LamX.ExtN H H') : KpLN l H H' := fun a o _ h t => s a o h t
theorem KpLN.ofK (m : p ∈ l) (k : Kp p H H') : KpLN l H H' := .ofL (KpL.ofK m k)
theorem KpLN.new (n : H q = none) : KpLN l H (upd H q o) := .of (same_new n)
theorem KpLN.at (m : q ∈ l) : KpLN l H (upd H q o) := .ofL (KpL.at m)
theorem EV.kp (k : KpLN l H H') (h : EV l H v) : EV l H' v := by
  rcases h with h | ⟨a, xs, e, n, h | h, s⟩
  · exact .inl h
  · exact .inr ⟨a, xs, e, n, .inl (k _ _ n h lst_ntbl), s⟩
  · exact .inr ⟨a, xs, e, n, .inr (k _ _ n h tup_ntbl), s⟩
theorem EV.set {xs : List V} {j : Nat} {S : Addr} {u : HO} (h : ∀ x ∈ xs, EV l H x) (hv : EV l H v) (m : S ∈ l) : ∀ x ∈ xs.set j v, EV l (upd H S u) x := fun x hx => by
  have k : KpLN l H (upd H S u) := .at m
  rcases List.mem_or_eq_of_mem_set hx with hx | rfl
  · exact (h x hx).kp k
  · exact hv.kp k
theorem EV.less {m : List Addr} (h : ∀ a ∈ m, a ∈ l) (e : EV l H v) : EV m H v := by
  rcases e with e | ⟨a, xs, e, n, r, s⟩
  · exact .inl e
  · exact .inr ⟨a, xs, e, fun z => n (h a z), r, s⟩
theorem EV.ty (h : EV l H v) : TyV H v := by
  rcases h with h | ⟨a, xs, rfl, _, h | h, _⟩
  · cases v <;> first | exact True.intro | exact Bool.noConfusion h
  · exact .inl ⟨xs, h⟩
  · exact .inr ⟨xs, h⟩
theorem EV.sm (h : EV l H v) : SmV K H 1 v v := by
  rcases h with h | ⟨a, xs, rfl, _, h | h, s⟩
  · exact .inl ⟨rfl, scOk.sc h⟩
  · exact .inr (.inl ⟨a, a, xs, xs, rfl, rfl, .of h, .of h, rfl, fun i x y e1 e2 => by
      rw [e1] at e2
      exact ⟨Option.some.inj e2, scOk.sc (s x (List.mem_of_getElem? e1))⟩⟩)
  · exact .inr (.inr ⟨a, a, xs, xs, rfl, rfl, .of h, .of h, rfl, fun i x y e1 e2 => by
      rw [e1] at e2
      exact ⟨Option.some.inj e2, scOk.sc (s x (List.mem_of_getElem? e1))⟩⟩)
theorem EV.sc (h : scOk v = true) : EV l H v := .inl h
theorem EV.lst {a : Addr} {xs : List V} (n : a ∉ l) (h : H a = some (.lst xs)) (s : ∀ x ∈ xs, scOk x = true) : EV l H (.ref a) := .inr ⟨a, xs, rfl, n, .inl h, s⟩
theorem EV.tup {a : Addr} {xs : List V} (n : a ∉ l) (h : H a = some (.tup xs)) (s : ∀ x ∈ xs, scOk x = true) : EV l H (.ref a) := .inr ⟨a, xs, rfl, n, .inr h, s⟩
def spOddE : Sp := fun vs H Q _ => ∃ (p : Addr), vs = [.ref p] ∧ Pool H p ∧ ∀ v H', EV [p] H' v → Pool H' p → Kp p H H' → Q v H'
theorem use_oddE {Q : VK} {E : XK} (h : Pool H p) (q : ∀ v H', EV [p] H' v → Pool H' p → Kp p H H' → Q v H') : spOddE ([.ref p] ++ []) H Q E := ⟨p, rfl, h, q⟩
theorem same2 {t : Str} {v : V} {a b : Addr} (ha : H a = some (.lst (mk2 t v))) (hb : H b = some (.lst (mk2 t v))) (hv : SmV K H 1 v v) : SmV K H 2 (.ref a) (.ref b) := sm_last (xs := [.str t]) ha hb (fun x hx => by rw [List.mem_singleton.mp hx]; rfl) hv
end
def GV (p : Addr) (H : Hp) (xs : List V) (x : V) : Prop := (∃ a, x = .ref a ∧ a ≠ p ∧ H a = some (.lst xs)) ∨ scalarV x = true ∨ ∃ a ys, x = .ref a ∧ a ≠ p ∧ H a = some (.tup ys)
section
variable {p S : Addr} {H H' H1 H2 H3 : Hp} {xs ys : List V} {x : V} {o : Option V} {T : List (Addr × Str)}
theorem GV.kp (k : KpLN [p] H H') (h : GV p H xs x) : GV p H' xs x := by
  rcases h with ⟨a, e, n, h⟩ | h | ⟨a, ys, e, n, h⟩
  · exact .inl ⟨a, e, n, k _ _ (nm_cons n List.not_mem_nil) h lst_ntbl⟩
  · exact .inr (.inl h)
  · exact .inr (.inr ⟨a, ys, e, n, k _ _ (nm_cons n List.not_mem_nil) h tup_ntbl⟩)
theorem tyvE (s : LamX.ExtN H H') (h : TyV H x) : TyV H' x := by
  cases x with
  | ref a => exact h.elim (fun ⟨xs, e⟩ => .inl ⟨xs, s _ _ e lst_ntbl⟩) fun ⟨xs, e⟩ => .inr ⟨xs, s _ _ e tup_ntbl⟩
  | _ => exact h
theorem BR.ext (s : LamX.ExtN H H') (h : BR H x o) : BR H' x o := by
  cases h with
  | flat h => exact .flat h
  | tup h => exact .tup (s _ _ h tup_ntbl)
  | size h n m => exact .size (s _ _ h lst_ntbl) n m
  | item h n1 n2 t =>
    refine .item (s _ _ h lst_ntbl) n1 n2 ?_
    cases t with
    | bad b e n t => exact .bad b e n fun x hx => tyvE s (t x hx)
    | good e => exact .good e
theorem KpLN.drop {l : List Addr} (k : KpLN (S :: l) H H') (n : H S = none) : KpLN l H H' := fun a o m h t => k a o (nm_cons (fun z => by rw [z, n] at h; cases h) m) h t
theorem Tabs.setL (h : H S = some (.lst xs)) (t : LamX.Tabs T H) : LamX.Tabs T (upd H S (.lst ys)) := fun e he => by
  obtain ⟨ps, h1, h2, h3⟩ := t e he
  refine ⟨ps, by rw [upd_ne (fun z => by rw [z, h] at h1; cases h1)]; exact h1, h2, fun pos cv hc => ?_⟩
  obtain ⟨c, e1, e2⟩ := h3 pos cv hc
  exact ⟨c, e1, by rw [upd_ne (fun z => by rw [z, h] at e2; exact codeO_lst (Option.some.inj e2).symm)]; exact e2⟩
theorem extN_same (s : Same H H') : LamX.ExtN H H' := .of fun b o e => s b o e
theorem extN_trans (s : LamX.ExtN H H1) (t : LamX.ExtN H1 H2) : LamX.ExtN H H2 := fun a o h n => t a o (s a o h n) n
end
end Z
namespace Z
open PySem PySem.Spec PyProof.Rows L2
def PV (l : List Addr) (H : Hp) : Nat → V → Prop
  | 0, v => scOk v = true
  | n + 1, v => scOk v = true ∨ ∃ a xs, v = .ref a ∧ a ∉ l ∧ LT H a xs ∧ ∀ x ∈ xs, PV l H n x
section
variable {l : List Addr} {p q S : Addr} {H H' : Hp} {v : V} {K : PySem.W.Frag}
theorem LT.kpln {a : Addr} {xs : List V} (k : KpLN l H H') (n : a ∉ l) (h : LT H a xs) : LT H' a xs := h.imp (fun e => k _ _ n e lst_ntbl) fun e => k _ _ n e tup_ntbl
theorem PV.kp (k : KpLN l H H') : ∀ {n : Nat} {v : V}, PV l H n v → PV l H' n v
  | 0, _, h => h
  | n + 1, v, h => by
    rcases h with h | ⟨a, xs, e, m, h, s⟩
    · exact .inl h
    · exact .inr ⟨a, xs, e, m, h.kpln k m, fun x hx => PV.kp k (s x hx)⟩
theorem PV.sc (h : scOk v = true) : ∀ {n : Nat}, PV l H n v
  | 0 => h
  | _ + 1 => .inl h
theorem PV.less {m : List Addr} (s : ∀ a ∈ m, a ∈ l) : ∀ {n : Nat} {v : V}, PV l H n v → PV m H n v
  | 0, _, h => h
  | n + 1, v, h => by
    rcases h with h | ⟨a, xs, e, k, h, t⟩
    · exact .inl h
    · exact .inr ⟨a, xs, e, fun z => k (s a z), h, fun x hx => PV.less s (t x hx)⟩
theorem PV.tup {n : Nat} {a : Addr} {xs : List V} (m : a ∉ l) (h : H a = some (.tup xs)) (s : ∀ x ∈ xs, PV l H n x) : PV l H (n + 1) (.ref a) := .inr ⟨a, xs, rfl, m, .inr h, s⟩
theorem PV.lst {n : Nat} {a : Addr} {xs : List V} (m : a ∉ l) (h : H a = some (.lst xs)) (s : ∀ x ∈ xs, PV l H n x) : PV l H (n + 1) (.ref a) := .inr ⟨a, xs, rfl, m, .inl h, s⟩
theorem PV.ty : ∀ {n : Nat} {v : V}, PV l H n v → TyV H v
  | 0, v, h => by cases v <;> first | exact True.intro | exact Bool.noConfusion h
  | n + 1, v, h => by
    rcases h with h | ⟨a, xs, rfl, m, h | h, s⟩
    · cases v <;> first | exact True.intro | exact Bool.noConfusion h
    · exact .inl ⟨xs, h⟩
    · exact .inr ⟨xs, h⟩
theorem PV.set {n : Nat} {xs : List V} {j : Nat} {u : HO} (h : ∀ x ∈ xs, PV l H n x) (hv : PV l H n v) (m : S ∈ l) : ∀ x ∈ xs.set j v, PV l (upd H S u) n x := fun x hx => by
  have k : KpLN l H (upd H S u) := .at m
  rcases List.mem_or_eq_of_mem_set hx with hx | rfl
  · exact (h x hx).kp k
  · exact hv.kp k
theorem isiT_flat {t : Addr} {x : V} {Q : VK} (h : scalarV x = true) (ht : H t = some (.tup [.ty "list", .ty "tuple"])) (q : Q (.bl false) H) : rIsiT K [x, .ref t] H Q := by
  cases x with
  | non => exact ⟨.non, t, _, _, [.type "list", .type "tuple"], false, rfl, ht, .cons (.ty "list") (.cons (.ty "tuple") .nil), .base .non, rfl, q⟩
  | bl b => exact ⟨.bl b, t, _, _, [.type "list", .type "tuple"], false, rfl, ht, .cons (.ty "list") (.cons (.ty "tuple") .nil), .base (.bl b), rfl, q⟩
  | int i => exact ⟨.int i, t, _, _, [.type "list", .type "tuple"], false, rfl, ht, .cons (.ty "list") (.cons (.ty "tuple") .nil), .base (.int i), rfl, q⟩
  | str s => exact ⟨.str s, t, _, _, [.type "list", .type "tuple"], false, rfl, ht, .cons (.ty "list") (.cons (.ty "tuple") .nil), .base (.str s), rfl, q⟩
  | _ => exact Bool.noConfusion h
end
inductive SR (H : Hp) (n : Nat) : V → Option V → Prop where
  | flat {x : V} (h : scalarV x = true) : SR H n x (some .non)
  | seq {a : Addr} {xs : List V} {o : Option Nat} (h : LT H a xs) (e : xs.length = n) (m : n ≤ 1000) (t : IT H xs o) : SR H n (.ref a) (o.map fun i => .int (i : Nat))
inductive PJ (H : Hp) : V → Option (Int × Int × Int) → Prop where
  | flat {x : V} (h : scalarV x = true) : PJ H x none
  | lst {a : Addr} {xs : List V} (h : H a = some (.lst xs)) : PJ H (.ref a) none
  | tupn {a : Addr} {xs : List V} (h : H a = some (.tup xs)) (n : xs.length ≠ 2) : PJ H (.ref a) none
  | noi {a : Addr} {u v : V} (h : H a = some (.tup [u, v])) (t : TyV H u) (n : isI u = false) : PJ H (.ref a) none
  | noj {a : Addr} {i : Int} {v : V} (h : H a = some (.tup [.int i, v])) (t : JR H v false) : PJ H (.ref a) none
  | good {a b : Addr} {i w s : Int} (h : H a = some (.tup [.int i, .ref b])) (g : H b = some (.tup [.int w, .int s])) (t : jt (.int w) (.int s) = true) : PJ H (.ref a) (some (i, w, s))
inductive All2 {α β : Type} (R : α → β → Prop) : List α → List β → Prop where
  | nil : All2 R [] []
  | cons {a : α} {b : β} {as : List α} {bs : List β} (h : R a b) (t : All2 R as bs) : All2 R (a :: as) (b :: bs)
theorem All2.imp {α β : Type} {R S : α → β → Prop} (f : ∀ a b, R a b → S a b) {as : List α} {bs : List β} (h : All2 R as bs) : All2 S as bs := by
  induction h with
  | nil => exact .nil
  | cons h _ ih => exact .cons (f _ _ h) ih
theorem All2.get {α β : Type} {R : α → β → Prop} {as : List α} {bs : List β} (h : All2 R as bs) : ∀ (i : Nat) (a : α), as[i]? = some a → ∃ b r, R a b ∧ bs.drop i = b :: r ∧ bs.drop (i + 1) = r := by
  induction h with
  | nil => intro i a e; simp at e
  | @cons a b as bs h t ih =>
    intro i x e
    cases i with
    | zero => cases e; exact ⟨b, bs, h, rfl, rfl⟩
    | succ i => exact ih i x e
theorem All2.len {α β : Type} {R : α → β → Prop} {as : List α} {bs : List β} (h : All2 R as bs) : as.length = bs.length := by
  induction h with
  | nil => rfl
  | cons _ _ ih => exact congrArg (· + 1) ih
def rmB (n : Nat) (l b : Int) (i w : Int) : Bool := decide (l < i ∧ i < n ∧ l + b + w ≤ i ∧ i + w ≤ n)
/-- the first item that can not stand -/
def jb (n : Nat) : Nat → Int → Int → List (Option (Int × Int × Int)) → Option Nat
  | _, _, _, [] => none
  | k, _, _, none :: _ => some k
  | k, l, b, some (i, w, s) :: r => if rmB n l b i w then jb n (k + 1) i w r else some k
inductive JP (H : Hp) (n : Nat) : V → Option V → Prop where
  | flat {x : V} (h : scalarV x = true) : JP H n x (some .non)
  | seq {a : Addr} {xs : List V} {ps : List (Option (Int × Int × Int))} (h : LT H a xs) (m : xs.length ≤ 1000) (t : All2 (PJ H) xs ps) : JP H n (.ref a) ((jb n 0 0 0 ps).map fun i => .int (i : Nat))
section
variable {H H' : Hp} {n : Nat} {x : V} {o : Option V}
theorem jr_ext (s : LamX.ExtN H H') {b : Bool} (h : JR H x b) : JR H' x b := by
  cases h with
  | flat h => exact .flat h
  | lst h => exact .lst (s _ _ h lst_ntbl)
  | tupn h n => exact .tupn (s _ _ h tup_ntbl) n
  | tup2 h u v => exact .tup2 (s _ _ h tup_ntbl) (tyvE s u) (tyvE s v)
theorem pj_ext (s : LamX.ExtN H H') {j : Option (Int × Int × Int)} (h : PJ H x j) : PJ H' x j := by
  cases h with
  | flat h => exact .flat h
  | lst h => exact .lst (s _ _ h lst_ntbl)
  | tupn h n => exact .tupn (s _ _ h tup_ntbl) n
  | noi h t n => exact .noi (s _ _ h tup_ntbl) (tyvE s t) n
  | noj h t => exact .noj (s _ _ h tup_ntbl) (jr_ext s t)
  | good h g t => exact .good (s _ _ h tup_ntbl) (s _ _ g tup_ntbl) t
theorem lt_ext {a : Addr} {xs : List V} (s : LamX.ExtN H H') (h : LT H a xs) : LT H' a xs := h.imp (fun e => s _ _ e lst_ntbl) fun e => s _ _ e tup_ntbl
theorem it_ext {xs : List V} {o : Option Nat} (s : LamX.ExtN H H') (h : IT H xs o) : IT H' xs o := by
  cases h with
  | bad b e n t => exact .bad b e n fun x hx => tyvE s (t x hx)
  | good e => exact .good e
theorem SR.ext (s : LamX.ExtN H H') (h : SR H n x o) : SR H' n x o := by
  cases h with
  | flat h => exact .flat h
  | seq h e m t => exact .seq (lt_ext s h) e m (it_ext s t)
theorem JP.ext (s : LamX.ExtN H H') (h : JP H n x o) : JP H' n x o := by
  cases h with
  | flat h => exact .flat h
  | seq h m t => exact .seq (lt_ext s h) m (t.imp fun _ _ => pj_ext s)
theorem SR.same (s : Same H H') (h : SR H n x o) : SR H' n x o := h.ext (extN_same s)
theorem JP.same (s : Same H H') (h : JP H n x o) : JP H' n x o := h.ext (extN_same s)
theorem jt_nat {w s : Int} (h : jt (.int w) (.int s) = true) : ∃ a b : Nat, w = (a : Int) ∧ s = (b : Int) ∧ a ≤ 8 ∧ b ≤ 3 ∧ (a = 0 → b = 0) := by
  unfold jt at h
  simp only [Bool.and_eq_true, jx, Bool.or_eq_true, decide_eq_true_eq, inI] at h
  obtain ⟨h1, h2, h3⟩ := h
  exact ⟨w.toNat, s.toNat, by omega, by omega, by omega, by omega, by omega⟩
/-- no item is refused: they are joints with room -/
theorem jb_none : ∀ (ps : List (Option (Int × Int × Int))) (xs : List V) (k l b : Nat), All2 (PJ H) xs ps → jb n k (l : Int) (b : Int) ps = none → ∃ js : List Jo, JsAt H xs js ∧ Rm n l b js
  | _, _, k, l, b, .nil, _ => ⟨[], ⟨rfl, fun i v e => by simp at e⟩, True.intro⟩
  | none :: _, _, k, l, b, .cons _ _, h => by cases h
  | some (i, w, s) :: r, x :: xs, k, l, b, .cons hp t, h => by
    have h' : (if rmB n l b i w then jb n (k + 1) i w r else some k) = none := h
    by_cases c : rmB n l b i w = true
    · rw [if_pos c] at h'
      have c := of_decide_eq_true c
      cases hp with
      | @good a q _ _ _ e1 e2 ht =>
        obtain ⟨w', s', rfl, rfl, w8, s3, w0⟩ := jt_nat ht
        obtain ⟨i', rfl⟩ : ∃ i' : Nat, i = (i' : Int) := ⟨i.toNat, by omega⟩
        obtain ⟨js, hj, hr⟩ := jb_none r xs (k + 1) i' w' t h'
        refine ⟨(i', w', s') :: js, ⟨congrArg (· + 1) hj.1, fun m v e => ?_⟩, ?_⟩
        · cases m with
          | zero => cases e; exact ⟨(i', w', s'), a, q, rfl, rfl, e1, e2⟩
          | succ m => exact hj.2 m v e
        · exact ⟨by dsimp only; omega, by dsimp only; omega, by dsimp only; omega, by dsimp only; omega, w8, s3, w0, hr⟩
    · rw [if_neg c] at h'
      cases h'
end
theorem SR.fine {H : Hp} {n : Nat} {x : V} (h : SR H n x none) : ∃ (a : Addr) (ns : List Int), x = .ref a ∧ LT H a (ns.map V.int) ∧ ns.length = n ∧ n ≤ 1000 := by
  obtain ⟨o, ho, h⟩ : ∃ o : Option V, o = none ∧ SR H n x o := ⟨_, rfl, h⟩
  cases h with
  | flat _ => cases ho
  | @seq a xs o h e m t =>
    cases t with
    | bad _ _ _ _ => cases ho
    | @good ns e2 =>
      subst e2
      exact ⟨a, ns, rfl, h, by rw [← e, List.length_map], m⟩
theorem JP.fine {H : Hp} {n : Nat} {x : V} (h : JP H n x none) : ∃ (a : Addr) (refs : List V) (js : List Jo), x = .ref a ∧ LT H a refs ∧ JsAt H refs js ∧ Rm n 0 0 js := by
  obtain ⟨o, ho, h⟩ : ∃ o : Option V, o = none ∧ JP H n x o := ⟨_, rfl, h⟩
  cases h with
  | flat _ => cases ho
  | @seq a xs ps hL m t =>
    cases g : jb n 0 0 0 ps with
    | some k => rw [g] at ho; cases ho
    | none =>
      obtain ⟨js, h1, h2⟩ := jb_none ps xs 0 0 0 t g
      exact ⟨a, xs, js, rfl, hL, h1, h2⟩
def Al (l : List Addr) (H : Hp) : Prop := ∀ a ∈ l, ∃ o, H a = some o
theorem nm_al {l : List Addr} {p q : Addr} {H H1 : Hp} (hl : Al l H) (k : Kp p H H1) (hp : Pool H1 p) (n : H1 q = none) : q ∉ l := fun z => by
  obtain ⟨o, e⟩ := hl _ z
  by_cases c : q = p
  · obtain ⟨x, y, e2, _⟩ := hp
    rw [c, e2] at n
    cases n
  · rw [k _ _ c e] at n
    cases n
def GQ (p : Addr) (H : Hp) (xs : List V) (x : V) : Prop := (∃ a, x = .ref a ∧ a ≠ p ∧ LT H a xs) ∨ scalarV x = true
section
variable {p : Addr} {H H' : Hp} {xs : List V} {x : V} {m : Nat}
theorem GQ.kp (k : KpLN [p] H H') (h : GQ p H xs x) : GQ p H' xs x := h.imp (fun ⟨a, e, n, h⟩ => ⟨a, e, n, h.kpln k (nm_cons n List.not_mem_nil)⟩) id
end
end Z
namespace Z
open PySem PySem.Spec PyProof.Rows L2
open SX (S S_len S_cat S_inj)
inductive BZ (H : Hp) (n : Nat) : V → Option V → Prop where
  | flat {x : V} (h : scalarV x = true) : BZ H n x (some .non)
  | tup {a : Addr} {xs : List V} (h : H a = some (.tup xs)) : BZ H n (.ref a) (some .non)
  | size {a : Addr} {xs : List V} (h : H a = some (.lst xs)) (e : xs.length = n) (c : 64 < n) (m : n ≤ 1000) : BZ H n (.ref a) (some .non)
  | item {a : Addr} {xs : List V} {o : Option Nat} (h : H a = some (.lst xs)) (e : xs.length = n) (c : n ≤ 64) (t : IT H xs o) : BZ H n (.ref a) (o.map fun i => .int (i : Nat))
section
variable {H H' : Hp} {n : Nat} {x v : V} {o : Option V} {b : Bool} {p : Addr}
theorem BZ.ext (s : LamX.ExtN H H') (h : BZ H n x o) : BZ H' n x o := by
  cases h with
  | flat h => exact .flat h
  | tup h => exact .tup (s _ _ h tup_ntbl)
  | size h e c m => exact .size (s _ _ h lst_ntbl) e c m
  | item h e c t => exact .item (s _ _ h lst_ntbl) e c (it_ext s t)
theorem it_move {xs : List V} {o : Option Nat} (t : ∀ y ∈ xs, TyV H' y) (h : IT H xs o) : IT H' xs o := by
  cases h with
  | bad b e n _ => exact .bad b e n t
  | good e => exact .good e
/-- the pool may be drawn from -/
theorem BZ.kp (k : KpLN [p] H H') (q : ∀ a, x = .ref a → a ≠ p) (t : ∀ a xs, x = .ref a → H a = some (.lst xs) → ∀ y ∈ xs, PV [p] H 1 y) (h : BZ H n x o) : BZ H' n x o := by
  cases h with
  | flat h => exact .flat h
  | @tup a xs h => exact .tup (k _ _ (nm_cons (q a rfl) List.not_mem_nil) h tup_ntbl)
  | @size a xs h e c m => exact .size (k _ _ (nm_cons (q a rfl) List.not_mem_nil) h lst_ntbl) e c m
  | @item a xs o h e c i => exact .item (k _ _ (nm_cons (q a rfl) List.not_mem_nil) h lst_ntbl) e c (it_move (fun y hy => ((t a xs rfl h y hy).kp k).ty) i)
theorem BZ.fine (h : BZ H n x none) : ∃ (a : Addr) (ns : List Int), x = .ref a ∧ H a = some (.lst (ns.map V.int)) ∧ ns.length = n ∧ n ≤ 64 := by
  obtain ⟨o, ho, h⟩ : ∃ o : Option V, o = none ∧ BZ H n x o := ⟨_, rfl, h⟩
  cases h with
  | flat _ => cases ho
  | tup _ => cases ho
  | size _ _ _ _ => cases ho
  | @item a xs o hL e c t =>
    cases t with
    | bad _ _ _ _ => cases ho
    | @good ns e2 =>
      subst e2
      exact ⟨a, ns, rfl, hL, by rw [← e, List.length_map], c⟩
def TbsH (H : Hp) (a : Addr) (T : Tb × Tb) : Prop := ∃ r0 r1, H a = some (.tup [.ref r0, .ref r1]) ∧ H r0 = some (.tup [.int T.1.1, .int T.1.2]) ∧ H r1 = some (.tup [.int T.2.1, .int T.2.2])
def StQ (H : Hp) (v : V) (b : Bool) : Prop := TSR H v b ∧ (b = true → ∃ a T, v = .ref a ∧ TbsH H a T ∧ TbOk (10 ^ 56) T.1 ∧ TbOk (10 ^ 56) T.2)
theorem tr_ext (s : LamX.ExtN H H') (h : TR H v b) : TR H' v b := by
  cases h with
  | flat h => exact .flat h
  | lst h => exact .lst (s _ _ h lst_ntbl)
  | tupn h n => exact .tupn (s _ _ h tup_ntbl) n
  | tup2 h hu hv => exact .tup2 (s _ _ h tup_ntbl) (tyvE s hu) (tyvE s hv)
theorem tsr_ext (s : LamX.ExtN H H') (h : TSR H v b) : TSR H' v b := by
  cases h with
  | flat h => exact .flat h
  | lst h => exact .lst (s _ _ h lst_ntbl)
  | tupn h n => exact .tupn (s _ _ h tup_ntbl) n
  | tup2 h hu hv => exact .tup2 (s _ _ h tup_ntbl) (tr_ext s hu) (tr_ext s hv)
theorem StQ.ext (s : LamX.ExtN H H') (h : StQ H v b) : StQ H' v b := ⟨tsr_ext s h.1, fun z => by
  obtain ⟨a, T, e, ⟨r0, r1, h0, h1, h2⟩, o1, o2⟩ := h.2 z
  exact ⟨a, T, e, ⟨r0, r1, s _ _ h0 tup_ntbl, s _ _ h1 tup_ntbl, s _ _ h2 tup_ntbl⟩, o1, o2⟩⟩
theorem PV.mem {m : Nat} {a : Addr} {xs : List V} (h : PV [p] H (m + 1) (.ref a)) (e : H a = some (.tup xs)) : a ≠ p ∧ ∀ x ∈ xs, PV [p] H m x := by
  rcases h with h | ⟨c, ys, e1, n, h, s⟩
  · exact Bool.noConfusion h
  · cases e1
    rcases h with h | h
    · rw [h] at e; cases e
    · rw [h] at e; cases e; exact ⟨fun z => n (by rw [z]; exact List.mem_singleton.mpr rfl), s⟩
theorem PV.memL {m : Nat} {a : Addr} (h : PV [p] H (m + 1) (.ref a)) : a ≠ p := by
  rcases h with h | ⟨c, ys, e1, n, h, s⟩
  · exact Bool.noConfusion h
  · cases e1
    exact fun z => n (by rw [z]; exact List.mem_singleton.mpr rfl)
theorem tr_kp (k : KpLN [p] H H') (g : PV [p] H 1 v) (h : TR H v b) : TR H' v b := by
  cases h with
  | flat h => exact .flat h
  | lst h => exact .lst (k _ _ (nm_cons g.memL List.not_mem_nil) h lst_ntbl)
  | tupn h n => exact .tupn (k _ _ (nm_cons g.memL List.not_mem_nil) h tup_ntbl) n
  | @tup2 a u v h hu hv =>
    obtain ⟨n, s⟩ := g.mem h
    exact .tup2 (k _ _ (nm_cons n List.not_mem_nil) h tup_ntbl) ((s u (by simp)).kp k).ty ((s v (by simp)).kp k).ty
theorem StQ.kp (k : KpLN [p] H H') (g : PV [p] H 2 v) (h : StQ H v b) : StQ H' v b := by
  obtain ⟨h, q⟩ := h
  refine ⟨?_, fun z => ?_⟩
  · cases h with
    | flat h => exact .flat h
    | lst h => exact .lst (k _ _ (nm_cons g.memL List.not_mem_nil) h lst_ntbl)
    | tupn h n => exact .tupn (k _ _ (nm_cons g.memL List.not_mem_nil) h tup_ntbl) n
    | @tup2 a u v _ _ h hu hv =>
      obtain ⟨n, s⟩ := g.mem h
      exact .tup2 (k _ _ (nm_cons n List.not_mem_nil) h tup_ntbl) (tr_kp k (s u (by simp)) hu) (tr_kp k (s v (by simp)) hv)
  · obtain ⟨a, T, rfl, ⟨r0, r1, h0, h1, h2⟩, o1, o2⟩ := q z
    obtain ⟨n, s⟩ := g.mem h0
    have n0 := (s _ (by simp : V.ref r0 ∈ [V.ref r0, V.ref r1])).mem h1
    have n1 := (s _ (by simp : V.ref r1 ∈ [V.ref r0, V.ref r1])).mem h2
    exact ⟨a, T, rfl, ⟨r0, r1, k _ _ (nm_cons n List.not_mem_nil) h0 tup_ntbl, k _ _ (nm_cons n0.1 List.not_mem_nil) h1 tup_ntbl, k _ _ (nm_cons n1.1 List.not_mem_nil) h2 tup_ntbl⟩, o1, o2⟩
theorem PV.sm {K : PySem.W.Frag} {l : List Addr} : ∀ {n : Nat} {v : V}, PV l H n v → SmV K H n v v
  | 0, _, h => ⟨rfl, scOk.sc h⟩
  | n + 1, v, h => by
    rcases h with h | ⟨a, xs, rfl, m, h | h, s⟩
    · exact .inl ⟨rfl, scOk.sc h⟩
    · exact .inr (.inl ⟨a, a, xs, xs, rfl, rfl, .of h, .of h, rfl, fun i x y e1 e2 => by
        rw [e1] at e2
        cases e2
        exact (s x (List.mem_of_getElem? e1)).sm⟩)
    · exact .inr (.inr ⟨a, a, xs, xs, rfl, rfl, .of h, .of h, rfl, fun i x y e1 e2 => by
        rw [e1] at e2
        cases e2
        exact (s x (List.mem_of_getElem? e1)).sm⟩)
end
def TxR (v : V) : Prop := scalarV v = true ∧ ∀ s, v = .str s → ∃ l : List Nat, s = S l ∧ (∀ c ∈ l, IsB c) ∧ l.length ≤ 100
def SmallL (H : Hp) (x : V) : Prop := ∀ (a : Addr) (ns : List Int), x = .ref a → H a = some (.lst (ns.map V.int)) → ∀ z ∈ ns, z.natAbs < 10 ^ 55
def LV (p : Addr) (H : Hp) (v : V) : Prop := scalarV v = true ∨ ∃ a xs, v = .ref a ∧ a ≠ p ∧ LT H a xs ∧ xs.length ≤ 66 ∧ (∀ x ∈ xs, PV [p] H 1 x) ∧ ∀ z : Int, V.int z ∈ xs → z.natAbs < 10 ^ 55
section
variable {p : Addr} {H H' : Hp} {v : V}
theorem LV.kp (k : KpLN [p] H H') (h : LV p H v) : LV p H' v := by
  rcases h with h | ⟨a, xs, e, n, h, l, s, z⟩
  · exact .inl h
  · exact .inr ⟨a, xs, e, n, h.kpln k (nm_cons n List.not_mem_nil), l, fun x hx => (s x hx).kp k, z⟩
theorem LV.ne (h : LV p H v) : ∀ a, v = .ref a → a ≠ p := fun a e => by
  rcases h with h | ⟨c, xs, e2, n, _⟩
  · rw [e] at h; exact Bool.noConfusion h
  · rw [e] at e2; cases e2; exact n
theorem LV.small (h : LV p H v) : SmallL H v := fun a ns e e2 z hz => by
  rcases h with h | ⟨c, ys, e3, n, h, l, s, q⟩
  · rw [e] at h; exact Bool.noConfusion h
  · rw [e] at e3; cases e3
    rcases h with h | h
    · rw [h] at e2; cases e2; exact q z (List.mem_map.mpr ⟨z, hz, rfl⟩)
    · rw [h] at e2; cases e2
end
theorem SmallL.ext {H H' : Hp} {x : V} (o : Option V) {n : Nat} (s : LamX.ExtN H H') (b : BZ H n x o) (h : SmallL H x) : SmallL H' x := fun a ns e e2 => by
  refine h a ns e ?_
  cases b with
  | flat f => rw [e] at f; exact Bool.noConfusion f
  | tup f => cases e; rw [s _ _ f tup_ntbl] at e2; cases e2
  | size f _ _ _ => cases e; rw [s _ _ f lst_ntbl] at e2; rw [f]; exact e2
  | item f _ _ _ => cases e; rw [s _ _ f lst_ntbl] at e2; rw [f]; exact e2
section
variable {o : Option V} {m n : Nat} {s f t e : V} {b : Bool} {H : Hp} {x : V}
theorem TxR.of {v : V} (h : v = .non ∨ (∃ i, v = .int i) ∨ ∃ l : List Nat, v = .str (S l) ∧ (∀ c ∈ l, IsB c) ∧ l.length ≤ 100) : TxR v := by
  rcases h with rfl | ⟨i, rfl⟩ | ⟨l, rfl, h1, h2⟩
  · exact ⟨rfl, fun s e => nomatch e⟩
  · exact ⟨rfl, fun s e => nomatch e⟩
  · exact ⟨rfl, fun s e => ⟨l, (V.str.inj e).symm, h1, h2⟩⟩
end
end Z
namespace Z
open PySem PySem.Spec PyProof.Rows L2
section
variable {σ : L2.St} {H : Hp} {n : L2.St → Hp → Prop} {r : VK} {b c : L2.St → Hp → Prop} {te : TE}
theorem rd_aug {i : Nat} {ti : TIp} {x : V} (e : σ[i]? = some (some x)) (h : te σ H fun y H1 => ti x y H1 fun z H2 => n (σ.set i (some z)) H2) : tAug i te ti ⟨n, r, b, c⟩ σ H := ⟨x, e, h⟩
theorem rd_ipI {f : Int → Int → Int} {i j : Int} {Q : VK} (h : Q (.int (f i j)) H) : ipI f (.int i) (.int j) H Q := ⟨i, j, rfl, rfl, h⟩
end
def spTakeB : Sp := fun vs H Q _ => ∃ (p : Addr) (m : Int), vs = [.ref p, .int m] ∧ Pool H p ∧ 0 < m ∧ m < 18446744073709551616 ∧ ∀ r H', 0 ≤ r → r < m → Pool H' p → Kp p H H' → Q (.int r) H'
theorem use_takeB {p : Addr} {m : Int} {H : Hp} {Q : VK} {E : XK} (h1 : Pool H p) (h2 : 0 < m) (h3 : m < 18446744073709551616) (q : ∀ r H', 0 ≤ r → r < m → Pool H' p → Kp p H H' → Q (.int r) H') : spTakeB ([.ref p, .int m] ++ []) H Q E := ⟨p, m, rfl, h1, h2, h3, q⟩
abbrev Sz := Int × Int
def SzAt (H : Hp) (v : V) (s : Sz) : Prop := ∃ a, v = .ref a ∧ H a = some (.tup [.int s.1, .int s.2])
def SzsAt (H : Hp) (vs : List V) (ss : List Sz) : Prop := All2 (SzAt H) vs ss
def SzOk (s : Sz) : Prop := 0 ≤ s.1 ∧ s.1 ≤ 1000000000 ∧ 1 ≤ s.2 ∧ s.2 ≤ 1000000000
def LKT (H H' : Hp) : Prop := ∀ b o, H b = some o → (∀ xs, o ≠ .lst xs) → H' b = some o
theorem SzsAt.lk {H H' : Hp} {vs : List V} {ss : List Sz} (s : LKT H H') (h : SzsAt H vs ss) : SzsAt H' vs ss := h.imp fun _ _ ⟨a, e, q⟩ => ⟨a, e, s _ _ q (fun _ z => nomatch z)⟩
theorem LKT.of {H H' : Hp} (s : Same H H') : LKT H H' := fun b o e _ => s b o e
theorem LKT.new {H : Hp} {q : Addr} {o : HO} (n : H q = none) : LKT H (upd H q o) := .of (same_new n)
theorem LKT.trans {H H1 H2 : Hp} (a : LKT H H1) (b : LKT H1 H2) : LKT H H2 := fun x o e n => b x o (a x o e n) n
theorem LKT.at {H : Hp} {q : Addr} {o : HO} {ys : List V} (n : H q = some (.lst ys)) : LKT H (upd H q o) := fun b x e nl => by
  rw [upd_ne (fun z => by rw [z, n] at e; cases e; exact nl _ rfl)]
  exact e
theorem SzsAt.same {H H' : Hp} {vs : List V} {ss : List Sz} (s : Same H H') (h : SzsAt H vs ss) : SzsAt H' vs ss := h.lk (.of s)
theorem All2.at_ {α β : Type} {R : α → β → Prop} {as : List α} {bs : List β} (h : All2 R as bs) : ∀ (i : Nat) (a : α), as[i]? = some a → ∃ b, bs[i]? = some b ∧ R a b ∧ bs.drop i = b :: bs.drop (i + 1) := by
  induction h with
  | nil => intro i a e; simp at e
  | @cons a b as bs h t ih =>
    intro i x e
    cases i with
    | zero => cases e; exact ⟨b, rfl, h, rfl⟩
    | succ i => exact ih i x e
def mxI (i j : Int) : Int := if j > i then j else i
def ldS (r : Int) : List Sz → Int → Int → Int → Int
  | [], d, _, _ => d
  | s :: t, d, a, p => ldS r t (mxI d (a + s.1 - r * p)) (a + s.1) (p + s.2)
end Z
namespace Z
open PySem PySem.Spec PyProof.Rows L2
abbrev PdR := List Int ⊕ (Int × Int)
def pos (x : Int) : Int := if x > 0 then x else 0
theorem pos_mx (x : Int) : (if 0 > x then 0 else x) = pos x := by unfold pos; split <;> split <;> omega
def pcat (us : List Int) : PdR → PdR
  | .inl vs => .inl (us ++ vs)
  | .inr p => .inr p
def uS (r st : Int) (s : Sz) (t : List Sz) (sent due : Int) : Int := if t.isEmpty then 0 else pos (due + r * s.2 - st - sent - s.1)
def pdS (r st : Int) : List Sz → Int → Int → Int → Int → PdR
  | [], _, _, _, _ => .inl []
  | s :: t, first, k, sent, due =>
    if sent + (s.1 + uS r st s t sent due) > due then .inr (first, k)
    else pcat [uS r st s t sent due] (pdS r st t (if uS r st s t sent due > 0 then k + 1 else first) (k + 1) (sent + (s.1 + uS r st s t sent due)) (due + r * s.2))
theorem pdS_cons (r st : Int) (s : Sz) (t : List Sz) (first k sent due : Int) : pdS r st (s :: t) first k sent due = if sent + (s.1 + uS r st s t sent due) > due then .inr (first, k)
    else pcat [uS r st s t sent due] (pdS r st t (if uS r st s t sent due > 0 then k + 1 else first) (k + 1) (sent + (s.1 + uS r st s t sent due)) (due + r * s.2)) := rfl
def pdF (r st : Int) (ss : List Sz) (d : Int) : PdR := pdS r st ss 0 0 0 d
theorem pcat_nil (x : PdR) : pcat [] x = x := by cases x <;> rfl
theorem pcat_snoc (us : List Int) (u : Int) (x : PdR) : pcat (us ++ [u]) x = pcat us (pcat [u] x) := by
  cases x with
  | inl vs => show Sum.inl _ = Sum.inl _; rw [List.append_assoc]
  | inr p => rfl
def PdAt (H : Hp) (v : V) : PdR → Prop
  | .inl us => ∃ D, v = .ref D ∧ H D = some (.lst (us.map V.int))
  | .inr p => ∃ D, v = .ref D ∧ H D = some (.tup [.int p.1, .int p.2])
theorem PdAt.same {H H' : Hp} {v : V} (s : Same H H') : ∀ {x : PdR}, PdAt H v x → PdAt H' v x
  | .inl _, ⟨D, e, h⟩ => ⟨D, e, s _ _ h⟩
  | .inr _, ⟨D, e, h⟩ => ⟨D, e, s _ _ h⟩
theorem PdAt.kp {p : Addr} {H H' : Hp} {v : V} (k : Kp p H H') (n : v ≠ .ref p) : ∀ {x : PdR}, PdAt H v x → PdAt H' v x
  | .inl _, ⟨D, e, h⟩ => ⟨D, e, k _ _ (fun z => n (by rw [e, z])) h⟩
  | .inr _, ⟨D, e, h⟩ => ⟨D, e, k _ _ (fun z => n (by rw [e, z])) h⟩
theorem pool_at {p T : Addr} {H : Hp} {o : HO} (n : T ≠ p) (h : Pool H p) : Pool (upd H T o) p := by
  obtain ⟨x', y', hpl', r'⟩ := h
  exact ⟨x', y', by rw [upd_ne n.symm]; exact hpl', r'⟩
theorem uS_pos (r st : Int) (s : Sz) (t : List Sz) (sent due : Int) : pos (if t.isEmpty then 0 else due + r * s.2 - st - sent - s.1) = uS r st s t sent due := by
  unfold uS
  cases t.isEmpty <;> rfl
theorem at_end {xs : List V} {v : V} {k : Nat} (hl : xs.length = k + 1) (h : xs[k]? = some v) : atI xs (-1) = some v := by
  have e : ixN xs.length (-1) = some k := by
    rw [hl]
    unfold ixN
    rw [if_neg (by decide), if_pos (by omega)]
    exact congrArg some (by omega)
  unfold atI
  rw [e]
  exact h
theorem drop_more {α : Type} {l : List α} {i : Nat} (h : i + 1 < l.length) : (l.drop (i + 1)).isEmpty = false := by
  cases e : l.drop (i + 1) with
  | nil => have := congrArg List.length e; simp at this; omega
  | cons _ _ => rfl
theorem drop_last {α : Type} {l : List α} {i : Nat} (h : l.length ≤ i + 1) : (l.drop (i + 1)).isEmpty = true := by
  rw [List.drop_eq_nil_of_le h]
  rfl
end Z
namespace Z
open PySem PySem.Spec PyProof.Rows L2
inductive SzJ (H : Hp) : V → Option Sz → Prop
  | flat {x : V} (h : scalarV x = true) : SzJ H x none
  | lst {a : Addr} {xs : List V} (h : H a = some (.lst xs)) : SzJ H (.ref a) none
  | tupn {a : Addr} {xs : List V} (h : H a = some (.tup xs)) (n : xs.length ≠ 2) : SzJ H (.ref a) none
  | bad {a : Addr} {u v : V} (h : H a = some (.tup [u, v])) (tu : TyV H u) (tv : TyV H v) (e : (inI u 0 1000000000 && inI v 1 1000000000) = false) : SzJ H (.ref a) none
  | good {a : Addr} {s : Sz} (h : H a = some (.tup [.int s.1, .int s.2])) (ok : SzOk s) : SzJ H (.ref a) (some s)
theorem SzJ.ext {H H' : Hp} {v : V} {o : Option Sz} (s : LamX.ExtN H H') (h : SzJ H v o) : SzJ H' v o := by
  cases h with
  | flat h => exact .flat h
  | lst h => exact .lst (s _ _ h lst_ntbl)
  | tupn h n => exact .tupn (s _ _ h tup_ntbl) n
  | bad h tu tv e => exact .bad (s _ _ h tup_ntbl) (tyvE s tu) (tyvE s tv) e
  | good h ok => exact .good (s _ _ h tup_ntbl) ok
theorem SzJ.same {H H' : Hp} {v : V} {o : Option Sz} (s : Same H H') (h : SzJ H v o) : SzJ H' v o := h.ext (extN_same s)
theorem inI_int {v : V} {lo hi : Int} (h : inI v lo hi = true) : ∃ i, v = .int i ∧ lo ≤ i ∧ i ≤ hi := by
  obtain ⟨i, rfl⟩ := isI_yes (inI_isI h)
  refine ⟨i, rfl, ?_⟩
  simpa [inI] using h
theorem sj_ex {l : List Addr} {H : Hp} {v : V} (h : PV l H 1 v) : ∃ o, SzJ H v o := by
  rcases h with h | ⟨a, xs, rfl, _, h | h, t⟩
  · exact ⟨_, .flat (scOk.sc h)⟩
  · exact ⟨_, .lst h⟩
  · by_cases n : xs.length = 2
    · obtain ⟨u, v, rfl⟩ := len2 n
      have tu : TyV H u := PV.ty (n := 0) (t u List.mem_cons_self)
      have tv : TyV H v := PV.ty (n := 0) (t v (List.mem_cons_of_mem _ List.mem_cons_self))
      cases e : (inI u 0 1000000000 && inI v 1 1000000000) with
      | false => exact ⟨_, .bad h tu tv e⟩
      | true =>
        rw [Bool.and_eq_true] at e
        obtain ⟨i, rfl, i0, i1⟩ := inI_int e.1
        obtain ⟨j, rfl, j0, j1⟩ := inI_int e.2
        exact ⟨_, .good (s := (i, j)) h ⟨i0, i1, j0, j1⟩⟩
    · exact ⟨_, .tupn h n⟩
def fj : List (Option Sz) → Option Nat
  | [] => none
  | none :: _ => some 0
  | some _ :: r => (fj r).map (· + 1)
theorem fj_none : ∀ os : List (Option Sz), fj os = none → ∃ ss : List Sz, os = ss.map some
  | [], _ => ⟨[], rfl⟩
  | none :: _, h => by cases h
  | some s :: r, h => by
    cases e : fj r with
    | none =>
      obtain ⟨ss, rfl⟩ := fj_none r e
      exact ⟨s :: ss, rfl⟩
    | some k =>
      unfold fj at h
      rw [e] at h
      cases h
theorem fj_bad : ∀ (os : List (Option Sz)) (i : Nat), (∀ k, fj os = some k → i ≤ k) → os[i]? = some none → fj os = some i
  | [], i, _, h => by simp at h
  | none :: _, 0, _, _ => rfl
  | none :: _, i + 1, hk, _ => absurd (hk 0 rfl) (by omega)
  | some s :: r, 0, _, h => by simp at h
  | some s :: r, i + 1, hk, h => by
    have := fj_bad r i (fun k e => by
      have := hk (k + 1) (by unfold fj; rw [e]; rfl)
      omega) h
    unfold fj
    rw [this]
    rfl
theorem fj_good : ∀ (os : List (Option Sz)) (i : Nat) (s : Sz), (∀ k, fj os = some k → i ≤ k) → os[i]? = some (some s) → ∀ k, fj os = some k → i + 1 ≤ k
  | [], i, _, _, h, _, _ => by simp at h
  | none :: _, 0, _, _, h, _, _ => by simp at h
  | none :: _, i + 1, _, hk, _, _, _ => absurd (hk 0 rfl) (by omega)
  | some t :: r, 0, s, _, _, k, h => by
    unfold fj at h
    cases e : fj r with
    | none => rw [e] at h; cases h
    | some j => rw [e] at h; cases h; exact Nat.succ_le_succ (Nat.zero_le _)
  | some t :: r, i + 1, s, hk, h, k, e => by
    unfold fj at e
    cases e2 : fj r with
    | none => rw [e2] at e; cases e
    | some j =>
      rw [e2] at e
      cases e
      have := fj_good r i s (fun k e => by
        have := hk (k + 1) (by unfold fj; rw [e]; rfl)
        omega) h j e2
      show i + 1 + 1 ≤ j + 1
      omega
theorem fj_lt : ∀ (os : List (Option Sz)) (k : Nat), fj os = some k → k < os.length
  | [], _, h => by cases h
  | none :: _, k, h => by cases h; simp
  | some s :: r, k, h => by
    unfold fj at h
    cases e : fj r with
    | none => rw [e] at h; cases h
    | some j =>
      rw [e] at h
      cases h
      have := fj_lt r j e
      show j + 1 < (some s :: r).length
      simp only [List.length_cons]
      omega
theorem szs_of {H : Hp} : ∀ {xs : List V} {ss : List Sz}, All2 (SzJ H) xs (ss.map some) → SzsAt H xs ss ∧ ∀ s ∈ ss, SzOk s
  | xs, [], h => by
    cases h
    exact ⟨.nil, fun s hs => (List.not_mem_nil hs).elim⟩
  | xs, s :: ss, h => by
    cases h with
    | cons h t =>
      obtain ⟨a, b⟩ := szs_of t
      cases h with
      | good e ok =>
        refine ⟨.cons ⟨_, rfl, e⟩ a, fun x hx => ?_⟩
        rcases List.mem_cons.mp hx with rfl | hx
        · exact ok
        · exact b x hx
inductive GJ (H : Hp) : V → Option (List (Option Sz)) → Prop
  | flat {x : V} (h : scalarV x = true) : GJ H x none
  | seq {a : Addr} {xs : List V} {os : List (Option Sz)} (h : LT H a xs) (m : xs.length ≤ 100) (t : All2 (SzJ H) xs os) : GJ H (.ref a) (some os)
theorem GJ.ext {H H' : Hp} {v : V} {o : Option (List (Option Sz))} (s : LamX.ExtN H H') (h : GJ H v o) : GJ H' v o := by
  cases h with
  | flat h => exact .flat h
  | seq h m t => exact .seq (h.imp (fun e => s _ _ e lst_ntbl) fun e => s _ _ e tup_ntbl) m (t.imp fun _ _ q => q.ext s)
theorem GJ.same {H H' : Hp} {v : V} {o : Option (List (Option Sz))} (s : Same H H') (h : GJ H v o) : GJ H' v o := h.ext (extN_same s)
theorem GJ.ty {H : Hp} {v : V} {o : Option (List (Option Sz))} (h : GJ H v o) : TyV H v := by
  cases h with
  | flat h => cases v <;> first | exact True.intro | exact Bool.noConfusion h
  | seq h _ _ => exact h.imp (fun e => ⟨_, e⟩) fun e => ⟨_, e⟩
theorem GJ.fine {H : Hp} {v : V} {os : List (Option Sz)} (h : GJ H v (some os)) (n : fj os = none) : ∃ a xs ss, v = .ref a ∧ LT H a xs ∧ SzsAt H xs ss ∧ (∀ s ∈ ss, SzOk s) ∧ ss.length ≤ 100 := by
  obtain ⟨ss, rfl⟩ := fj_none os n
  cases h with
  | seq h m t =>
    obtain ⟨a, b⟩ := szs_of t
    exact ⟨_, _, ss, rfl, h, a, b, by have := a.len; omega⟩
/-- what is given: plain values of depth two -/
def GvB (l : List Addr) (H : Hp) (v : V) : Prop := scOk v = true ∨ ∃ a xs, v = .ref a ∧ a ∉ l ∧ LT H a xs ∧ xs.length ≤ 100 ∧ ∀ x ∈ xs, PV l H 1 x
theorem gj_all {l : List Addr} {H : Hp} : ∀ xs : List V, (∀ x ∈ xs, PV l H 1 x) → ∃ os, All2 (SzJ H) xs os
  | [], _ => ⟨[], .nil⟩
  | x :: r, h => by
    obtain ⟨o, a⟩ := sj_ex (h x List.mem_cons_self)
    obtain ⟨os, b⟩ := gj_all r fun y hy => h y (List.mem_cons_of_mem _ hy)
    exact ⟨o :: os, .cons a b⟩
theorem gj_ex {l : List Addr} {H : Hp} {v : V} (h : GvB l H v) : ∃ o, GJ H v o := by
  rcases h with h | ⟨a, xs, rfl, _, h, m, t⟩
  · exact ⟨_, .flat (scOk.sc h)⟩
  · obtain ⟨os, q⟩ := gj_all xs t
    exact ⟨_, .seq h m q⟩
theorem GvB.kp {l : List Addr} {H H' : Hp} {v : V} (k : KpLN l H H') (h : GvB l H v) : GvB l H' v := by
  rcases h with h | ⟨a, xs, e, n, h, m, t⟩
  · exact .inl h
  · exact .inr ⟨a, xs, e, n, h.kpln k n, m, fun x hx => (t x hx).kp k⟩
def okN (v : V) : Bool := inI v 0 1000000000
theorem find_first : ∀ (ys : List V) (i : Nat) (v : V), (∀ j y, j < i → ys[j]? = some y → okN y = true) → ys[i]? = some v → okN v = false → ys.find? (fun y => !okN y) = some v
  | [], i, v, _, h, _ => by simp at h
  | y :: r, 0, v, _, h, e => by
    cases h
    simp [List.find?, e]
  | y :: r, i + 1, v, hk, h, e => by
    have k0 := hk 0 y (by omega) rfl
    have := find_first r i v (fun j z hj hz => hk (j + 1) z (by omega) hz) h e
    simp only [List.find?, k0, Bool.not_true]
    exact this
theorem find_none : ∀ (ys : List V), (∀ j y, j < ys.length → ys[j]? = some y → okN y = true) → ys.find? (fun y => !okN y) = none
  | [], _ => rfl
  | y :: r, hk => by
    have k0 := hk 0 y (by simp) rfl
    have := find_none r (fun j z hj hz => hk (j + 1) z (by simpa using hj) hz)
    simp only [List.find?, k0, Bool.not_true]
    exact this
theorem PV.add {l : List Addr} {H : Hp} {S : Addr} {o : HO} (n : H S = none) : ∀ {m : Nat} {v : V}, PV l H m v → PV (S :: l) (upd H S o) m v
  | 0, _, h => h
  | m + 1, v, h => by
    rcases h with h | ⟨a, xs, e, na, h, t⟩
    · exact .inl h
    · have ne : a ≠ S := h.ne n
      exact .inr ⟨a, xs, e, nm_cons ne na, h.upd_ne ne, fun x hx => PV.add n (t x hx)⟩
theorem GvB.add {l : List Addr} {H : Hp} {S : Addr} {o : HO} {v : V} (n : H S = none) (h : GvB l H v) : GvB (S :: l) (upd H S o) v := by
  rcases h with h | ⟨a, xs, e, na, h, m, t⟩
  · exact .inl h
  · have ne : a ≠ S := h.ne n
    exact .inr ⟨a, xs, e, nm_cons ne na, h.upd_ne ne, m, fun x hx => PV.add n (t x hx)⟩
theorem rd_glstB {K : PySem.W.Frag} {σ : L2.St} {H : Hp} {a : Addr} {xs : List V} {k : Nat} {ts : TGs} {q : L2.St → Hp → Prop} (e : SqL K H a xs) (l : xs.length = k) (h : ts xs σ H q) : gLst K k ts (.ref a) σ H q := ⟨a, xs, rfl, e, l, h⟩
def spIsSzX : Sp := fun vs H Q _ => ∃ (v : V) (o : Option Sz), vs = [v] ∧ SzJ H v o ∧ Q (.bl o.isSome) H
theorem use_isszX {v : V} {o : Option Sz} {H : Hp} {Q : VK} {E : XK} (h : SzJ H v o) (q : Q (.bl o.isSome) H) : spIsSzX ([v] ++ []) H Q E := ⟨v, o, rfl, h, q⟩
def ErrP (C : Addr) (o : Option (List (Option Sz))) (H : Hp) (E : XK) : Prop := (o = none → Err C "index" .non H E) ∧ ∀ os i, o = some os → fj os = some i → Err C "index" (.int (i : Nat)) H E
def spCkSzX (C : Addr) : Sp := fun vs H Q E => ∃ (x : V) (o : Option (List (Option Sz))), vs = [x] ∧ GJ H x o ∧ ErrP C o H E ∧ ∀ os, o = some os → fj os = none → ∀ H', Same H H' → Q .non H'
theorem use_ckszX {C : Addr} {x : V} {o : Option (List (Option Sz))} {H : Hp} {Q : VK} {E : XK} (h : GJ H x o) (e : ErrP C o H E) (q : ∀ os, o = some os → fj os = none → ∀ H', Same H H' → Q .non H') : spCkSzX C ([x] ++ []) H Q E := ⟨x, o, rfl, h, e, q⟩
def spLdX (CP CN : Addr) : Sp := fun vs H Q E => ∃ (x y : V) (o : Option (List (Option Sz))), vs = [x, y] ∧ GJ H x o ∧ TyV H y ∧ ErrP CP o H E ∧ (∀ os, o = some os → fj os = none → okN y = false → Err CN "value" y H E) ∧ (∀ os, o = some os → fj os = none → okN y = true → ∀ v H', Same H H' → Q v H')
theorem use_ldX {CP CN : Addr} {x y : V} {o : Option (List (Option Sz))} {H : Hp} {Q : VK} {E : XK} (h : GJ H x o) (t : TyV H y) (e : ErrP CP o H E) (e2 : ∀ os, o = some os → fj os = none → okN y = false → Err CN "value" y H E) (q : ∀ os, o = some os → fj os = none → okN y = true → ∀ v H', Same H H' → Q v H') : spLdX CP CN ([x, y] ++ []) H Q E := ⟨x, y, o, rfl, h, t, e, e2, q⟩
def spPadX (CP CN : Addr) : Sp := fun vs H Q E => ∃ (x : V) (ys : List V) (o : Option (List (Option Sz))), ys.length = 3 ∧ vs = x :: ys ∧ GJ H x o ∧ (∀ y ∈ ys, TyV H y) ∧ ErrP CP o H E ∧ (∀ os y, o = some os → fj os = none → ys.find? (fun y => !okN y) = some y → Err CN "value" y H E) ∧ (∀ os, o = some os → fj os = none → ys.find? (fun y => !okN y) = none → ∀ v H', Same H H' → Q v H')
theorem use_padX {CP CN : Addr} {x y1 y2 y3 : V} {o : Option (List (Option Sz))} {H : Hp} {Q : VK} {E : XK} (h : GJ H x o) (t : ∀ y ∈ [y1, y2, y3], TyV H y) (e : ErrP CP o H E) (e2 : ∀ os y, o = some os → fj os = none → [y1, y2, y3].find? (fun y => !okN y) = some y → Err CN "value" y H E) (q : ∀ os, o = some os → fj os = none → [y1, y2, y3].find? (fun y => !okN y) = none → ∀ v H', Same H H' → Q v H') : spPadX CP CN ([x, y1, y2, y3] ++ []) H Q E := ⟨x, [y1, y2, y3], o, rfl, rfl, h, t, e, e2, q⟩
/-- what is due -/
def dueG (o : Option (List (Option Sz))) (ys : List V) : List V := match o with
  | none => mk2 "plan" .non
  | some os => match fj os with
    | some i => mk2 "plan" (.int (i : Nat))
    | none => match ys.find? (fun y => !okN y) with
      | some y => mk2 "number" y
      | none => mk2 "fine" .non
theorem dueG_none {ys : List V} : dueG none ys = mk2 "plan" .non := rfl
theorem dueG_plan {os : List (Option Sz)} {i : Nat} {ys : List V} (h : fj os = some i) : dueG (some os) ys = mk2 "plan" (.int (i : Nat)) := by simp only [dueG, h]
theorem dueG_num {os : List (Option Sz)} {y : V} {ys : List V} (h : fj os = none) (e : ys.find? (fun y => !okN y) = some y) : dueG (some os) ys = mk2 "number" y := by simp only [dueG, h, e]
theorem dueG_fine {os : List (Option Sz)} {ys : List V} (h : fj os = none) (e : ys.find? (fun y => !okN y) = none) : dueG (some os) ys = mk2 "fine" .non := by simp only [dueG, h, e]
def spDueG : Sp := fun vs H Q _ => ∃ (x : V) (b : Addr) (ys : List V) (o : Option (List (Option Sz))), vs = [x, .ref b] ∧ GJ H x o ∧ H b = some (.lst ys) ∧ (∀ y ∈ ys, TyV H y) ∧ ∀ p H', H p = none → Same H H' → H' p = some (.lst (dueG o ys)) → Q (.ref p) H'
theorem use_dueG {x : V} {b : Addr} {ys : List V} {o : Option (List (Option Sz))} {H : Hp} {Q : VK} {E : XK} (h : GJ H x o) (hb : H b = some (.lst ys)) (t : ∀ y ∈ ys, TyV H y) (q : ∀ p H', H p = none → Same H H' → H' p = some (.lst (dueG o ys)) → Q (.ref p) H') : spDueG ([x, .ref b] ++ []) H Q E := ⟨x, b, ys, o, rfl, h, hb, t, q⟩
def spGiven : Sp := fun vs H Q _ => ∃ p, vs = [.ref p] ∧ Pool H p ∧ ∀ v H', GvB [p] H' v → Pool H' p → Kp p H H' → Q v H'
theorem use_given {p : Addr} {H : Hp} {Q : VK} {E : XK} (h : Pool H p) (q : ∀ v H', GvB [p] H' v → Pool H' p → Kp p H H' → Q v H') : spGiven ([.ref p] ++ []) H Q E := ⟨p, rfl, h, q⟩
/-- any end -/
def FinB (t : Str) : V → Hp → VK → Prop := fun _ H' Q => ∀ p H'', Same H' H'' → H' p = none → H'' p = some (.lst (mk2 t .non)) → Q (.ref p) H''
theorem ErrP.same {C : Addr} {o : Option (List (Option Sz))} {H H' : Hp} {E : XK} (s : Same H H') (h : ErrP C o H E) : ErrP C o H' E := ⟨fun e => (h.1 e).same s, fun os i e f => (h.2 os i e f).same s⟩
end Z
namespace Z
open PySem PySem.Spec PyProof.Rows L2
def topS (i : Nat) : Stmt := PySem.Challenge.pw_framejoins_k81_budgets_refused.main.body.getD i (.Pass ⟨0, 0, 0, 0⟩)
local macro_rules | `(tactic| walk_at "hg") => `(tactic| first
  | assumption
  | (with_reducible exact upd_same)
  | ((with_reducible refine' look_new ?k1 ?k2); (case k1 => assumption); (case k2 => walk_at "hg"))
  | ((with_reducible refine' look_same ?k1 ?k2); (case k1 => assumption); (case k2 => walk_at "hg"))
  | ((with_reducible refine' look_kp ?k1 ?k2 ?k3); (case k1 => assumption); (case k2 => walk_at "ne"); (case k3 => walk_at "hg"))
  | ((with_reducible refine' look_upd ?k1 ?k2); (case k1 => assumption); (case k2 => walk_at "hg"))
  | fail)
local macro_rules | `(tactic| walk_at "ne") => `(tactic| first
  | assumption
  | ((with_reducible refine' Pool.ne' ?k1 ?k2); (case k1 => assumption); (case k2 => walk_at "pl"))
  | fail)
local macro_rules | `(tactic| walk_at "r1") => `(tactic| first
  | (with_reducible refine rd_seq ?_) | (with_reducible refine rd_asg ?_) | (with_reducible refine rd_gname ?_) | (with_reducible refine rd_ret ?_) | (with_reducible refine rd_ifs ?_)
  | ((with_reducible refine' rd_var ?k1 ?_); (case k1 => exact rfl))
  | ((with_reducible refine' rd_ixL ?k1 ?k2 ?_); (case k1 => walk_at "sq"); (case k2 => walk_at "at"))
  | ((with_reducible refine' rd_ixT ?k1 ?k2 ?_); (case k1 => walk_at "sqt"); (case k2 => walk_at "at"))
  | ((with_reducible refine' rd_setL ?k1 ?k2 ?_); (case k1 => walk_at "hg"); (case k2 => walk_at "ixn"))
  | ((with_reducible refine' rd_lenL ?k1 ?_); (case k1 => walk_at "sq"))
  | ((with_reducible refine' rd_listL ?k1 fun _ _ => ?_); (case k1 => walk_at "sq"))
  | ((with_reducible refine' rd_lenT ?k1 ?_); (case k1 => walk_at "sqt"))
  | ((with_reducible refine' rd_gtup ?k1 ?k2 ?_); (case k1 => walk_at "sqt"); (case k2 => exact rfl))
  | (with_reducible refine rd_gcons ?_) | (with_reducible refine rd_gnil ?_) | (with_reducible refine rd_forT ?_) | (with_reducible refine rd_forL ?_) | (with_reducible refine rd_for2 ?_)
  | ((with_reducible refine' rd_neT2 ?k1 ?k2 ?k3 ?k4 ?_); (case k1 => walk_at "sqt"); (case k2 => walk_at "sqt"); (case k3 => walk_at "f1"); (case k4 => walk_at "f2"))
  | ((with_reducible refine rd_n1 ?k1 ?k2 ?_); (case k1 => omega); (case k2 => omega))
  | ((with_reducible refine rd_n2 ?k1 ?_); (case k1 => exact ⟨by omega, by omega, by omega, by omega⟩))
  | (with_reducible refine rd_lcD fun _ _ => ?_)
  | ((with_reducible refine' lc_numbers ?k1 ?k2 ?k3 ?k4 ?k5 fun _ _ _ _ _ _ _ => ?_); (case k1 => exact fun _ => rfl); (case k2 => exact fun _ => rfl); (case k3 => walk_at "pl"); (case k4 => assumption); (case k5 => walk_at "sd"))
  | (with_reducible refine rd_for3 ?_) | (with_reducible refine rd_bm ?_)
  | ((with_reducible refine rd_n3 ?k1 ?_); (case k1 => walk_at "sd"))
  | ((with_reducible refine' rd_tyL ?k1 ?_); (case k1 => walk_at "hg"))
  | ((with_reducible refine' rd_catL ?k1 ?k2 ?k3 fun _ _ => ?_); (case k1 => walk_at "hg"); (case k2 => walk_at "hg"); (case k3 => walk_at "sd"))
  | ((with_reducible refine' rd_appI ?k1 ?k2 ?_); (case k1 => walk_at "hg"); (case k2 => walk_at "sd"))
  | ((with_reducible refine' use_once ?k1 ?k2 fun _ _ _ _ _ _ _ _ _ => ?_); (case k1 => walk_at "sq"); (case k2 => walk_at "sd"))
  | ((with_reducible refine' use_split ?k1 ?k2 ?k3 ?k4 ?k5 fun _ _ _ _ _ => ?_); (case k1 => walk_at "hg"); (case k2 => walk_at "sd"); (case k3 => walk_at "sd"); (case k4 => walk_at "sd"); (case k5 => walk_at "sd"))
  | ((with_reducible refine' use_splitK ?k1 ?k2 ?k3 ?k4 ?k5 fun _ _ _ _ _ => ?_); (case k1 => walk_at "hg"); (case k2 => walk_at "sd"); (case k3 => walk_at "sd"); (case k4 => walk_at "sd"); (case k5 => walk_at "sd"))
  | (with_reducible refine rd_sl ?_) | (with_reducible refine rd_part ?_) | (with_reducible refine rd_nopart ?_) | (with_reducible refine rd_oneI ?_)
  | (with_reducible refine rd_lcL ?_)
  | (with_reducible refine rd_forV ?_)
  | ((with_reducible refine rd_nV ?k1 ?k2 ?_); (case k1 => omega); (case k2 => omega))
  | ((with_reducible refine' use_join1 ?k1 ?k2 ?k3 ?k4 fun _ _ _ _ _ => ?_); (case k1 => walk_at "hg"); (case k2 => walk_at "hg"); (case k3 => walk_at "sd"); (case k4 => walk_at "sd"))
  | ((with_reducible refine' use_join ?k1 ?k2 ?k3 ?k4 ?k5 fun _ _ _ _ _ => ?_); (case k1 => walk_at "hg"); (case k2 => walk_at "sd"); (case k3 => walk_at "sd"); (case k4 => walk_at "sd"); (case k5 => walk_at "sd"))
  | ((with_reducible refine' use_joinK ?k1 ?k2 ?k3 ?k4 ?k5 fun _ _ _ _ _ => ?_); (case k1 => walk_at "hg"); (case k2 => walk_at "sd"); (case k3 => walk_at "sd"); (case k4 => walk_at "sd"); (case k5 => walk_at "sd"))
  | ((with_reducible refine' use_ints ?k1 ?k2 ?_); (case k1 => walk_at "hg"); (case k2 => walk_at "sd"))
  | (with_reducible refine rd_isN ?_) | (with_reducible refine rd_lc1 ?_) | (with_reducible refine rd_forE ?_) | (with_reducible refine rd_forZ ?_)
  | ((with_reducible refine' rd_neL ?k1 ?k2 ?_); (case k1 => walk_at "sq"); (case k2 => walk_at "sq"))
  | ((with_reducible refine' rd_eqL ?k1 ?k2 ?_); (case k1 => walk_at "sq"); (case k2 => walk_at "sq"))
  | ((with_reducible refine' rd_neN ?k1 ?k2 ?_); (case k1 => walk_at "sq"); (case k2 => walk_at "sq"))
  | (with_reducible refine rd_c ?_) | (with_reducible refine rd_op ?_) | (with_reducible refine rd_un ?_) | (with_reducible refine rd_i0 ?_)
  | ((with_reducible refine rd_i ?k1 ?_); (case k1 => walk_at "side"))
  | (with_reducible refine rd_u ?_)
  | (with_reducible refine rd_eq rfl ?_) | (with_reducible refine rd_ne rfl ?_) | (with_reducible refine rd_test ?_) | (with_reducible refine rd_b ?_) | (with_reducible refine rd_bl ?_)
  | (with_reducible refine rd_not ?_) | (with_reducible refine rd_and ?_) | (with_reducible refine rd_or ?_) | (with_reducible refine rd_andV ?_) | (with_reducible refine rd_orV ?_) | (with_reducible refine rd_notV ?_)
  | (with_reducible refine rd_if ?_) | (with_reducible refine rd_chain ?_) | (with_reducible refine rd_call ?_) | (with_reducible refine rd_callK ?_) | (with_reducible refine rd_cb ?_)
  | (with_reducible refine rd_cons ?_) | (with_reducible refine rd_nil ?_) | (with_reducible refine rd_next ?_) | (with_reducible refine rd_drop ?_) | (with_reducible refine rd_gsub ?_)
  | (with_reducible refine rd_int ?_) | (with_reducible refine rd_intb ?_) | (with_reducible refine rd_abs ?_) | (with_reducible refine rd_max ?_) | (with_reducible refine rd_min ?_)
  | (with_reducible refine rd_par ?_) | (with_reducible refine rd_par3 ?_) | (with_reducible refine rd_two ?_) | (with_reducible refine rd_three ?_)
  | (with_reducible refine rd_retn ?_) | (with_reducible refine rd_tup ?_) | (with_reducible refine rd_lst ?_) | (with_reducible refine rd_for1 ?_) | (with_reducible refine rd_one ?_)
  | ((with_reducible refine rd_all ?k1 fun _ _ => ?_); (case k1 => exact Nat.le_of_ble_eq_true rfl))
  | ((with_reducible refine use_take ?k1 ?k2 ?k3 fun _ _ _ _ _ _ => ?_); (case k1 => walk_at "pl"); (case k2 => walk_at "sd"); (case k3 => walk_at "sd"))
  | ((with_reducible refine use_number ?k1 fun _ _ _ _ _ => ?_); (case k1 => walk_at "pl"))
  | ((with_reducible refine' use_pool ?k1 ?k2 ?k3 ?k4 fun _ _ _ _ _ => ?_); (case k1 => walk_at "sq"); (case k2 => assumption); (case k3 => walk_at "sd"); (case k4 => walk_at "sd"))
  | ((with_reducible refine use_ckp ?k1 ?k2 ?_); (case k1 => walk_at "sd"); (case k2 => walk_at "sd"))
  | ((with_reducible refine use_pair ?k1 ?k2 fun _ _ => ?_); (case k1 => walk_at "sd"); (case k2 => walk_at "sd"))
  | ((with_reducible refine use_lfold ?k1 ?k2 fun _ _ _ _ => ?_); (case k1 => walk_at "sd"); (case k2 => walk_at "sd"))
  | ((with_reducible refine' use_ispair ?k1 ?_); (case k1 => walk_at "hg"))
  | ((with_reducible refine' use_items ?k1 fun _ _ => ?_); (case k1 => walk_at "sq"))
  | ((with_reducible refine' use_block ?k1 ?k2 ?k3 fun _ _ => ?_); (case k1 => walk_at "hg"); (case k2 => walk_at "sd"); (case k3 => walk_at "sd"))
  | ((with_reducible refine' use_mark ?k1 ?k2 fun _ _ => ?_); (case k1 => walk_at "hg"); (case k2 => walk_at "sd"))
  | (with_reducible refine use_code ?_)
  | ((with_reducible refine' use_same ?k1 fun _ _ => ?_); (case k1 => walk_at "smv"))
  | ((with_reducible refine use_quant ?k1 ?k2 ?_); (case k1 => walk_at "sd"); (case k2 => walk_at "sd"))
  | ((with_reducible refine use_quantK ?k1 ?k2 ?_); (case k1 => walk_at "sd"); (case k2 => walk_at "sd"))
  | (with_reducible refine use_isi_int ?_) | (with_reducible refine use_within_int ?_) | (with_reducible refine use_cki ?_)
  | ((with_reducible refine use_ckw ?k1 ?k2 ?_); (case k1 => walk_at "sd"); (case k2 => walk_at "sd"))
  | (with_reducible refine iteT ?_) | (with_reducible refine iteF ?_)
  | (with_reducible refine iteNT ?_) | (with_reducible refine iteNF ?_)
  | (walk_at "isi")
  | fail)
local macro_rules | `(tactic| walk_at "isi") => `(tactic| first
  | (with_reducible refine isi_int_int ?_)
  | (with_reducible refine isi_int_bool ?_)
  | (with_reducible refine isi_int_str ?_)
  | (with_reducible refine isi_int_list ?_)
  | (with_reducible refine isi_int_tuple ?_)
  | (with_reducible refine isi_bl_int ?_)
  | (with_reducible refine isi_bl_bool ?_)
  | (with_reducible refine isi_bl_str ?_)
  | (with_reducible refine isi_bl_list ?_)
  | (with_reducible refine isi_bl_tuple ?_)
  | (with_reducible refine isi_non_int ?_)
  | (with_reducible refine isi_non_bool ?_)
  | (with_reducible refine isi_non_str ?_)
  | (with_reducible refine isi_non_list ?_)
  | (with_reducible refine isi_non_tuple ?_)
  | (with_reducible refine isi_str_int ?_)
  | (with_reducible refine isi_str_bool ?_)
  | (with_reducible refine isi_str_str ?_)
  | (with_reducible refine isi_str_list ?_)
  | (with_reducible refine isi_str_tuple ?_)
  | ((with_reducible refine' isi_lst_int ?k1 ?_); (case k1 => walk_at "hg"))
  | ((with_reducible refine' isi_lst_bool ?k1 ?_); (case k1 => walk_at "hg"))
  | ((with_reducible refine' isi_lst_str ?k1 ?_); (case k1 => walk_at "hg"))
  | ((with_reducible refine' isi_lst_list ?k1 ?_); (case k1 => walk_at "hg"))
  | ((with_reducible refine' isi_lst_tuple ?k1 ?_); (case k1 => walk_at "hg"))
  | ((with_reducible refine' isi_tup_int ?k1 ?_); (case k1 => walk_at "hg"))
  | ((with_reducible refine' isi_tup_bool ?k1 ?_); (case k1 => walk_at "hg"))
  | ((with_reducible refine' isi_tup_str ?k1 ?_); (case k1 => walk_at "hg"))
  | ((with_reducible refine' isi_tup_list ?k1 ?_); (case k1 => walk_at "hg"))
  | ((with_reducible refine' isi_tup_tuple ?k1 ?_); (case k1 => walk_at "hg"))
  | fail)
local macro_rules | `(tactic| walk_at "side") => `(tactic| first
  | (show (0 : Int) < _; omega)
  | exact ⟨by omega, by omega⟩
  | exact .inl ⟨by omega, by omega⟩
  | exact .inr ⟨by omega, by omega⟩
  | exact .inr ⟨by decide, by decide⟩
  | exact ⟨by decide, by decide, by decide⟩
  | decide
  | fail)
local macro_rules | `(tactic| walk_at "rd") => `(tactic| (repeat walk_at "r1"))
local macro_rules | `(tactic| walk_at "sq") => `(tactic| first
  | assumption
  | ((with_reducible refine' SqL.of ?k1); (case k1 => walk_at "hg"))
  | ((with_reducible refine' sqL_new ?k1 ?k2); (case k1 => assumption); (case k2 => walk_at "sq"))
  | ((with_reducible refine' sqL_same ?k1 ?k2); (case k1 => assumption); (case k2 => walk_at "sq"))
  | fail)
local macro_rules | `(tactic| walk_at "sqt") => `(tactic| first
  | assumption
  | exact by_all (by assumption)
  | ((with_reducible refine' SqT.of ?k1); (case k1 => walk_at "hg"))
  | fail)
local macro_rules | `(tactic| walk_at "at") => `(tactic| first | assumption | exact atI_nat (j := 0) rfl | exact atI_nat (j := 1) rfl | exact atI_nat (j := 2) rfl | exact atI_nat (j := 3) rfl | fail)
local macro_rules | `(tactic| walk_at "ixn") => `(tactic| first | assumption | rfl | fail)
local macro_rules | `(tactic| walk_at "sd") => `(tactic| first | omega | decide +kernel | fail)
local macro_rules | `(tactic| walk_at "pl") => `(tactic| first
  | assumption
  | ((with_reducible refine' Pool.new' ?k1 ?k2); (case k1 => assumption); (case k2 => walk_at "pl"))
  | ((with_reducible refine' Pool.same' ?k1 ?k2); (case k1 => assumption); (case k2 => walk_at "pl"))
  | fail)
local macro_rules | `(tactic| walk_at "allm") => `(tactic| ((repeat (refine List.forall_mem_cons.mpr ⟨⟨_, rfl, by first | decide | omega, by first | decide | omega⟩, ?_⟩)); exact List.forall_mem_nil _))
local macro_rules | `(tactic| walk_at "kp") => `(tactic| first
  | assumption
  | exact Kp.refl
  | ((with_reducible refine' Kp.trans ?k1 (Kp.new ?k2)); (case k2 => assumption); walk_at "kp")
  | (refine' Kp.trans ?k1 ?k2; (case k2 => assumption); walk_at "kp")
  | (refine' Kp.trans ?k1 (Kp.of ?k2); (case k2 => assumption); walk_at "kp")
  | ((with_reducible refine' Kp.trans ?k1 Kp.at); walk_at "kp")
  | fail)
local macro_rules | `(tactic| walk_at "ct") => `(tactic| (refine' close_turn ?k1 ?k2 ?k3 ?k4; (case k1 => assumption); (case k2 => assumption); (case k3 => assumption); (case k4 => walk_at "kp")))
local macro_rules | `(tactic| walk_at "sm") => `(tactic| first
  | (with_reducible assumption)
  | (with_reducible exact Same.refl _)
  | ((with_reducible refine' Same.trans ?k1 (same_new ?k2)); (case k2 => assumption); walk_at "sm")
  | ((with_reducible refine' Same.trans ?k1 ?k2); (case k2 => (with_reducible assumption)); walk_at "sm")
  | fail)
local macro_rules | `(tactic| walk_at "f1") => `(tactic| first | rfl | exact congrArg Prod.fst (fold_unfold _ _ _) | exact congrArg Prod.fst (unfold_fold _ _ _) | fail)
local macro_rules | `(tactic| walk_at "f2") => `(tactic| first | rfl | exact congrArg Prod.snd (fold_unfold _ _ _) | exact congrArg Prod.snd (unfold_fold _ _ _) | fail)
local macro_rules | `(tactic| walk_at "smv") => `(tactic| first
  | (with_reducible assumption)
  | ((with_reducible refine sm_sc ?k1); (case k1 => exact rfl))
  | ((with_reducible refine' sm_ints ?k1 ?k2); (case k1 => walk_at "hg"); (case k2 => walk_at "hg"))
  | fail)
local macro_rules | `(tactic| walk_at "kp2") => `(tactic| first
  | exact Kp2.refl
  | exact Kp2.at
  | ((with_reducible refine' Kp2.trans ?k1 Kp2.at); walk_at "kp2")
  | ((with_reducible refine' Kp2.trans ?k1 (Kp2.new ?k2)); (case k2 => assumption); walk_at "kp2")
  | (refine' Kp2.trans ?k1 (Kp2.ofK ?k2); (case k2 => assumption); walk_at "kp2")
  | (refine' Kp2.trans ?k1 (Kp2.ofS ?k2); (case k2 => assumption); walk_at "kp2")
  | fail)
local macro_rules | `(tactic| walk_at "ty") => `(tactic| first
  | exact True.intro
  | ((refine' Or.inl ⟨_, ?k1⟩); (case k1 => walk_at "hg"))
  | ((refine' Or.inr ⟨_, ?k1⟩); (case k1 => walk_at "hg"))
  | fail)
local macro_rules | `(tactic| walk_at "jr") => `(tactic| first
  | exact ⟨_, JR.flat rfl⟩
  | ((refine' ⟨_, JR.tup2 ?k1 ?k2 ?k3⟩); (case k1 => walk_at "hg"); (case k2 => walk_at "ty"); (case k3 => walk_at "ty"))
  | ((refine' ⟨_, JR.tupn ?k1 ?k2⟩); (case k1 => walk_at "hg"); (case k2 => simp))
  | ((refine' ⟨_, JR.lst ?k1⟩); (case k1 => walk_at "hg"))
  | fail)
local macro_rules | `(tactic| walk_at "jr1") => `(tactic| ((refine' List.forall_mem_cons.mpr ⟨?k1, ?_⟩); (case k1 => walk_at "jr")))
local macro_rules | `(tactic| walk_at "alljr") => `(tactic| ((repeat walk_at "jr1"); exact List.forall_mem_nil _))
local macro_rules | `(tactic| walk_at "r1") => `(tactic| first
  | ((with_reducible refine' rd_raiseV ?k1 ?_); (case k1 => exact rfl))
  | (with_reducible refine rd_raiseC ?_)
  | ((with_reducible refine' rd_lam ?k1 fun _ _ _ => ?_); (case k1 => walk_at "tb"))
  | (with_reducible refine rd_told ?_)
  | (with_reducible refine rd_xf ?_)
  | fail)
local macro_rules | `(tactic| walk_at "tb") => `(tactic| first
  | assumption
  | ((with_reducible refine' Tabs.new ?k1 ?k2); (case k1 => assumption); (case k2 => walk_at "tb"))
  | ((with_reducible refine' Tabs.same ?k1 ?k2); (case k1 => assumption); (case k2 => walk_at "tb"))
  | ((with_reducible refine' Tabs.kp ?k0 ?k1 ?k2); (case k1 => assumption); (case k0 => walk_at "pl"); (case k2 => walk_at "tb"))
  | fail)
local macro_rules | `(tactic| walk_at "kpn") => `(tactic| first
  | assumption
  | exact KpN.refl
  | ((with_reducible refine' KpN.trans ?k1 (KpN.new ?k2)); (case k2 => assumption); walk_at "kpn")
  | ((with_reducible refine' KpN.trans ?k1 ?k2); (case k2 => assumption); walk_at "kpn")
  | ((with_reducible refine' KpN.trans ?k1 (KpN.ofK ?k2)); (case k2 => assumption); walk_at "kpn")
  | ((with_reducible refine' KpN.trans ?k1 (KpN.of ?k2)); (case k2 => assumption); walk_at "kpn")
  | ((with_reducible refine' KpN.trans ?k1 (KpN.ofN ?k2)); (case k2 => assumption); walk_at "kpn")
  | ((with_reducible refine' KpN.trans ?k1 KpN.at); walk_at "kpn")
  | fail)
local macro_rules | `(tactic| walk_at "hg") => `(tactic| first
  | ((with_reducible refine' look_extL ?k1 ?k2); (case k1 => assumption); (case k2 => walk_at "hg"))
  | ((with_reducible refine' look_extT ?k1 ?k2); (case k1 => assumption); (case k2 => walk_at "hg"))
  | fail)
local macro_rules | `(tactic| walk_at "als") => `(tactic| ((repeat (refine List.forall_mem_cons.mpr ⟨rfl, ?_⟩)); exact List.forall_mem_nil _))
local macro_rules | `(tactic| walk_at "dv1") => `(tactic| first
  | exact DV.sc rfl
  | ((refine' DV.lst ?n ?e ?s); (case n => walk_at "ne"); (case e => walk_at "hg"); (case s => walk_at "als"))
  | ((refine' DV.tup ?n ?e ?s); (case n => walk_at "ne"); (case e => walk_at "hg"); (case s => walk_at "als"))
  | fail)
local macro_rules | `(tactic| walk_at "dvm1") => `(tactic| ((refine' List.forall_mem_cons.mpr ⟨⟨?d, ?i⟩, ?_⟩); (case d => walk_at "dv1"); (case i => first | rfl | decide)))
local macro_rules | `(tactic| walk_at "dvm") => `(tactic| ((repeat walk_at "dvm1"); exact List.forall_mem_nil _))
local macro_rules | `(tactic| walk_at "r1") => `(tactic| first
  | ((with_reducible refine' rd_callL ?k1 ?_); (case k1 => exact rfl))
  | ((with_reducible refine' use_sound ?k1 fun _ _ => ?_); (case k1 => walk_at "hg"))
  | fail)
local macro_rules | `(tactic| walk_at "r1") => `(tactic| first
  | ((with_reducible refine' use_ljoints ?k1 ?k2 fun _ _ _ _ _ _ _ _ _ _ => ?_); (case k1 => walk_at "pl"); (case k2 => walk_at "sd"))
  | fail)
local macro_rules | `(tactic| walk_at "r1") => `(tactic| first
  | ((with_reducible refine' use_folds ?k1 ?k2 ?k3 ?k4 ?k5 fun _ _ _ _ _ => ?_); (case k1 => walk_at "hg"); (case k2 => walk_at "hg"); (case k3 => walk_at "js"); (case k4 => assumption); (case k5 => walk_at "sd"))
  | ((with_reducible refine' use_partner ?k1 ?k2 ?k3 ?_); (case k1 => walk_at "hg"); (case k2 => walk_at "js"); (case k3 => assumption))
  | fail)
local macro_rules | `(tactic| walk_at "js") => `(tactic| first
  | assumption
  | ((with_reducible refine' JsAt.new' ?k1 ?k2); (case k1 => assumption); (case k2 => walk_at "js"))
  | ((with_reducible refine' JsAt.same' ?k1 ?k2); (case k1 => assumption); (case k2 => walk_at "js"))
  | ((with_reducible refine' JsAt.at' ?k1 ?k2); (case k1 => walk_at "hg"); (case k2 => walk_at "js"))
  | fail)
local macro_rules | `(tactic| walk_at "kpl") => `(tactic| first
  | assumption
  | exact KpL.refl
  | ((with_reducible refine' KpL.trans ?k1 (KpL.new ?k2)); (case k2 => assumption); walk_at "kpl")
  | ((with_reducible refine' KpL.trans ?k1 ?k2); (case k2 => assumption); walk_at "kpl")
  | ((with_reducible refine' KpL.trans ?k1 (KpL.ofK ?k3 ?k2)); (case k2 => assumption); (case k3 => simp); walk_at "kpl")
  | ((with_reducible refine' KpL.trans ?k1 (KpL.ofS ?k2)); (case k2 => assumption); walk_at "kpl")
  | ((with_reducible refine' KpL.trans ?k1 (KpL.at ?k3)); (case k3 => simp); walk_at "kpl")
  | fail)
local macro_rules | `(tactic| walk_at "lt") => `(tactic| first
  | assumption
  | ((with_reducible refine' LT.new' ?k1 ?k2); (case k1 => assumption); (case k2 => walk_at "lt"))
  | ((with_reducible refine' LT.same' ?k1 ?k2); (case k1 => assumption); (case k2 => walk_at "lt"))
  | ((with_reducible refine' LT.l ?k1); (case k1 => walk_at "hg"))
  | ((with_reducible refine' LT.t ?k1); (case k1 => walk_at "hg"))
  | fail)
local macro_rules | `(tactic| walk_at "r1") => `(tactic| first
  | (with_reducible refine rd_forEA ?_) | (with_reducible refine rd_forS ?_)
  | ((with_reducible refine' use_soundA ?k1 fun _ _ => ?_); (case k1 => walk_at "lt"))
  | ((with_reducible refine' use_itemsA ?k1 fun _ _ => ?_); (case k1 => walk_at "lt"))
  | ((with_reducible refine' rd_lenA ?k1 ?_); (case k1 => walk_at "lt"))
  | ((with_reducible refine' rd_listA ?k1 fun _ _ => ?_); (case k1 => walk_at "lt"))
  | ((with_reducible refine' rd_tupL ?k1 fun _ _ => ?_); (case k1 => walk_at "sq"))
  | ((with_reducible refine' use_foldsA ?k1 ?k2 ?k3 ?k4 ?k5 fun _ _ _ _ _ => ?_); (case k1 => walk_at "lt"); (case k2 => walk_at "lt"); (case k3 => walk_at "js"); (case k4 => assumption); (case k5 => walk_at "sd"))
  | ((with_reducible refine' use_foldsAK ?k1 ?k2 ?k3 ?k4 ?k5 fun _ _ _ _ _ => ?_); (case k1 => walk_at "lt"); (case k2 => walk_at "lt"); (case k3 => walk_at "js"); (case k4 => assumption); (case k5 => walk_at "sd"))
  | fail)
local macro_rules | `(tactic| walk_at "sl") => `(tactic| first
  | (with_reducible exact e_0)
  | (with_reducible exact e_1)
  | (with_reducible exact e_01)
  | (with_reducible exact e_empty)
  | (with_reducible exact eb)
  | (with_reducible exact rfl)
  | fail)
local macro_rules | `(tactic| walk_at "sdl") => `(tactic| first
  | assumption
  | omega
  | (simp only [List.length_append, List.length_replicate, lowB_length, binB_length, List.length_cons, List.length_nil, List.length_map, List.length_drop, List.length_take]; omega)
  | fail)
local macro_rules | `(tactic| walk_at "r1") => `(tactic| first
  | ((with_reducible refine' rd_addT ?k1 ?k2 ?k3 ?_); (case k1 => walk_at "sl"); (case k2 => walk_at "sl"); (case k3 => walk_at "sdl"))
  | ((with_reducible refine' rd_mulT ?k1 ?k2 ?_); (case k1 => walk_at "sl"); (case k2 => walk_at "sdl"))
  | ((with_reducible refine' rd_lenS ?k1 ?_); (case k1 => walk_at "sdl"))
  | ((with_reducible refine' rd_slSF ?k1 ?_); (case k1 => walk_at "sdl"))
  | ((with_reducible refine' rd_slST ?k1 ?_); (case k1 => walk_at "sdl"))
  | ((with_reducible refine' rd_joinS ?k1 ?k2 ?k3 ?_); (case k1 => walk_at "sl"); (case k2 => walk_at "sq"); (case k3 => walk_at "sdl"))
  | (with_reducible refine rd_bit ?_)
  | ((with_reducible refine' rd_tupL ?k1 fun _ _ => ?_); (case k1 => walk_at "sq"))
  | (with_reducible refine rd_fmtb ?_) | (with_reducible refine rd_shr ?_)
  | ((with_reducible refine' rd_fmtn ?k1 ?k2 ?_); (case k1 => walk_at "sl"); (case k2 => walk_at "sdl"))
  | (with_reducible refine rd_bmS ?_) | (with_reducible refine rd_tyS ?_)
  | ((with_reducible refine' use_start ?k1 fun _ _ _ _ _ _ _ _ _ => ?_); (case k1 => walk_at "pl"))
  | fail)
local macro_rules | `(tactic| walk_at "r1") => `(tactic| first
  | (with_reducible refine rd_toldM fun _ _ => ?_)
  | ((with_reducible refine' use_oddE ?k1 fun _ _ _ _ _ => ?_); (case k1 => walk_at "pl"))
  | fail)
local macro_rules | `(tactic| walk_at "ne") => `(tactic| first
  | (refine' ne_new ?k1 ?k2; (case k1 => assumption); (case k2 => walk_at "hg"))
  | fail)
local macro_rules | `(tactic| walk_at "alo") => `(tactic| ((repeat (refine List.forall_mem_cons.mpr ⟨?_, ?_⟩; first | rfl | decide +kernel)); exact List.forall_mem_nil _))
local macro_rules | `(tactic| walk_at "nm") => `(tactic| ((refine' nm_cons ?n1 ?n2); (case n1 => walk_at "ne"); (case n2 => first | exact List.not_mem_nil | walk_at "nm")))
local macro_rules | `(tactic| walk_at "ev1") => `(tactic| first
  | exact EV.sc rfl
  | exact EV.sc (by decide +kernel)
  | ((refine' EV.lst ?n ?e ?s); (case n => walk_at "nm"); (case e => walk_at "hg"); (case s => walk_at "alo"))
  | ((refine' EV.tup ?n ?e ?s); (case n => walk_at "nm"); (case e => walk_at "hg"); (case s => walk_at "alo"))
  | fail)
local macro_rules | `(tactic| walk_at "evm1") => `(tactic| ((refine' List.forall_mem_cons.mpr ⟨?d, ?_⟩); (case d => walk_at "ev1")))
local macro_rules | `(tactic| walk_at "evm") => `(tactic| ((repeat walk_at "evm1"); exact List.forall_mem_nil _))
local macro_rules | `(tactic| walk_at "kln") => `(tactic| first
  | assumption
  | exact KpLN.refl
  | ((with_reducible refine' KpLN.trans ?k1 (KpLN.new ?k2)); (case k2 => assumption); walk_at "kln")
  | ((with_reducible refine' KpLN.trans ?k1 ?k2); (case k2 => assumption); walk_at "kln")
  | ((with_reducible refine' KpLN.trans ?k1 (KpLN.ofK ?k3 ?k2)); (case k2 => assumption); (case k3 => simp); walk_at "kln")
  | ((with_reducible refine' KpLN.trans ?k1 (KpLN.of ?k2)); (case k2 => assumption); walk_at "kln")
  | ((with_reducible refine' KpLN.trans ?k1 (KpLN.ofN ?k2)); (case k2 => assumption); walk_at "kln")
  | ((with_reducible refine' KpLN.trans ?k1 (KpLN.ofL ?k2)); (case k2 => assumption); walk_at "kln")
  | fail)
local macro_rules | `(tactic| walk_at "pv0") => `(tactic| first
  | exact PV.sc rfl
  | exact PV.sc (by decide +kernel)
  | fail)
local macro_rules | `(tactic| walk_at "pv1") => `(tactic| first
  | walk_at "pv0"
  | ((refine' PV.tup ?n ?e ?s); (case n => walk_at "nm"); (case e => walk_at "hg"); (case s => walk_at "pvm0"))
  | ((refine' PV.lst ?n ?e ?s); (case n => walk_at "nm"); (case e => walk_at "hg"); (case s => walk_at "pvm0"))
  | fail)
local macro_rules | `(tactic| walk_at "pv2") => `(tactic| first
  | walk_at "pv0"
  | ((refine' PV.tup ?n ?e ?s); (case n => walk_at "nm"); (case e => walk_at "hg"); (case s => walk_at "pvm1"))
  | ((refine' PV.lst ?n ?e ?s); (case n => walk_at "nm"); (case e => walk_at "hg"); (case s => walk_at "pvm1"))
  | fail)
local macro_rules | `(tactic| walk_at "pvs0") => `(tactic| ((refine' List.forall_mem_cons.mpr ⟨?d, ?_⟩); (case d => walk_at "pv0")))
local macro_rules | `(tactic| walk_at "pvm0") => `(tactic| ((repeat walk_at "pvs0"); exact List.forall_mem_nil _))
local macro_rules | `(tactic| walk_at "pvs1") => `(tactic| ((refine' List.forall_mem_cons.mpr ⟨?d, ?_⟩); (case d => walk_at "pv1")))
local macro_rules | `(tactic| walk_at "pvm1") => `(tactic| ((repeat walk_at "pvs1"); exact List.forall_mem_nil _))
local macro_rules | `(tactic| walk_at "pvs2") => `(tactic| ((refine' List.forall_mem_cons.mpr ⟨?d, ?_⟩); (case d => walk_at "pv2")))
local macro_rules | `(tactic| walk_at "pvm2") => `(tactic| ((repeat walk_at "pvs2"); exact List.forall_mem_nil _))
local macro_rules | `(tactic| walk_at "nm") => `(tactic| first
  | (refine' nm_al ?hl ?k ?hp ?n; (case hl => assumption); (case n => assumption); (case k => walk_at "kp"); (case hp => walk_at "pl"))
  | fail)
local macro_rules | `(tactic| walk_at "r1") => `(tactic| first
  | ((with_reducible refine' rd_aug ?k1 ?_); (case k1 => exact rfl))
  | (with_reducible refine rd_ipI ?_)
  | ((with_reducible refine use_takeB ?k1 ?k2 ?k3 fun _ _ _ _ _ _ => ?_); (case k1 => walk_at "pl"); (case k2 => walk_at "sd"); (case k3 => walk_at "sd"))
  | fail)
local macro_rules | `(tactic| walk_at "side") => `(tactic| exact wide_div (b := 64) (by omega) (by omega) (by decide) (by decide))
abbrev s_is_integer : Stmt := topS 6
theorem sc_is_integer : FnScope ["value"] ["value"] (defScope s_is_integer) := ⟨rfl, rfl, rfl, by decide +kernel, rfl, by decide +kernel, by decide +kernel⟩
abbrev s_is_within : Stmt := topS 7
theorem sc_is_within : FnScope ["value", "low", "high"] ["value", "low", "high"] (defScope s_is_within) := ⟨rfl, rfl, rfl, by decide +kernel, rfl, by decide +kernel, by decide +kernel⟩
abbrev s_check_within : Stmt := topS 8
theorem sc_check_within : FnScope ["value", "low", "high"] ["value", "low", "high"] (defScope s_check_within) := ⟨rfl, rfl, rfl, by decide +kernel, rfl, by decide +kernel, by decide +kernel⟩
abbrev s_least_delay : Stmt := topS 11
theorem sc_least_delay : FnScope ["sizes", "rate", "delay", "arrived", "start", "size", "length"] ["sizes", "rate"] (defScope s_least_delay) := ⟨rfl, rfl, rfl, by decide +kernel, rfl, by decide +kernel, by decide +kernel⟩
abbrev s_check_sizes : Stmt := topS 12
theorem sc_check_sizes : FnScope ["sizes", "index", "item"] ["sizes"] (defScope s_check_sizes) := ⟨rfl, rfl, rfl, by decide +kernel, rfl, by decide +kernel, by decide +kernel⟩
abbrev s_is_size : Stmt := topS 13
theorem sc_is_size : FnScope ["value"] ["value"] (defScope s_is_size) := ⟨rfl, rfl, rfl, by decide +kernel, rfl, by decide +kernel, by decide +kernel⟩
abbrev s_padding : Stmt := topS 14
theorem sc_padding : FnScope ["sizes", "rate", "delay", "store", "value", "units", "first", "sent", "due", "frame", "size", "length", "behind", "least"] ["sizes", "rate", "delay", "store"] (defScope s_padding) := ⟨rfl, rfl, rfl, by decide +kernel, rfl, by decide +kernel, by decide +kernel⟩
abbrev s_pool : Stmt := topS 16
theorem sc_pool : FnScope ["_law_script", "_law_k", "_law_cell", "_law_great", "_law_seed"] ["_law_script", "_law_k"] (defScope s_pool) := ⟨rfl, rfl, rfl, by decide +kernel, rfl, by decide +kernel, by decide +kernel⟩
abbrev s_take : Stmt := topS 17
theorem sc_take : FnScope ["_law_pool_here", "_law_many", "_law_found"] ["_law_pool_here", "_law_many"] (defScope s_take) := ⟨rfl, rfl, rfl, by decide +kernel, rfl, by decide +kernel, by decide +kernel⟩
abbrev s_same : Stmt := topS 18
theorem sc_same : FnScope ["_law_actual", "_law_due_here", "_law_one", "_law_other"] ["_law_actual", "_law_due_here"] (defScope s_same) := ⟨rfl, rfl, rfl, by decide +kernel, rfl, by decide +kernel, by decide +kernel⟩
abbrev s_is_between : Stmt := topS 19
theorem sc_is_between : FnScope ["_law_one", "_law_least", "_law_most"] ["_law_one", "_law_least", "_law_most"] (defScope s_is_between) := ⟨rfl, rfl, rfl, by decide +kernel, rfl, by decide +kernel, by decide +kernel⟩
abbrev s_due : Stmt := topS 20
theorem sc_due : FnScope ["_law_given_here", "_law_numbers", "_law_at", "_law_item", "_law_one"] ["_law_given_here", "_law_numbers"] (defScope s_due) := ⟨rfl, rfl, rfl, by decide +kernel, rfl, by decide +kernel, by decide +kernel⟩
abbrev s_told : Stmt := topS 21
theorem sc_told : FnScope ["_law_call", "e"] ["_law_call"] (defScope s_told) := ⟨rfl, rfl, rfl, by decide +kernel, rfl, by decide +kernel, by decide +kernel⟩
abbrev s_given : Stmt := topS 22
theorem sc_given : FnScope ["_law_pool_here", "_law_found", "_law_turn", "_law_one", "_law_many", "_law_bad", "_law_item"] ["_law_pool_here"] (defScope s_given) := ⟨rfl, rfl, rfl, by decide +kernel, rfl, by decide +kernel, by decide +kernel⟩
abbrev s_law : Stmt := topS 23
theorem sc_law : FnScope ["_law_script", "_law_k", "_law_pool_here", "_law_given_here", "_law_some", "_law_turn", "_law_odd", "_law_speed", "_law_wait", "_law_hold"] ["_law_script"] (defScope s_law) := ⟨rfl, rfl, rfl, by decide +kernel, rfl, by decide +kernel, by decide +kernel⟩
abbrev s_init_InvalidPlan : Stmt := inClass (topS 3) 0
theorem sc_init_InvalidPlan : FnScope ["self", "index"] ["self", "index"] (defScope s_init_InvalidPlan) := ⟨rfl, rfl, rfl, by decide +kernel, rfl, by decide +kernel, by decide +kernel⟩
abbrev s_init_InvalidNumber : Stmt := inClass (topS 2) 0
theorem sc_init_InvalidNumber : FnScope ["self", "value"] ["self", "value"] (defScope s_init_InvalidNumber) := ⟨rfl, rfl, rfl, by decide +kernel, rfl, by decide +kernel, by decide +kernel⟩
def qLam : Str := (envOfC "law" (defScope s_law) 0 0 .none).qual ++ "<lambda>"
section
variable {P : Program} {w : World} {K : PySem.W.Frag} {mg : Str → Option Value} {base : Heap}
theorem ok_init_InvalidPlan {f C : Addr} {fd : FuncData} (F : Fun K "__init__" "InvalidPlan.__init__" s_init_InvalidPlan f fd) (T : EC K mg "InvalidPlan" "index" C f) : FnOk P w K mg base CX0 1 f fd ["self", "index"] (spInit K C "index") := by
  refine F.ok sc_init_InvalidPlan (fun vs H Q E h => ?_) (fun cdv A outer s H vs Q E hr h => ?_)
  · obtain ⟨a, v, rfl, _⟩ := h
    rfl
  · obtain ⟨a, v, rfl, ha, q⟩ := h
    exact ⟨_, (pss_one (ps_ost (pv 0) (pv 1))), v, rfl, .ref a, rfl, a, C, rfl, T.o, T.noF, .inl ⟨ha, fun dx n ne => q dx n ne⟩⟩
theorem ok_init_InvalidNumber {f C : Addr} {fd : FuncData} (F : Fun K "__init__" "InvalidNumber.__init__" s_init_InvalidNumber f fd) (T : EC K mg "InvalidNumber" "value" C f) : FnOk P w K mg base CX0 1 f fd ["self", "value"] (spInit K C "value") := by
  refine F.ok sc_init_InvalidNumber (fun vs H Q E h => ?_) (fun cdv A outer s H vs Q E hr h => ?_)
  · obtain ⟨a, v, rfl, _⟩ := h
    rfl
  · obtain ⟨a, v, rfl, ha, q⟩ := h
    exact ⟨_, (pss_one (ps_ost (pv 0) (pv 1))), v, rfl, .ref a, rfl, a, C, rfl, T.o, T.noF, .inl ⟨ha, fun dx n ne => q dx n ne⟩⟩
theorem ok_take {f : Addr} {fd : FuncData}     (D : Dn K mg "_law_take" s_take ["_law_pool_here", "_law_many"] f fd) (bi : Bi mg)     : FnOk P w K mg base CX0 1 f fd ["_law_pool_here", "_law_many"] spTakeB := by
  refine D.F.ok sc_take (fun vs H Q E h => ?_) (fun cdv A outer s H vs Q E hr h => ?_)
  · obtain ⟨p, m, rfl, _⟩ := h
    rfl
  · obtain ⟨p, m, rfl, ⟨x, y, hp, hx, hy0, hy1⟩, hm0, hm1, q⟩ := h
    refine ⟨_, (pss_cons (ps_if (pt_cmpR op_gt (pe_ix ix_list (pv 0) pe_int (fun _ _ => rfl)) pe_int (nomark _))
 (pss_cons (ps_set (i := 2) sc_take.nd rfl (Or.inl rfl) (pe_op op_mod (pe_callTy cInt (by rfl) bi.int_ (by decide +kernel) (pa_cons (pe_ix ix_list (pv 0) pe_int (fun _ _ => rfl)) pa_nil)) (pv 1)))
 (pss_cons (ps_asg (pe_op op_fdivW (pe_callTy cInt (by rfl) bi.int_ (by decide +kernel) (pa_cons (pe_ix ix_list (pv 0) pe_int (fun _ _ => rfl)) pa_nil)) (pv 1)) (pg_sub (pv 0) pe_int set_list))
 (pss_one (ps_ret (pv 2)))))
 pss_nil)
 (pss_cons (ps_asg (pe_op op_mod (pe_callTy cInt (by rfl) bi.int_ (by decide +kernel) (pa_cons (pe_op op_add (pe_op op_mul (pe_ix ix_list (pv 0) pe_int (fun _ _ => rfl)) pe_int) pe_int) pa_nil)) pe_int) (pg_sub (pv 0) pe_int set_list))
 (pss_one (ps_ret (pe_op op_mod (pe_op op_fdiv (pe_op op_mod (pe_callTy cInt (by rfl) bi.int_ (by decide +kernel) (pa_cons (pe_op op_mul (pe_ix ix_list (pv 0) pe_int (fun _ _ => rfl)) (pe_ix ix_list (pv 0) pe_int (fun _ _ => rfl))) pa_nil)) pe_int) pe_int) (pv 1)))))), ?_⟩
    refine rd_start (σ := [some (.ref p), some (.int m), none]) rfl ?_
    walk_at "rd"
    refine rd_iteD (fun c => ?_) (fun c => ?_)
    · walk_at "rd"
      exact q _ _ (Int.emod_nonneg _ (by omega)) (Int.emod_lt_of_pos _ hm0) ⟨x / m, y, upd_same, Int.ediv_nonneg hx (by omega), hy0, hy1⟩ Kp.at
    · have e0 := Int.emod_nonneg (y * 48271 + 11) (show (2147483647 : Int) ≠ 0 by decide)
      have e1 := Int.emod_lt_of_pos (y * 48271 + 11) (show (0 : Int) < 2147483647 by decide)
      walk_at "rd"
      exact q _ _ (Int.emod_nonneg _ (by omega)) (Int.emod_lt_of_pos _ hm0) ⟨x, (y * 48271 + 11) % 2147483647, upd_same, hx, e0, e1⟩ Kp.at
theorem ok_pool {f : Addr} {fd : FuncData}     (D : Dn K mg "_law_pool" s_pool ["_law_script", "_law_k"] f fd) (bi : Bi mg)     : FnOk P w K mg base CX0 1 f fd ["_law_script", "_law_k"] (spPool K) := by
  refine D.F.ok sc_pool (fun vs H Q E h => ?_) (fun cdv A outer s H vs Q E hr h => ?_)
  · obtain ⟨a, ns, k, rfl, _⟩ := h
    rfl
  · obtain ⟨a, ns, k, rfl, hS, hl, hk0, hk1, q⟩ := h
    refine ⟨_, (pss_cons (ps_set (i := 2) sc_pool.nd rfl (Or.inl rfl) pe_int)
 (pss_cons (ps_if (pt_cmpR op_lt (pv 1) (pe_callB cLen (by rfl) bi.len_ (by decide +kernel) (pa_cons (pv 0) pa_nil)) (nomark _))
 (pss_one (ps_set (i := 2) sc_pool.nd rfl (Or.inl rfl) (pe_callTy cInt (by rfl) bi.int_ (by decide +kernel) (pa_cons (pe_ix ix_list (pv 0) (pv 1) (fun _ _ => rfl)) pa_nil))))
 pss_nil)
 (pss_cons (ps_set (i := 3) sc_pool.nd rfl (Or.inl rfl) (pe_callB cAbs (by rfl) bi.abs_ (by decide +kernel) (pa_cons (pv 2) pa_nil)))
 (pss_cons (ps_set (i := 4) sc_pool.nd rfl (Or.inl rfl) (pe_op op_add (pe_op op_add (pe_op op_mod (pe_callTy cInt (by rfl) bi.int_ (by decide +kernel) (pa_cons (pv 2) pa_nil)) pe_int) (pe_op op_mul pe_int (pv 1))) pe_int))
 (pss_one (ps_ret (pe_lst (pa_cons (pe_op op_mul (pv 3) (pe_callTy cInt (by rfl) bi.int_ (by decide +kernel) (pa_cons (pe_cmpR op_ge (pv 3) (pe_op op_pow pe_int pe_int) (nomark _)) pa_nil))) (pa_cons (pe_op op_mod (pe_callTy cInt (by rfl) bi.int_ (by decide +kernel) (pa_cons (pe_op op_add (pe_op op_mul (pe_op op_mul (pv 4) (pv 4)) (pv 4)) (pe_op op_mul pe_int (pv 1))) pa_nil)) pe_int) pa_nil))))))))), ?_⟩
    refine rd_start (σ := [some (.ref a), some (.int k), none, none, none]) rfl ?_
    have hS' : SqL (cxOf CX0 P w K mg base ["_law_script", "_law_k", "_law_cell", "_law_great", "_law_seed"] "_law_pool" (defScope s_pool) f cdv A outer s H E).nox.K H a (ns.map V.int) := hS
    walk_at "rd"
    refine rd_iteD (fun c => ?_) (fun c => ?_)
    · rw [List.length_map] at c
      obtain ⟨j, rfl⟩ : ∃ j : Nat, k = (j : Int) := ⟨k.toNat, by omega⟩
      have hj : j < ns.length := by omega
      have hat : atI (ns.map V.int) (j : Int) = some (.int ns[j]) := atI_nat (by rw [List.getElem?_map, List.getElem?_eq_getElem hj]; rfl)
      have e0 := Int.emod_nonneg ns[j] (show (2147483629 : Int) ≠ 0 by decide)
      have e1 := Int.emod_lt_of_pos ns[j] (show (0 : Int) < 2147483629 by decide)
      walk_at "rd"
      rename_i p hp
      exact q _ _ hp (same_new hp) ⟨_, _, upd_same, great_nn _ _, Int.emod_nonneg _ (by decide), Int.emod_lt_of_pos _ (by decide)⟩
    · walk_at "rd"
      rename_i p hp
      exact q _ _ hp (same_new hp) ⟨_, _, upd_same, great_nn 0 _, Int.emod_nonneg _ (by decide), Int.emod_lt_of_pos _ (by decide)⟩
theorem ok_same0 {f : Addr} {fd : FuncData} (D_same : Dn K mg "_law_same" s_same ["_law_actual", "_law_due_here"] f fd) (bi : Bi mg) : FnOk P w K mg base CX0 1 f fd ["_law_actual", "_law_due_here"] (spSame K 0) := by
  refine D_same.F.ok sc_same (fun vs H Q E h => ?_) (fun cdv A outer s H vs Q E hr h => ?_)
  · obtain ⟨x, y, rfl, _⟩ := h
    rfl
  · obtain ⟨x, y, rfl, HS, q⟩ := h
    obtain ⟨rfl, hx⟩ := HS
    refine ⟨_, (pss_cons (ps_if (pt_cmpR cIsN (pv 1) pe_non (nomark _))
 (pss_one (ps_ret (pe_cmpR cIsN (pv 0) pe_non (nomark _))))
 pss_nil)
 (pss_cons (ps_if (pt_val (pe_callB call_isi (by rfl) bi.isinstance_ (by decide +kernel) (pa_cons (pv 1) (pa_cons (pe_bltn (v := .ty "bool") (by rfl) bi.bool_ (by decide +kernel) rfl) pa_nil))))
 (pss_one (ps_ret (pe_and (pe_callB call_isi (by rfl) bi.isinstance_ (by decide +kernel) (pa_cons (pv 0) (pa_cons (pe_bltn (v := .ty "bool") (by rfl) bi.bool_ (by decide +kernel) rfl) pa_nil))) (pe_one (pe_cmpR op_eq (pv 0) (pv 1) (nomark _))))))
 pss_nil)
 (pss_cons (ps_if (pt_val (pe_callB call_isi (by rfl) bi.isinstance_ (by decide +kernel) (pa_cons (pv 1) (pa_cons (pe_bltn (v := .ty "int") (by rfl) bi.int_ (by decide +kernel) rfl) pa_nil))))
 (pss_one (ps_ret (pe_and (pe_callB call_isi (by rfl) bi.isinstance_ (by decide +kernel) (pa_cons (pv 0) (pa_cons (pe_bltn (v := .ty "int") (by rfl) bi.int_ (by decide +kernel) rfl) pa_nil))) (pe_and (pe_not (pe_callB call_isi (by rfl) bi.isinstance_ (by decide +kernel) (pa_cons (pv 0) (pa_cons (pe_bltn (v := .ty "bool") (by rfl) bi.bool_ (by decide +kernel) rfl) pa_nil)))) (pe_one (pe_cmpR op_eq (pv 0) (pv 1) (nomark _)))))))
 pss_nil)
 (pss_cons (ps_if (pt_val (pe_callB call_isi (by rfl) bi.isinstance_ (by decide +kernel) (pa_cons (pv 1) (pa_cons (pe_bltn (v := .ty "str") (by rfl) bi.str_ (by decide +kernel) rfl) pa_nil))))
 (pss_one (ps_ret (pe_and (pe_callB call_isi (by rfl) bi.isinstance_ (by decide +kernel) (pa_cons (pv 0) (pa_cons (pe_bltn (v := .ty "str") (by rfl) bi.str_ (by decide +kernel) rfl) pa_nil))) (pe_one (pe_cmpR op_eq (pv 0) (pv 1) (nomark _))))))
 pss_nil)
 pss_never)))), ?_⟩
    refine rd_start (σ := [some x, some x, none, none]) rfl ?_
    have hQ := q H (Same.refl _)
    cases x with
    | non =>
      walk_at "rd"
      refine if_yesD rfl ?_
      walk_at "rd"
      rw [show decide (V.non = V.non) = true from decide_eq_true rfl]
      exact hQ
    | bl b =>
      walk_at "rd"
      refine if_noD (fun z => V.noConfusion z) ?_
      walk_at "rd"
      rw [show decide (V.bl b = V.bl b) = true from decide_eq_true rfl]
      exact hQ
    | int b =>
      walk_at "rd"
      refine if_noD (fun z => V.noConfusion z) ?_
      walk_at "rd"
      rw [show decide (V.int b = V.int b) = true from decide_eq_true rfl]
      exact hQ
    | str b =>
      walk_at "rd"
      refine if_noD (fun z => V.noConfusion z) ?_
      walk_at "rd"
      rw [show decide (V.str b = V.str b) = true from decide_eq_true rfl]
      exact hQ
    | ref _ => exact Bool.noConfusion hx
    | byt _ => exact Bool.noConfusion hx
    | flt _ => exact Bool.noConfusion hx
    | ty _ => exact Bool.noConfusion hx
theorem ok_sameS {f : Addr} {fd : FuncData} {n k : Nat} (D_same : Dn K mg "_law_same" s_same ["_law_actual", "_law_due_here"] f fd) (bi : Bi mg) (G_same : FnOk P w K mg base CX0 (k + 1) f fd ["_law_actual", "_law_due_here"] (spSame K n)) : FnOk P w K mg base CX0 (k + 2) f fd ["_law_actual", "_law_due_here"] (spSame K (n + 1)) := by
  refine D_same.F.ok sc_same (fun vs H Q E h => ?_) (fun cdv A outer s H vs Q E hr h => ?_)
  · obtain ⟨x, y, rfl, _⟩ := h
    rfl
  · obtain ⟨x, y, rfl, HS, q⟩ := h
    rcases HS with HS | ⟨a, b, xs, ys, rfl, rfl, h1, h2, hl, HI⟩ | ⟨a, b, xs, ys, rfl, rfl, h1, h2, hl, HI⟩
    · obtain ⟨rfl, hx⟩ := HS
      refine ⟨_, (pss_cons (ps_if (pt_cmpR cIsN (pv 1) pe_non (nomark _))
 (pss_one (ps_ret (pe_cmpR cIsN (pv 0) pe_non (nomark _))))
 pss_nil)
 (pss_cons (ps_if (pt_val (pe_callB call_isi (by rfl) bi.isinstance_ (by decide +kernel) (pa_cons (pv 1) (pa_cons (pe_bltn (v := .ty "bool") (by rfl) bi.bool_ (by decide +kernel) rfl) pa_nil))))
 (pss_one (ps_ret (pe_and (pe_callB call_isi (by rfl) bi.isinstance_ (by decide +kernel) (pa_cons (pv 0) (pa_cons (pe_bltn (v := .ty "bool") (by rfl) bi.bool_ (by decide +kernel) rfl) pa_nil))) (pe_one (pe_cmpR op_eq (pv 0) (pv 1) (nomark _))))))
 pss_nil)
 (pss_cons (ps_if (pt_val (pe_callB call_isi (by rfl) bi.isinstance_ (by decide +kernel) (pa_cons (pv 1) (pa_cons (pe_bltn (v := .ty "int") (by rfl) bi.int_ (by decide +kernel) rfl) pa_nil))))
 (pss_one (ps_ret (pe_and (pe_callB call_isi (by rfl) bi.isinstance_ (by decide +kernel) (pa_cons (pv 0) (pa_cons (pe_bltn (v := .ty "int") (by rfl) bi.int_ (by decide +kernel) rfl) pa_nil))) (pe_and (pe_not (pe_callB call_isi (by rfl) bi.isinstance_ (by decide +kernel) (pa_cons (pv 0) (pa_cons (pe_bltn (v := .ty "bool") (by rfl) bi.bool_ (by decide +kernel) rfl) pa_nil)))) (pe_one (pe_cmpR op_eq (pv 0) (pv 1) (nomark _)))))))
 pss_nil)
 (pss_cons (ps_if (pt_val (pe_callB call_isi (by rfl) bi.isinstance_ (by decide +kernel) (pa_cons (pv 1) (pa_cons (pe_bltn (v := .ty "str") (by rfl) bi.str_ (by decide +kernel) rfl) pa_nil))))
 (pss_one (ps_ret (pe_and (pe_callB call_isi (by rfl) bi.isinstance_ (by decide +kernel) (pa_cons (pv 0) (pa_cons (pe_bltn (v := .ty "str") (by rfl) bi.str_ (by decide +kernel) rfl) pa_nil))) (pe_one (pe_cmpR op_eq (pv 0) (pv 1) (nomark _))))))
 pss_nil)
 pss_never)))), ?_⟩
      refine rd_start (σ := [some x, some x, none, none]) rfl ?_
      have hQ := q H (Same.refl _)
      cases x with
      | non =>
        walk_at "rd"
        refine if_yesD rfl ?_
        walk_at "rd"
        rw [show decide (V.non = V.non) = true from decide_eq_true rfl]
        exact hQ
      | bl b =>
        walk_at "rd"
        refine if_noD (fun z => V.noConfusion z) ?_
        walk_at "rd"
        rw [show decide (V.bl b = V.bl b) = true from decide_eq_true rfl]
        exact hQ
      | int b =>
        walk_at "rd"
        refine if_noD (fun z => V.noConfusion z) ?_
        walk_at "rd"
        rw [show decide (V.int b = V.int b) = true from decide_eq_true rfl]
        exact hQ
      | str b =>
        walk_at "rd"
        refine if_noD (fun z => V.noConfusion z) ?_
        walk_at "rd"
        rw [show decide (V.str b = V.str b) = true from decide_eq_true rfl]
        exact hQ
      | ref _ => exact Bool.noConfusion hx
      | byt _ => exact Bool.noConfusion hx
      | flt _ => exact Bool.noConfusion hx
      | ty _ => exact Bool.noConfusion hx

    · refine ⟨_, (pss_cons (ps_if (pt_cmpR cIsN (pv 1) pe_non (nomark _))
 (pss_one (ps_ret (pe_cmpR cIsN (pv 0) pe_non (nomark _))))
 pss_nil)
 (pss_cons (ps_if (pt_val (pe_callB call_isi (by rfl) bi.isinstance_ (by decide +kernel) (pa_cons (pv 1) (pa_cons (pe_bltn (v := .ty "bool") (by rfl) bi.bool_ (by decide +kernel) rfl) pa_nil))))
 (pss_one (ps_ret (pe_and (pe_callB call_isi (by rfl) bi.isinstance_ (by decide +kernel) (pa_cons (pv 0) (pa_cons (pe_bltn (v := .ty "bool") (by rfl) bi.bool_ (by decide +kernel) rfl) pa_nil))) (pe_one (pe_cmpR op_eq (pv 0) (pv 1) (nomark _))))))
 pss_nil)
 (pss_cons (ps_if (pt_val (pe_callB call_isi (by rfl) bi.isinstance_ (by decide +kernel) (pa_cons (pv 1) (pa_cons (pe_bltn (v := .ty "int") (by rfl) bi.int_ (by decide +kernel) rfl) pa_nil))))
 (pss_one (ps_ret (pe_and (pe_callB call_isi (by rfl) bi.isinstance_ (by decide +kernel) (pa_cons (pv 0) (pa_cons (pe_bltn (v := .ty "int") (by rfl) bi.int_ (by decide +kernel) rfl) pa_nil))) (pe_and (pe_not (pe_callB call_isi (by rfl) bi.isinstance_ (by decide +kernel) (pa_cons (pv 0) (pa_cons (pe_bltn (v := .ty "bool") (by rfl) bi.bool_ (by decide +kernel) rfl) pa_nil)))) (pe_one (pe_cmpR op_eq (pv 0) (pv 1) (nomark _)))))))
 pss_nil)
 (pss_cons (ps_if (pt_val (pe_callB call_isi (by rfl) bi.isinstance_ (by decide +kernel) (pa_cons (pv 1) (pa_cons (pe_bltn (v := .ty "str") (by rfl) bi.str_ (by decide +kernel) rfl) pa_nil))))
 (pss_one (ps_ret (pe_and (pe_callB call_isi (by rfl) bi.isinstance_ (by decide +kernel) (pa_cons (pv 0) (pa_cons (pe_bltn (v := .ty "str") (by rfl) bi.str_ (by decide +kernel) rfl) pa_nil))) (pe_one (pe_cmpR op_eq (pv 0) (pv 1) (nomark _))))))
 pss_nil)
 (pss_cons (ps_if (PW.pt (pw_and (pt_val (pe_callB call_isi (by rfl) bi.isinstance_ (by decide +kernel) (pa_cons (pv 1) (pa_cons (pe_bltn (v := .ty "list") (by rfl) bi.list_ (by decide +kernel) rfl) pa_nil)))) (pw_and1 (pt_not (pt_val (pe_callB call_isi (by rfl) bi.isinstance_ (by decide +kernel) (pa_cons (pv 0) (pa_cons (pe_bltn (v := .ty "list") (by rfl) bi.list_ (by decide +kernel) rfl) pa_nil))))))))
 (pss_one (ps_ret pe_bl))
 pss_nil)
 (pss_cons (ps_if (PW.pt (pw_and (pt_val (pe_callB call_isi (by rfl) bi.isinstance_ (by decide +kernel) (pa_cons (pv 1) (pa_cons (pe_bltn (v := .ty "tuple") (by rfl) bi.tuple_ (by decide +kernel) rfl) pa_nil)))) (pw_and1 (pt_not (pt_val (pe_callB call_isi (by rfl) bi.isinstance_ (by decide +kernel) (pa_cons (pv 0) (pa_cons (pe_bltn (v := .ty "tuple") (by rfl) bi.tuple_ (by decide +kernel) rfl) pa_nil))))))))
 (pss_one (ps_ret pe_bl))
 pss_nil)
 (pss_cons (ps_if (pt_cmpR op_ne (pe_callB cLen (by rfl) bi.len_ (by decide +kernel) (pa_cons (pv 0) pa_nil)) (pe_callB cLen (by rfl) bi.len_ (by decide +kernel) (pa_cons (pv 1) pa_nil)) (nomark _))
 (pss_one (ps_ret pe_bl))
 pss_nil)
 (pss_cons (ps_for PassesOwn.never rfl (RZ.pi_zipA (by rfl) bi.zip_ (pa_cons (pv 0) (pa_cons (pv 1) pa_nil))) (pg_tup rfl (pgs_cons (pg_name (i := 2) sc_same.nd rfl (Or.inl rfl)) (pgs_cons (pg_name (i := 3) sc_same.nd rfl (Or.inl rfl)) pgs_nil)))
 (pss_one (ps_if (pt_not (pt_val (pe_call G_same (hr.mono (by first | decide | exact Nat.le_refl _)) (by rfl) D_same.g D_same.F.kp D_same.b .nil pass0 (pa_cons (pv 2) (pa_cons (pv 3) pa_nil)))))
 (pss_one (ps_ret pe_bl))
 pss_nil)))
 (pss_one (ps_ret pe_bl)))))))))), ?_⟩
      refine rd_start (σ := [some (.ref a), some (.ref b), none, none]) rfl ?_
      have L1 := h1.1
      have L2 := h2.1
      walk_at "rd"
      refine if_noD (fun z => V.noConfusion z) ?_
      walk_at "rd"
      refine isi_ty h2.2 (d := false) (by decide +kernel) ?_
      walk_at "rd"
      refine isi_ty h2.2 (d := false) (by decide +kernel) ?_
      walk_at "rd"
      refine isi_ty h2.2 (d := false) (by decide +kernel) ?_
      walk_at "rd"
      refine isi_ty h2.2 (d := true) (by decide +kernel) ?_
      walk_at "rd"
      refine isi_ty h1.2 (d := true) (by decide +kernel) ?_
      walk_at "rd"
      refine isi_ty h2.2 (d := false) (by decide +kernel) ?_
      walk_at "rd"
      refine if_noN (by rw [hl]) ?_
      walk_at "rd"
      refine ⟨a, b, xs, ys, rfl, .inl ⟨L1, L2, ?_⟩⟩
      refine for_zip hl (fun i σ H' => ∃ t u, σ = [some (.ref a), some (.ref b), t, u] ∧ Same H H') ⟨none, none, rfl, Same.refl _⟩ (fun i σ H1 _ hI => ?_) (fun i v u σ H1 T hv hu hI hT => ?_) (fun σ H1 hI => ?_)
      · obtain ⟨t, u, rfl, hs⟩ := hI
        exact ⟨hs.seq L1, hs.seq L2⟩
      · obtain ⟨t, u', rfl, hs⟩ := hI
        walk_at "rd"
        refine use_same (.same (hs.trans (same_new hT)) _ (HI i v u hv hu)) fun H2 hs2 => ?_
        walk_at "rd"
        exact ⟨_, _, rfl, (hs.trans (same_new hT)).trans hs2⟩
      · obtain ⟨t, u, rfl, hs⟩ := hI
        walk_at "rd"
        exact q _ hs
    · refine ⟨_, (pss_cons (ps_if (pt_cmpR cIsN (pv 1) pe_non (nomark _))
 (pss_one (ps_ret (pe_cmpR cIsN (pv 0) pe_non (nomark _))))
 pss_nil)
 (pss_cons (ps_if (pt_val (pe_callB call_isi (by rfl) bi.isinstance_ (by decide +kernel) (pa_cons (pv 1) (pa_cons (pe_bltn (v := .ty "bool") (by rfl) bi.bool_ (by decide +kernel) rfl) pa_nil))))
 (pss_one (ps_ret (pe_and (pe_callB call_isi (by rfl) bi.isinstance_ (by decide +kernel) (pa_cons (pv 0) (pa_cons (pe_bltn (v := .ty "bool") (by rfl) bi.bool_ (by decide +kernel) rfl) pa_nil))) (pe_one (pe_cmpR op_eq (pv 0) (pv 1) (nomark _))))))
 pss_nil)
 (pss_cons (ps_if (pt_val (pe_callB call_isi (by rfl) bi.isinstance_ (by decide +kernel) (pa_cons (pv 1) (pa_cons (pe_bltn (v := .ty "int") (by rfl) bi.int_ (by decide +kernel) rfl) pa_nil))))
 (pss_one (ps_ret (pe_and (pe_callB call_isi (by rfl) bi.isinstance_ (by decide +kernel) (pa_cons (pv 0) (pa_cons (pe_bltn (v := .ty "int") (by rfl) bi.int_ (by decide +kernel) rfl) pa_nil))) (pe_and (pe_not (pe_callB call_isi (by rfl) bi.isinstance_ (by decide +kernel) (pa_cons (pv 0) (pa_cons (pe_bltn (v := .ty "bool") (by rfl) bi.bool_ (by decide +kernel) rfl) pa_nil)))) (pe_one (pe_cmpR op_eq (pv 0) (pv 1) (nomark _)))))))
 pss_nil)
 (pss_cons (ps_if (pt_val (pe_callB call_isi (by rfl) bi.isinstance_ (by decide +kernel) (pa_cons (pv 1) (pa_cons (pe_bltn (v := .ty "str") (by rfl) bi.str_ (by decide +kernel) rfl) pa_nil))))
 (pss_one (ps_ret (pe_and (pe_callB call_isi (by rfl) bi.isinstance_ (by decide +kernel) (pa_cons (pv 0) (pa_cons (pe_bltn (v := .ty "str") (by rfl) bi.str_ (by decide +kernel) rfl) pa_nil))) (pe_one (pe_cmpR op_eq (pv 0) (pv 1) (nomark _))))))
 pss_nil)
 (pss_cons (ps_if (PW.pt (pw_and (pt_val (pe_callB call_isi (by rfl) bi.isinstance_ (by decide +kernel) (pa_cons (pv 1) (pa_cons (pe_bltn (v := .ty "list") (by rfl) bi.list_ (by decide +kernel) rfl) pa_nil)))) (pw_and1 (pt_not (pt_val (pe_callB call_isi (by rfl) bi.isinstance_ (by decide +kernel) (pa_cons (pv 0) (pa_cons (pe_bltn (v := .ty "list") (by rfl) bi.list_ (by decide +kernel) rfl) pa_nil))))))))
 (pss_one (ps_ret pe_bl))
 pss_nil)
 (pss_cons (ps_if (PW.pt (pw_and (pt_val (pe_callB call_isi (by rfl) bi.isinstance_ (by decide +kernel) (pa_cons (pv 1) (pa_cons (pe_bltn (v := .ty "tuple") (by rfl) bi.tuple_ (by decide +kernel) rfl) pa_nil)))) (pw_and1 (pt_not (pt_val (pe_callB call_isi (by rfl) bi.isinstance_ (by decide +kernel) (pa_cons (pv 0) (pa_cons (pe_bltn (v := .ty "tuple") (by rfl) bi.tuple_ (by decide +kernel) rfl) pa_nil))))))))
 (pss_one (ps_ret pe_bl))
 pss_nil)
 (pss_cons (ps_if (pt_cmpR op_ne (pe_callB cLen (by rfl) bi.len_ (by decide +kernel) (pa_cons (pv 0) pa_nil)) (pe_callB cLen (by rfl) bi.len_ (by decide +kernel) (pa_cons (pv 1) pa_nil)) (nomark _))
 (pss_one (ps_ret pe_bl))
 pss_nil)
 (pss_cons (ps_for PassesOwn.never rfl (RZ.pi_zipA (by rfl) bi.zip_ (pa_cons (pv 0) (pa_cons (pv 1) pa_nil))) (pg_tup rfl (pgs_cons (pg_name (i := 2) sc_same.nd rfl (Or.inl rfl)) (pgs_cons (pg_name (i := 3) sc_same.nd rfl (Or.inl rfl)) pgs_nil)))
 (pss_one (ps_if (pt_not (pt_val (pe_call G_same (hr.mono (by first | decide | exact Nat.le_refl _)) (by rfl) D_same.g D_same.F.kp D_same.b .nil pass0 (pa_cons (pv 2) (pa_cons (pv 3) pa_nil)))))
 (pss_one (ps_ret pe_bl))
 pss_nil)))
 (pss_one (ps_ret pe_bl)))))))))), ?_⟩
      refine rd_start (σ := [some (.ref a), some (.ref b), none, none]) rfl ?_
      have L1 := h1.1
      have L2 := h2.1
      walk_at "rd"
      refine if_noD (fun z => V.noConfusion z) ?_
      walk_at "rd"
      refine isi_ty h2.2 (d := false) (by decide +kernel) ?_
      walk_at "rd"
      refine isi_ty h2.2 (d := false) (by decide +kernel) ?_
      walk_at "rd"
      refine isi_ty h2.2 (d := false) (by decide +kernel) ?_
      walk_at "rd"
      refine isi_ty h2.2 (d := false) (by decide +kernel) ?_
      walk_at "rd"
      refine isi_ty h2.2 (d := true) (by decide +kernel) ?_
      walk_at "rd"
      refine isi_ty h1.2 (d := true) (by decide +kernel) ?_
      walk_at "rd"
      refine if_noN (by rw [hl]) ?_
      walk_at "rd"
      refine ⟨a, b, xs, ys, rfl, .inr ⟨L1, L2, ?_⟩⟩
      refine for_zipT hl (fun i σ H' => ∃ t u, σ = [some (.ref a), some (.ref b), t, u] ∧ Same H H') ⟨none, none, rfl, Same.refl _⟩ (fun i σ H1 _ hI => ?_) (fun i v u σ H1 T hv hu hI hT => ?_) (fun σ H1 hI => ?_)
      · obtain ⟨t, u, rfl, hs⟩ := hI
        exact ⟨same_seqT hs L1, same_seqT hs L2⟩
      · obtain ⟨t, u', rfl, hs⟩ := hI
        walk_at "rd"
        refine use_same (.same (hs.trans (same_new hT)) _ (HI i v u hv hu)) fun H2 hs2 => ?_
        walk_at "rd"
        exact ⟨_, _, rfl, (hs.trans (same_new hT)).trans hs2⟩
      · obtain ⟨t, u, rfl, hs⟩ := hI
        walk_at "rd"
        exact q _ hs
theorem ok_is_integer {f : Addr} {fd : FuncData}     (D : Dn K mg "is_integer" s_is_integer ["value"] f fd) (bi : Bi mg)     : FnOk P w K mg base CX0 1 f fd ["value"] spIsI := by
  refine D.F.ok sc_is_integer (fun vs H Q E h => ?_) (fun cdv A outer s H vs Q E hr h => ?_)
  · obtain ⟨x, rfl, _⟩ := h
    rfl
  · obtain ⟨x, rfl, t, q⟩ := h
    refine ⟨_, (pss_one (ps_ret (pe_and (pe_callB call_isi (by rfl) bi.isinstance_ (by decide +kernel) (pa_cons (pv 0) (pa_cons (pe_bltn (v := .ty "int") (by rfl) bi.int_ (by decide +kernel) rfl) pa_nil))) (pe_one (pe_not (pe_callB call_isi (by rfl) bi.isinstance_ (by decide +kernel) (pa_cons (pv 0) (pa_cons (pe_bltn (v := .ty "bool") (by rfl) bi.bool_ (by decide +kernel) rfl) pa_nil)))))))), ?_⟩
    refine rd_start (σ := [some x]) rfl ?_
    cases x with
    | non => walk_at "rd"; exact q
    | bl _ => walk_at "rd"; exact q
    | int _ => walk_at "rd"; exact q
    | str _ => walk_at "rd"; exact q
    | ref a =>
      rcases t with ⟨xs, t⟩ | ⟨xs, t⟩
      · walk_at "rd"; exact q
      · walk_at "rd"; exact q
    | byt _ => exact t.elim
    | flt _ => exact t.elim
    | ty _ => exact t.elim
theorem ok_is_within {f : Addr} {fd : FuncData} {f_is_integer : Addr} {fd_is_integer : FuncData}    (D : Dn K mg "is_within" s_is_within ["value", "low", "high"] f fd) (bi : Bi mg) (G_is_integer : FnOk P w K mg base CX0 1 f_is_integer fd_is_integer ["value"] spIsI) (D_is_integer : Dn K mg "is_integer" s_is_integer ["value"] f_is_integer fd_is_integer)    : FnOk P w K mg base CX0 2 f fd ["value", "low", "high"] spWithin := by
  refine D.F.ok sc_is_within (fun vs H Q E h => ?_) (fun cdv A outer s H vs Q E hr h => ?_)
  · obtain ⟨x, lo, hi, rfl, _⟩ := h
    rfl
  · obtain ⟨x, lo, hi, rfl, t, q⟩ := h
    refine ⟨_, (pss_one (ps_ret (pe_and (pe_call G_is_integer (hr.mono (by first | decide | exact Nat.le_refl _)) (by rfl) D_is_integer.g D_is_integer.F.kp D_is_integer.b .nil pass0 (pa_cons (pv 0) pa_nil)) (pe_one (pe_chain op_le op_le (pv 1) (pv 0) (pv 2)))))), ?_⟩
    refine rd_start (σ := [some x, some (.int lo), some (.int hi)]) rfl ?_
    walk_at "rd"
    refine use_isi t (rd_bl ?_)
    cases x with
    | int i =>
      refine if_yes (c := isI (V.int i)) rfl ?_
      walk_at "rd"
      refine rd_iteD (p := lo ≤ i) (fun c => ?_) (fun c => ?_)
      · walk_at "rd"
        have e : inI (.int i) lo hi = decide (i ≤ hi) := by simp [inI, c]
        rw [e] at q
        exact q
      · have e : inI (.int i) lo hi = false := by simp [inI, c]
        rw [e] at q
        exact q
    | non => exact iteF q
    | bl _ => exact iteF q
    | str _ => exact iteF q
    | ref _ => exact iteF q
    | byt _ => exact iteF q
    | flt _ => exact iteF q
    | ty _ => exact iteF q
theorem ok_check_within {f : Addr} {fd : FuncData} {f_is_within : Addr} {fd_is_within : FuncData} {C_InvalidNumber : Addr}   (D : Dn K mg "check_within" s_check_within ["value", "low", "high"] f fd) (bi : Bi mg) (G_is_within : FnOk P w K mg base CX0 2 f_is_within fd_is_within ["value", "low", "high"] spWithin) (D_is_within : Dn K mg "is_within" s_is_within ["value", "low", "high"] f_is_within fd_is_within)  (T_InvalidNumber : ErrK P w K mg base "InvalidNumber" "value" C_InvalidNumber)  : FnOk P w K mg base (L2.CX P w) 3 f fd ["value", "low", "high"] (spCkWX C_InvalidNumber) := by
  refine D.F.okX sc_check_within (fun vs H Q E h => ?_) (fun cdv A outer s H vs Q E hr h => ?_)
  · obtain ⟨x, lo, hi, rfl, _⟩ := h
    rfl
  · obtain ⟨x, lo, hi, rfl, t, h1, h2⟩ := h
    refine ⟨_, (pss_one (ps_if (pt_not (pt_val (pe_call G_is_within (hr.mono (by first | decide | exact Nat.le_refl _)) (by rfl) D_is_within.g D_is_within.F.kp D_is_within.b .nil pass0 (pa_cons (pv 0) (pa_cons (pv 1) (pa_cons (pv 2) pa_nil))))))
 (pss_one (ps_raiseE T_InvalidNumber rfl (hr.mono (by first | decide | exact Nat.le_refl _)) (takes_of rfl rfl rfl rfl) (pa_cons (pv 0) pa_nil)))
 pss_nil)), ?_⟩
    refine rd_start (σ := [some x, some (.int lo), some (.int hi)]) rfl ?_
    walk_at "rd"
    refine use_within t (rd_bl ?_)
    cases e : inI x lo hi with
    | false =>
      walk_at "rd"
      exact (h1 e).now
    | true =>
      walk_at "rd"
      exact h2 e
theorem ok_is_size {f : Addr} {fd : FuncData} {f_is_within : Addr} {fd_is_within : FuncData}    (D : Dn K mg "is_size" s_is_size ["value"] f fd) (bi : Bi mg) (G_is_within : FnOk P w K mg base CX0 2 f_is_within fd_is_within ["value", "low", "high"] spWithin) (D_is_within : Dn K mg "is_within" s_is_within ["value", "low", "high"] f_is_within fd_is_within)   (g_BUDGET_LIMIT : ∃ t, mg "BUDGET_LIMIT" = some (.int 1000000000 t)) : FnOk P w K mg base CX0 3 f fd ["value"] spIsSzX := by
  refine D.F.ok sc_is_size (fun vs H Q E h => ?_) (fun cdv A outer s H vs Q E hr h => ?_)
  · obtain ⟨v, o, rfl, _⟩ := h
    rfl
  · obtain ⟨v, o, rfl, hj, q⟩ := h
    obtain ⟨t64, g_BUDGET_LIMIT⟩ := g_BUDGET_LIMIT
    refine ⟨_, (pss_cons (ps_if (PW.pt (pw_or (pt_not (pt_val (pe_callB call_isi (by rfl) bi.isinstance_ (by decide +kernel) (pa_cons (pv 0) (pa_cons (pe_bltn (v := .ty "tuple") (by rfl) bi.tuple_ (by decide +kernel) rfl) pa_nil))))) (pw_or1 (pt_cmpR op_ne (pe_callB cLen (by rfl) bi.len_ (by decide +kernel) (pa_cons (pv 0) pa_nil)) pe_int (nomark _)))))
 (pss_one (ps_ret pe_bl))
 pss_nil)
 (pss_one (ps_ret (pe_and (pe_call G_is_within (hr.mono (by first | decide | exact Nat.le_refl _)) (by rfl) D_is_within.g D_is_within.F.kp D_is_within.b .nil pass0 (pa_cons (pe_ix ix_tup (pv 0) pe_int (fun _ _ => rfl)) (pa_cons pe_int (pa_cons (pe_glob (v := .int 1000000000) (by rfl) g_BUDGET_LIMIT ⟨_, rfl⟩) pa_nil)))) (pe_one (pe_call G_is_within (hr.mono (by first | decide | exact Nat.le_refl _)) (by rfl) D_is_within.g D_is_within.F.kp D_is_within.b .nil pass0 (pa_cons (pe_ix ix_tup (pv 0) pe_int (fun _ _ => rfl)) (pa_cons pe_int (pa_cons (pe_glob (v := .int 1000000000) (by rfl) g_BUDGET_LIMIT ⟨_, rfl⟩) pa_nil))))))))), ?_⟩
    refine rd_start (σ := [some v]) rfl ?_
    cases hj with
    | @flat x h =>
      cases v with
      | non => walk_at "rd"; exact q
      | bl _ => walk_at "rd"; exact q
      | int _ => walk_at "rd"; exact q
      | str _ => walk_at "rd"; exact q
      | ref _ => exact Bool.noConfusion h
      | byt _ => exact Bool.noConfusion h
      | flt _ => exact Bool.noConfusion h
      | ty _ => exact Bool.noConfusion h
    | lst h => walk_at "rd"; exact q
    | tupn h n =>
      walk_at "rd"
      refine if_yesN (fun z => n (by have := V.int.inj z; omega)) ?_
      walk_at "rd"
      exact q
    | @bad a u v h tu tv e =>
      walk_at "rd"
      refine if_noN rfl ?_
      walk_at "rd"
      refine use_within tu (rd_bl ?_)
      cases eu : inI u 0 1000000000 with
      | false => walk_at "rd"; exact q
      | true =>
        rw [eu] at e
        walk_at "rd"
        refine use_within tv ?_
        rw [show inI v 1 1000000000 = false from e]
        exact q
    | @good a s h ok =>
      obtain ⟨o1, o2, o3, o4⟩ := ok
      walk_at "rd"
      refine if_noN rfl ?_
      walk_at "rd"
      refine rd_iteD (fun c => ?_) (fun c => (c ⟨o1, o2⟩).elim)
      walk_at "rd"
      rw [decide_eq_true (⟨o3, o4⟩ : 1 ≤ s.2 ∧ s.2 ≤ 1000000000)]
      exact q
theorem ok_check_sizes {f : Addr} {fd : FuncData} {f_is_size : Addr} {fd_is_size : FuncData} {C_InvalidPlan : Addr}   (D : Dn K mg "check_sizes" s_check_sizes ["sizes"] f fd) (bi : Bi mg) (G_is_size : FnOk P w K mg base CX0 3 f_is_size fd_is_size ["value"] spIsSzX) (D_is_size : Dn K mg "is_size" s_is_size ["value"] f_is_size fd_is_size)  (T_InvalidPlan : ErrK P w K mg base "InvalidPlan" "index" C_InvalidPlan)  : FnOk P w K mg base (L2.CX P w) 4 f fd ["sizes"] (spCkSzX C_InvalidPlan) := by
  refine D.F.okX sc_check_sizes (fun vs H Q E h => ?_) (fun cdv A outer s H vs Q E hr h => ?_)
  · obtain ⟨x, o, rfl, _⟩ := h
    rfl
  · obtain ⟨x, o, rfl, hg, er, q⟩ := h
    refine ⟨_, (pss_cons (ps_if (pt_not (pt_val (pe_callB call_isiT (by rfl) bi.isinstance_ (by decide +kernel) (pa_cons (pv 0) (pa_cons (pe_tup (pa_cons (pe_bltn (v := .ty "list") (by rfl) bi.list_ (by decide +kernel) rfl) (pa_cons (pe_bltn (v := .ty "tuple") (by rfl) bi.tuple_ (by decide +kernel) rfl) pa_nil))) pa_nil)))))
 (pss_one (ps_raiseE T_InvalidPlan rfl (hr.mono (by first | decide | exact Nat.le_refl _)) (takes_of rfl rfl rfl rfl) (pa_cons pe_non pa_nil)))
 pss_nil)
 (pss_one (ps_for (passes_of rfl) rfl (pi_enumA (by rfl) bi.enumerate_ (pa_cons (pv 0) pa_nil)) (pg_tup rfl (pgs_cons (pg_name (i := 1) sc_check_sizes.nd rfl (Or.inl rfl)) (pgs_cons (pg_name (i := 2) sc_check_sizes.nd rfl (Or.inl rfl)) pgs_nil)))
 (pss_one (ps_if (pt_not (pt_val (pe_call G_is_size (hr.mono (by first | decide | exact Nat.le_refl _)) (by rfl) D_is_size.g D_is_size.F.kp D_is_size.b .nil pass0 (pa_cons (pv 2) pa_nil))))
 (pss_one (ps_raiseE T_InvalidPlan rfl (hr.mono (by first | decide | exact Nat.le_refl _)) (takes_of rfl rfl rfl rfl) (pa_cons (pv 1) pa_nil)))
 pss_nil))))), ?_⟩
    refine rd_start (σ := [some x, none, none]) rfl ?_
    walk_at "rd"
    rename_i t ht
    cases hg with
    | flat h =>
      refine isiT_flat h upd_same ?_
      walk_at "rd"
      exact ((er.1 rfl).same (same_new ht)).now
    | @seq a xs os hS m hz =>
      refine isiT_lt (LT.new' ht hS) upd_same ?_
      walk_at "rd"
      have hs0 : Same H (upd H t (.tup [.ty "list", .ty "tuple"])) := same_new ht
      refine for_enumA (hS.same hs0) (fun i σ H' => ∃ x y, σ = [some (.ref a), x, y] ∧ Same (upd H t (.tup [.ty "list", .ty "tuple"])) H' ∧ ∀ k, fj os = some k → i ≤ k) ⟨none, none, rfl, Same.refl _, fun _ _ => Nat.zero_le _⟩ (fun i σ H1 _ hI => ?_) (fun i v σ H1 T hv hI hT => ?_) (fun σ H1 hI => ?_)
      · obtain ⟨x, y, rfl, hs, hk⟩ := hI
        exact hs _
      · obtain ⟨x, y, rfl, hs, hk⟩ := hI
        obtain ⟨s, es, hv2, _⟩ := hz.at_ i v hv
        have hs2 := (hs0.trans hs).trans (same_new (o := .tup [.int (i : Nat), v]) hT)
        walk_at "rd"
        refine use_isszX (hv2.same hs2) ?_
        cases s with
        | none =>
          refine rd_bl (if_yes rfl ?_)
          walk_at "rd"
          exact ((er.2 os i rfl (fj_bad os i hk es)).same hs2).now
        | some s =>
          refine rd_bl (if_no rfl ?_)
          walk_at "rd"
          exact ⟨_, _, rfl, hs.trans (same_new hT), fj_good os i s hk es⟩
      · obtain ⟨x, y, rfl, hs, hk⟩ := hI
        have fn : fj os = none := by
          cases e : fj os with
          | none => rfl
          | some k =>
            have h1 := hk k e
            have h2 := fj_lt os k e
            have h3 := hz.len
            omega
        walk_at "rd"
        exact q os rfl fn _ (hs0.trans hs)
theorem ok_least_delay {f : Addr} {fd : FuncData} {f_check_sizes : Addr} {fd_check_sizes : FuncData} {f_check_within : Addr} {fd_check_within : FuncData} {C_InvalidNumber : Addr} {C_InvalidPlan : Addr}   (D : Dn K mg "least_delay" s_least_delay ["sizes", "rate"] f fd) (bi : Bi mg) (G_check_sizes : FnOk P w K mg base (L2.CX P w) 4 f_check_sizes fd_check_sizes ["sizes"] (spCkSzX C_InvalidPlan)) (D_check_sizes : Dn K mg "check_sizes" s_check_sizes ["sizes"] f_check_sizes fd_check_sizes) (G_check_within : FnOk P w K mg base (L2.CX P w) 3 f_check_within fd_check_within ["value", "low", "high"] (spCkWX C_InvalidNumber)) (D_check_within : Dn K mg "check_within" s_check_within ["value", "low", "high"] f_check_within fd_check_within)   (g_BUDGET_LIMIT : ∃ t, mg "BUDGET_LIMIT" = some (.int 1000000000 t)) : FnOk P w K mg base (L2.CX P w) 5 f fd ["sizes", "rate"] (spLdX C_InvalidPlan C_InvalidNumber) := by
  refine D.F.okX sc_least_delay (fun vs H Q E h => ?_) (fun cdv A outer s H vs Q E hr h => ?_)
  · obtain ⟨x, y, o, rfl, _⟩ := h
    rfl
  · obtain ⟨x, y, o, rfl, hg, ty, er, e2, q⟩ := h
    obtain ⟨t64, g_BUDGET_LIMIT⟩ := g_BUDGET_LIMIT
    refine ⟨_, (pss_cons (ps_expr (pe_call G_check_sizes (hr.mono (by first | decide | exact Nat.le_refl _)) (by rfl) D_check_sizes.g D_check_sizes.F.kp D_check_sizes.b .nil (passes_call (takes_of rfl rfl rfl rfl) (fun _ _ _ _ h => h)) (pa_cons (pv 0) pa_nil)))
 (pss_cons (ps_expr (pe_call G_check_within (hr.mono (by first | decide | exact Nat.le_refl _)) (by rfl) D_check_within.g D_check_within.F.kp D_check_within.b .nil (passes_call (takes_of rfl rfl rfl rfl) (fun _ _ _ _ h => h)) (pa_cons (pv 1) (pa_cons pe_int (pa_cons (pe_glob (v := .int 1000000000) (by rfl) g_BUDGET_LIMIT ⟨_, rfl⟩) pa_nil)))))
 (pss_cons (ps_asg (pe_tup (pa_cons pe_int (pa_cons pe_int (pa_cons pe_int pa_nil)))) (pg_tup rfl (pgs_cons (pg_name (i := 2) sc_least_delay.nd rfl (Or.inl rfl)) (pgs_cons (pg_name (i := 3) sc_least_delay.nd rfl (Or.inl rfl)) (pgs_cons (pg_name (i := 4) sc_least_delay.nd rfl (Or.inl rfl)) pgs_nil)))))
 (pss_cons (ps_for (passes_of rfl) rfl (pi_seq (pv 0)) (pg_tup rfl (pgs_cons (pg_name (i := 5) sc_least_delay.nd rfl (Or.inl rfl)) (pgs_cons (pg_name (i := 6) sc_least_delay.nd rfl (Or.inl rfl)) pgs_nil)))
 (pss_cons (ps_aug (i := 3) sc_least_delay.nd rfl (Or.inl rfl) (pv 5) ip_add)
 (pss_cons (ps_set (i := 2) sc_least_delay.nd rfl (Or.inl rfl) (pe_callB (cMax rfl) (by rfl) bi.max_ (by decide +kernel) (pa_cons (pv 2) (pa_cons (pe_op op_sub (pv 3) (pe_op op_mul (pv 1) (pv 4))) pa_nil))))
 (pss_one (ps_aug (i := 4) sc_least_delay.nd rfl (Or.inl rfl) (pv 6) ip_add)))))
 (pss_one (ps_ret (pv 2))))))), ?_⟩
    refine rd_start (σ := [some x, some y, none, none, none, none, none]) rfl ?_
    walk_at "rd"
    refine use_ckszX hg er fun os ho fn H1 hs1 => ?_
    walk_at "rd"
    refine use_ckwx (tyvS hs1 ty) (fun e => (e2 os ho fn e).same hs1) fun hin => ?_
    obtain ⟨r, rfl, r0, r1⟩ := inI_int hin
    have q1 := q os ho fn hin
    subst ho
    obtain ⟨a, us, ss, rfl, hS, hz, ok, sl⟩ := hg.fine fn
    walk_at "rd"
    rename_i t2 ht2
    have hs0 : Same H (upd H1 t2 (.tup [.int 0, .int 0, .int 0])) := hs1.trans (same_new ht2)
    refine for_seqA (hS.same hs0) (fun i σ H' => ∃ d s p x y, σ = [some (.ref a), some (.int r), some (.int d), some (.int s), some (.int p), x, y] ∧ Same H H' ∧ ldS r (ss.drop i) d s p = ldS r ss 0 0 0) ⟨0, 0, 0, none, none, rfl, hs0, rfl⟩ (fun i σ H1 _ hI => ?_) (fun i v σ H1 hv hI => ?_) (fun σ H1 hI => ?_)
    · obtain ⟨d, s, p, x, y, rfl, hs, hd⟩ := hI
      exact fun o e => by
        rcases hS with e' | e' <;> rw [hs0 _ _ e'] at e <;> cases e <;> exact hs _ _ e'
    · obtain ⟨d, s, p, x, y, rfl, hs, hd⟩ := hI
      obtain ⟨z, es, ⟨b, rfl, eb⟩, hdr⟩ := hz.at_ i v hv
      obtain ⟨o1, o2, o3, o4⟩ := ok _ (List.mem_of_getElem? es)
      have eb' := hs _ _ eb
      walk_at "rd"
      rw [hdr] at hd
      exact ⟨_, _, _, _, _, rfl, hs, hd⟩
    · obtain ⟨d, s, p, x, y, rfl, hs, hd⟩ := hI
      rw [hz.len, List.drop_length] at hd
      walk_at "rd"
      exact q1 _ _ hs
theorem ok_padding {f : Addr} {fd : FuncData} {f_check_sizes : Addr} {fd_check_sizes : FuncData} {f_check_within : Addr} {fd_check_within : FuncData} {C_InvalidNumber : Addr} {C_InvalidPlan : Addr}   (D : Dn K mg "padding" s_padding ["sizes", "rate", "delay", "store"] f fd) (bi : Bi mg) (G_check_sizes : FnOk P w K mg base (L2.CX P w) 4 f_check_sizes fd_check_sizes ["sizes"] (spCkSzX C_InvalidPlan)) (D_check_sizes : Dn K mg "check_sizes" s_check_sizes ["sizes"] f_check_sizes fd_check_sizes) (G_check_within : FnOk P w K mg base (L2.CX P w) 3 f_check_within fd_check_within ["value", "low", "high"] (spCkWX C_InvalidNumber)) (D_check_within : Dn K mg "check_within" s_check_within ["value", "low", "high"] f_check_within fd_check_within)   (g_BUDGET_LIMIT : ∃ t, mg "BUDGET_LIMIT" = some (.int 1000000000 t)) : FnOk P w K mg base (L2.CX P w) 5 f fd ["sizes", "rate", "delay", "store"] (spPadX C_InvalidPlan C_InvalidNumber) := by
  refine D.F.okX sc_padding (fun vs H Q E h => ?_) (fun cdv A outer s H vs Q E hr h => ?_)
  · obtain ⟨x, ys, o, hy, rfl, _⟩ := h
    obtain ⟨y1, y2, y3, rfl⟩ := len3 hy
    rfl
  · obtain ⟨x, ys, o, hy, rfl, hg, ty, er, e2, q0⟩ := h
    obtain ⟨y1, y2, y3, rfl⟩ := len3 hy
    obtain ⟨t64, g_BUDGET_LIMIT⟩ := g_BUDGET_LIMIT
    refine ⟨_, (pss_cons (ps_expr (pe_call G_check_sizes (hr.mono (by first | decide | exact Nat.le_refl _)) (by rfl) D_check_sizes.g D_check_sizes.F.kp D_check_sizes.b .nil (passes_call (takes_of rfl rfl rfl rfl) (fun _ _ _ _ h => h)) (pa_cons (pv 0) pa_nil)))
 (pss_cons (ps_for (passes_of rfl) rfl (pi_tup (pe_tup (pa_cons (pv 1) (pa_cons (pv 2) (pa_cons (pv 3) pa_nil))))) (pg_name (i := 4) sc_padding.nd rfl (Or.inl rfl))
 (pss_one (ps_expr (pe_call G_check_within (hr.mono (by first | decide | exact Nat.le_refl _)) (by rfl) D_check_within.g D_check_within.F.kp D_check_within.b .nil (passes_call (takes_of rfl rfl rfl rfl) (fun _ _ _ _ h => h)) (pa_cons (pv 4) (pa_cons pe_int (pa_cons (pe_glob (v := .int 1000000000) (by rfl) g_BUDGET_LIMIT ⟨_, rfl⟩) pa_nil)))))))
 (pss_cons (ps_set (i := 5) sc_padding.nd rfl (Or.inl rfl) (pe_lst pa_nil))
 (pss_cons (ps_par3 (i := 6) (j := 7) (l := 8) rfl sc_padding.nd rfl rfl rfl (by decide) (by decide) (by decide) rfl rfl rfl (pa_cons pe_int (pa_cons pe_int (pa_cons (pv 2) pa_nil))) rfl)
 (pss_cons (ps_for (passes_of rfl) rfl (pi_enumA (by rfl) bi.enumerate_ (pa_cons (pv 0) pa_nil)) (pg_tup rfl (pgs_cons (pg_name (i := 9) sc_padding.nd rfl (Or.inl rfl)) (pgs_cons (pg_tup rfl (pgs_cons (pg_name (i := 10) sc_padding.nd rfl (Or.inl rfl)) (pgs_cons (pg_name (i := 11) sc_padding.nd rfl (Or.inl rfl)) pgs_nil))) pgs_nil)))
 (pss_cons (ps_set (i := 12) sc_padding.nd rfl (Or.inl rfl) (pe_op op_add (pv 8) (pe_op op_mul (pv 1) (pv 11))))
 (C8.pss_cut (ps_set (i := 13) sc_padding.nd rfl (Or.inl rfl) (pe_ifExp (pt_cmpR op_lt (pv 9) (pe_op op_sub (pe_callB cLen (by rfl) bi.len_ (by decide +kernel) (pa_cons (pv 0) pa_nil)) pe_int) (nomark _)) (pe_op op_sub (pe_op op_sub (pe_op op_sub (pv 12) (pv 3)) (pv 7)) (pv 10)) pe_int))
 (pss_cons (ps_expr (pe_bm PySem.F.plainAttrs_list PySem.F.slot_list_append PySem.F.type_list_append mt_append (pv 5) (pa_cons (pe_callB (cMax rfl) (by rfl) bi.max_ (by decide +kernel) (pa_cons (pv 13) (pa_cons pe_int pa_nil))) pa_nil)))
 (pss_cons (ps_aug (i := 7) sc_padding.nd rfl (Or.inl rfl) (pe_op op_add (pv 10) (pe_ix ix_list (pv 5) (pe_un un_neg pe_int) (fun _ _ => rfl))) ip_add)
 (pss_cons (ps_if (pt_cmpR op_gt (pv 7) (pv 8) (nomark _))
 (pss_one (ps_ret (pe_tup (pa_cons (pv 6) (pa_cons (pv 9) pa_nil)))))
 pss_nil)
 (C8.pss_cut (ps_if (pt_cmpR op_gt (pe_ix ix_list (pv 5) (pe_un un_neg pe_int) (fun _ _ => rfl)) pe_int (nomark _))
 (pss_one (ps_set (i := 6) sc_padding.nd rfl (Or.inl rfl) (pe_op op_add (pv 9) pe_int)))
 pss_nil)
 (pss_one (ps_set (i := 8) sc_padding.nd rfl (Or.inl rfl) (pv 12))))))))))
 (pss_one (ps_ret (pv 5)))))))), ?_⟩
    refine rd_start (σ := [some x, some y1, some y2, some y3, none, none, none, none, none, none, none, none, none, none]) rfl ?_
    walk_at "rd"
    refine use_ckszX hg er fun os ho fn H1 hs1 => ?_
    walk_at "rd"
    rename_i t2 ht2
    refine rd_lpT (SqT.of upd_same) ?_
    have hs2 : Same H (upd H1 t2 (.tup [y1, y2, y3])) := hs1.trans (same_new ht2)
    refine for_tup (xs := [y1, y2, y3]) (fun i σ H' => (∃ z, σ = [some x, some y1, some y2, some y3, z, none, none, none, none, none, none, none, none, none]) ∧ H' = upd H1 t2 (.tup [y1, y2, y3]) ∧ ∀ j y, j < i → [y1, y2, y3][j]? = some y → okN y = true) ⟨⟨none, rfl⟩, rfl, fun j y h => absurd h (Nat.not_lt_zero j)⟩ (fun i σ H' _ hI => ?_) (fun i v σ H' hv hI => ?_) (fun σ H' hI => ?_)
    · obtain ⟨⟨z, rfl⟩, rfl, hk⟩ := hI
      exact SqT.of upd_same
    · obtain ⟨⟨z, rfl⟩, rfl, hk⟩ := hI
      walk_at "rd"
      refine use_ckwx (tyvS hs2 (ty v (List.mem_of_getElem? hv))) (fun e => (e2 os v ho fn ?_).same hs2) fun hin => ?_
      · have e : okN v = false := e
        rcases i with _ | _ | _ | i
        · cases hv
          simp [List.find?, e]
        · cases hv
          simp [List.find?, e, hk 0 y1 (by omega) rfl]
        · cases hv
          simp [List.find?, e, hk 0 y1 (by omega) rfl, hk 1 y2 (by omega) rfl]
        · simp at hv
      · walk_at "rd"
        refine ⟨⟨_, rfl⟩, rfl, fun j y hj e => ?_⟩
        rcases Nat.lt_succ_iff_lt_or_eq.mp hj with h | rfl
        · exact hk j y h e
        · rw [hv] at e
          cases e
          exact hin
    · obtain ⟨⟨z, rfl⟩, rfl, hk⟩ := hI
      have k1 := hk 0 y1 (by simp) rfl
      have k2 := hk 1 y2 (by simp) rfl
      have k3 := hk 2 y3 (by simp) rfl
      have q1 := q0 os ho fn (by simp [List.find?, k1, k2, k3])
      obtain ⟨r, rfl, hr0, hr1⟩ := inI_int k1
      obtain ⟨d, rfl, hd0, hd1⟩ := inI_int k2
      obtain ⟨st, rfl, hst0, hst1⟩ := inI_int k3
      have hrr : 0 ≤ r ∧ r ≤ 1000000000 := ⟨hr0, hr1⟩
      subst ho
      obtain ⟨a, us, ss, rfl, hS, hz, ok, hl⟩ := hg.fine fn
      have q : ∀ v H', Same H H' → (∀ D, v = .ref D → H D = none) → PdAt H' v (pdF r st ss d) → Q v H' := fun v H' s _ _ => q1 v H' s
      generalize upd H1 t2 (.tup [.int r, .int d, .int st]) = H2 at hs2
      walk_at "rd"
      rename_i U hU
      have hs3 : Same H (upd H2 U (.lst [])) := hs2.trans (same_new hU)
      have hUn : H U = none := hs2.free hU
      have eU : (upd H2 U (.lst [])) U = some (.lst []) := upd_same
      refine for_enumA (hS.same hs3) (fun i σ H' => ∃ vs first sent due x y z u w w2, σ = [some (.ref a), some (.int r), some (.int d), some (.int st), x, some (.ref U), some (.int first), some (.int sent), some (.int due), y, z, u, w, w2] ∧ H' U = some (.lst (vs.map V.int)) ∧ vs.length = i ∧ Same H H' ∧ pcat vs (pdS r st (ss.drop i) first i sent due) = pdF r st ss d) ⟨[], _, _, _, _, _, _, _, _, _, rfl, eU, rfl, hs3, pcat_nil _⟩ (fun i σ H4 _ hI => ?_) (fun i v σ H4 T hv hI hT => ?_) (fun σ H4 hI => ?_)
      · obtain ⟨vs, first, sent, due, x, y, z, u, w, w2, rfl, e4, hvl, hs4, hpd⟩ := hI
        exact fun o e => by
          rcases hS with e' | e' <;> rw [hs3 _ _ e'] at e <;> cases e <;> exact hs4 _ _ e'
      · obtain ⟨vs, first, sent, due, x, y, z, u, w, w2, rfl, e4, hvl, hs4, hpd⟩ := hI
        obtain ⟨s1, es, ⟨b, rfl, eb⟩, hdr⟩ := hz.at_ i v hv
        obtain ⟨o1, o2, o3, o4⟩ := ok _ (List.mem_of_getElem? es)
        have ilt : i < ss.length := by
          rcases Nat.lt_or_ge i ss.length with h | h
          · exact h
          · rw [List.getElem?_eq_none h] at es; cases es
        have ul := hz.len
        have eb' := look_new (o := .tup [.int (i : Nat), .ref b]) hT (hs4 _ _ eb)
        have e4' := look_new (o := .tup [.int (i : Nat), .ref b]) hT e4
        have hs5 : Same H (upd H4 T (.tup [.int (i : Nat), .ref b])) := hs4.trans (same_new hT)
        have hS5 := hS.same hs5
        walk_at "rd"
        generalize upd H4 T (.tup [.int (i : Nat), .ref b]) = H5 at eb' e4' hs5 hS5 ⊢
        refine rd_cut (fun σ H' => H' = H5 ∧ ∃ le, σ = [some (.ref a), some (.int r), some (.int d), some (.int st), x, some (.ref U), some (.int first), some (.int sent), some (.int due), some (.int (i : Nat)), some (.int s1.1), some (.int s1.2), some (.int (due + r * s1.2)), some (.int le)] ∧ le = if (ss.drop (i + 1)).isEmpty then 0 else due + r * s1.2 - st - sent - s1.1) ?_ fun σ' H6 hM => ?_
        · walk_at "rd"
          refine rd_iteD (fun c => ?_) (fun c => ?_)
          · walk_at "rd"
            exact ⟨rfl, _, rfl, by rw [drop_more (by omega)]; rfl⟩
          · walk_at "rd"
            exact ⟨rfl, _, rfl, by rw [drop_last (by omega)]; rfl⟩
        obtain ⟨rfl, le, rfl, hle⟩ := hM
        walk_at "rd"
        rw [pos_mx, hle, uS_pos]
        generalize hu : uS r st s1 (ss.drop (i + 1)) sent due = u1
        have eA : (upd H6 U (.lst ((vs ++ [u1]).map V.int))) U = some (.lst ((vs ++ [u1]).map V.int)) := upd_same
        have at1 : atI ((vs ++ [u1]).map V.int) (-1) = some (.int u1) := at_end (k := i) (by simp [hvl]) (by rw [List.map_append, List.getElem?_append_right (by simp [hvl])]; simp [hvl])
        have hs6 : Same H (upd H6 U (.lst ((vs ++ [u1]).map V.int))) := fun b' o e => by
          rw [upd_ne (ne_of_none e hUn)]
          exact hs5 _ _ e
        generalize upd H6 U (.lst ((vs ++ [u1]).map V.int)) = H7 at eA hs6 ⊢
        refine rd_ixL (SqL.of eA) at1 ?_
        walk_at "rd"
        rw [hdr, pdS_cons, hu] at hpd
        refine rd_iteD (fun c => ?_) (fun c => ?_)
        · walk_at "rd"
          rename_i R hR
          rw [if_pos c] at hpd
          refine q _ _ (hs6.trans (same_new hR)) (fun _ z => by cases z; exact hs6.free hR) ?_
          rw [← hpd]
          exact ⟨R, rfl, upd_same⟩
        · rw [if_neg c, ← pcat_snoc] at hpd
          refine rd_cut (fun σ H' => H' = H7 ∧ ∃ le, σ = [some (.ref a), some (.int r), some (.int d), some (.int st), x, some (.ref U), some (.int (if u1 > 0 then (i : Int) + 1 else first)), some (.int (sent + (s1.1 + u1))), some (.int due), some (.int (i : Nat)), some (.int s1.1), some (.int s1.2), some (.int (due + r * s1.2)), some (.int le)]) ?_ fun σ' H8 hM => ?_
          · walk_at "rd"
            refine rd_iteD (fun c2 => ?_) (fun c2 => ?_)
            · walk_at "rd"
              exact ⟨rfl, _, by rw [if_pos c2]; rfl⟩
            · walk_at "rd"
              exact ⟨rfl, _, by rw [if_neg c2]; rfl⟩
          obtain ⟨rfl, le2, rfl⟩ := hM
          walk_at "rd"
          exact ⟨vs ++ [u1], _, _, _, _, _, _, _, _, _, rfl, eA, by simp [hvl], hs6, hpd⟩
      · obtain ⟨vs, first, sent, due, x, y, z, u, w, w2, rfl, e4, hvl, hs4, hpd⟩ := hI
        rw [hz.len, List.drop_length] at hpd
        walk_at "rd"
        refine q _ _ hs4 (fun _ z => by cases z; exact hUn) ?_
        rw [← hpd]
        exact ⟨U, rfl, by rw [List.append_nil]; exact e4⟩
theorem ok_is_between {f : Addr} {fd : FuncData}     (D : Dn K mg "_law_is_between" s_is_between ["_law_one", "_law_least", "_law_most"] f fd) (bi : Bi mg)     : FnOk P w K mg base CX0 1 f fd ["_law_one", "_law_least", "_law_most"] spWithin := by
  refine D.F.ok sc_is_between (fun vs H Q E h => ?_) (fun cdv A outer s H vs Q E hr h => ?_)
  · obtain ⟨x, lo, hi, rfl, _⟩ := h
    rfl
  · obtain ⟨x, lo, hi, rfl, t, q⟩ := h
    refine ⟨_, (pss_one (ps_ret (pe_and (pe_callB call_isi (by rfl) bi.isinstance_ (by decide +kernel) (pa_cons (pv 0) (pa_cons (pe_bltn (v := .ty "int") (by rfl) bi.int_ (by decide +kernel) rfl) pa_nil))) (pe_and (pe_not (pe_callB call_isi (by rfl) bi.isinstance_ (by decide +kernel) (pa_cons (pv 0) (pa_cons (pe_bltn (v := .ty "bool") (by rfl) bi.bool_ (by decide +kernel) rfl) pa_nil)))) (pe_one (pe_chain op_le op_le (pv 1) (pv 0) (pv 2))))))), ?_⟩
    refine rd_start (σ := [some x, some (.int lo), some (.int hi)]) rfl ?_
    cases x with
    | int i =>
      walk_at "rd"
      refine rd_iteD (p := lo ≤ i) (fun c => ?_) (fun c => ?_)
      · walk_at "rd"
        have e : inI (.int i) lo hi = decide (i ≤ hi) := by simp [inI, c]
        rw [e] at q
        exact q
      · have e : inI (.int i) lo hi = false := by simp [inI, c]
        rw [e] at q
        exact q
    | non => walk_at "rd"; exact q
    | bl _ => walk_at "rd"; exact q
    | str _ => walk_at "rd"; exact q
    | ref a =>
      rcases t with ⟨xs, t⟩ | ⟨xs, t⟩
      · walk_at "rd"; exact q
      · walk_at "rd"; exact q
    | byt _ => exact t.elim
    | flt _ => exact t.elim
    | ty _ => exact t.elim
theorem ok_due {f : Addr} {fd : FuncData} {f_is_between : Addr} {fd_is_between : FuncData}    (D : Dn K mg "_law_due" s_due ["_law_given_here", "_law_numbers"] f fd) (bi : Bi mg) (G_is_between : FnOk P w K mg base CX0 1 f_is_between fd_is_between ["_law_one", "_law_least", "_law_most"] spWithin) (D_is_between : Dn K mg "_law_is_between" s_is_between ["_law_one", "_law_least", "_law_most"] f_is_between fd_is_between)    : FnOk P w K mg base CX0 2 f fd ["_law_given_here", "_law_numbers"] spDueG := by
  refine D.F.ok sc_due (fun vs H Q E h => ?_) (fun cdv A outer s H vs Q E hr h => ?_)
  · obtain ⟨x, b, ys, o, rfl, _⟩ := h
    rfl
  · obtain ⟨x, b, ys, o, rfl, hg, hb, ty, q⟩ := h
    have e9 : (10 : Int) ^ Int.toNat 9 = 1000000000 := by decide
    refine ⟨_, (pss_cons (ps_if (PW.pt (pw_and (pt_not (pt_val (pe_callB call_isi (by rfl) bi.isinstance_ (by decide +kernel) (pa_cons (pv 0) (pa_cons (pe_bltn (v := .ty "list") (by rfl) bi.list_ (by decide +kernel) rfl) pa_nil))))) (pw_and1 (pt_not (pt_val (pe_callB call_isi (by rfl) bi.isinstance_ (by decide +kernel) (pa_cons (pv 0) (pa_cons (pe_bltn (v := .ty "tuple") (by rfl) bi.tuple_ (by decide +kernel) rfl) pa_nil))))))))
 (pss_one (ps_ret (pe_lst (pa_cons pe_str (pa_cons pe_non pa_nil)))))
 pss_nil)
 (pss_cons (ps_for PassesOwn.never rfl (pi_enumA (by rfl) bi.enumerate_ (pa_cons (pv 0) pa_nil)) (pg_tup rfl (pgs_cons (pg_name (i := 2) sc_due.nd rfl (Or.inl rfl)) (pgs_cons (pg_name (i := 3) sc_due.nd rfl (Or.inl rfl)) pgs_nil)))
 (pss_cons (ps_if (PW.pt (pw_or (pt_not (pt_val (pe_callB call_isi (by rfl) bi.isinstance_ (by decide +kernel) (pa_cons (pv 3) (pa_cons (pe_bltn (v := .ty "tuple") (by rfl) bi.tuple_ (by decide +kernel) rfl) pa_nil))))) (pw_or1 (pt_cmpR op_ne (pe_callB cLen (by rfl) bi.len_ (by decide +kernel) (pa_cons (pv 3) pa_nil)) pe_int (nomark _)))))
 (pss_one (ps_ret (pe_lst (pa_cons pe_str (pa_cons (pv 2) pa_nil)))))
 pss_nil)
 (pss_one (ps_if (PW.pt (pw_or (pt_not (pt_val (pe_call G_is_between (hr.mono (by first | decide | exact Nat.le_refl _)) (by rfl) D_is_between.g D_is_between.F.kp D_is_between.b .nil pass0 (pa_cons (pe_ix ix_tup (pv 3) pe_int (fun _ _ => rfl)) (pa_cons pe_int (pa_cons (pe_op op_pow pe_int pe_int) pa_nil)))))) (pw_or1 (pt_not (pt_val (pe_call G_is_between (hr.mono (by first | decide | exact Nat.le_refl _)) (by rfl) D_is_between.g D_is_between.F.kp D_is_between.b .nil pass0 (pa_cons (pe_ix ix_tup (pv 3) pe_int (fun _ _ => rfl)) (pa_cons pe_int (pa_cons (pe_op op_pow pe_int pe_int) pa_nil)))))))))
 (pss_one (ps_ret (pe_lst (pa_cons pe_str (pa_cons (pv 2) pa_nil)))))
 pss_nil))))
 (pss_cons (ps_for PassesOwn.never rfl (pi_list (pv 1)) (pg_name (i := 4) sc_due.nd rfl (Or.inl rfl))
 (pss_one (ps_if (pt_not (pt_val (pe_call G_is_between (hr.mono (by first | decide | exact Nat.le_refl _)) (by rfl) D_is_between.g D_is_between.F.kp D_is_between.b .nil pass0 (pa_cons (pv 4) (pa_cons pe_int (pa_cons (pe_op op_pow pe_int pe_int) pa_nil))))))
 (pss_one (ps_ret (pe_lst (pa_cons pe_str (pa_cons (pv 4) pa_nil)))))
 pss_nil)))
 (pss_one (ps_ret (pe_lst (pa_cons pe_str (pa_cons pe_non pa_nil)))))))), ?_⟩
    refine rd_start (σ := [some x, some (.ref b), none, none, none]) rfl ?_
    cases hg with
    | flat h =>
      cases x with
      | non => (walk_at "rd"; rename_i p hp; exact q p _ hp (same_new hp) upd_same)
      | bl _ => (walk_at "rd"; rename_i p hp; exact q p _ hp (same_new hp) upd_same)
      | int _ => (walk_at "rd"; rename_i p hp; exact q p _ hp (same_new hp) upd_same)
      | str _ => (walk_at "rd"; rename_i p hp; exact q p _ hp (same_new hp) upd_same)
      | ref _ => exact Bool.noConfusion h
      | byt _ => exact Bool.noConfusion h
      | flt _ => exact Bool.noConfusion h
      | ty _ => exact Bool.noConfusion h
    | @seq a xs os hS m hz =>
      rcases id hS with hL | hL
      · walk_at "rd"
        refine for_enumA hS (fun i σ H' => ∃ x y, σ = [some (.ref a), some (.ref b), x, y, none] ∧ Same H H' ∧ ∀ k, fj os = some k → i ≤ k) ⟨none, none, rfl, Same.refl _, fun _ _ => Nat.zero_le _⟩ (fun i σ H1 _ hI => ?_) (fun i v σ H1 T hv hI hT => ?_) (fun σ H1 hI => ?_)
        · obtain ⟨x, y, rfl, hs, hk⟩ := hI
          exact hs _
        · obtain ⟨x, y, rfl, hs, hk⟩ := hI
          obtain ⟨s, es, hv2, _⟩ := hz.at_ i v hv
          have hs2 := hs.trans (same_new (o := .tup [.int (i : Nat), v]) hT)
          have hv3 := hv2.same hs2
          have bad := fun (e : s = none) => fj_bad os i hk (by rw [← e]; exact es)
          have good := fun (s' : Sz) (e : s = some s') => fj_good os i s' hk (by rw [← e]; exact es)
          cases hv3 with
          | @flat x h =>
            cases v with
            | non => (walk_at "rd"; rename_i p hp; exact q p _ (hs2.free hp) (hs2.trans (same_new hp)) (by rw [dueG_plan (bad rfl)]; exact upd_same))
            | bl _ => (walk_at "rd"; rename_i p hp; exact q p _ (hs2.free hp) (hs2.trans (same_new hp)) (by rw [dueG_plan (bad rfl)]; exact upd_same))
            | int _ => (walk_at "rd"; rename_i p hp; exact q p _ (hs2.free hp) (hs2.trans (same_new hp)) (by rw [dueG_plan (bad rfl)]; exact upd_same))
            | str _ => (walk_at "rd"; rename_i p hp; exact q p _ (hs2.free hp) (hs2.trans (same_new hp)) (by rw [dueG_plan (bad rfl)]; exact upd_same))
            | ref _ => exact Bool.noConfusion h
            | byt _ => exact Bool.noConfusion h
            | flt _ => exact Bool.noConfusion h
            | ty _ => exact Bool.noConfusion h
          | lst h =>
            walk_at "rd"
            rename_i p hp
            exact q p _ (hs2.free hp) (hs2.trans (same_new hp)) (by rw [dueG_plan (bad rfl)]; exact upd_same)
          | tupn h n =>
            walk_at "rd"
            refine if_yesN (fun z => n (by have := V.int.inj z; omega)) ?_
            walk_at "rd"
            rename_i p hp
            exact q p _ (hs2.free hp) (hs2.trans (same_new hp)) (by rw [dueG_plan (bad rfl)]; exact upd_same)
          | @bad a2 u v h tu tv e =>
            walk_at "rd"
            refine if_noN rfl ?_
            walk_at "rd"
            rw [e9]
            refine use_within tu (rd_bl ?_)
            cases eu : inI u 0 1000000000 with
            | false =>
              walk_at "rd"
              rename_i p hp
              exact q p _ (hs2.free hp) (hs2.trans (same_new hp)) (by rw [dueG_plan (bad rfl)]; exact upd_same)
            | true =>
              rw [eu] at e
              walk_at "rd"
              rw [e9]
              refine use_within tv (rd_bl ?_)
              rw [show inI v 1 1000000000 = false from e]
              walk_at "rd"
              rename_i p hp
              exact q p _ (hs2.free hp) (hs2.trans (same_new hp)) (by rw [dueG_plan (bad rfl)]; exact upd_same)
          | @good a2 s h ok =>
            obtain ⟨o1, o2, o3, o4⟩ := ok
            walk_at "rd"
            refine if_noN rfl ?_
            walk_at "rd"
            rw [e9]
            refine if_noN ⟨o1, o2⟩ ?_
            walk_at "rd"
            rw [e9]
            refine if_noN ⟨o3, o4⟩ ?_
            walk_at "rd"
            exact ⟨_, _, rfl, hs2, good _ rfl⟩
        · obtain ⟨x, y, rfl, hs, hk⟩ := hI
          have fn : fj os = none := by
            cases e : fj os with
            | none => rfl
            | some k =>
              have h1 := hk k e
              have h2 := fj_lt os k e
              have h3 := hz.len
              omega
          walk_at "rd"
          refine rd_lpL (SqL.of (hs _ _ hb)) ?_
          refine for_list (xs := ys) (fun i σ H' => (∃ z, σ = [some (.ref a), some (.ref b), x, y, z]) ∧ Same H H' ∧ ∀ j y, j < i → ys[j]? = some y → okN y = true) ⟨⟨none, rfl⟩, hs, fun j y h => absurd h (Nat.not_lt_zero j)⟩ (fun i σ H2 _ hI => ?_) (fun i v σ H2 hv hI => ?_) (fun σ H2 hI => ?_)
          · obtain ⟨_, hs2, _⟩ := hI
            exact SqL.of (hs2 _ _ hb)
          · obtain ⟨⟨z, rfl⟩, hs2, hk2⟩ := hI
            walk_at "rd"
            rw [e9]
            refine use_within (tyvS hs2 (ty v (List.mem_of_getElem? hv))) (rd_bl ?_)
            cases ev : inI v 0 1000000000 with
            | false =>
              walk_at "rd"
              rename_i p hp
              exact q p _ (hs2.free hp) (hs2.trans (same_new hp)) (by rw [dueG_num fn (find_first ys i v hk2 hv ev)]; exact upd_same)
            | true =>
              walk_at "rd"
              refine ⟨⟨_, rfl⟩, hs2, fun j y hj e => ?_⟩
              rcases Nat.lt_succ_iff_lt_or_eq.mp hj with h | rfl
              · exact hk2 j y h e
              · rw [hv] at e
                cases e
                exact ev
          · obtain ⟨⟨z, rfl⟩, hs2, hk2⟩ := hI
            walk_at "rd"
            rename_i p hp
            exact q p _ (hs2.free hp) (hs2.trans (same_new hp)) (by rw [dueG_fine fn (find_none ys hk2)]; exact upd_same)
      · walk_at "rd"
        refine for_enumA hS (fun i σ H' => ∃ x y, σ = [some (.ref a), some (.ref b), x, y, none] ∧ Same H H' ∧ ∀ k, fj os = some k → i ≤ k) ⟨none, none, rfl, Same.refl _, fun _ _ => Nat.zero_le _⟩ (fun i σ H1 _ hI => ?_) (fun i v σ H1 T hv hI hT => ?_) (fun σ H1 hI => ?_)
        · obtain ⟨x, y, rfl, hs, hk⟩ := hI
          exact hs _
        · obtain ⟨x, y, rfl, hs, hk⟩ := hI
          obtain ⟨s, es, hv2, _⟩ := hz.at_ i v hv
          have hs2 := hs.trans (same_new (o := .tup [.int (i : Nat), v]) hT)
          have hv3 := hv2.same hs2
          have bad := fun (e : s = none) => fj_bad os i hk (by rw [← e]; exact es)
          have good := fun (s' : Sz) (e : s = some s') => fj_good os i s' hk (by rw [← e]; exact es)
          cases hv3 with
          | @flat x h =>
            cases v with
            | non => (walk_at "rd"; rename_i p hp; exact q p _ (hs2.free hp) (hs2.trans (same_new hp)) (by rw [dueG_plan (bad rfl)]; exact upd_same))
            | bl _ => (walk_at "rd"; rename_i p hp; exact q p _ (hs2.free hp) (hs2.trans (same_new hp)) (by rw [dueG_plan (bad rfl)]; exact upd_same))
            | int _ => (walk_at "rd"; rename_i p hp; exact q p _ (hs2.free hp) (hs2.trans (same_new hp)) (by rw [dueG_plan (bad rfl)]; exact upd_same))
            | str _ => (walk_at "rd"; rename_i p hp; exact q p _ (hs2.free hp) (hs2.trans (same_new hp)) (by rw [dueG_plan (bad rfl)]; exact upd_same))
            | ref _ => exact Bool.noConfusion h
            | byt _ => exact Bool.noConfusion h
            | flt _ => exact Bool.noConfusion h
            | ty _ => exact Bool.noConfusion h
          | lst h =>
            walk_at "rd"
            rename_i p hp
            exact q p _ (hs2.free hp) (hs2.trans (same_new hp)) (by rw [dueG_plan (bad rfl)]; exact upd_same)
          | tupn h n =>
            walk_at "rd"
            refine if_yesN (fun z => n (by have := V.int.inj z; omega)) ?_
            walk_at "rd"
            rename_i p hp
            exact q p _ (hs2.free hp) (hs2.trans (same_new hp)) (by rw [dueG_plan (bad rfl)]; exact upd_same)
          | @bad a2 u v h tu tv e =>
            walk_at "rd"
            refine if_noN rfl ?_
            walk_at "rd"
            rw [e9]
            refine use_within tu (rd_bl ?_)
            cases eu : inI u 0 1000000000 with
            | false =>
              walk_at "rd"
              rename_i p hp
              exact q p _ (hs2.free hp) (hs2.trans (same_new hp)) (by rw [dueG_plan (bad rfl)]; exact upd_same)
            | true =>
              rw [eu] at e
              walk_at "rd"
              rw [e9]
              refine use_within tv (rd_bl ?_)
              rw [show inI v 1 1000000000 = false from e]
              walk_at "rd"
              rename_i p hp
              exact q p _ (hs2.free hp) (hs2.trans (same_new hp)) (by rw [dueG_plan (bad rfl)]; exact upd_same)
          | @good a2 s h ok =>
            obtain ⟨o1, o2, o3, o4⟩ := ok
            walk_at "rd"
            refine if_noN rfl ?_
            walk_at "rd"
            rw [e9]
            refine if_noN ⟨o1, o2⟩ ?_
            walk_at "rd"
            rw [e9]
            refine if_noN ⟨o3, o4⟩ ?_
            walk_at "rd"
            exact ⟨_, _, rfl, hs2, good _ rfl⟩
        · obtain ⟨x, y, rfl, hs, hk⟩ := hI
          have fn : fj os = none := by
            cases e : fj os with
            | none => rfl
            | some k =>
              have h1 := hk k e
              have h2 := fj_lt os k e
              have h3 := hz.len
              omega
          walk_at "rd"
          refine rd_lpL (SqL.of (hs _ _ hb)) ?_
          refine for_list (xs := ys) (fun i σ H' => (∃ z, σ = [some (.ref a), some (.ref b), x, y, z]) ∧ Same H H' ∧ ∀ j y, j < i → ys[j]? = some y → okN y = true) ⟨⟨none, rfl⟩, hs, fun j y h => absurd h (Nat.not_lt_zero j)⟩ (fun i σ H2 _ hI => ?_) (fun i v σ H2 hv hI => ?_) (fun σ H2 hI => ?_)
          · obtain ⟨_, hs2, _⟩ := hI
            exact SqL.of (hs2 _ _ hb)
          · obtain ⟨⟨z, rfl⟩, hs2, hk2⟩ := hI
            walk_at "rd"
            rw [e9]
            refine use_within (tyvS hs2 (ty v (List.mem_of_getElem? hv))) (rd_bl ?_)
            cases ev : inI v 0 1000000000 with
            | false =>
              walk_at "rd"
              rename_i p hp
              exact q p _ (hs2.free hp) (hs2.trans (same_new hp)) (by rw [dueG_num fn (find_first ys i v hk2 hv ev)]; exact upd_same)
            | true =>
              walk_at "rd"
              refine ⟨⟨_, rfl⟩, hs2, fun j y hj e => ?_⟩
              rcases Nat.lt_succ_iff_lt_or_eq.mp hj with h | rfl
              · exact hk2 j y h e
              · rw [hv] at e
                cases e
                exact ev
          · obtain ⟨⟨z, rfl⟩, hs2, hk2⟩ := hI
            walk_at "rd"
            rename_i p hp
            exact q p _ (hs2.free hp) (hs2.trans (same_new hp)) (by rw [dueG_fine fn (find_none ys hk2)]; exact upd_same)
theorem gv_told {X : Cx} {g : Addr} {cdv : Value} {q : Str} {C_InvalidPlan C_InvalidNumber C_JoinError C_InvalidPlace : Addr} (T_InvalidPlan : ErrK X.prog X.w X.K X.mg X.base "InvalidPlan" "index" C_InvalidPlan)(T_InvalidNumber : ErrK X.prog X.w X.K X.mg X.base "InvalidNumber" "value" C_InvalidNumber) (bi : Bi X.mg) (g_JoinError : X.mg "JoinError" = some (.ref C_JoinError)) (g_InvalidPlace : X.mg "InvalidPlace" = some (.ref C_InvalidPlace))(q_InvalidPlan_JoinError : PySem.W.kitOne X.K (.ref C_InvalidPlan) (.ref C_JoinError) = some true) (q_InvalidPlan_InvalidNumber : PySem.W.kitOne X.K (.ref C_InvalidPlan) (.ref C_InvalidNumber) = some false) (q_InvalidNumber_JoinError : PySem.W.kitOne X.K (.ref C_InvalidNumber) (.ref C_JoinError) = some true) (q_InvalidNumber_InvalidPlace : PySem.W.kitOne X.K (.ref C_InvalidNumber) (.ref C_InvalidPlace) = some false)(m_InvalidNumber_InvalidPlan : PySem.W.exmOne X.K (.ref C_InvalidNumber) (.ref C_InvalidPlan) = some false) : LamX.GivesTo X ["_law_call", "e"] "_law_told" (defScope s_told) g cdv (defBody s_told) "_law_call" q (TTm [(C_InvalidPlan, "index", mk2 "plan"), (C_InvalidNumber, "value", mk2 "number")] (FinB "fine")) := by
  intro f c' s H Q tl act hc h
  have act1 := fun (W : WX) (pn : List (Addr × Obj)) (xe : Value → Shared → Prop) (tk) {p1 p2 : Pos} => pe_act1 act W pn xe tk (p1 := p1) (p2 := p2)
  have g_InvalidPlan := T_InvalidPlan.g
  have g_InvalidNumber := T_InvalidNumber.g
  refine ⟨_, (pss_cons (ps_try_named (Wo := fun _ _ _ _ => False) rfl rfl sc_told.nd L2.takes0 (fun W pn xe tk _ => (pss_one (ps_expr (act1 W pn xe tk))))
 (NamedOk.cons (i := 1) rfl rfl ⟨rfl, by decide, Or.inl T_InvalidPlan.g⟩ (fun a oe cls d pn hz hf => (pss_one (ps_ret (pe_ifExp (PW.pt (pw_and (pt_val (pe_callB (call_isX T_InvalidPlan.ec hz hf) (by rfl) bi.isinstance_ (by decide +kernel) (pa_cons (pv 1) (pa_cons (pe_glob (v := .ref C_JoinError) (by rfl) g_JoinError rfl) pa_nil)))) (pw_and1 (pt_not (pt_val (pe_callB (call_isX T_InvalidPlan.ec hz hf) (by rfl) bi.isinstance_ (by decide +kernel) (pa_cons (pv 1) (pa_cons (pe_glob (v := .ref C_InvalidNumber) (by rfl) g_InvalidNumber rfl) pa_nil)))))))) (pe_lst (pa_cons pe_str (pa_cons (pe_xf T_InvalidPlan.xf T_InvalidPlan.noF hz hf (pv 1)) pa_nil))) pe_non))))
 (NamedOk.cons (i := 1) rfl rfl ⟨rfl, by decide, Or.inl T_InvalidNumber.g⟩ (fun a oe cls d pn hz hf => (pss_one (ps_ret (pe_ifExp (PW.pt (pw_and (pt_val (pe_callB (call_isX T_InvalidNumber.ec hz hf) (by rfl) bi.isinstance_ (by decide +kernel) (pa_cons (pv 1) (pa_cons (pe_glob (v := .ref C_JoinError) (by rfl) g_JoinError rfl) pa_nil)))) (pw_and1 (pt_not (pt_val (pe_callB (call_isX T_InvalidNumber.ec hz hf) (by rfl) bi.isinstance_ (by decide +kernel) (pa_cons (pv 1) (pa_cons (pe_glob (v := .ref C_InvalidPlace) (by rfl) g_InvalidPlace rfl) pa_nil)))))))) (pe_lst (pa_cons pe_str (pa_cons (pe_xf T_InvalidNumber.xf T_InvalidNumber.noF hz hf (pv 1)) pa_nil))) pe_non))))
 NamedOk.nil)))
 (pss_one (ps_ret (pe_lst (pa_cons pe_str (pa_cons pe_non pa_nil)))))), ?_⟩
  refine rd_start (σ := [some (.ref f), none]) rfl ?_
  refine rd_seq ?_
  refine rd_drop ?_
  refine ⟨ErM [(C_InvalidPlan, "index", mk2 "plan"), (C_InvalidNumber, "value", mk2 "number")] Q, fun cls d σ' H' hE hl => ?_, rfl, hc, h _ fun v H' hF => ?_⟩
  · obtain ⟨e, he, hE⟩ := hE
    obtain ⟨x0, x1, rfl⟩ := len2 hl
    rcases List.mem_cons.mp he with rfl | he
    · obtain ⟨rfl, dd, v, rfl, hd, hq⟩ := hE
      refine ⟨true, T_InvalidPlan.te, fun _ a ha => ?_, fun z => Bool.noConfusion z⟩
      walk_at "rd"
      refine rd_isX rfl rfl hd (fun _ e => e) q_InvalidPlan_JoinError ?_
      walk_at "rd"
      refine rd_isX rfl rfl hd (fun _ e => e) q_InvalidPlan_InvalidNumber ?_
      walk_at "rd"
      refine ⟨rfl, rfl, dd, _, v, rfl, hd, by simp [List.lookup], ?_⟩
      walk_at "rd"
      rename_i p hp
      exact hq p _ (same_new hp) hp upd_same
    · obtain rfl := List.mem_singleton.mp he
      obtain ⟨rfl, dd, v, rfl, hd, hq⟩ := hE
      refine ⟨false, m_InvalidNumber_InvalidPlan, fun z => Bool.noConfusion z, fun _ => ⟨true, T_InvalidNumber.te, fun _ a ha => ?_, fun z => Bool.noConfusion z⟩⟩
      walk_at "rd"
      refine rd_isX rfl rfl hd (fun _ e => e) q_InvalidNumber_JoinError ?_
      walk_at "rd"
      refine rd_isX rfl rfl hd (fun _ e => e) q_InvalidNumber_InvalidPlace ?_
      walk_at "rd"
      refine ⟨rfl, rfl, dd, _, v, rfl, hd, by simp [List.lookup], ?_⟩
      walk_at "rd"
      rename_i p hp
      exact hq p _ (same_new hp) hp upd_same
  · walk_at "rd"
    rename_i p hp
    exact hF p _ (same_new hp) hp upd_same
theorem ok_given {f : Addr} {fd : FuncData} {f_take : Addr} {fd_take : FuncData}    (D : Dn K mg "_law_given" s_given ["_law_pool_here"] f fd) (bi : Bi mg) (G_take : FnOk P w K mg base CX0 1 f_take fd_take ["_law_pool_here", "_law_many"] spTakeB) (D_take : Dn K mg "_law_take" s_take ["_law_pool_here", "_law_many"] f_take fd_take)    : FnOk P w K mg base CX0 2 f fd ["_law_pool_here"] spGiven := by
  refine D.F.ok sc_given (fun vs H Q E h => ?_) (fun cdv A outer s H vs Q E hr h => ?_)
  · obtain ⟨p, rfl, _⟩ := h
    rfl
  · obtain ⟨p, rfl, hP, q⟩ := h
    refine ⟨_, (pss_cons (ps_set (i := 1) sc_given.nd rfl (Or.inl rfl) (pe_lst pa_nil))
 (pss_cons (ps_for PassesOwn.never rfl (pi_range1 (by rfl) bi.range_ (pa_cons (pe_call G_take (hr.mono (by first | decide | exact Nat.le_refl _)) (by rfl) D_take.g D_take.F.kp D_take.b .nil pass0 (pa_cons (pv 0) (pa_cons pe_int pa_nil))) pa_nil)) (pg_name (i := 2) sc_given.nd rfl (Or.inl rfl))
 (pss_cons (ps_par (i := 3) (j := 4) rfl sc_given.nd rfl rfl (by decide) rfl rfl (pa_cons (pe_call G_take (hr.mono (by first | decide | exact Nat.le_refl _)) (by rfl) D_take.g D_take.F.kp D_take.b .nil pass0 (pa_cons (pv 0) (pa_cons pe_int pa_nil))) (pa_cons (pe_op op_add pe_int (pe_call G_take (hr.mono (by first | decide | exact Nat.le_refl _)) (by rfl) D_take.g D_take.F.kp D_take.b .nil pass0 (pa_cons (pv 0) (pa_cons pe_int pa_nil)))) pa_nil)) rfl)
 (pss_cons (ps_set (i := 5) sc_given.nd rfl (Or.inl rfl) (pe_lst (pa_cons (pe_tup (pa_cons (pv 3) pa_nil)) (pa_cons (pe_lst (pa_cons (pv 3) (pa_cons (pv 4) pa_nil))) (pa_cons (pe_tup (pa_cons (pv 3) (pa_cons pe_int pa_nil))) (pa_cons (pe_tup (pa_cons (pe_un un_neg pe_int) (pa_cons (pv 4) pa_nil))) (pa_cons (pe_tup (pa_cons (pe_op op_add (pe_op op_pow pe_int pe_int) pe_int) (pa_cons (pv 4) pa_nil))) (pa_cons (pe_tup (pa_cons (pv 3) (pa_cons (pe_op op_add (pe_op op_pow pe_int pe_int) pe_int) pa_nil))) (pa_cons (pe_tup (pa_cons pe_bl (pa_cons (pv 4) pa_nil))) pa_nil)))))))))
 (pss_cons (ps_set (i := 5) sc_given.nd rfl (Or.inl rfl) (pe_op op_cat (pv 5) (pe_lst (pa_cons (pe_tup (pa_cons (pv 3) (pa_cons pe_bl pa_nil))) (pa_cons (pe_tup (pa_cons (pv 3) (pa_cons pe_non pa_nil))) (pa_cons pe_non (pa_cons pe_int (pa_cons (pe_tup (pa_cons (pv 3) (pa_cons (pv 4) (pa_cons pe_int pa_nil)))) (pa_cons (pe_tup (pa_cons pe_str (pa_cons (pv 4) pa_nil))) (pa_cons (pe_tup pa_nil) pa_nil))))))))))
 (pss_cons (ps_set (i := 6) sc_given.nd rfl (Or.inl rfl) (pe_ix ix_list (pv 5) (pe_call G_take (hr.mono (by first | decide | exact Nat.le_refl _)) (by rfl) D_take.g D_take.F.kp D_take.b .nil pass0 (pa_cons (pv 0) (pa_cons pe_int pa_nil))) (fun _ _ => rfl)))
 (pss_one (ps_expr (pe_bm PySem.F.plainAttrs_list PySem.F.slot_list_append PySem.F.type_list_append mt_append (pv 1) (pa_cons (pe_ix ix_list (pe_lst (pa_cons (pe_tup (pa_cons (pv 3) (pa_cons (pv 4) pa_nil))) (pa_cons (pv 6) pa_nil))) (pe_callTy cInt (by rfl) bi.int_ (by decide +kernel) (pa_cons (pe_cmpR op_eq (pe_call G_take (hr.mono (by first | decide | exact Nat.le_refl _)) (by rfl) D_take.g D_take.F.kp D_take.b .nil pass0 (pa_cons (pv 0) (pa_cons pe_int pa_nil))) pe_int (nomark _)) pa_nil)) (fun _ _ => rfl)) pa_nil)))))))))
 (pss_cons (ps_if (pt_cmpR op_eq (pe_call G_take (hr.mono (by first | decide | exact Nat.le_refl _)) (by rfl) D_take.g D_take.F.kp D_take.b .nil pass0 (pa_cons (pv 0) (pa_cons pe_int pa_nil))) pe_int (nomark _))
 (pss_one (ps_ret (pe_ix ix_list (pe_lst (pa_cons pe_non (pa_cons pe_int (pa_cons pe_str (pa_cons pe_bl (pa_cons pe_str pa_nil)))))) (pe_call G_take (hr.mono (by first | decide | exact Nat.le_refl _)) (by rfl) D_take.g D_take.F.kp D_take.b .nil pass0 (pa_cons (pv 0) (pa_cons pe_int pa_nil))) (fun _ _ => rfl))))
 pss_nil)
 (pss_one (ps_ret (pe_ifExp (pt_cmpR op_eq (pe_call G_take (hr.mono (by first | decide | exact Nat.le_refl _)) (by rfl) D_take.g D_take.F.kp D_take.b .nil pass0 (pa_cons (pv 0) (pa_cons pe_int pa_nil))) pe_int (nomark _)) (pe_callTy cTuple (by rfl) bi.tuple_ (by decide +kernel) (pa_cons (pv 1) pa_nil)) (pv 1))))))), ?_⟩
    refine rd_start (σ := [some (.ref p), none, none, none, none, none, none]) rfl ?_
    walk_at "rd"
    rename_i U hU t0 H1 h00 h01 hP1 hK1
    have nUp : U ≠ p := hP.ne hU
    have eU1 : H1 U = some (.lst []) := hK1 _ _ nUp upd_same
    refine for_range (lo := 0) (n := t0.toNat) (fun i σ H' => ∃ xs x2 x3 x4 x5 x6, σ = [some (.ref p), some (.ref U), x2, x3, x4, x5, x6] ∧ H' U = some (.lst xs) ∧ xs.length ≤ i ∧ (∀ x ∈ xs, PV [U, p] H' 1 x) ∧ Pool H' p ∧ Kp p H H') ⟨[], none, none, none, none, none, rfl, eU1, Nat.le_refl _, fun x hx => (List.not_mem_nil hx).elim, hP1, (Kp.new hU).trans hK1⟩ (fun i σ H2 hi hI => ?_) (fun σ H2 hI => ?_)
    · obtain ⟨xs, x2, x3, x4, x5, x6, rfl, eU, hxl, hxs, hP2, hK2⟩ := hI
      clear hP1 hK1 eU1
      walk_at "rd"
      rename_i t3 H3 h30 h31 hP3 hK3 t4 H4 h40 h41 hP4 hK4 q1 hq1 q2 hq2 q3 hq3 q4 hq4 q5 hq5 q6 hq6 q7 hq7 l8 hl8 r1 hr1 r2 hr2 r3 hr3 r4 hr4 r5 hr5 l9 hl9
      have eU4 : H4 U = some (.lst xs) := hK4 _ _ nUp (hK3 _ _ nUp eU)
      have hxs4 : ∀ x ∈ xs, PV [U, p] H4 1 x := fun x hx => (hxs x hx).kp ((KpLN.ofK (p := p) (by simp) hK3).trans (KpLN.ofK (p := p) (by simp) hK4))
      have hK04 : Kp p H H4 := hK2.trans (hK3.trans hK4)
      clear hK2 hK3 hK4 hP3 hP2 hxs eU
      refine rd_catG (by walk_at "hg") upd_same (by simp) fun lc hlc => ?_
      walk_at "rd"
      rename_i t5 H5 h50 h51 hP5 hK5
      refine' rd_ixP (fun v => PV [U, p] H5 1 v) ?e ?h0 ?h1 ?hP fun v hv => ?_
      (case e => exact SqL.of (by walk_at "hg"))
      (case h0 => assumption)
      (case h1 => assumption)
      (case hP => walk_at "pvm1")
      have hK45 : Kp p H4 H5 := by walk_at "kp"
      have eU5 : H5 U = some (.lst xs) := hK45 _ _ nUp eU4
      have hxs5 : ∀ x ∈ xs, PV [U, p] H5 1 x := fun x hx => (hxs4 x hx).kp (KpLN.ofK (p := p) (by simp) hK45)
      have hK05 : Kp p H H5 := hK04.trans hK45
      clear hK45 hK5 hlc hl9 hr5 hr4 hr3 hr2 hr1 hl8 hq7 hq6 hq5 hq4 hq3 hq2 hq1 hxs4 eU4 hK04
      walk_at "rd"
      rename_i ta hta lb hlb t6 H6 h60 h61 hP6 hK6
      have kk : KpLN [U, p] H5 H6 := ((KpLN.new hta).trans (KpLN.new hlb)).trans (KpLN.ofK (p := p) (by simp) hK6)
      refine' rd_ixP (fun v => PV [U, p] H6 1 v) ?e ?h0 ?h1 ?hP fun u hu => ?_
      (case e => exact SqL.of (by walk_at "hg"))
      (case h0 => split <;> omega)
      (case h1 => show _ < (2 : Int); split <;> omega)
      (case hP => exact List.forall_mem_cons.mpr ⟨by walk_at "pv1", List.forall_mem_cons.mpr ⟨hv.kp kk, List.forall_mem_nil _⟩⟩)
      have hK56 : Kp p H5 H6 := by walk_at "kp"
      have eU6 := hK56 _ _ nUp eU5
      walk_at "rd"
      refine rd_appG eU6 (by omega) ?_
      walk_at "rd"
      have kU : KpLN [U, p] H6 (upd H6 U (.lst (xs ++ [u]))) := KpLN.at (by simp)
      refine ⟨xs ++ [u], _, _, _, _, _, rfl, upd_same, by simp; omega, fun x hx => ?_, pool_at nUp hP6, fun b o nb e => ?_⟩
      · rcases List.mem_append.mp hx with hx | hx
        · exact ((hxs5 x hx).kp kk).kp kU
        · rw [List.mem_singleton.mp hx]
          exact hu.kp kU
      · rw [upd_ne (ne_of_none e hU)]
        exact hK56 _ _ nb (hK05 _ _ nb e)
    · obtain ⟨xs, x2, x3, x4, x5, x6, rfl, eU, hxl, hxs, hP2, hK2⟩ := hI
      clear hP1 hK1 eU1
      have hxl6 : xs.length ≤ 100 := by omega
      walk_at "rd"
      rename_i t3 H3 h30 h31 hP3 hK3
      have eU3 := hK3 _ _ nUp eU
      have hxs3 : ∀ x ∈ xs, PV [U, p] H3 1 x := fun x hx => (hxs x hx).kp (KpLN.ofK (p := p) (by simp) hK3)
      have hK03 := hK2.trans hK3
      refine rd_iteD (fun c => ?_) (fun c => ?_)
      · walk_at "rd"
        rename_i l4 hl4 t5 H5 h50 h51 hP5 hK5
        refine' rd_ixP (fun v => scOk v = true) ?e ?h0 ?h1 ?hP fun v hv => ?_
        (case e => exact SqL.of (by walk_at "hg"))
        (case h0 => assumption)
        (case h1 => assumption)
        (case hP => walk_at "alo")
        exact q v _ (.inl hv) hP5 (hK03.trans ((Kp.new hl4).trans hK5))
      · walk_at "rd"
        rename_i t5 H5 h50 h51 hP5 hK5
        have eU5 := hK5 _ _ nUp eU3
        have hxs5 : ∀ x ∈ xs, PV [U, p] H5 1 x := fun x hx => (hxs3 x hx).kp (KpLN.ofK (p := p) (by simp) hK5)
        have nUl : U ∉ [p] := nm_cons nUp List.not_mem_nil
        refine rd_iteD (fun c => ?_) (fun c => ?_)
        · walk_at "rd"
          rename_i tu htu
          refine q _ _ (.inr ⟨tu, xs, rfl, nm_cons (hP5.ne htu) List.not_mem_nil, .t upd_same, hxl6, fun x hx => ?_⟩) (hP5.new htu) ((hK03.trans hK5).trans (Kp.new htu))
          exact (((hxs5 x hx).kp (KpLN.new htu)).less (by simp))
        · walk_at "rd"
          exact q _ _ (.inr ⟨U, xs, rfl, nUl, .l eU5, hxl6, fun x hx => (hxs5 x hx).less (by simp)⟩) hP5 (hK03.trans hK5)
theorem ok_law {f_pool : Addr} {fd_pool : FuncData} {f_take : Addr} {fd_take : FuncData} {f_same : Addr} {fd_same : FuncData} {f_least_delay : Addr} {fd_least_delay : FuncData} {f_padding : Addr} {fd_padding : FuncData} {f_due : Addr} {fd_due : FuncData} {f_given : Addr} {fd_given : FuncData} {C_InvalidNumber : Addr} {C_InvalidPlace : Addr} {C_InvalidPlan : Addr} {C_JoinError : Addr}   {f_told c_law P_tab : Addr} {fd_told : FuncData} {oc : Value} {od an : Option Addr} {kV doc pm ct : Value} {osl : Array (Option Value)} {f : Addr} (lk_law : K.lookup f = some ⟨oc, od, .func (PySem.W.fnOf "law" "law" (defArgs s_law) (defBody s_law) (defScope s_law) .none kV doc pm an (.ref c_law) ct), osl⟩) (hc_law : PySem.W.codeIn K (.ref c_law) "law" = true) (bi : Bi mg) (TB : LamX.TabB base mg c_law P_tab) (D_told : Dn K mg "_law_told" s_told ["_law_call"] f_told fd_told) (G_pool : FnOk P w K mg base CX0 1 f_pool fd_pool ["_law_script", "_law_k"] (spPool K)) (D_pool : Dn K mg "_law_pool" s_pool ["_law_script", "_law_k"] f_pool fd_pool) (G_take : FnOk P w K mg base CX0 1 f_take fd_take ["_law_pool_here", "_law_many"] spTakeB) (D_take : Dn K mg "_law_take" s_take ["_law_pool_here", "_law_many"] f_take fd_take) (G_same : FnOk P w K mg base CX0 3 f_same fd_same ["_law_actual", "_law_due_here"] (spSame K 2)) (D_same : Dn K mg "_law_same" s_same ["_law_actual", "_law_due_here"] f_same fd_same) (G_least_delay : FnOk P w K mg base (L2.CX P w) 5 f_least_delay fd_least_delay ["sizes", "rate"] (spLdX C_InvalidPlan C_InvalidNumber)) (D_least_delay : Dn K mg "least_delay" s_least_delay ["sizes", "rate"] f_least_delay fd_least_delay) (G_padding : FnOk P w K mg base (L2.CX P w) 5 f_padding fd_padding ["sizes", "rate", "delay", "store"] (spPadX C_InvalidPlan C_InvalidNumber)) (D_padding : Dn K mg "padding" s_padding ["sizes", "rate", "delay", "store"] f_padding fd_padding) (G_due : FnOk P w K mg base CX0 2 f_due fd_due ["_law_given_here", "_law_numbers"] spDueG) (D_due : Dn K mg "_law_due" s_due ["_law_given_here", "_law_numbers"] f_due fd_due) (G_given : FnOk P w K mg base CX0 2 f_given fd_given ["_law_pool_here"] spGiven) (D_given : Dn K mg "_law_given" s_given ["_law_pool_here"] f_given fd_given)  (T_InvalidPlan : ErrK P w K mg base "InvalidPlan" "index" C_InvalidPlan) (T_InvalidNumber : ErrK P w K mg base "InvalidNumber" "value" C_InvalidNumber) (g_JoinError : mg "JoinError" = some (.ref C_JoinError)) (g_InvalidPlace : mg "InvalidPlace" = some (.ref C_InvalidPlace))(q_InvalidPlan_JoinError : PySem.W.kitOne K (.ref C_InvalidPlan) (.ref C_JoinError) = some true) (q_InvalidPlan_InvalidNumber : PySem.W.kitOne K (.ref C_InvalidPlan) (.ref C_InvalidNumber) = some false) (q_InvalidNumber_JoinError : PySem.W.kitOne K (.ref C_InvalidNumber) (.ref C_JoinError) = some true) (q_InvalidNumber_InvalidPlace : PySem.W.kitOne K (.ref C_InvalidNumber) (.ref C_InvalidPlace) = some false)(m_InvalidNumber_InvalidPlan : PySem.W.exmOne K (.ref C_InvalidNumber) (.ref C_InvalidPlan) = some false) : FnOk P w K mg base CX0 8 f (PySem.W.fnOf "law" "law" (defArgs s_law) (defBody s_law) (defScope s_law) .none kV doc pm an (.ref c_law) ct) ["_law_script"] (spLawT K [(P_tab, qLam)]) := by
  obtain ⟨oc_t, od_t, kV_t, doc_t, pm_t, an_t, cdv_t, ct_t, osl_t, rfl, lk_told, hc_told⟩ := D_told.F.ex
  refine okC lk_law hc_law sc_law (fun vs H Q E h => ?_) (fun A outer s H vs Q E hr h => ?_)
  · obtain ⟨a, ns, rfl, _⟩ := h
    rfl
  · obtain ⟨a, ns, rfl, hS, hl, hT, q⟩ := h
    refine ⟨_, (pss_cons (ps_for PassesOwn.never rfl (pi_range1 (by rfl) bi.range_ (pa_cons (pe_callB (cMax rfl) (by rfl) bi.max_ (by decide +kernel) (pa_cons pe_int (pa_cons (pe_callB (cMin rfl) (by rfl) bi.min_ (by decide +kernel) (pa_cons (pe_callB cLen (by rfl) bi.len_ (by decide +kernel) (pa_cons (pv 0) pa_nil)) (pa_cons pe_int pa_nil))) pa_nil))) pa_nil)) (pg_name (i := 1) sc_law.nd rfl (Or.inl rfl))
 (pss_cons (ps_set (i := 2) sc_law.nd rfl (Or.inl rfl) (pe_call G_pool (hr.mono (by first | decide | exact Nat.le_refl _)) (by rfl) D_pool.g D_pool.F.kp D_pool.b .nil pass0 (pa_cons (pv 0) (pa_cons (pv 1) pa_nil))))
 (pss_cons (ps_asg (pe_tup (pa_cons (pe_call G_given (hr.mono (by first | decide | exact Nat.le_refl _)) (by rfl) D_given.g D_given.F.kp D_given.b .nil pass0 (pa_cons (pv 2) pa_nil)) (pa_cons (pe_lst pa_nil) pa_nil))) (pg_tup rfl (pgs_cons (pg_name (i := 3) sc_law.nd rfl (Or.inr rfl)) (pgs_cons (pg_name (i := 4) sc_law.nd rfl (Or.inl rfl)) pgs_nil))))
 (pss_cons (ps_for PassesOwn.never rfl (pi_range1 (by rfl) bi.range_ (pa_cons pe_int pa_nil)) (pg_name (i := 5) sc_law.nd rfl (Or.inl rfl))
 (pss_cons (ps_set (i := 6) sc_law.nd rfl (Or.inl rfl) (pe_ix ix_list (pe_lst (pa_cons pe_non (pa_cons pe_bl (pa_cons pe_bl (pa_cons pe_str (pa_cons (pe_un un_neg pe_int) (pa_cons (pe_op op_add (pe_op op_pow pe_int pe_int) pe_int) (pa_cons (pe_op op_pow pe_int pe_int) (pa_cons (pe_tup (pa_cons pe_int pa_nil)) (pa_cons (pe_lst (pa_cons pe_int pa_nil)) (pa_cons pe_str pa_nil))))))))))) (pe_call G_take (hr.mono (by first | decide | exact Nat.le_refl _)) (by rfl) D_take.g D_take.F.kp D_take.b .nil pass0 (pa_cons (pv 2) (pa_cons pe_int pa_nil))) (fun _ _ => rfl)))
 (pss_one (ps_expr (pe_bm PySem.F.plainAttrs_list PySem.F.slot_list_append PySem.F.type_list_append mt_append (pv 4) (pa_cons (pe_ix ix_list (pe_lst (pa_cons (pe_call G_take (hr.mono (by first | decide | exact Nat.le_refl _)) (by rfl) D_take.g D_take.F.kp D_take.b .nil pass0 (pa_cons (pv 2) (pa_cons (pe_op op_pow pe_int pe_int) pa_nil))) (pa_cons pe_int (pa_cons (pe_op op_pow pe_int pe_int) (pa_cons (pv 6) pa_nil))))) (pe_call G_take (hr.mono (by first | decide | exact Nat.le_refl _)) (by rfl) D_take.g D_take.F.kp D_take.b .nil pass0 (pa_cons (pv 2) (pa_cons pe_int pa_nil))) (fun _ _ => rfl)) pa_nil))))))
 (pss_cons (ps_asg (pv 4) (pg_lst rfl (pgs_cons (pg_name (i := 7) sc_law.nd rfl (Or.inr rfl)) (pgs_cons (pg_name (i := 8) sc_law.nd rfl (Or.inr rfl)) (pgs_cons (pg_name (i := 9) sc_law.nd rfl (Or.inr rfl)) pgs_nil)))))
 (C8.pss_cut (ps_if (pt_not (pt_val (pe_call G_same (hr.mono (by first | decide | exact Nat.le_refl _)) (by rfl) D_same.g D_same.F.kp D_same.b .nil pass0 (pa_cons (LamX.pe_lamcall (T := [(P_tab, qLam)]) (TT := (TTm [(C_InvalidPlan, "index", mk2 "plan"), (C_InvalidNumber, "value", mk2 "number")] (FinB "fine"))) (k := 5) rfl D_told.g D_told.F.kp lk_told hc_told D_told.b sc_told rfl (Or.inl rfl) (gv_told T_InvalidPlan T_InvalidNumber bi g_JoinError g_InvalidPlace q_InvalidPlan_JoinError q_InvalidPlan_InvalidNumber q_InvalidNumber_JoinError q_InvalidNumber_InvalidPlace m_InvalidNumber_InvalidPlan) TB rfl (List.mem_singleton.mpr rfl) (fun p hp _ => congrArg Prod.snd (List.mem_singleton.mp hp)) (hr.mono (by first | decide | exact Nat.le_refl _)) (LamX.lamS_by (sc := defScope s_law) (by decide +kernel)) rfl (fun _ _ _ _ _ => rfl) (fun A outer s H E f c' hr2 => (pe_call G_least_delay (hr2.mono (by first | decide | exact Nat.le_refl _)) (by rfl) D_least_delay.g D_least_delay.F.kp D_least_delay.b .nil (passes_call (takes_of rfl rfl rfl rfl) (fun _ _ _ _ h => h)) (pa_cons (pv 3) (pa_cons (pv 7) pa_nil))))) (pa_cons (pe_call G_due (hr.mono (by first | decide | exact Nat.le_refl _)) (by rfl) D_due.g D_due.F.kp D_due.b .nil pass0 (pa_cons (pv 3) (pa_cons (pe_lst (pa_cons (pv 7) pa_nil)) pa_nil))) pa_nil)))))
 (pss_one (ps_ret pe_bl))
 pss_nil)
 (pss_one (ps_if (pt_not (pt_val (pe_call G_same (hr.mono (by first | decide | exact Nat.le_refl _)) (by rfl) D_same.g D_same.F.kp D_same.b .nil pass0 (pa_cons (LamX.pe_lamcall (T := [(P_tab, qLam)]) (TT := (TTm [(C_InvalidPlan, "index", mk2 "plan"), (C_InvalidNumber, "value", mk2 "number")] (FinB "fine"))) (k := 5) rfl D_told.g D_told.F.kp lk_told hc_told D_told.b sc_told rfl (Or.inl rfl) (gv_told T_InvalidPlan T_InvalidNumber bi g_JoinError g_InvalidPlace q_InvalidPlan_JoinError q_InvalidPlan_InvalidNumber q_InvalidNumber_JoinError q_InvalidNumber_InvalidPlace m_InvalidNumber_InvalidPlan) TB rfl (List.mem_singleton.mpr rfl) (fun p hp _ => congrArg Prod.snd (List.mem_singleton.mp hp)) (hr.mono (by first | decide | exact Nat.le_refl _)) (LamX.lamS_by (sc := defScope s_law) (by decide +kernel)) rfl (fun _ _ _ _ _ => rfl) (fun A outer s H E f c' hr2 => (pe_call G_padding (hr2.mono (by first | decide | exact Nat.le_refl _)) (by rfl) D_padding.g D_padding.F.kp D_padding.b .nil (passes_call (takes_of rfl rfl rfl rfl) (fun _ _ _ _ h => h)) (pa_cons (pv 3) (pa_cons (pv 7) (pa_cons (pv 8) (pa_cons (pv 9) pa_nil))))))) (pa_cons (pe_call G_due (hr.mono (by first | decide | exact Nat.le_refl _)) (by rfl) D_due.g D_due.F.kp D_due.b .nil pass0 (pa_cons (pv 3) (pa_cons (pv 4) pa_nil))) pa_nil)))))
 (pss_one (ps_ret pe_bl))
 pss_nil))))))))
 (pss_one (ps_ret pe_bl))), ?_⟩
    refine rd_start (σ := [some (.ref a), none, none, none, none, none, none, none, none, none]) rfl ?_
    walk_at "rd"
    have hn := mm_nat (ns.map V.int).length 40 (by decide)
    refine for_range (lo := 0) (n := _) (fun i σ H' => ∃ x1 x2 x3 x4 x5 x6 x7 x8 x9, σ = [some (.ref a), x1, x2, x3, x4, x5, x6, x7, x8, x9] ∧ LamX.ExtN H H' ∧ LamX.Tabs [(P_tab, qLam)] H') ⟨_, _, _, _, _, _, _, _, _, rfl, .of (fun _ _ e => e), hT⟩ (fun i σ H2 hi hI => ?_) (fun σ H2 hI => ?_)
    · obtain ⟨x1, x2, x3, x4, x5, x6, x7, x8, x9, rfl, hs2, hT2⟩ := hI
      have hi' : i < 40 := Nat.lt_of_lt_of_le hi hn
      have hS2 : SqL K H2 a (ns.map V.int) := extN_seq hs2 hS
      walk_at "rd"
      rename_i p H3 hp0 hs3 hP3
      refine use_given hP3 fun gv H4 hgv hP4 hK4 => ?_
      have hT4 : LamX.Tabs [(P_tab, qLam)] H4 := by walk_at "tb"
      walk_at "rd"
      rename_i S hS5 t5 ht5
      have nSp : S ≠ p := hP4.ne hS5
      have hg6 : GvB [S, p] (upd (upd H4 S (.lst [])) t5 (.tup [gv, .ref S])) gv := (hgv.add hS5).kp (KpLN.new ht5)
      have hP6 : Pool (upd (upd H4 S (.lst [])) t5 (.tup [gv, .ref S])) p := (hP4.new hS5).new ht5
      have hK6 : KpN p H3 (upd (upd H4 S (.lst [])) t5 (.tup [gv, .ref S])) := by walk_at "kpn"
      have hT6 : LamX.Tabs [(P_tab, qLam)] (upd (upd H4 S (.lst [])) t5 (.tup [gv, .ref S])) := by walk_at "tb"
      have eS6 : (upd (upd H4 S (.lst [])) t5 (.tup [gv, .ref S])) S = some (.lst []) := look_new ht5 upd_same
      have fS3 : H3 S = none := by
        rcases h : H3 S with _ | o
        · rfl
        · exact absurd (hK4 _ _ nSp h) (by rw [hS5]; exact fun z => nomatch z)
      generalize upd (upd H4 S (.lst [])) t5 (.tup [gv, .ref S]) = H6 at hg6 hP6 hK6 hT6 eS6 ⊢
      clear ht5 hS5 hP4 hK4 hT4 hgv
      refine for_range (lo := 0) (n := 3) (fun j σ H' => ∃ ys x5 x6, σ = [some (.ref a), some (.int (0 + (i : Int))), some (.ref p), some gv, some (.ref S), x5, x6, x7, x8, x9] ∧ H' S = some (.lst ys) ∧ ys.length = j ∧ (∀ y ∈ ys, PV [S, p] H' 1 y) ∧ GvB [S, p] H' gv ∧ Pool H' p ∧ KpN p H3 H' ∧ LamX.Tabs [(P_tab, qLam)] H') ⟨[], _, _, rfl, eS6, rfl, fun y hy => (List.not_mem_nil hy).elim, hg6, hP6, hK6, hT6⟩ (fun j σ H7 hj hI => ?_) (fun σ H7 hI => ?_)
      · obtain ⟨ys, x5, x6, rfl, eS, hyl, hys, hg7, hP7, hK7, hT7⟩ := hI
        walk_at "rd"
        rename_i q1 hq1 q2 hq2 q3 hq3 t8 H8 h80 h81 hP8 hK8
        refine' rd_ixP (fun v => PV [S, p] H8 1 v) ?e ?h0 ?h1 ?hP fun v hv => ?_
        (case e => exact SqL.of (by walk_at "hg"))
        (case h0 => assumption)
        (case h1 => assumption)
        (case hP => walk_at "pvm1")
        have hK78 : Kp p H7 H8 := by walk_at "kp"
        have hT8 : LamX.Tabs [(P_tab, qLam)] H8 := Tabs.kp hP7 hK78 hT7
        have kl78 : KpLN [S, p] H7 H8 := KpLN.ofK (p := p) (by simp) hK78
        clear hq1 hq2 hq3 hK8
        walk_at "rd"
        rename_i t9 H9 h90 h91 hP9 hK9 q4 hq4 t10 H10 h100 h101 hP10 hK10
        have kl810 : KpLN [S, p] H8 H10 := ((KpLN.ofK (p := p) (by simp) hK9).trans (KpLN.new hq4)).trans (KpLN.ofK (p := p) (by simp) hK10)
        refine' rd_ixP (fun v => PV [S, p] H10 1 v) ?e ?h0 ?h1 ?hP fun u hu => ?_
        (case e => exact SqL.of (by walk_at "hg"))
        (case h0 => assumption)
        (case h1 => assumption)
        (case hP => exact List.forall_mem_cons.mpr ⟨PV.sc rfl, List.forall_mem_cons.mpr ⟨PV.sc rfl, List.forall_mem_cons.mpr ⟨PV.sc rfl, List.forall_mem_cons.mpr ⟨hv.kp kl810, List.forall_mem_nil _⟩⟩⟩⟩)
        have hK810 : Kp p H8 H10 := hK9.trans ((Kp.new hq4).trans hK10)
        have hT10 : LamX.Tabs [(P_tab, qLam)] H10 := Tabs.kp hP8 hK810 hT8
        have eS10 : H10 S = some (.lst ys) := hK810 _ _ nSp (hK78 _ _ nSp eS)
        walk_at "rd"
        refine rd_appG eS10 (by omega) ?_
        walk_at "rd"
        have kU : KpLN [S, p] H10 (upd H10 S (.lst (ys ++ [u]))) := KpLN.at (by simp)
        have kl := (kl78.trans kl810).trans kU
        refine ⟨ys ++ [u], _, _, rfl, upd_same, by simp [hyl], fun y hy => ?_, hg7.kp kl, pool_at nSp hP10, fun b o nb e t => ?_, Tabs.setL eS10 hT10⟩
        · rcases List.mem_append.mp hy with hy | hy
          · exact (hys y hy).kp kl
          · rw [List.mem_singleton.mp hy]
            exact hu.kp kU
        · rw [upd_ne (ne_of_none e fS3)]
          exact hK810 _ _ nb (hK78 _ _ nb (hK7 _ _ nb e t))
      · obtain ⟨ys, x5, x6, rfl, eS, hyl, hys, hg7, hP7, hK7, hT7⟩ := hI
        obtain ⟨sp, wa, ho, rfl⟩ := len3 hyl
        refine rd_asg (rd_var rfl ?_)
        refine rd_glstB (SqL.of eS) rfl ?_
        walk_at "rd"
        obtain ⟨og, hG⟩ := gj_ex hg7
        have psp := hys sp List.mem_cons_self
        have pwa := hys wa (List.mem_cons_of_mem _ List.mem_cons_self)
        have pho := hys ho (List.mem_cons_of_mem _ (List.mem_cons_of_mem _ List.mem_cons_self))
        refine rd_cut (fun σ Hc => σ = [some (.ref a), some (.int (0 + (i : Int))), some (.ref p), some gv, some (.ref S), x5, x6, some sp, some wa, some ho] ∧ LamX.ExtN H7 Hc ∧ LamX.Tabs [(P_tab, qLam)] Hc) ?_ fun σe He hM => ?_
        · walk_at "rd"
          rename_i H20 hx20 hT20 Qn hqn
          have hG20 := hG.ext hx20
          have tsp := tyvE hx20 psp.ty
          have kn : KpLN [S, p] H7 H20 := .ofN hx20
          refine use_ldX hG20 tsp ⟨fun hog => Err.erM List.mem_cons_self fun p1 H21 s1 n1 e1 => ?_, fun os ix hog fi => Err.erM List.mem_cons_self fun p1 H21 s1 n1 e1 => ?_⟩ (fun os hog fn hk => Err.erM (List.mem_cons_of_mem _ List.mem_cons_self) fun p1 H21 s1 n1 e1 => ?_) (fun os hog fn hk v H21 s1 => hqn _ _ fun p1 H24 s2 n1 e1 => ?_)
          · subst hog
            walk_at "rd"
            rename_i lb hlb
            have sB : Same H21 (upd H21 lb (.lst [sp])) := same_new hlb
            refine use_dueG ((hG20.same (s1)).same sB) upd_same (fun y hy => by rw [List.mem_singleton.mp hy]; exact tyvS ((s1).trans sB) tsp) fun p2 H22 hp2 hs22 e22 => ?_
            have sA := ((s1).trans sB).trans hs22
            rw [dueG_none] at e22
            walk_at "rd"
            refine use_same (same2 (hs22 _ _ (sB _ _ e1)) e22 (sm_sc rfl)) fun H23 s23 => ?_
            walk_at "rd"
            exact ⟨rfl, extN_trans hx20 (extN_same (sA.trans s23)), Tabs.same (sA.trans s23) hT20⟩
          · subst hog
            walk_at "rd"
            rename_i lb hlb
            have sB : Same H21 (upd H21 lb (.lst [sp])) := same_new hlb
            refine use_dueG ((hG20.same (s1)).same sB) upd_same (fun y hy => by rw [List.mem_singleton.mp hy]; exact tyvS ((s1).trans sB) tsp) fun p2 H22 hp2 hs22 e22 => ?_
            have sA := ((s1).trans sB).trans hs22
            rw [dueG_plan fi] at e22
            walk_at "rd"
            refine use_same (same2 (hs22 _ _ (sB _ _ e1)) e22 (sm_sc rfl)) fun H23 s23 => ?_
            walk_at "rd"
            exact ⟨rfl, extN_trans hx20 (extN_same (sA.trans s23)), Tabs.same (sA.trans s23) hT20⟩
          · subst hog
            walk_at "rd"
            rename_i lb hlb
            have sB : Same H21 (upd H21 lb (.lst [sp])) := same_new hlb
            refine use_dueG ((hG20.same (s1)).same sB) upd_same (fun y hy => by rw [List.mem_singleton.mp hy]; exact tyvS ((s1).trans sB) tsp) fun p2 H22 hp2 hs22 e22 => ?_
            have sA := ((s1).trans sB).trans hs22
            rw [dueG_num (y := sp) fn (by simp [List.find?, hk])] at e22
            walk_at "rd"
            refine use_same (same2 (hs22 _ _ (sB _ _ e1)) e22 ((psp.kp (kn.trans (.of sA))).sm)) fun H23 s23 => ?_
            walk_at "rd"
            exact ⟨rfl, extN_trans hx20 (extN_same (sA.trans s23)), Tabs.same (sA.trans s23) hT20⟩
          · subst hog
            walk_at "rd"
            rename_i lb hlb
            have sB : Same H24 (upd H24 lb (.lst [sp])) := same_new hlb
            refine use_dueG ((hG20.same (s1.trans s2)).same sB) upd_same (fun y hy => by rw [List.mem_singleton.mp hy]; exact tyvS ((s1.trans s2).trans sB) tsp) fun p2 H22 hp2 hs22 e22 => ?_
            have sA := ((s1.trans s2).trans sB).trans hs22
            rw [dueG_fine fn (by simp [List.find?, hk])] at e22
            walk_at "rd"
            refine use_same (same2 (hs22 _ _ (sB _ _ e1)) e22 (sm_sc rfl)) fun H23 s23 => ?_
            walk_at "rd"
            exact ⟨rfl, extN_trans hx20 (extN_same (sA.trans s23)), Tabs.same (sA.trans s23) hT20⟩
        obtain ⟨rfl, hxe, hTe⟩ := hM
        have hGe := hG.ext hxe
        have eSe := hxe _ _ eS lst_ntbl
        walk_at "rd"
        rename_i H20 hx20 hT20 Qn hqn
        have hG20 := hGe.ext hx20
        have hx7 := extN_trans hxe hx20
        have tys : ∀ y ∈ [sp, wa, ho], TyV H20 y := fun y hy => tyvE hx7 (hys y hy).ty
        have kn : KpLN [S, p] H7 H20 := .ofN hx7
        refine use_padX hG20 tys ⟨fun hog => Err.erM List.mem_cons_self fun p1 H21 s1 n1 e1 => ?_, fun os ix hog fi => Err.erM List.mem_cons_self fun p1 H21 s1 n1 e1 => ?_⟩ (fun os yb hog fn hk => Err.erM (List.mem_cons_of_mem _ List.mem_cons_self) fun p1 H21 s1 n1 e1 => ?_) (fun os hog fn hk v H21 s1 => hqn _ _ fun p1 H24 s2 n1 e1 => ?_)
        · subst hog
          walk_at "rd"
          refine use_dueG (hG20.same (s1)) ((s1) _ _ (hx20 _ _ eSe lst_ntbl)) (fun y hy => tyvS (s1) (tys y hy)) fun p2 H22 hp2 hs22 e22 => ?_
          have sA := (s1).trans hs22
          rw [dueG_none] at e22
          walk_at "rd"
          refine use_same (same2 (hs22 _ _ e1) e22 (sm_sc rfl)) fun H23 s23 => ?_
          walk_at "rd"
          exact ⟨_, _, _, _, _, _, _, _, _, rfl, close_turnN hs2 hp0 hs3 (hK7.trans (KpN.ofN (extN_trans hxe (extN_trans hx20 (extN_same (sA.trans s23)))))), Tabs.same (sA.trans s23) hT20⟩
        · subst hog
          walk_at "rd"
          refine use_dueG (hG20.same (s1)) ((s1) _ _ (hx20 _ _ eSe lst_ntbl)) (fun y hy => tyvS (s1) (tys y hy)) fun p2 H22 hp2 hs22 e22 => ?_
          have sA := (s1).trans hs22
          rw [dueG_plan fi] at e22
          walk_at "rd"
          refine use_same (same2 (hs22 _ _ e1) e22 (sm_sc rfl)) fun H23 s23 => ?_
          walk_at "rd"
          exact ⟨_, _, _, _, _, _, _, _, _, rfl, close_turnN hs2 hp0 hs3 (hK7.trans (KpN.ofN (extN_trans hxe (extN_trans hx20 (extN_same (sA.trans s23)))))), Tabs.same (sA.trans s23) hT20⟩
        · subst hog
          walk_at "rd"
          refine use_dueG (hG20.same (s1)) ((s1) _ _ (hx20 _ _ eSe lst_ntbl)) (fun y hy => tyvS (s1) (tys y hy)) fun p2 H22 hp2 hs22 e22 => ?_
          have sA := (s1).trans hs22
          rw [dueG_num fn hk] at e22
          walk_at "rd"
          refine use_same (same2 (hs22 _ _ e1) e22 (((hys yb (List.mem_of_find?_eq_some hk)).kp (kn.trans (.of sA))).sm)) fun H23 s23 => ?_
          walk_at "rd"
          exact ⟨_, _, _, _, _, _, _, _, _, rfl, close_turnN hs2 hp0 hs3 (hK7.trans (KpN.ofN (extN_trans hxe (extN_trans hx20 (extN_same (sA.trans s23)))))), Tabs.same (sA.trans s23) hT20⟩
        · subst hog
          walk_at "rd"
          refine use_dueG (hG20.same (s1.trans s2)) ((s1.trans s2) _ _ (hx20 _ _ eSe lst_ntbl)) (fun y hy => tyvS (s1.trans s2) (tys y hy)) fun p2 H22 hp2 hs22 e22 => ?_
          have sA := (s1.trans s2).trans hs22
          rw [dueG_fine fn hk] at e22
          walk_at "rd"
          refine use_same (same2 (hs22 _ _ e1) e22 (sm_sc rfl)) fun H23 s23 => ?_
          walk_at "rd"
          exact ⟨_, _, _, _, _, _, _, _, _, rfl, close_turnN hs2 hp0 hs3 (hK7.trans (KpN.ofN (extN_trans hxe (extN_trans hx20 (extN_same (sA.trans s23)))))), Tabs.same (sA.trans s23) hT20⟩
    · obtain ⟨x1, x2, x3, x4, x5, x6, x7, x8, x9, rfl, hs2, hT2⟩ := hI
      walk_at "rd"
      exact q _
end
theorem all_mk {l : PySem.W.OpenLaw} {w : World} {K : PySem.W.Frag} {h : Heap} {mg mb : Str → Option Value} {fa : Addr} {q : Program} {loose : List Str} {XP : (Str → Option Value) → Heap → Prop} {s0 : Shared} {dLaw : DefRec} {c_law P_tab : Addr}
    (Gd : PySem.W.Ground q loose [] XP w s0 mg mb h) (X : K.In h) (G : h.Ns mainGlobals mg) (hfa : mg "law" = some (.ref fa))
    {f_is_integer : Addr} {od_is_integer an_is_integer : Option Addr} {sl_is_integer : Array (Option Value)} {oc_is_integer kV_is_integer dc_is_integer pm_is_integer cd_is_integer ct_is_integer : Value}
    (a_is_integer : PySem.W.nsIn K mainGlobals "is_integer" = some (some (.ref f_is_integer))) (l_is_integer : K.lookup f_is_integer = some ⟨oc_is_integer, od_is_integer, .func (PySem.W.fnOf "is_integer" "is_integer" (defArgs s_is_integer) (defBody s_is_integer) (defScope s_is_integer) .none kV_is_integer dc_is_integer pm_is_integer an_is_integer (cd_is_integer) ct_is_integer), sl_is_integer⟩) (c_is_integer' : PySem.W.codeIn K (cd_is_integer) "is_integer" = true) (k_is_integer : PySem.W.keepIn K (.ref f_is_integer) = true)
    {f_is_within : Addr} {od_is_within an_is_within : Option Addr} {sl_is_within : Array (Option Value)} {oc_is_within kV_is_within dc_is_within pm_is_within cd_is_within ct_is_within : Value}
    (a_is_within : PySem.W.nsIn K mainGlobals "is_within" = some (some (.ref f_is_within))) (l_is_within : K.lookup f_is_within = some ⟨oc_is_within, od_is_within, .func (PySem.W.fnOf "is_within" "is_within" (defArgs s_is_within) (defBody s_is_within) (defScope s_is_within) .none kV_is_within dc_is_within pm_is_within an_is_within (cd_is_within) ct_is_within), sl_is_within⟩) (c_is_within' : PySem.W.codeIn K (cd_is_within) "is_within" = true) (k_is_within : PySem.W.keepIn K (.ref f_is_within) = true)
    {f_check_within : Addr} {od_check_within an_check_within : Option Addr} {sl_check_within : Array (Option Value)} {oc_check_within kV_check_within dc_check_within pm_check_within cd_check_within ct_check_within : Value}
    (a_check_within : PySem.W.nsIn K mainGlobals "check_within" = some (some (.ref f_check_within))) (l_check_within : K.lookup f_check_within = some ⟨oc_check_within, od_check_within, .func (PySem.W.fnOf "check_within" "check_within" (defArgs s_check_within) (defBody s_check_within) (defScope s_check_within) .none kV_check_within dc_check_within pm_check_within an_check_within (cd_check_within) ct_check_within), sl_check_within⟩) (c_check_within' : PySem.W.codeIn K (cd_check_within) "check_within" = true) (k_check_within : PySem.W.keepIn K (.ref f_check_within) = true)
    {f_least_delay : Addr} {od_least_delay an_least_delay : Option Addr} {sl_least_delay : Array (Option Value)} {oc_least_delay kV_least_delay dc_least_delay pm_least_delay cd_least_delay ct_least_delay : Value}
    (a_least_delay : PySem.W.nsIn K mainGlobals "least_delay" = some (some (.ref f_least_delay))) (l_least_delay : K.lookup f_least_delay = some ⟨oc_least_delay, od_least_delay, .func (PySem.W.fnOf "least_delay" "least_delay" (defArgs s_least_delay) (defBody s_least_delay) (defScope s_least_delay) .none kV_least_delay dc_least_delay pm_least_delay an_least_delay (cd_least_delay) ct_least_delay), sl_least_delay⟩) (c_least_delay' : PySem.W.codeIn K (cd_least_delay) "least_delay" = true) (k_least_delay : PySem.W.keepIn K (.ref f_least_delay) = true)
    {f_check_sizes : Addr} {od_check_sizes an_check_sizes : Option Addr} {sl_check_sizes : Array (Option Value)} {oc_check_sizes kV_check_sizes dc_check_sizes pm_check_sizes cd_check_sizes ct_check_sizes : Value}
    (a_check_sizes : PySem.W.nsIn K mainGlobals "check_sizes" = some (some (.ref f_check_sizes))) (l_check_sizes : K.lookup f_check_sizes = some ⟨oc_check_sizes, od_check_sizes, .func (PySem.W.fnOf "check_sizes" "check_sizes" (defArgs s_check_sizes) (defBody s_check_sizes) (defScope s_check_sizes) .none kV_check_sizes dc_check_sizes pm_check_sizes an_check_sizes (cd_check_sizes) ct_check_sizes), sl_check_sizes⟩) (c_check_sizes' : PySem.W.codeIn K (cd_check_sizes) "check_sizes" = true) (k_check_sizes : PySem.W.keepIn K (.ref f_check_sizes) = true)
    {f_is_size : Addr} {od_is_size an_is_size : Option Addr} {sl_is_size : Array (Option Value)} {oc_is_size kV_is_size dc_is_size pm_is_size cd_is_size ct_is_size : Value}
    (a_is_size : PySem.W.nsIn K mainGlobals "is_size" = some (some (.ref f_is_size))) (l_is_size : K.lookup f_is_size = some ⟨oc_is_size, od_is_size, .func (PySem.W.fnOf "is_size" "is_size" (defArgs s_is_size) (defBody s_is_size) (defScope s_is_size) .none kV_is_size dc_is_size pm_is_size an_is_size (cd_is_size) ct_is_size), sl_is_size⟩) (c_is_size' : PySem.W.codeIn K (cd_is_size) "is_size" = true) (k_is_size : PySem.W.keepIn K (.ref f_is_size) = true)
    {f_padding : Addr} {od_padding an_padding : Option Addr} {sl_padding : Array (Option Value)} {oc_padding kV_padding dc_padding pm_padding cd_padding ct_padding : Value}
    (a_padding : PySem.W.nsIn K mainGlobals "padding" = some (some (.ref f_padding))) (l_padding : K.lookup f_padding = some ⟨oc_padding, od_padding, .func (PySem.W.fnOf "padding" "padding" (defArgs s_padding) (defBody s_padding) (defScope s_padding) .none kV_padding dc_padding pm_padding an_padding (cd_padding) ct_padding), sl_padding⟩) (c_padding' : PySem.W.codeIn K (cd_padding) "padding" = true) (k_padding : PySem.W.keepIn K (.ref f_padding) = true)
    {f_pool : Addr} {od_pool an_pool : Option Addr} {sl_pool : Array (Option Value)} {oc_pool kV_pool dc_pool pm_pool cd_pool ct_pool : Value}
    (a_pool : PySem.W.nsIn K mainGlobals "_law_pool" = some (some (.ref f_pool))) (l_pool : K.lookup f_pool = some ⟨oc_pool, od_pool, .func (PySem.W.fnOf "_law_pool" "_law_pool" (defArgs s_pool) (defBody s_pool) (defScope s_pool) .none kV_pool dc_pool pm_pool an_pool (cd_pool) ct_pool), sl_pool⟩) (c_pool' : PySem.W.codeIn K (cd_pool) "_law_pool" = true) (k_pool : PySem.W.keepIn K (.ref f_pool) = true)
    {f_take : Addr} {od_take an_take : Option Addr} {sl_take : Array (Option Value)} {oc_take kV_take dc_take pm_take cd_take ct_take : Value}
    (a_take : PySem.W.nsIn K mainGlobals "_law_take" = some (some (.ref f_take))) (l_take : K.lookup f_take = some ⟨oc_take, od_take, .func (PySem.W.fnOf "_law_take" "_law_take" (defArgs s_take) (defBody s_take) (defScope s_take) .none kV_take dc_take pm_take an_take (cd_take) ct_take), sl_take⟩) (c_take' : PySem.W.codeIn K (cd_take) "_law_take" = true) (k_take : PySem.W.keepIn K (.ref f_take) = true)
    {f_same : Addr} {od_same an_same : Option Addr} {sl_same : Array (Option Value)} {oc_same kV_same dc_same pm_same cd_same ct_same : Value}
    (a_same : PySem.W.nsIn K mainGlobals "_law_same" = some (some (.ref f_same))) (l_same : K.lookup f_same = some ⟨oc_same, od_same, .func (PySem.W.fnOf "_law_same" "_law_same" (defArgs s_same) (defBody s_same) (defScope s_same) .none kV_same dc_same pm_same an_same (cd_same) ct_same), sl_same⟩) (c_same' : PySem.W.codeIn K (cd_same) "_law_same" = true) (k_same : PySem.W.keepIn K (.ref f_same) = true)
    {f_is_between : Addr} {od_is_between an_is_between : Option Addr} {sl_is_between : Array (Option Value)} {oc_is_between kV_is_between dc_is_between pm_is_between cd_is_between ct_is_between : Value}
    (a_is_between : PySem.W.nsIn K mainGlobals "_law_is_between" = some (some (.ref f_is_between))) (l_is_between : K.lookup f_is_between = some ⟨oc_is_between, od_is_between, .func (PySem.W.fnOf "_law_is_between" "_law_is_between" (defArgs s_is_between) (defBody s_is_between) (defScope s_is_between) .none kV_is_between dc_is_between pm_is_between an_is_between (cd_is_between) ct_is_between), sl_is_between⟩) (c_is_between' : PySem.W.codeIn K (cd_is_between) "_law_is_between" = true) (k_is_between : PySem.W.keepIn K (.ref f_is_between) = true)
    {f_due : Addr} {od_due an_due : Option Addr} {sl_due : Array (Option Value)} {oc_due kV_due dc_due pm_due cd_due ct_due : Value}
    (a_due : PySem.W.nsIn K mainGlobals "_law_due" = some (some (.ref f_due))) (l_due : K.lookup f_due = some ⟨oc_due, od_due, .func (PySem.W.fnOf "_law_due" "_law_due" (defArgs s_due) (defBody s_due) (defScope s_due) .none kV_due dc_due pm_due an_due (cd_due) ct_due), sl_due⟩) (c_due' : PySem.W.codeIn K (cd_due) "_law_due" = true) (k_due : PySem.W.keepIn K (.ref f_due) = true)
    {f_told : Addr} {od_told an_told : Option Addr} {sl_told : Array (Option Value)} {oc_told kV_told dc_told pm_told cd_told ct_told : Value}
    (a_told : PySem.W.nsIn K mainGlobals "_law_told" = some (some (.ref f_told))) (l_told : K.lookup f_told = some ⟨oc_told, od_told, .func (PySem.W.fnOf "_law_told" "_law_told" (defArgs s_told) (defBody s_told) (defScope s_told) .none kV_told dc_told pm_told an_told (cd_told) ct_told), sl_told⟩) (c_told' : PySem.W.codeIn K (cd_told) "_law_told" = true) (k_told : PySem.W.keepIn K (.ref f_told) = true)
    {f_given : Addr} {od_given an_given : Option Addr} {sl_given : Array (Option Value)} {oc_given kV_given dc_given pm_given cd_given ct_given : Value}
    (a_given : PySem.W.nsIn K mainGlobals "_law_given" = some (some (.ref f_given))) (l_given : K.lookup f_given = some ⟨oc_given, od_given, .func (PySem.W.fnOf "_law_given" "_law_given" (defArgs s_given) (defBody s_given) (defScope s_given) .none kV_given dc_given pm_given an_given (cd_given) ct_given), sl_given⟩) (c_given' : PySem.W.codeIn K (cd_given) "_law_given" = true) (k_given : PySem.W.keepIn K (.ref f_given) = true)
    {f_law : Addr} {od_law an_law : Option Addr} {sl_law : Array (Option Value)} {oc_law kV_law dc_law pm_law ct_law : Value}
    (a_law : PySem.W.nsIn K mainGlobals "law" = some (some (.ref f_law))) (l_law : K.lookup f_law = some ⟨oc_law, od_law, .func (PySem.W.fnOf "law" "law" (defArgs s_law) (defBody s_law) (defScope s_law) .none kV_law dc_law pm_law an_law (.ref c_law) ct_law), sl_law⟩) (c_law' : PySem.W.codeIn K (.ref c_law) "law" = true) (k_law : PySem.W.keepIn K (.ref f_law) = true)
    {t_BUDGET_LIMIT : Tok}
    (a_BUDGET_LIMIT : PySem.W.nsIn K mainGlobals "BUDGET_LIMIT" = some (some (.int 1000000000 t_BUDGET_LIMIT)))
    (z_int : PySem.W.nsIn K mainGlobals "int" = some none)
    (z_bool : PySem.W.nsIn K mainGlobals "bool" = some none)
    (z_str : PySem.W.nsIn K mainGlobals "str" = some none)
    (z_list : PySem.W.nsIn K mainGlobals "list" = some none)
    (z_tuple : PySem.W.nsIn K mainGlobals "tuple" = some none)
    (z_len : PySem.W.nsIn K mainGlobals "len" = some none)
    (z_abs : PySem.W.nsIn K mainGlobals "abs" = some none)
    (z_max : PySem.W.nsIn K mainGlobals "max" = some none)
    (z_min : PySem.W.nsIn K mainGlobals "min" = some none)
    (z_range : PySem.W.nsIn K mainGlobals "range" = some none)
    (z_zip : PySem.W.nsIn K mainGlobals "zip" = some none)
    (z_isinstance : PySem.W.nsIn K mainGlobals "isinstance" = some none)
    (z_enumerate : PySem.W.nsIn K mainGlobals "enumerate" = some none)
    (z_reversed : PySem.W.nsIn K mainGlobals "reversed" = some none)
    {C_JoinError C_InvalidPlan C_InvalidNumber C_InvalidPlace : Addr}
    (x_JoinError : PySem.W.nsIn K mainGlobals "JoinError" = some (some (.ref C_JoinError)))
    (x_InvalidPlan : PySem.W.nsIn K mainGlobals "InvalidPlan" = some (some (.ref C_InvalidPlan)))
    (x_InvalidNumber : PySem.W.nsIn K mainGlobals "InvalidNumber" = some (some (.ref C_InvalidNumber)))
    (x_InvalidPlace : PySem.W.nsIn K mainGlobals "InvalidPlace" = some (some (.ref C_InvalidPlace)))
    {N_InvalidPlan fI_InvalidPlan : Addr} {nm_InvalidPlan qn_InvalidPlan : Str} {bs_InvalidPlan : List Value} {sn_InvalidPlan : List Str} {sb_InvalidPlan : List Value} {ab_InvalidPlan : Bool} {co_InvalidPlan : Option Bool} {dd_InvalidPlan : Option Addr} {m0_InvalidPlan m1_InvalidPlan m2_InvalidPlan m3_InvalidPlan m5_InvalidPlan : Option Value} {odi_InvalidPlan ani_InvalidPlan : Option Addr} {sli_InvalidPlan : Array (Option Value)} {oci_InvalidPlan kVi_InvalidPlan dci_InvalidPlan pmi_InvalidPlan cdi_InvalidPlan cti_InvalidPlan : Value}
    (xl_InvalidPlan : K.lookup C_InvalidPlan = some (PySem.excClassObj nm_InvalidPlan qn_InvalidPlan C_InvalidPlan N_InvalidPlan bs_InvalidPlan [.ref C_JoinError, .type "ValueError", .type "Exception", .type "BaseException", .type "object"] true sn_InvalidPlan sb_InvalidPlan ab_InvalidPlan co_InvalidPlan dd_InvalidPlan m0_InvalidPlan m1_InvalidPlan m2_InvalidPlan m3_InvalidPlan m5_InvalidPlan "ValueError.__new__"))
    (sa_InvalidPlan : PySem.W.findIn K (.ref C_InvalidPlan) "__setattr__" = some (some (.builtin "object.__setattr__")))
    (ga_InvalidPlan : PySem.W.findIn K (.ref C_InvalidPlan) "__getattribute__" = some (some (.builtin "BaseException.__getattribute__")))
    (gg_InvalidPlan : PySem.W.findIn K (.ref C_InvalidPlan) "__getattr__" = some none)
    (nf_InvalidPlan : PySem.W.findIn K (.ref C_InvalidPlan) "index" = some none)
    (ic_InvalidPlan : PySem.W.findIn K (.ref C_InvalidPlan) "__init__" = some (some (.ref fI_InvalidPlan)))
    (ti_InvalidPlan : PySem.W.typeIn K (.ref fI_InvalidPlan) = some (.type "function"))
    (ca_InvalidPlan : PySem.W.findIn K (.ref C_InvalidPlan) "__class__" = some (some (.builtin "object.__class__")))
    (cm_InvalidPlan : PySem.W.mroIn K C_InvalidPlan (.type "object") = some true)
    (kc_InvalidPlan : PySem.W.keepIn K (.ref C_InvalidPlan) = true)
    (sB_InvalidPlan : PySem.W.subIn K (.ref C_InvalidPlan) (.type "BaseException") = some true)
    (tc_InvalidPlan : PySem.W.typeIn K (.ref C_InvalidPlan) = some (.type "type"))
    (hd_InvalidPlan : PySem.W.hasDictIn K C_InvalidPlan = true)
    (ss_InvalidPlan : PySem.W.subIn K (.ref C_InvalidPlan) (.ref C_InvalidPlan) = some true)
    (li_InvalidPlan : K.lookup fI_InvalidPlan = some ⟨oci_InvalidPlan, odi_InvalidPlan, .func (PySem.W.fnOf "__init__" "InvalidPlan.__init__" (defArgs s_init_InvalidPlan) (defBody s_init_InvalidPlan) (defScope s_init_InvalidPlan) .none kVi_InvalidPlan dci_InvalidPlan pmi_InvalidPlan ani_InvalidPlan cdi_InvalidPlan cti_InvalidPlan), sli_InvalidPlan⟩)
    (ci_InvalidPlan : PySem.W.codeIn K cdi_InvalidPlan "InvalidPlan.__init__" = true)
    (ki_InvalidPlan : PySem.W.keepIn K (.ref fI_InvalidPlan) = true)
    {N_InvalidNumber fI_InvalidNumber : Addr} {nm_InvalidNumber qn_InvalidNumber : Str} {bs_InvalidNumber : List Value} {sn_InvalidNumber : List Str} {sb_InvalidNumber : List Value} {ab_InvalidNumber : Bool} {co_InvalidNumber : Option Bool} {dd_InvalidNumber : Option Addr} {m0_InvalidNumber m1_InvalidNumber m2_InvalidNumber m3_InvalidNumber m5_InvalidNumber : Option Value} {odi_InvalidNumber ani_InvalidNumber : Option Addr} {sli_InvalidNumber : Array (Option Value)} {oci_InvalidNumber kVi_InvalidNumber dci_InvalidNumber pmi_InvalidNumber cdi_InvalidNumber cti_InvalidNumber : Value}
    (xl_InvalidNumber : K.lookup C_InvalidNumber = some (PySem.excClassObj nm_InvalidNumber qn_InvalidNumber C_InvalidNumber N_InvalidNumber bs_InvalidNumber [.ref C_JoinError, .type "ValueError", .type "Exception", .type "BaseException", .type "object"] true sn_InvalidNumber sb_InvalidNumber ab_InvalidNumber co_InvalidNumber dd_InvalidNumber m0_InvalidNumber m1_InvalidNumber m2_InvalidNumber m3_InvalidNumber m5_InvalidNumber "ValueError.__new__"))
    (sa_InvalidNumber : PySem.W.findIn K (.ref C_InvalidNumber) "__setattr__" = some (some (.builtin "object.__setattr__")))
    (ga_InvalidNumber : PySem.W.findIn K (.ref C_InvalidNumber) "__getattribute__" = some (some (.builtin "BaseException.__getattribute__")))
    (gg_InvalidNumber : PySem.W.findIn K (.ref C_InvalidNumber) "__getattr__" = some none)
    (nf_InvalidNumber : PySem.W.findIn K (.ref C_InvalidNumber) "value" = some none)
    (ic_InvalidNumber : PySem.W.findIn K (.ref C_InvalidNumber) "__init__" = some (some (.ref fI_InvalidNumber)))
    (ti_InvalidNumber : PySem.W.typeIn K (.ref fI_InvalidNumber) = some (.type "function"))
    (ca_InvalidNumber : PySem.W.findIn K (.ref C_InvalidNumber) "__class__" = some (some (.builtin "object.__class__")))
    (cm_InvalidNumber : PySem.W.mroIn K C_InvalidNumber (.type "object") = some true)
    (kc_InvalidNumber : PySem.W.keepIn K (.ref C_InvalidNumber) = true)
    (sB_InvalidNumber : PySem.W.subIn K (.ref C_InvalidNumber) (.type "BaseException") = some true)
    (tc_InvalidNumber : PySem.W.typeIn K (.ref C_InvalidNumber) = some (.type "type"))
    (hd_InvalidNumber : PySem.W.hasDictIn K C_InvalidNumber = true)
    (ss_InvalidNumber : PySem.W.subIn K (.ref C_InvalidNumber) (.ref C_InvalidNumber) = some true)
    (li_InvalidNumber : K.lookup fI_InvalidNumber = some ⟨oci_InvalidNumber, odi_InvalidNumber, .func (PySem.W.fnOf "__init__" "InvalidNumber.__init__" (defArgs s_init_InvalidNumber) (defBody s_init_InvalidNumber) (defScope s_init_InvalidNumber) .none kVi_InvalidNumber dci_InvalidNumber pmi_InvalidNumber ani_InvalidNumber cdi_InvalidNumber cti_InvalidNumber), sli_InvalidNumber⟩)
    (ci_InvalidNumber : PySem.W.codeIn K cdi_InvalidNumber "InvalidNumber.__init__" = true)
    (ki_InvalidNumber : PySem.W.keepIn K (.ref fI_InvalidNumber) = true)
    (cn : PySem.W.specialIn K (.builtin "object.__class__") "__get__" = some (some (.builtin "getset_descriptor.__get__"))) (ct : PySem.W.takesIn K (.builtin "object.__class__") = some true)
    (u_InvalidPlan_JoinError : PySem.W.subIn K (.ref C_InvalidPlan) (.ref C_JoinError) = some true) (n_InvalidPlan_JoinError : C_InvalidPlan ≠ C_JoinError)
    (y_JoinError : PySem.W.typeIn K (.ref C_JoinError) = some (.type "type")) (i_JoinError : PySem.W.isClsIn K C_JoinError = true)
    (u_InvalidPlan_InvalidNumber : PySem.W.subIn K (.ref C_InvalidPlan) (.ref C_InvalidNumber) = some false) (n_InvalidPlan_InvalidNumber : C_InvalidPlan ≠ C_InvalidNumber)
    (y_InvalidNumber : PySem.W.typeIn K (.ref C_InvalidNumber) = some (.type "type")) (i_InvalidNumber : PySem.W.isClsIn K C_InvalidNumber = true)
    (u_InvalidNumber_JoinError : PySem.W.subIn K (.ref C_InvalidNumber) (.ref C_JoinError) = some true) (n_InvalidNumber_JoinError : C_InvalidNumber ≠ C_JoinError)
    (u_InvalidNumber_InvalidPlace : PySem.W.subIn K (.ref C_InvalidNumber) (.ref C_InvalidPlace) = some false) (n_InvalidNumber_InvalidPlace : C_InvalidNumber ≠ C_InvalidPlace)
    (y_InvalidPlace : PySem.W.typeIn K (.ref C_InvalidPlace) = some (.type "type")) (i_InvalidPlace : PySem.W.isClsIn K C_InvalidPlace = true)
    (w_InvalidNumber_InvalidPlan : PySem.W.subIn K (.ref C_InvalidNumber) (.ref C_InvalidPlan) = some false)
    (hr_tab : (recsOf q).find? (fun e => e.name == (PySem.Str.ofString "law")) = some dLaw) (ht_tab : PySem.W.tabIn K (PySem.Str.ofString "law") = some (c_law, P_tab)) (hn_tab : K.lookup P_tab = none)
    : LamX.LawAtS l w K CX0 8 63 "_law_script" mg fa h := by
  have e := hfa.symm.trans (PySem.W.mg_of X G a_law)
  cases e
  have bi : Bi mg := ⟨PySem.W.mg_none_of X G z_int, PySem.W.mg_none_of X G z_bool, PySem.W.mg_none_of X G z_str, PySem.W.mg_none_of X G z_list, PySem.W.mg_none_of X G z_tuple, PySem.W.mg_none_of X G z_len, PySem.W.mg_none_of X G z_abs, PySem.W.mg_none_of X G z_max, PySem.W.mg_none_of X G z_min, PySem.W.mg_none_of X G z_range, PySem.W.mg_none_of X G z_zip, PySem.W.mg_none_of X G z_isinstance, PySem.W.mg_none_of X G z_enumerate, PySem.W.mg_none_of X G z_reversed⟩
  have F_is_integer := fun_mk (st := s_is_integer) l_is_integer c_is_integer' k_is_integer
  have D_is_integer : Dn K mg "is_integer" s_is_integer ["value"] _ _ := ⟨F_is_integer, PySem.W.mg_of X G a_is_integer, F_is_integer.binds (ps := ["value"]) fun _ _ _ _ _ _ us hl => match us, hl with | [_], _ => rfl⟩
  have F_is_within := fun_mk (st := s_is_within) l_is_within c_is_within' k_is_within
  have D_is_within : Dn K mg "is_within" s_is_within ["value", "low", "high"] _ _ := ⟨F_is_within, PySem.W.mg_of X G a_is_within, F_is_within.binds (ps := ["value", "low", "high"]) fun _ _ _ _ _ _ us hl => match us, hl with | [_, _, _], _ => rfl⟩
  have F_check_within := fun_mk (st := s_check_within) l_check_within c_check_within' k_check_within
  have D_check_within : Dn K mg "check_within" s_check_within ["value", "low", "high"] _ _ := ⟨F_check_within, PySem.W.mg_of X G a_check_within, F_check_within.binds (ps := ["value", "low", "high"]) fun _ _ _ _ _ _ us hl => match us, hl with | [_, _, _], _ => rfl⟩
  have F_least_delay := fun_mk (st := s_least_delay) l_least_delay c_least_delay' k_least_delay
  have D_least_delay : Dn K mg "least_delay" s_least_delay ["sizes", "rate"] _ _ := ⟨F_least_delay, PySem.W.mg_of X G a_least_delay, F_least_delay.binds (ps := ["sizes", "rate"]) fun _ _ _ _ _ _ us hl => match us, hl with | [_, _], _ => rfl⟩
  have F_check_sizes := fun_mk (st := s_check_sizes) l_check_sizes c_check_sizes' k_check_sizes
  have D_check_sizes : Dn K mg "check_sizes" s_check_sizes ["sizes"] _ _ := ⟨F_check_sizes, PySem.W.mg_of X G a_check_sizes, F_check_sizes.binds (ps := ["sizes"]) fun _ _ _ _ _ _ us hl => match us, hl with | [_], _ => rfl⟩
  have F_is_size := fun_mk (st := s_is_size) l_is_size c_is_size' k_is_size
  have D_is_size : Dn K mg "is_size" s_is_size ["value"] _ _ := ⟨F_is_size, PySem.W.mg_of X G a_is_size, F_is_size.binds (ps := ["value"]) fun _ _ _ _ _ _ us hl => match us, hl with | [_], _ => rfl⟩
  have F_padding := fun_mk (st := s_padding) l_padding c_padding' k_padding
  have D_padding : Dn K mg "padding" s_padding ["sizes", "rate", "delay", "store"] _ _ := ⟨F_padding, PySem.W.mg_of X G a_padding, F_padding.binds (ps := ["sizes", "rate", "delay", "store"]) fun _ _ _ _ _ _ us hl => match us, hl with | [_, _, _, _], _ => rfl⟩
  have F_pool := fun_mk (st := s_pool) l_pool c_pool' k_pool
  have D_pool : Dn K mg "_law_pool" s_pool ["_law_script", "_law_k"] _ _ := ⟨F_pool, PySem.W.mg_of X G a_pool, F_pool.binds (ps := ["_law_script", "_law_k"]) fun _ _ _ _ _ _ us hl => match us, hl with | [_, _], _ => rfl⟩
  have F_take := fun_mk (st := s_take) l_take c_take' k_take
  have D_take : Dn K mg "_law_take" s_take ["_law_pool_here", "_law_many"] _ _ := ⟨F_take, PySem.W.mg_of X G a_take, F_take.binds (ps := ["_law_pool_here", "_law_many"]) fun _ _ _ _ _ _ us hl => match us, hl with | [_, _], _ => rfl⟩
  have F_same := fun_mk (st := s_same) l_same c_same' k_same
  have D_same : Dn K mg "_law_same" s_same ["_law_actual", "_law_due_here"] _ _ := ⟨F_same, PySem.W.mg_of X G a_same, F_same.binds (ps := ["_law_actual", "_law_due_here"]) fun _ _ _ _ _ _ us hl => match us, hl with | [_, _], _ => rfl⟩
  have F_is_between := fun_mk (st := s_is_between) l_is_between c_is_between' k_is_between
  have D_is_between : Dn K mg "_law_is_between" s_is_between ["_law_one", "_law_least", "_law_most"] _ _ := ⟨F_is_between, PySem.W.mg_of X G a_is_between, F_is_between.binds (ps := ["_law_one", "_law_least", "_law_most"]) fun _ _ _ _ _ _ us hl => match us, hl with | [_, _, _], _ => rfl⟩
  have F_due := fun_mk (st := s_due) l_due c_due' k_due
  have D_due : Dn K mg "_law_due" s_due ["_law_given_here", "_law_numbers"] _ _ := ⟨F_due, PySem.W.mg_of X G a_due, F_due.binds (ps := ["_law_given_here", "_law_numbers"]) fun _ _ _ _ _ _ us hl => match us, hl with | [_, _], _ => rfl⟩
  have F_told := fun_mk (st := s_told) l_told c_told' k_told
  have D_told : Dn K mg "_law_told" s_told ["_law_call"] _ _ := ⟨F_told, PySem.W.mg_of X G a_told, F_told.binds (ps := ["_law_call"]) fun _ _ _ _ _ _ us hl => match us, hl with | [_], _ => rfl⟩
  have F_given := fun_mk (st := s_given) l_given c_given' k_given
  have D_given : Dn K mg "_law_given" s_given ["_law_pool_here"] _ _ := ⟨F_given, PySem.W.mg_of X G a_given, F_given.binds (ps := ["_law_pool_here"]) fun _ _ _ _ _ _ us hl => match us, hl with | [_], _ => rfl⟩
  have F_init_InvalidPlan := fun_mk (st := s_init_InvalidPlan) li_InvalidPlan ci_InvalidPlan ki_InvalidPlan
  have B_init_InvalidPlan := F_init_InvalidPlan.binds (ps := ["self", "index"]) fun _ _ _ _ _ _ us hl => match us, hl with | [_, _], _ => rfl
  have E_InvalidPlan : EC K mg "InvalidPlan" "index" C_InvalidPlan fI_InvalidPlan := ec_mk (PySem.W.mg_of X G x_InvalidPlan) xl_InvalidPlan rfl sa_InvalidPlan ga_InvalidPlan gg_InvalidPlan nf_InvalidPlan ic_InvalidPlan ti_InvalidPlan ca_InvalidPlan cn ct cm_InvalidPlan kc_InvalidPlan sB_InvalidPlan tc_InvalidPlan hd_InvalidPlan ss_InvalidPlan
  have F_init_InvalidNumber := fun_mk (st := s_init_InvalidNumber) li_InvalidNumber ci_InvalidNumber ki_InvalidNumber
  have B_init_InvalidNumber := F_init_InvalidNumber.binds (ps := ["self", "value"]) fun _ _ _ _ _ _ us hl => match us, hl with | [_, _], _ => rfl
  have E_InvalidNumber : EC K mg "InvalidNumber" "value" C_InvalidNumber fI_InvalidNumber := ec_mk (PySem.W.mg_of X G x_InvalidNumber) xl_InvalidNumber rfl sa_InvalidNumber ga_InvalidNumber gg_InvalidNumber nf_InvalidNumber ic_InvalidNumber ti_InvalidNumber ca_InvalidNumber cn ct cm_InvalidNumber kc_InvalidNumber sB_InvalidNumber tc_InvalidNumber hd_InvalidNumber ss_InvalidNumber
  have g_JoinError := PySem.W.mg_of X G x_JoinError
  have g_InvalidPlan := PySem.W.mg_of X G x_InvalidPlan
  have g_InvalidNumber := PySem.W.mg_of X G x_InvalidNumber
  have g_InvalidPlace := PySem.W.mg_of X G x_InvalidPlace
  have q_InvalidPlan_JoinError := kit_ref u_InvalidPlan_JoinError n_InvalidPlan_JoinError i_JoinError y_JoinError
  have q_InvalidPlan_InvalidNumber := kit_ref u_InvalidPlan_InvalidNumber n_InvalidPlan_InvalidNumber i_InvalidNumber y_InvalidNumber
  have q_InvalidNumber_JoinError := kit_ref u_InvalidNumber_JoinError n_InvalidNumber_JoinError i_JoinError y_JoinError
  have q_InvalidNumber_InvalidPlace := kit_ref u_InvalidNumber_InvalidPlace n_InvalidNumber_InvalidPlace i_InvalidPlace y_InvalidPlace
  have m_InvalidNumber_InvalidPlan := PySem.W.exm_ref sB_InvalidPlan hd_InvalidPlan tc_InvalidPlan w_InvalidNumber_InvalidPlan
  obtain ⟨hCh, hTab⟩ := PySem.W.tab_of Gd.T X hr_tab ht_tab
  refine ⟨PySem.W.fnOf "law" "law" (defArgs s_law) (defBody s_law) (defScope s_law) .none kV_law dc_law pm_law an_law (.ref c_law) ct_law, [(c_law, P_tab)], spLawT K [(P_tab, qLam)], ?_, ?_, ?_, fun s v => .of_eq rfl, fun H a ns h1 _ hT hS => ⟨a, ns, rfl, hS, h1, ?_, fun _ => rfl⟩, fun base _ _ hTB => ?_⟩
  · intro p hp
    rw [List.mem_singleton.mp hp]
    exact hTab
  · intro p hp
    rw [List.mem_singleton.mp hp]
    exact hn_tab
  · intro p hp
    rw [List.mem_singleton.mp hp]
    exact hCh
  · intro p hp
    rw [List.mem_singleton.mp hp]
    exact LamX.TabS.nil (hT (c_law, P_tab) (List.mem_singleton.mpr rfl))
  have TB := hTB (c_law, P_tab) (List.mem_singleton.mpr rfl)
  have T_InvalidPlan : ErrK l.prog w K mg base "InvalidPlan" "index" C_InvalidPlan := ⟨_, _, E_InvalidPlan, ok_init_InvalidPlan F_init_InvalidPlan E_InvalidPlan, B_init_InvalidPlan⟩
  have T_InvalidNumber : ErrK l.prog w K mg base "InvalidNumber" "value" C_InvalidNumber := ⟨_, _, E_InvalidNumber, ok_init_InvalidNumber F_init_InvalidNumber E_InvalidNumber, B_init_InvalidNumber⟩
  have G_take := ok_take (P := l.prog) (w := w) (base := base) D_take bi    
  have G_pool := ok_pool (P := l.prog) (w := w) (base := base) D_pool bi    
  have G_same0 := ok_same0 (P := l.prog) (w := w) (base := base) D_same bi
  have G_same1 := ok_sameS (P := l.prog) (w := w) (base := base) D_same bi G_same0
  have G_same2 := ok_sameS (P := l.prog) (w := w) (base := base) D_same bi G_same1
  have G_same := G_same2
  have G_is_integer := ok_is_integer (P := l.prog) (w := w) (base := base) D_is_integer bi    
  have G_is_within := ok_is_within (P := l.prog) (w := w) (base := base) D_is_within bi G_is_integer D_is_integer   
  have G_check_within := ok_check_within (P := l.prog) (w := w) (base := base) D_check_within bi G_is_within D_is_within  T_InvalidNumber 
  have G_is_size := ok_is_size (P := l.prog) (w := w) (base := base) D_is_size bi G_is_within D_is_within   ⟨_, PySem.W.mg_of X G a_BUDGET_LIMIT⟩
  have G_check_sizes := ok_check_sizes (P := l.prog) (w := w) (base := base) D_check_sizes bi G_is_size D_is_size  T_InvalidPlan 
  have G_least_delay := ok_least_delay (P := l.prog) (w := w) (base := base) D_least_delay bi G_check_sizes D_check_sizes G_check_within D_check_within   ⟨_, PySem.W.mg_of X G a_BUDGET_LIMIT⟩
  have G_padding := ok_padding (P := l.prog) (w := w) (base := base) D_padding bi G_check_sizes D_check_sizes G_check_within D_check_within   ⟨_, PySem.W.mg_of X G a_BUDGET_LIMIT⟩
  have G_is_between := ok_is_between (P := l.prog) (w := w) (base := base) D_is_between bi    
  have G_due := ok_due (P := l.prog) (w := w) (base := base) D_due bi G_is_between D_is_between   
  have G_given := ok_given (P := l.prog) (w := w) (base := base) D_given bi G_take D_take   
  exact ok_law l_law c_law' bi TB D_told G_pool D_pool G_take D_take G_same D_same G_least_delay D_least_delay G_padding D_padding G_due D_due G_given D_given  T_InvalidPlan T_InvalidNumber g_JoinError g_InvalidPlace q_InvalidPlan_JoinError q_InvalidPlan_InvalidNumber q_InvalidNumber_JoinError q_InvalidNumber_InvalidPlace m_InvalidNumber_InvalidPlan
end Z
open PySem PySem.W PyProof.Rows
set_option maxHeartbeats 0 in
theorem PySem.Challenge.cw_framejoins_k81_budgets_refused_holds : PySem.Challenge.rw_framejoins_k81_budgets_refused.Holds := by
  w_on; refine headTop ?_
  k_fill
  refine Z.walk_ofTop (l := PySem.Challenge.rw_framejoins_k81_budgets_refused) (n := 63) (k := 8) (x := "_law_script") rfl (by decide) rfl ⟨rfl, by decide, by decide⟩ (fun w h Y => PySem.W.km_in_of Y) ?F
  case F =>
    intro w s0 mg mb fa h Gd KX G hmg
    refine' Z.all_mk (P_tab := 185) Gd KX G hmg ?a_is_integer ?l_is_integer ?c_is_integer' ?k_is_integer ?a_is_within ?l_is_within ?c_is_within' ?k_is_within ?a_check_within ?l_check_within ?c_check_within' ?k_check_within ?a_least_delay ?l_least_delay ?c_least_delay' ?k_least_delay ?a_check_sizes ?l_check_sizes ?c_check_sizes' ?k_check_sizes ?a_is_size ?l_is_size ?c_is_size' ?k_is_size ?a_padding ?l_padding ?c_padding' ?k_padding ?a_pool ?l_pool ?c_pool' ?k_pool ?a_take ?l_take ?c_take' ?k_take ?a_same ?l_same ?c_same' ?k_same ?a_is_between ?l_is_between ?c_is_between' ?k_is_between ?a_due ?l_due ?c_due' ?k_due ?a_told ?l_told ?c_told' ?k_told ?a_given ?l_given ?c_given' ?k_given ?a_law ?l_law ?c_law' ?k_law ?a_BUDGET_LIMIT ?z_int ?z_bool ?z_str ?z_list ?z_tuple ?z_len ?z_abs ?z_max ?z_min ?z_range ?z_zip ?z_isinstance ?z_enumerate ?z_reversed ?x_JoinError ?x_InvalidPlan ?x_InvalidNumber ?x_InvalidPlace ?xl_InvalidPlan ?sa_InvalidPlan ?ga_InvalidPlan ?gg_InvalidPlan ?nf_InvalidPlan ?ic_InvalidPlan ?ti_InvalidPlan ?ca_InvalidPlan ?cm_InvalidPlan ?kc_InvalidPlan ?sB_InvalidPlan ?tc_InvalidPlan ?hd_InvalidPlan ?ss_InvalidPlan ?li_InvalidPlan ?ci_InvalidPlan ?ki_InvalidPlan ?xl_InvalidNumber ?sa_InvalidNumber ?ga_InvalidNumber ?gg_InvalidNumber ?nf_InvalidNumber ?ic_InvalidNumber ?ti_InvalidNumber ?ca_InvalidNumber ?cm_InvalidNumber ?kc_InvalidNumber ?sB_InvalidNumber ?tc_InvalidNumber ?hd_InvalidNumber ?ss_InvalidNumber ?li_InvalidNumber ?ci_InvalidNumber ?ki_InvalidNumber ?cn ?ct ?u_InvalidPlan_JoinError ?n_InvalidPlan_JoinError ?y_JoinError ?i_JoinError ?u_InvalidPlan_InvalidNumber ?n_InvalidPlan_InvalidNumber ?y_InvalidNumber ?i_InvalidNumber ?u_InvalidNumber_JoinError ?n_InvalidNumber_JoinError ?u_InvalidNumber_InvalidPlace ?n_InvalidNumber_InvalidPlace ?y_InvalidPlace ?i_InvalidPlace ?w_InvalidNumber_InvalidPlan ?hr_tab ?ht_tab ?hn_tab
    (case a_is_integer => k_is); (case l_is_integer => k_is); (case c_is_integer' => k_is); (case k_is_integer => k_is); (case a_is_within => k_is); (case l_is_within => k_is); (case c_is_within' => k_is); (case k_is_within => k_is); (case a_check_within => k_is); (case l_check_within => k_is); (case c_check_within' => k_is); (case k_check_within => k_is); (case a_least_delay => k_is); (case l_least_delay => k_is); (case c_least_delay' => k_is); (case k_least_delay => k_is); (case a_check_sizes => k_is); (case l_check_sizes => k_is); (case c_check_sizes' => k_is); (case k_check_sizes => k_is); (case a_is_size => k_is); (case l_is_size => k_is); (case c_is_size' => k_is); (case k_is_size => k_is); (case a_padding => k_is); (case l_padding => k_is); (case c_padding' => k_is); (case k_padding => k_is); (case a_pool => k_is); (case l_pool => k_is); (case c_pool' => k_is); (case k_pool => k_is); (case a_take => k_is); (case l_take => k_is); (case c_take' => k_is); (case k_take => k_is); (case a_same => k_is); (case l_same => k_is); (case c_same' => k_is); (case k_same => k_is); (case a_is_between => k_is); (case l_is_between => k_is); (case c_is_between' => k_is); (case k_is_between => k_is); (case a_due => k_is); (case l_due => k_is); (case c_due' => k_is); (case k_due => k_is); (case a_told => k_is); (case l_told => k_is); (case c_told' => k_is); (case k_told => k_is); (case a_given => k_is); (case l_given => k_is); (case c_given' => k_is); (case k_given => k_is); (case a_law => k_is); (case l_law => k_is); (case c_law' => k_is); (case k_law => k_is); (case a_BUDGET_LIMIT => k_is); (case z_int => k_is); (case z_bool => k_is); (case z_str => k_is); (case z_list => k_is); (case z_tuple => k_is); (case z_len => k_is); (case z_abs => k_is); (case z_max => k_is); (case z_min => k_is); (case z_range => k_is); (case z_zip => k_is); (case z_isinstance => k_is); (case z_enumerate => k_is); (case z_reversed => k_is); (case x_JoinError => k_is); (case x_InvalidPlan => k_is); (case x_InvalidNumber => k_is); (case x_InvalidPlace => k_is); (case xl_InvalidPlan => k_is); (case sa_InvalidPlan => k_is); (case ga_InvalidPlan => k_is); (case gg_InvalidPlan => k_is); (case nf_InvalidPlan => k_is); (case ic_InvalidPlan => k_is); (case ti_InvalidPlan => k_is); (case ca_InvalidPlan => k_is); (case cm_InvalidPlan => k_is); (case kc_InvalidPlan => k_is); (case sB_InvalidPlan => k_is); (case tc_InvalidPlan => k_is); (case hd_InvalidPlan => k_is); (case ss_InvalidPlan => k_is); (case li_InvalidPlan => k_is); (case ci_InvalidPlan => k_is); (case ki_InvalidPlan => k_is); (case xl_InvalidNumber => k_is); (case sa_InvalidNumber => k_is); (case ga_InvalidNumber => k_is); (case gg_InvalidNumber => k_is); (case nf_InvalidNumber => k_is); (case ic_InvalidNumber => k_is); (case ti_InvalidNumber => k_is); (case ca_InvalidNumber => k_is); (case cm_InvalidNumber => k_is); (case kc_InvalidNumber => k_is); (case sB_InvalidNumber => k_is); (case tc_InvalidNumber => k_is); (case hd_InvalidNumber => k_is); (case ss_InvalidNumber => k_is); (case li_InvalidNumber => k_is); (case ci_InvalidNumber => k_is); (case ki_InvalidNumber => k_is); (case cn => k_is); (case ct => k_is); (case u_InvalidPlan_JoinError => k_is); (case n_InvalidPlan_JoinError => decide); (case y_JoinError => k_is); (case i_JoinError => k_is); (case u_InvalidPlan_InvalidNumber => k_is); (case n_InvalidPlan_InvalidNumber => decide); (case y_InvalidNumber => k_is); (case i_InvalidNumber => k_is); (case u_InvalidNumber_JoinError => k_is); (case n_InvalidNumber_JoinError => decide); (case u_InvalidNumber_InvalidPlace => k_is); (case n_InvalidNumber_InvalidPlace => decide); (case y_InvalidPlace => k_is); (case i_InvalidPlace => k_is); (case w_InvalidNumber_InvalidPlan => k_is); (case hr_tab => rfl); (case ht_tab => kernel_rfl); (case hn_tab => kernel_rfl)
